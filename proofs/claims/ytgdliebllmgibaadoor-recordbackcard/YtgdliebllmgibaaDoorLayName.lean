/- What a word is for: the call Name of package layout, at every argument. -/
import Derived.Test.YtgdliebllmgibaaDoorLayFns
namespace Go.Proofs.YtgdliebllmgibaaDoor
open Go.RowKit

/-- A layout lies in block b, three noughts in block r, of the world w, which has grown of w0. -/
structure RBox (w0 w : World) (b r : Nat) (P T : Int) : Prop where
  low : w0.heap.size ≤ r
  below : Below w0.heap.size w0 w
  c0 : w.cell? ⟨b, 0, none⟩ = some (.int .i64 P)
  c1 : w.cell? ⟨b, 1, none⟩ = some (.int .i64 T)
  spot : w.heap[r]? = some (.cells #[.int .i64 0, .int .i64 0, .int .i64 0] 133)

theorem RBox.new (w : World) (P T : Int) (t : TypeId) : RBox w ((w.alloc (.cells #[.int .i64 P, .int .i64 T] t)).alloc (.cells #[.int .i64 0, .int .i64 0, .int .i64 0] 133)) w.heap.size (w.heap.size + 1) P T :=
  ⟨by omega, (grown1 w _).alloc (by simp) _, cell_of_heap (heap_alloc_old (heap_alloc_at _ _)), cell_of_heap (heap_alloc_old (heap_alloc_at _ _)), by
    have h := heap_alloc_at (w.alloc (.cells #[.int .i64 P, .int .i64 T] t)) (.cells #[.int .i64 0, .int .i64 0, .int .i64 0] 133)
    rw [show (w.alloc (.cells #[.int .i64 P, .int .i64 T] t)).heap.size = w.heap.size + 1 by simp] at h
    exact h⟩

theorem RBox.grow {w0 w w' : World} {b r : Nat} {P T : Int} (h : RBox w0 w b r P T) (hb : Below w.heap.size w w') : RBox w0 w' b r P T :=
  ⟨h.low, h.below.trans (hb.mono h.below.size), (hb.cell (block_lt_of_cell h.c0)).trans h.c0, (hb.cell (block_lt_of_cell h.c1)).trans h.c1, (hb.block _ (lt_of_heap h.spot)).trans h.spot⟩

theorem RBox.r0 {w0 w : World} {b r : Nat} {P T : Int} (h : RBox w0 w b r P T) : w.cell? ⟨r, 0, none⟩ = some (.int .i64 0) := cell_of_heap h.spot
theorem RBox.r1 {w0 w : World} {b r : Nat} {P T : Int} (h : RBox w0 w b r P T) : w.cell? ⟨r, 1, none⟩ = some (.int .i64 0) := cell_of_heap h.spot
theorem RBox.r2 {w0 w : World} {b r : Nat} {P T : Int} (h : RBox w0 w b r P T) : w.cell? ⟨r, 2, none⟩ = some (.int .i64 0) := cell_of_heap h.spot
theorem RBox.fr {w0 w : World} {b r : Nat} {P T : Int} (h : RBox w0 w b r P T) (j : Nat) : w.frozen? ⟨r, j, none⟩ = false := frozen_of_heap h.spot

/-- Three cells put into block r: whatever holds of a world in which they lie holds of the one in which they were put. -/
theorem RBox.put {w0 w : World} {b r : Nat} {P T : Int} (h : RBox w0 w b r P T) {v0 v1 v2 : Value} {R : World → Prop}
    (k : ∀ W : World, Below w0.heap.size w0 W → W.cell? ⟨r, 0, none⟩ = some v0 → W.cell? ⟨r, 1, none⟩ = some v1 → W.cell? ⟨r, 2, none⟩ = some v2 → R W) :
    R (((w.setCell ⟨r, 0, none⟩ v0).setCell ⟨r, 1, none⟩ v1).setCell ⟨r, 2, none⟩ v2) := by
  have e := heap_setCell_at (o := 2) (heap_setCell_at (o := 1) (heap_setCell_at (o := 0) h.spot v0) v1) v2
  refine k _ (((h.below.setCell ?_ _).setCell ?_ _).setCell ?_ _) (cell_of_heap e) (cell_of_heap e) (cell_of_heap e)
  all_goals exact h.low

theorem ret_spot {a b c a' b' c' : Int} {d : Bool} (h : a = a') (h' : b = b') (h'' : c = c') :
    Ending.returned (.tuple #[.agg #[.int .i64 a, .int .i64 b, .int .i64 c], .bool d]) = .returned (.tuple #[.agg #[.int .i64 a', .int .i64 b', .int .i64 c'], .bool d]) := by rw [h, h', h'']

end Go.Proofs.YtgdliebllmgibaaDoor
