/- The small calls of the statements on layouts: a layout made of numbers, the word of a thing by its name, the document's example. -/
import Derived.Test.YtafamfjgehnddaaLayName
namespace Go.Proofs.Ytafamfjgehnddaa
open Go.RowKit

/-- A layout boxed behind a call. -/
theorem LBox.behind {w0 w : World} (hb : Below w0.heap.size w0 w) (P T : Int) (t : TypeId) : LBox w0 (w.alloc (.cells #[.int .i64 P, .int .i64 T] t)) w.heap.size P T :=
  ⟨hb.trans ((grown1 w _).mono hb.size), cell_of_heap (heap_alloc_at _ _), cell_of_heap (heap_alloc_at _ _)⟩

/-- A name lies in block r. -/
def SBox (w : World) (r : Nat) (K A B : Int) : Prop := w.heap[r]? = some (.cells #[.int .i64 K, .int .i64 A, .int .i64 B] 131)

theorem SBox.new (w : World) (K A B : Int) : SBox (w.alloc (.cells #[.int .i64 K, .int .i64 A, .int .i64 B] 131)) w.heap.size K A B := heap_alloc_at _ _
theorem SBox.grow {w w' : World} {r : Nat} {K A B : Int} (h : SBox w r K A B) (hb : Below w.heap.size w w') : SBox w' r K A B := (hb.block _ (lt_of_heap h)).trans h
theorem SBox.c0 {w : World} {r : Nat} {K A B : Int} (h : SBox w r K A B) : w.cell? ⟨r, 0, none⟩ = some (.int .i64 K) := cell_of_heap h
theorem SBox.c1 {w : World} {r : Nat} {K A B : Int} (h : SBox w r K A B) : w.cell? ⟨r, 1, none⟩ = some (.int .i64 A) := cell_of_heap h
theorem SBox.c2 {w : World} {r : Nat} {K A B : Int} (h : SBox w r K A B) : w.cell? ⟨r, 2, none⟩ = some (.int .i64 B) := cell_of_heap h
theorem SBox.fr {w : World} {r : Nat} {K A B : Int} (h : SBox w r K A B) (j : Nat) : w.frozen? ⟨r, j, none⟩ = false := frozen_of_heap h

theorem SBox.first (w : World) (K A B J C D : Int) : SBox ((w.alloc (.cells #[.int .i64 K, .int .i64 A, .int .i64 B] 131)).alloc (.cells #[.int .i64 J, .int .i64 C, .int .i64 D] 131)) w.heap.size K A B := heap_alloc_old (heap_alloc_at _ _)
theorem SBox.second (w : World) (K A B J C D : Int) : SBox ((w.alloc (.cells #[.int .i64 K, .int .i64 A, .int .i64 B] 131)).alloc (.cells #[.int .i64 J, .int .i64 C, .int .i64 D] 131)) (w.heap.size + 1) J C D := by
  have h := heap_alloc_at (w.alloc (.cells #[.int .i64 K, .int .i64 A, .int .i64 B] 131)) (.cells #[.int .i64 J, .int .i64 C, .int .i64 D] 131)
  rw [show (w.alloc (.cells #[.int .i64 K, .int .i64 A, .int .i64 B] 131)).heap.size = w.heap.size + 1 by simp] at h
  exact h
theorem SBox.set2 {w : World} {r : Nat} {K A B : Int} (h : SBox w r K A B) (v : Int) : SBox (w.setCell ⟨r, 2, none⟩ (.int .i64 v)) r K A v := heap_setCell_at h _
theorem SBox.other {w : World} {r s j : Nat} {v : Value} {K A B : Int} (h : SBox w r K A B) (hr : r ≠ s) : SBox (w.setCell ⟨s, j, none⟩ v) r K A B := (heap_setCell_ne hr v).trans h
theorem LBox.other {w0 w : World} {b s j : Nat} {v : Value} {P T : Int} (h : LBox w0 w b P T) (hs : b ≠ s) (hl : w0.heap.size ≤ s) : LBox w0 (w.setCell ⟨s, j, none⟩ v) b P T :=
  ⟨h.below.setCell hl _, (World.cell?_of_block (w := w) (heap_setCell_ne hs v)).trans h.c0, (World.cell?_of_block (w := w) (heap_setCell_ne hs v)).trans h.c1⟩

/-- The word of a thing by its name. -/
def Lay.find (P T K A B : Int) : Int × Bool :=
  if K = 7 then Lay.head P T A (decide (2 ≤ B)) (B % 2) else if K = 8 then Lay.cache P T A B else if K = 15 ∨ K = 16 then Lay.map P T K A else Lay.page P T K A

end Go.Proofs.Ytafamfjgehnddaa
