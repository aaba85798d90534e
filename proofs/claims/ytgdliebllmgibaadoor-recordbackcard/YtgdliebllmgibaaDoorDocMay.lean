/- What a machine of the document may be made of: the machine's cells as it is handed in. -/
import Derived.Test.YtgdliebllmgibaaDoorLayRef
import Derived.Test.YtgdliebllmgibaaDoorPV
namespace Go.Proofs.YtgdliebllmgibaaDoor
open Go.RowKit

/-- A machine as it is handed in. -/
def mIn (what P T thread page cls pages gen head size most : Int) (mask : Nat) (drop : Bool) (list : Value) : Array Value :=
  #[.int .i64 what, .int .i64 P, .int .i64 T, .int .i64 thread, .int .i64 page, .int .i64 cls, .int .i64 pages, .int .i64 gen, .int .i64 head, .int .i64 size, .int .i64 most, .int .u64 (mask : Int), .bool drop, list,
    .slice none 0 0, .bool false, .int .i64 0, .bool false, .pointer none, .int .i64 0, .int .i64 0, .int .u64 0, .int .u64 0, .int .i64 0, .int .i64 0, .int .i64 0, .int .i64 0, .int .u64 0, .slice none 0 0, .slice none 0 0, .int .i64 0, .int .i64 0]
/-- It lies in block b. -/
structure MBx (w0 w : World) (b : Nat) (what P T thread page pages gen most : Int) : Prop where
  below : Below w0.heap.size w0 w
  c0 : w.cell? ⟨b, 0, none⟩ = some (.int .i64 what)
  c1 : w.cell? ⟨b, 1, none⟩ = some (.int .i64 P)
  c2 : w.cell? ⟨b, 2, none⟩ = some (.int .i64 T)
  c3 : w.cell? ⟨b, 3, none⟩ = some (.int .i64 thread)
  c4 : w.cell? ⟨b, 4, none⟩ = some (.int .i64 page)
  c6 : w.cell? ⟨b, 6, none⟩ = some (.int .i64 pages)
  c7 : w.cell? ⟨b, 7, none⟩ = some (.int .i64 gen)
  c10 : w.cell? ⟨b, 10, none⟩ = some (.int .i64 most)
theorem MBx.new (w : World) (what P T thread page cls pages gen head size most : Int) (mask : Nat) (drop : Bool) (list : Value) : MBx w (w.alloc (.cells (mIn what P T thread page cls pages gen head size most mask drop list) 38)) w.heap.size what P T thread page pages gen most := by
  have h := heap_alloc_at w (.cells (mIn what P T thread page cls pages gen head size most mask drop list) 38)
  exact ⟨grown1 _ _, cell_of_heap h, cell_of_heap h, cell_of_heap h, cell_of_heap h, cell_of_heap h, cell_of_heap h, cell_of_heap h, cell_of_heap h⟩
theorem MBx.grow {w0 w w' : World} {b : Nat} {what P T thread page pages gen most : Int} (h : MBx w0 w b what P T thread page pages gen most) (hb : Below w.heap.size w w') : MBx w0 w' b what P T thread page pages gen most :=
  ⟨h.below.trans (hb.mono h.below.size), (hb.cell (block_lt_of_cell h.c0)).trans h.c0, (hb.cell (block_lt_of_cell h.c1)).trans h.c1, (hb.cell (block_lt_of_cell h.c2)).trans h.c2, (hb.cell (block_lt_of_cell h.c3)).trans h.c3, (hb.cell (block_lt_of_cell h.c4)).trans h.c4, (hb.cell (block_lt_of_cell h.c6)).trans h.c6, (hb.cell (block_lt_of_cell h.c7)).trans h.c7, (hb.cell (block_lt_of_cell h.c10)).trans h.c10⟩

set_option maxRecDepth 100000 in
set_option maxHeartbeats 2000000 in
theorem rightOut (what P T thread page cls pages gen head size most : Int) (mask : Nat) (drop : Bool) (list : Value) (hm : Lay.may P T = false) (w : World) :
    Calls Tryd.prog 24 #[.agg (mIn what P T thread page cls pages gen head size most mask drop list)] w fun e w' => e = .returned (.bool false) ∧ Below w.heap.size w w' := by
  have M := hide (fun w => rlmay P T w)
  rw [hm] at M
  clear hm
  have B0 := MBx.new w what P T thread page cls pages gen head size most mask drop list
  have c1 := B0.c1
  have c2 := B0.c2
  unfold mIn at *
  go_enter Tryd.func24, Tryd.ntmps24
  go_wp2_with fail
  refine (M.out _).mono ?_
  rintro e w1 ⟨rfl, hb⟩
  have B1 := MBx.grow (by assumption) hb
  go_wp2
  go_ret
  exact ⟨rfl, B1.below⟩
end Go.Proofs.YtgdliebllmgibaaDoor
