/- awake: the document's example. -/
import Derived.Test.YtblodflboalbmaaTreIo
namespace Go.Proofs.Ytblodflboalbmaa
open Go.RowKit

theorem cell_nodes3 (w : World) (a b c d e f : Value) (t : TypeId) (l : List (Int × Nat)) (hl : nodeVals l = [a, b, c, d, e, f]) : NodesV (w.alloc (.cells #[a, b, c, d, e, f] t)) (.slice (some ⟨w.heap.size, 0, none⟩) 3 3) l := by
  have h3 : l.length = 3 := by have := nodeVals_length l; rw [hl] at this; simp at this; omega
  have hb := heap_alloc_at w (.cells #[a, b, c, d, e, f] t)
  refine ⟨some ⟨w.heap.size, 0, none⟩, 3, by rw [h3], fun _ => ⟨w.heap.size, rfl, by simp, fun i hi => ?_⟩⟩
  have := nodeVals_get l i hi
  rw [hl] at this
  exact ⟨(cell_of_heap hb).trans (by simpa using this.1), (cell_of_heap hb).trans (by simpa using this.2)⟩

theorem shp_example : shp (insL 3 5 (3 : Int) (insL 2 9 2 (insL 1 5 1 []))) = [(2, 0), (1, 1), (3, 1)] := by decide

set_option maxHeartbeats 1000000 in
theorem awakeT (w : World) : Calls Try.prog 19 #[] w fun e w' => e = .returned (.bool true) ∧ Below w.heap.size w w' := by
  go_enter Try.func19, Try.ntmps19
  go_wp2_with fail
  refine (newOI w).mono ?_
  rintro e w1 ⟨rfl, h1⟩
  have H1 := hide h1
  clear h1
  go_wp2_with fail
  refine (putYesOI H1.out 1 5 1 (by decide) (by decide)).mono ?_
  rintro e w2 ⟨rfl, h2⟩
  have H2 := hide h2
  clear h2
  go_wp2_with fail
  refine (putYesOI H2.out 2 9 2 (by decide) (by decide)).mono ?_
  rintro e w3 ⟨rfl, h3⟩
  have H3 := hide h3
  clear h3
  go_wp2_with fail
  refine (putYesOI H3.out 3 5 3 (by decide) (by decide)).mono ?_
  rintro e w4 ⟨rfl, h4⟩
  have H4 := hide h4
  clear h4
  go_wp2_with fail
  refine (shapeOI H4.out (by decide)).mono ?_
  rintro e w5 ⟨v, rfl, h5, _, hb, h6⟩
  have H5 := hide h5
  have H6 := hide h6
  obtain ⟨a, c, rfl, _⟩ := h5
  clear h6 hb
  have hb6 : Below w5.heap.size w5 (w5.alloc (.cells #[.int .i64 2, .int .i64 0, .int .i64 1, .int .i64 1, .int .i64 3, .int .i64 1] 52)) := (Below.refl _ w5).alloc (Nat.le_refl _) _
  have HS := hide (sameNodes _ _ _ _ (H5.out.below hb6) (cell_nodes3 w5 (.int .i64 2) (.int .i64 0) (.int .i64 1) (.int .i64 1) (.int .i64 3) (.int .i64 1) 52 _ (by rw [shp_example]; rfl)) (by rw [shp_example]; decide))
  have HB6 := hide hb6
  clear hb6
  go_wp2_with fail
  refine HS.out.mono ?_
  rintro e w7 ⟨rfl, h7⟩
  have H7 := hide h7
  clear h7
  go_wp2
  go_ret
  exact ⟨rfl, ((H6.out.below HB6.out).alike H7.out).back⟩
end Go.Proofs.Ytblodflboalbmaa
