/- The document's layouts: May, maps, Words. -/
import Derived.Test.YtafamfjgehnddaaGreatLayFns
import Derived.Test.YtafamfjgehnddaaGreatOver
namespace Go.Proofs.YtafamfjgehnddaaGreat
open Go.RowKit

theorem rlmay (P T : Int) (w : World) :
    Calls Tryz.prog 68 #[.agg #[.int .i64 P, .int .i64 T]] w fun e w' => e = .returned (.bool (Lay.may P T)) ∧ Below w.heap.size w w' := by
  unfold Lay.may
  by_cases h0 : 1 ≤ P
  rotate_left
  · rw [decide_eq_false h0]
    have d0 := decide_eq_false h0
    go_enter Tryz.func68, Tryz.ntmps68
    go_wp2
    go_ret
    exact ⟨rfl, grown1 _ _⟩
  by_cases h1 : P ≤ 4096
  rotate_left
  · rw [decide_eq_true h0, decide_eq_false h1]
    have d1 := decide_eq_false h1
    go_enter Tryz.func68, Tryz.ntmps68
    go_wp2
    go_ret
    exact ⟨rfl, grown1 _ _⟩
  by_cases h2 : 1 ≤ T
  rotate_left
  · rw [decide_eq_true h0, decide_eq_true h1, decide_eq_false h2]
    have d2 := decide_eq_false h2
    go_enter Tryz.func68, Tryz.ntmps68
    go_wp2
    go_ret
    exact ⟨rfl, grown1 _ _⟩
  by_cases h3 : T ≤ 64
  rotate_left
  · rw [decide_eq_true h0, decide_eq_true h1, decide_eq_true h2, decide_eq_false h3]
    have d3 := decide_eq_false h3
    go_enter Tryz.func68, Tryz.ntmps68
    go_wp2
    go_ret
    exact ⟨rfl, grown1 _ _⟩
  rw [decide_eq_true h0, decide_eq_true h1, decide_eq_true h2, decide_eq_true h3]
  go_enter Tryz.func68, Tryz.ntmps68
  go_wp2
  go_ret
  exact ⟨rfl, grown1 _ _⟩

theorem rlmaps (P T : Int) (h1 : 1 ≤ P) (h2 : P ≤ 4096) (w : World) :
    Calls Tryz.prog 67 #[.agg #[.int .i64 P, .int .i64 T]] w fun e w' => e = .returned (.int .i64 (Lay.maps P)) ∧ Below w.heap.size w w' := by
  unfold Lay.maps
  go_enter Tryz.func67, Tryz.ntmps67
  go_wp2
  go_ret
  exact ⟨ret_int (by first | rfl | omega), grown1 _ _⟩

set_option maxHeartbeats 2000000 in
theorem rlwords (P T : Int) (w : World) :
    Calls Tryz.prog 66 #[.agg #[.int .i64 P, .int .i64 T]] w fun e w' => e = .returned (.int .i64 (Lay.words P T)) ∧ Below w.heap.size w w' := by
  have M := hide (fun w => rlmay P T w)
  cases hm : Lay.may P T
  · rw [hm] at M
    rw [Lay.words_out hm]
    clear hm
    go_enter Tryz.func66, Tryz.ntmps66
    have B0 := LBox.new w P T 61
    go_wp2_with (first | (go_at_call 68; refine (M.out _).mono ?_; rintro e w1 ⟨rfl, hb⟩; have B1 := LBox.grow (by assumption) hb; have b0 := B1.c0; have b1 := B1.c1))
    go_ret
    exact ⟨rfl, B1.below⟩
  · obtain ⟨p1, p2, h1, h2⟩ := Lay.may_iff.1 hm
    rw [hm] at M
    rw [Lay.words_in hm]
    clear hm
    have D := hide (fun w => rlmaps P T p1 p2 w)
    have mM : 0 ≤ Lay.maps P ∧ Lay.maps P ≤ 100000 := by unfold Lay.maps; omega
    obtain ⟨mM1, mM2⟩ := mM
    unfold Lay.total
    generalize Lay.maps P = N at *
    go_enter Tryz.func66, Tryz.ntmps66
    have B0 := LBox.new w P T 61
    go_wp2_with (first | (go_at_call 68; refine (M.out _).mono ?_; rintro e w1 ⟨rfl, hb⟩; have B1 := LBox.grow (by assumption) hb; have b0 := B1.c0; have b1 := B1.c1))
    have hne : Nonempty (Over w1) := ⟨⟨_, Below.refl _ _⟩⟩
    have c0 := fun u => over_cell B1.c0 u
    have c1 := fun u => over_cell B1.c1 u
    refine over_region (by kernel_rfl) (by kernel_rfl) ?_
    repeat (go_big_quiet_step ((go_at_call 67; exact over_call _ (D.out _))))
    refine wpQuiet_nil ?_
    rintro _ ⟨u, rfl⟩
    go_wp2
    go_ret
    exact ⟨ret_int (by first | rfl | omega), (B1.grow u.h).below⟩
end Go.Proofs.YtafamfjgehnddaaGreat
