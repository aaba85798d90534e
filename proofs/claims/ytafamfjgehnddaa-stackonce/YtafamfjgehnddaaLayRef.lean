/- The document's calls on layouts, each at every argument. -/
import Derived.Test.YtafamfjgehnddaaLayName
import Derived.Test.YtafamfjgehnddaaPY
namespace Go.Proofs.Ytafamfjgehnddaa
open Go.RowKit

set_option maxHeartbeats 2000000 in
theorem rlpage (P T k p : Int) (w : World) :
    Calls Try.prog 73 #[.agg #[.int .i64 P, .int .i64 T], .int .i64 k, .int .i64 p] w fun e w' => e = .returned (.tuple #[.int .i64 (Lay.page P T k p).1, .bool (Lay.page P T k p).2]) ∧ Below w.heap.size w w' := by
  have M := hide (fun w => rlmay P T w)
  unfold Lay.page
  cases hm : Lay.may P T
  · rw [hm] at M
    rw [Bool.false_and, Bool.false_and, if_neg Bool.false_ne_true]
    clear hm
    go_enter Try.func73, Try.ntmps73
    have B0 := LBox.new w P T 26
    go_wp2_with (first | (go_at_call 51; refine (M.out _).mono ?_; rintro e w1 ⟨rfl, hb⟩; have B1 := LBox.grow (by assumption) hb; have b0 := B1.c0; have b1 := B1.c1))
    go_ret2
    exact ⟨rfl, B1.below⟩
  obtain ⟨m1, m2, m3, m4⟩ := Lay.may_iff.1 hm
  rw [hm] at M
  rw [Bool.true_and]
  clear hm
  by_cases p1 : p < 0
  · rw [show Lay.below p P = false from Lay.below_false.2 (.inl p1), Bool.false_and, if_neg Bool.false_ne_true]
    go_enter Try.func73, Try.ntmps73
    have B0 := LBox.new w P T 26
    go_wp2_with (first | (go_at_call 51; refine (M.out _).mono ?_; rintro e w1 ⟨rfl, hb⟩; have B1 := LBox.grow (by assumption) hb; have b0 := B1.c0; have b1 := B1.c1))
    go_ret2
    exact ⟨rfl, B1.below⟩
  by_cases p2 : P ≤ p
  · rw [show Lay.below p P = false from Lay.below_false.2 (.inr p2), Bool.false_and, if_neg Bool.false_ne_true]
    have e1 := decide_eq_false p1
    go_enter Try.func73, Try.ntmps73
    have B0 := LBox.new w P T 26
    go_wp2_with (first | (go_at_call 51; refine (M.out _).mono ?_; rintro e w1 ⟨rfl, hb⟩; have B1 := LBox.grow (by assumption) hb; have b0 := B1.c0; have b1 := B1.c1))
    go_ret2
    exact ⟨rfl, B1.below⟩
  rw [show Lay.below p P = true from Lay.below_iff.2 ⟨by omega, by omega⟩, Bool.true_and]
  have ep1 := decide_eq_false p1
  have ep2 := decide_eq_false p2
  by_cases k1 : k < 9
  · rw [if_neg (by simp; omega)]
    go_enter Try.func73, Try.ntmps73
    have B0 := LBox.new w P T 26
    go_wp2_with (first | (go_at_call 51; refine (M.out _).mono ?_; rintro e w1 ⟨rfl, hb⟩; have B1 := LBox.grow (by assumption) hb; have b0 := B1.c0; have b1 := B1.c1))
    go_ret2
    exact ⟨rfl, B1.below⟩
  have ek1 := decide_eq_false k1
  by_cases k2 : 14 < k
  · rw [if_neg (by simp; omega)]
    go_enter Try.func73, Try.ntmps73
    have B0 := LBox.new w P T 26
    go_wp2_with (first | (go_at_call 51; refine (M.out _).mono ?_; rintro e w1 ⟨rfl, hb⟩; have B1 := LBox.grow (by assumption) hb; have b0 := B1.c0; have b1 := B1.c1))
    go_ret2
    exact ⟨rfl, B1.below⟩
  have ek2 := decide_eq_false k2
  rw [if_pos (by simp; omega)]
  unfold Lay.index Lay.states
  by_cases k3 : k = 14
  · rw [if_pos k3]
    have d3 : (k == 14) = true := by simp [k3]
    clear k3
    go_enter Try.func73, Try.ntmps73
    have B0 := LBox.new w P T 26
    go_wp2_with (first | (go_at_call 51; refine (M.out _).mono ?_; rintro e w1 ⟨rfl, hb⟩; have B1 := LBox.grow (by assumption) hb; have b0 := B1.c0; have b1 := B1.c1))
    go_ret2
    exact ⟨ret_two (by first | rfl | omega) rfl, B1.below⟩
  rw [if_neg k3]
  have d3 : (k == 14) = false := by simp [k3]
  clear k3
  go_enter Try.func73, Try.ntmps73
  have B0 := LBox.new w P T 26
  go_wp2_with (first | (go_at_call 51; refine (M.out _).mono ?_; rintro e w1 ⟨rfl, hb⟩; have B1 := LBox.grow (by assumption) hb; have b0 := B1.c0; have b1 := B1.c1))
  go_ret2
  exact ⟨ret_two (by first | rfl | omega) rfl, B1.below⟩

end Go.Proofs.Ytafamfjgehnddaa
