/- The document's calls on layouts, each at every argument. -/
import Derived.Test.YtafamfjgehnddaaGreatLayName
import Derived.Test.YtafamfjgehnddaaGreatLayRefW
namespace Go.Proofs.YtafamfjgehnddaaGreat
open Go.RowKit

set_option maxHeartbeats 2000000 in
theorem rlhead (P T c : Int) (f : Bool) (p : Int) (w : World) :
    Calls Tryz.prog 220 #[.agg #[.int .i64 P, .int .i64 T], .int .i64 c, .bool f, .int .i64 p] w fun e w' => e = .returned (.tuple #[.int .i64 (Lay.head P T c f p).1, .bool (Lay.head P T c f p).2]) ∧ Below w.heap.size w w' := by
  have M := hide (fun w => rlmay P T w)
  unfold Lay.head
  cases hm : Lay.may P T
  · rw [hm] at M
    rw [Bool.false_and, Bool.false_and, if_neg Bool.false_ne_true]
    clear hm
    go_enter Tryz.func220, Tryz.ntmps220
    have B0 := LBox.new w P T 61
    go_wp2_with (first | (go_at_call 68; refine (M.out _).mono ?_; rintro e w1 ⟨rfl, hb⟩; have B1 := LBox.grow (by assumption) hb; have b0 := B1.c0; have b1 := B1.c1))
    go_ret2
    exact ⟨rfl, B1.below⟩
  obtain ⟨m1, m2, m3, m4⟩ := Lay.may_iff.1 hm
  rw [hm] at M
  rw [Bool.true_and]
  clear hm
  by_cases c1 : c < 0
  · rw [show Lay.below c 15 = false from Lay.below_false.2 (.inl c1), Bool.false_and, if_neg Bool.false_ne_true]
    go_enter Tryz.func220, Tryz.ntmps220
    have B0 := LBox.new w P T 61
    go_wp2_with (first | (go_at_call 68; refine (M.out _).mono ?_; rintro e w1 ⟨rfl, hb⟩; have B1 := LBox.grow (by assumption) hb; have b0 := B1.c0; have b1 := B1.c1))
    go_ret2
    exact ⟨rfl, B1.below⟩
  by_cases c2 : 15 ≤ c
  · rw [show Lay.below c 15 = false from Lay.below_false.2 (.inr c2), Bool.false_and, if_neg Bool.false_ne_true]
    have e1 := decide_eq_false c1
    go_enter Tryz.func220, Tryz.ntmps220
    have B0 := LBox.new w P T 61
    go_wp2_with (first | (go_at_call 68; refine (M.out _).mono ?_; rintro e w1 ⟨rfl, hb⟩; have B1 := LBox.grow (by assumption) hb; have b0 := B1.c0; have b1 := B1.c1))
    go_ret2
    exact ⟨rfl, B1.below⟩
  rw [show Lay.below c 15 = true from Lay.below_iff.2 ⟨by omega, by omega⟩, Bool.true_and]
  have ec1 := decide_eq_false c1
  have ec2 := decide_eq_false c2
  rw [show decide (15 ≤ c) = decide (14 < c) from decide_eq_decide.2 (by omega)] at ec2
  by_cases p1 : p < 0
  · rw [show Lay.below p 2 = false from Lay.below_false.2 (.inl p1), if_neg Bool.false_ne_true]
    go_enter Tryz.func220, Tryz.ntmps220
    have B0 := LBox.new w P T 61
    go_wp2_with (first | (go_at_call 68; refine (M.out _).mono ?_; rintro e w1 ⟨rfl, hb⟩; have B1 := LBox.grow (by assumption) hb; have b0 := B1.c0; have b1 := B1.c1))
    go_ret2
    exact ⟨rfl, B1.below⟩
  by_cases p2 : 2 ≤ p
  · rw [show Lay.below p 2 = false from Lay.below_false.2 (.inr p2), if_neg Bool.false_ne_true]
    have e1 := decide_eq_false p1
    go_enter Tryz.func220, Tryz.ntmps220
    have B0 := LBox.new w P T 61
    go_wp2_with (first | (go_at_call 68; refine (M.out _).mono ?_; rintro e w1 ⟨rfl, hb⟩; have B1 := LBox.grow (by assumption) hb; have b0 := B1.c0; have b1 := B1.c1))
    go_ret2
    exact ⟨rfl, B1.below⟩
  rw [show Lay.below p 2 = true from Lay.below_iff.2 ⟨by omega, by omega⟩, if_pos rfl]
  have e1 := decide_eq_false p1
  have e2 : decide (1 < p) = false := by simp; omega
  unfold Lay.two
  cases f
  · rw [if_neg Bool.false_ne_true]
    go_enter Tryz.func220, Tryz.ntmps220
    have B0 := LBox.new w P T 61
    go_wp2_with (first | (go_at_call 68; refine (M.out _).mono ?_; rintro e w1 ⟨rfl, hb⟩; have B1 := LBox.grow (by assumption) hb; have b0 := B1.c0; have b1 := B1.c1))
    go_ret2
    exact ⟨ret_two (by first | rfl | omega) rfl, B1.below⟩
  · rw [if_pos rfl]
    go_enter Tryz.func220, Tryz.ntmps220
    have B0 := LBox.new w P T 61
    go_wp2_with (first | (go_at_call 68; refine (M.out _).mono ?_; rintro e w1 ⟨rfl, hb⟩; have B1 := LBox.grow (by assumption) hb; have b0 := B1.c0; have b1 := B1.c1))
    go_ret2
    exact ⟨ret_two (by first | rfl | omega) rfl, B1.below⟩

set_option maxHeartbeats 2000000 in
theorem rlcache (P T t c : Int) (w : World) :
    Calls Tryz.prog 221 #[.agg #[.int .i64 P, .int .i64 T], .int .i64 t, .int .i64 c] w fun e w' => e = .returned (.tuple #[.int .i64 (Lay.cache P T t c).1, .bool (Lay.cache P T t c).2]) ∧ Below w.heap.size w w' := by
  have M := hide (fun w => rlmay P T w)
  unfold Lay.cache
  cases hm : Lay.may P T
  · rw [hm] at M
    rw [Bool.false_and, Bool.false_and, if_neg Bool.false_ne_true]
    clear hm
    go_enter Tryz.func221, Tryz.ntmps221
    have B0 := LBox.new w P T 61
    go_wp2_with (first | (go_at_call 68; refine (M.out _).mono ?_; rintro e w1 ⟨rfl, hb⟩; have B1 := LBox.grow (by assumption) hb; have b0 := B1.c0; have b1 := B1.c1))
    go_ret2
    exact ⟨rfl, B1.below⟩
  obtain ⟨m1, m2, m3, m4⟩ := Lay.may_iff.1 hm
  rw [hm] at M
  rw [Bool.true_and]
  clear hm
  by_cases t1 : t < 0
  · rw [show Lay.below t T = false from Lay.below_false.2 (.inl t1), Bool.false_and, if_neg Bool.false_ne_true]
    go_enter Tryz.func221, Tryz.ntmps221
    have B0 := LBox.new w P T 61
    go_wp2_with (first | (go_at_call 68; refine (M.out _).mono ?_; rintro e w1 ⟨rfl, hb⟩; have B1 := LBox.grow (by assumption) hb; have b0 := B1.c0; have b1 := B1.c1))
    go_ret2
    exact ⟨rfl, B1.below⟩
  by_cases t2 : T ≤ t
  · rw [show Lay.below t T = false from Lay.below_false.2 (.inr t2), Bool.false_and, if_neg Bool.false_ne_true]
    have e1 := decide_eq_false t1
    go_enter Tryz.func221, Tryz.ntmps221
    have B0 := LBox.new w P T 61
    go_wp2_with (first | (go_at_call 68; refine (M.out _).mono ?_; rintro e w1 ⟨rfl, hb⟩; have B1 := LBox.grow (by assumption) hb; have b0 := B1.c0; have b1 := B1.c1))
    go_ret2
    exact ⟨rfl, B1.below⟩
  rw [show Lay.below t T = true from Lay.below_iff.2 ⟨by omega, by omega⟩, Bool.true_and]
  have et1 := decide_eq_false t1
  have et2 := decide_eq_false t2
  by_cases c1 : c < 0
  · rw [show Lay.below c 14 = false from Lay.below_false.2 (.inl c1), if_neg Bool.false_ne_true]
    go_enter Tryz.func221, Tryz.ntmps221
    have B0 := LBox.new w P T 61
    go_wp2_with (first | (go_at_call 68; refine (M.out _).mono ?_; rintro e w1 ⟨rfl, hb⟩; have B1 := LBox.grow (by assumption) hb; have b0 := B1.c0; have b1 := B1.c1))
    go_ret2
    exact ⟨rfl, B1.below⟩
  by_cases c2 : 14 ≤ c
  · rw [show Lay.below c 14 = false from Lay.below_false.2 (.inr c2), if_neg Bool.false_ne_true]
    have e1 := decide_eq_false c1
    go_enter Tryz.func221, Tryz.ntmps221
    have B0 := LBox.new w P T 61
    go_wp2_with (first | (go_at_call 68; refine (M.out _).mono ?_; rintro e w1 ⟨rfl, hb⟩; have B1 := LBox.grow (by assumption) hb; have b0 := B1.c0; have b1 := B1.c1))
    go_ret2
    exact ⟨rfl, B1.below⟩
  rw [show Lay.below c 14 = true from Lay.below_iff.2 ⟨by omega, by omega⟩, if_pos rfl]
  have e1 := decide_eq_false c1
  have e2 := decide_eq_false c2
  go_enter Tryz.func221, Tryz.ntmps221
  have B0 := LBox.new w P T 61
  go_wp2_with (first | (go_at_call 68; refine (M.out _).mono ?_; rintro e w1 ⟨rfl, hb⟩; have B1 := LBox.grow (by assumption) hb; have b0 := B1.c0; have b1 := B1.c1))
  go_ret2
  exact ⟨ret_two (by first | rfl | omega) rfl, B1.below⟩

set_option maxHeartbeats 2000000 in
theorem rlpage (P T k p : Int) (w : World) :
    Calls Tryz.prog 36 #[.agg #[.int .i64 P, .int .i64 T], .int .i64 k, .int .i64 p] w fun e w' => e = .returned (.tuple #[.int .i64 (Lay.page P T k p).1, .bool (Lay.page P T k p).2]) ∧ Below w.heap.size w w' := by
  have M := hide (fun w => rlmay P T w)
  unfold Lay.page
  cases hm : Lay.may P T
  · rw [hm] at M
    rw [Bool.false_and, Bool.false_and, if_neg Bool.false_ne_true]
    clear hm
    go_enter Tryz.func36, Tryz.ntmps36
    have B0 := LBox.new w P T 61
    go_wp2_with (first | (go_at_call 68; refine (M.out _).mono ?_; rintro e w1 ⟨rfl, hb⟩; have B1 := LBox.grow (by assumption) hb; have b0 := B1.c0; have b1 := B1.c1))
    go_ret2
    exact ⟨rfl, B1.below⟩
  obtain ⟨m1, m2, m3, m4⟩ := Lay.may_iff.1 hm
  rw [hm] at M
  rw [Bool.true_and]
  clear hm
  by_cases p1 : p < 0
  · rw [show Lay.below p P = false from Lay.below_false.2 (.inl p1), Bool.false_and, if_neg Bool.false_ne_true]
    go_enter Tryz.func36, Tryz.ntmps36
    have B0 := LBox.new w P T 61
    go_wp2_with (first | (go_at_call 68; refine (M.out _).mono ?_; rintro e w1 ⟨rfl, hb⟩; have B1 := LBox.grow (by assumption) hb; have b0 := B1.c0; have b1 := B1.c1))
    go_ret2
    exact ⟨rfl, B1.below⟩
  by_cases p2 : P ≤ p
  · rw [show Lay.below p P = false from Lay.below_false.2 (.inr p2), Bool.false_and, if_neg Bool.false_ne_true]
    have e1 := decide_eq_false p1
    go_enter Tryz.func36, Tryz.ntmps36
    have B0 := LBox.new w P T 61
    go_wp2_with (first | (go_at_call 68; refine (M.out _).mono ?_; rintro e w1 ⟨rfl, hb⟩; have B1 := LBox.grow (by assumption) hb; have b0 := B1.c0; have b1 := B1.c1))
    go_ret2
    exact ⟨rfl, B1.below⟩
  rw [show Lay.below p P = true from Lay.below_iff.2 ⟨by omega, by omega⟩, Bool.true_and]
  have ep1 := decide_eq_false p1
  have ep2 := decide_eq_false p2
  by_cases k1 : k < 9
  · rw [if_neg (by simp; omega)]
    go_enter Tryz.func36, Tryz.ntmps36
    have B0 := LBox.new w P T 61
    go_wp2_with (first | (go_at_call 68; refine (M.out _).mono ?_; rintro e w1 ⟨rfl, hb⟩; have B1 := LBox.grow (by assumption) hb; have b0 := B1.c0; have b1 := B1.c1))
    go_ret2
    exact ⟨rfl, B1.below⟩
  have ek1 := decide_eq_false k1
  by_cases k2 : 14 < k
  · rw [if_neg (by simp; omega)]
    go_enter Tryz.func36, Tryz.ntmps36
    have B0 := LBox.new w P T 61
    go_wp2_with (first | (go_at_call 68; refine (M.out _).mono ?_; rintro e w1 ⟨rfl, hb⟩; have B1 := LBox.grow (by assumption) hb; have b0 := B1.c0; have b1 := B1.c1))
    go_ret2
    exact ⟨rfl, B1.below⟩
  have ek2 := decide_eq_false k2
  rw [if_pos (by simp; omega)]
  unfold Lay.index Lay.states
  by_cases k3 : k = 14
  · rw [if_pos k3]
    have d3 : (k == 14) = true := by simp [k3]
    clear k3
    go_enter Tryz.func36, Tryz.ntmps36
    have B0 := LBox.new w P T 61
    go_wp2_with (first | (go_at_call 68; refine (M.out _).mono ?_; rintro e w1 ⟨rfl, hb⟩; have B1 := LBox.grow (by assumption) hb; have b0 := B1.c0; have b1 := B1.c1))
    go_ret2
    exact ⟨ret_two (by first | rfl | omega) rfl, B1.below⟩
  rw [if_neg k3]
  have d3 : (k == 14) = false := by simp [k3]
  clear k3
  go_enter Tryz.func36, Tryz.ntmps36
  have B0 := LBox.new w P T 61
  go_wp2_with (first | (go_at_call 68; refine (M.out _).mono ?_; rintro e w1 ⟨rfl, hb⟩; have B1 := LBox.grow (by assumption) hb; have b0 := B1.c0; have b1 := B1.c1))
  go_ret2
  exact ⟨ret_two (by first | rfl | omega) rfl, B1.below⟩

set_option maxHeartbeats 2000000 in
theorem rlmap (P T k i : Int) (w : World) :
    Calls Tryz.prog 187 #[.agg #[.int .i64 P, .int .i64 T], .int .i64 k, .int .i64 i] w fun e w' => e = .returned (.tuple #[.int .i64 (Lay.map P T k i).1, .bool (Lay.map P T k i).2]) ∧ Below w.heap.size w w' := by
  have M := hide (fun w => rlmay P T w)
  unfold Lay.map
  cases hm : Lay.may P T
  · rw [hm] at M
    rw [Bool.false_and, Bool.false_and, if_neg Bool.false_ne_true]
    clear hm
    go_enter Tryz.func187, Tryz.ntmps187
    have B0 := LBox.new w P T 61
    go_wp2_with (first | (go_at_call 68; refine (M.out _).mono ?_; rintro e w1 ⟨rfl, hb⟩; have B1 := LBox.grow (by assumption) hb; have b0 := B1.c0; have b1 := B1.c1))
    go_ret2
    exact ⟨rfl, B1.below⟩
  obtain ⟨m1, m2, m3, m4⟩ := Lay.may_iff.1 hm
  rw [hm] at M
  rw [Bool.true_and]
  clear hm
  have G := hide (fun w => rlmaps P T m1 m2 w)
  obtain ⟨n1, n2, _⟩ := Lay.maps_bd m1 m2
  unfold Lay.gone Lay.used
  generalize Lay.maps P = N at *
  by_cases i1 : i < 0
  · rw [show Lay.below i N = false from Lay.below_false.2 (.inl i1), Bool.false_and, if_neg Bool.false_ne_true]
    go_enter Tryz.func187, Tryz.ntmps187
    have B0 := LBox.new w P T 61
    go_wp2_with (first | (go_at_call 68; refine (M.out _).mono ?_; rintro e w1 ⟨rfl, hb⟩; have B1 := LBox.grow (by assumption) hb; have b0 := B1.c0; have b1 := B1.c1))
    go_ret2
    exact ⟨rfl, B1.below⟩
  have e1 := decide_eq_false i1
  by_cases i2 : N ≤ i
  · rw [show Lay.below i N = false from Lay.below_false.2 (.inr i2), Bool.false_and, if_neg Bool.false_ne_true]
    go_enter Tryz.func187, Tryz.ntmps187
    have B0 := LBox.new w P T 61
    go_wp2_with (first | (go_at_call 68; refine (M.out _).mono ?_; rintro e w1 ⟨rfl, hb⟩; have B1 := LBox.grow (by assumption) hb; have b0 := B1.c0; have b1 := B1.c1) | (go_at_call 67; refine (G.out _).mono ?_; rintro e w1 ⟨rfl, hb⟩; have B1 := LBox.grow (by assumption) hb; have b0 := B1.c0; have b1 := B1.c1))
    go_ret2
    exact ⟨rfl, B1.below⟩
  have e2 := decide_eq_false i2
  rw [show Lay.below i N = true from Lay.below_iff.2 ⟨by omega, by omega⟩, Bool.true_and]
  by_cases k1 : k = 15
  · subst k1
    rw [if_pos (by decide), if_neg (by decide)]
    go_enter Tryz.func187, Tryz.ntmps187
    have B0 := LBox.new w P T 61
    go_wp2_with (first | (go_at_call 68; refine (M.out _).mono ?_; rintro e w1 ⟨rfl, hb⟩; have B1 := LBox.grow (by assumption) hb; have b0 := B1.c0; have b1 := B1.c1) | (go_at_call 67; refine (G.out _).mono ?_; rintro e w1 ⟨rfl, hb⟩; have B1 := LBox.grow (by assumption) hb; have b0 := B1.c0; have b1 := B1.c1))
    go_ret2
    exact ⟨ret_two (by first | rfl | omega) rfl, B1.below⟩
  by_cases k2 : k = 16
  · subst k2
    clear k1
    rw [if_pos (by decide), if_pos (by decide)]
    go_enter Tryz.func187, Tryz.ntmps187
    have B0 := LBox.new w P T 61
    go_wp2_with (first | (go_at_call 68; refine (M.out _).mono ?_; rintro e w1 ⟨rfl, hb⟩; have B1 := LBox.grow (by assumption) hb; have b0 := B1.c0; have b1 := B1.c1) | (go_at_call 67; refine (G.out _).mono ?_; rintro e w1 ⟨rfl, hb⟩; have B1 := LBox.grow (by assumption) hb; have b0 := B1.c0; have b1 := B1.c1))
    go_ret2
    exact ⟨ret_two (by first | rfl | omega) rfl, B1.below⟩
  rw [if_neg (by simp [k1, k2])]
  have d1 : (k != 15) = true := by simp [k1]
  have d2 : (k != 16) = true := by simp [k2]
  clear k1 k2
  go_enter Tryz.func187, Tryz.ntmps187
  have B0 := LBox.new w P T 61
  go_wp2_with (first | (go_at_call 68; refine (M.out _).mono ?_; rintro e w1 ⟨rfl, hb⟩; have B1 := LBox.grow (by assumption) hb; have b0 := B1.c0; have b1 := B1.c1) | (go_at_call 67; refine (G.out _).mono ?_; rintro e w1 ⟨rfl, hb⟩; have B1 := LBox.grow (by assumption) hb; have b0 := B1.c0; have b1 := B1.c1))
  go_ret2
  exact ⟨rfl, B1.below⟩

end Go.Proofs.YtafamfjgehnddaaGreat
