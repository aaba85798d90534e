/- What the functions of package phase answer, each at every argument. -/
import Derived.Test.YtdhjingcnnkbiaaPh
import Derived.Test.YtdhjingcnnkbiaaLeaves
namespace Go.Proofs.Ytdhjingcnnkbiaa
open Go.RowKit

theorem or_state_key (g p : Int) (h1 : 1 ≤ g) (h2 : g ≤ 2147483648) (h3 : 1 ≤ p) (h4 : p ≤ 6) :
    bits BinOp.or IntKind.u64 (g * 8) p = (Ph.state g p : Int) := by
  obtain ⟨k, rfl⟩ : ∃ k : Nat, p = (k : Int) := ⟨p.toNat, by omega⟩
  obtain ⟨m, rfl⟩ : ∃ m : Nat, g = (m : Int) := ⟨g.toNat, by omega⟩
  have e : (m : Int) * 8 = ((m * 8 : Nat) : Int) := by simp
  rw [e, bits_or_u64_nat _ _ (by omega) (by omega), Ph.or_state m k (by omega)]
  unfold Ph.state
  omega

theorem cycleP (g : Int) (w : World) : Calls Try.prog 23 #[.int .i64 g] w fun e w' => e = .returned (.bool (Ph.cyc g)) ∧ w' = w := by
  unfold Ph.cyc
  by_cases h1 : 1 ≤ g
  · by_cases h2 : g ≤ 2147483648
    · rw [decide_eq_true h1, decide_eq_true h2]
      go_enter Try.func23, Try.ntmps23
      go_wp2
      go_ret
      exact ⟨rfl, rfl⟩
    · rw [decide_eq_true h1, decide_eq_false h2]
      have d2 := decide_eq_false h2
      go_enter Try.func23, Try.ntmps23
      go_wp2
      go_ret
      exact ⟨rfl, rfl⟩
  · rw [decide_eq_false h1, Bool.false_and]
    go_enter Try.func23, Try.ntmps23
    go_wp2
    go_ret
    exact ⟨rfl, rfl⟩

theorem someP (p : Int) (w : World) : Calls Try.prog 24 #[.int .i64 p] w fun e w' => e = .returned (.bool (Ph.som p)) ∧ w' = w := by
  unfold Ph.som
  by_cases h1 : 1 ≤ p
  · by_cases h2 : p ≤ 6
    · rw [decide_eq_true h1, decide_eq_true h2]
      go_enter Try.func24, Try.ntmps24
      go_wp2
      go_ret
      exact ⟨rfl, rfl⟩
    · rw [decide_eq_true h1, decide_eq_false h2]
      have d2 := decide_eq_false h2
      go_enter Try.func24, Try.ntmps24
      go_wp2
      go_ret
      exact ⟨rfl, rfl⟩
  · rw [decide_eq_false h1, Bool.false_and]
    go_enter Try.func24, Try.ntmps24
    go_wp2
    go_ret
    exact ⟨rfl, rfl⟩

theorem makeP (g p : Int) (w : World) :
    Calls Try.prog 8 #[.int .i64 g, .int .i64 p] w fun e w' => e = .returned (.tuple #[.int .u64 (Ph.make g p).1, .bool (Ph.make g p).2]) ∧ w' = w := by
  have C := hide (fun w => cycleP g w)
  have S := hide (fun w => someP p w)
  cases hc : Ph.cyc g
  · rw [Ph.make_out1 p hc]
    rw [hc] at C
    clear S hc
    go_enter Try.func8, Try.ntmps8
    go_wp2_with (go_at_call 23; refine (C.out _).mono ?_; rintro e w' ⟨rfl, rfl⟩)
    go_ret2
    exact ⟨rfl, rfl⟩
  · cases hs : Ph.som p
    · rw [Ph.make_out2 g hs]
      rw [hc] at C
      rw [hs] at S
      clear hs hc
      go_enter Try.func8, Try.ntmps8
      go_wp2_with (first | (go_at_call 23; refine (C.out _).mono ?_; rintro e w' ⟨rfl, rfl⟩) | (go_at_call 24; refine (S.out _).mono ?_; rintro e w' ⟨rfl, rfl⟩))
      go_ret2
      exact ⟨rfl, rfl⟩
    · rw [Ph.make_in hc hs]
      rw [hc] at C
      rw [hs] at S
      obtain ⟨h1, h2⟩ := Ph.cyc_iff.1 hc
      obtain ⟨h3, h4⟩ := Ph.som_iff.1 hs
      clear hs hc
      have HK := hide (or_state_key g p h1 h2 h3 h4)
      go_enter Try.func8, Try.ntmps8
      go_wp2_with (first | (go_at_call 23; refine (C.out _).mono ?_; rintro e w' ⟨rfl, rfl⟩) | (go_at_call 24; refine (S.out _).mono ?_; rintro e w' ⟨rfl, rfl⟩))
      go_ret2
      refine ⟨?_, rfl⟩
      rw [← HK.out]
      rfl

/-! ### above, below, May, Gen, Phase -/

theorem field_abv (x : Nat) (hx : x < 18446744073709551616) (w : World) :
    Calls Try.prog 29 #[.int .u64 x, .int .i64 3, .int .i64 61] w fun e w' => e = .returned (.int .u64 (Ph.abv x)) ∧ ∃ q, w' = w.drewN q := by
  have h := field17 x hx 3 61 w (by omega)
  have e : fieldAns x 3 61 = Ph.abv x := by
    unfold fieldAns
    rw [if_pos (by decide)]
    show x / 2 ^ 3 &&& (2 ^ 61 - 1) = _
    rw [Nat.and_two_pow_sub_one_eq_mod]
    have := Ph.abv_lt x hx
    unfold Ph.abv at *
    omega
  rw [e] at h
  exact h

theorem field_low3 (x : Nat) (hx : x < 18446744073709551616) (w : World) :
    Calls Try.prog 29 #[.int .u64 x, .int .i64 0, .int .i64 3] w fun e w' => e = .returned (.int .u64 (Ph.low x)) ∧ ∃ q, w' = w.drewN q := by
  have h := field17 x hx 0 3 w (by omega)
  have e : fieldAns x 0 3 = Ph.low x := by
    unfold fieldAns
    rw [if_pos (by decide)]
    show x / 2 ^ 0 &&& (2 ^ 3 - 1) = _
    rw [Nat.and_two_pow_sub_one_eq_mod, Nat.pow_zero, Nat.div_one]
    rfl
  rw [e] at h
  exact h

theorem aboveP (x : Nat) (hx : x < 18446744073709551616) (w : World) :
    Calls Try.prog 26 #[.int .u64 x] w fun e w' => e = .returned (.int .i64 (Ph.abv x : Nat)) ∧ ∃ q, w' = w.drewN q := by
  have H := hide (fun w => field_abv x hx w)
  have hl := Ph.abv_lt x hx
  generalize Ph.abv x = y at *
  go_enter Try.func26, Try.ntmps26
  go_wp2_with (go_at_call 29; refine (H.out _).mono ?_; rintro e w' ⟨rfl, q, rfl⟩)
  go_ret
  exact ⟨ret_int (by first | rfl | omega), _, rfl⟩

theorem belowP (x : Nat) (hx : x < 18446744073709551616) (w : World) :
    Calls Try.prog 27 #[.int .u64 x] w fun e w' => e = .returned (.int .i64 (Ph.low x : Nat)) ∧ ∃ q, w' = w.drewN q := by
  have H := hide (fun w => field_low3 x hx w)
  have hl := Ph.low_lt x
  generalize Ph.low x = y at *
  go_enter Try.func27, Try.ntmps27
  go_wp2_with (go_at_call 29; refine (H.out _).mono ?_; rintro e w' ⟨rfl, q, rfl⟩)
  go_ret
  exact ⟨ret_int (by first | rfl | omega), _, rfl⟩

theorem mayP (x : Nat) (hx : x < 18446744073709551616) (w : World) :
    Calls Try.prog 12 #[.int .u64 x] w fun e w' => e = .returned (.bool (Ph.may x)) ∧ ∃ q, w' = w.drewN q := by
  have HA := hide (fun w => aboveP x hx w)
  have HB := hide (fun w => belowP x hx w)
  have C := hide (fun w => cycleP (Ph.abv x : Nat) w)
  have S := hide (fun w => someP (Ph.low x : Nat) w)
  unfold Ph.may
  generalize Ph.abv x = a at *
  generalize Ph.low x = b at *
  generalize Ph.cyc (a : Int) = c at *
  generalize Ph.som (b : Int) = s at *
  by_cases h0 : x = 0
  · subst h0
    clear HA HB C S
    go_enter Try.func12, Try.ntmps12
    go_wp2
    go_ret
    exact ⟨rfl, 0, rfl⟩
  · have e0 : (x == 0) = false := by simp [h0]
    rw [e0, Bool.false_or]
    have d0 : ((x : Int) == 0) = false := by simp; omega
    cases c
    · clear HB S
      go_enter Try.func12, Try.ntmps12
      go_wp2_with (first | (go_at_call 26; refine (HA.out _).mono ?_; rintro e w' ⟨rfl, q, rfl⟩) | (go_at_call 23; refine (C.out _).mono ?_; rintro e w' ⟨rfl, rfl⟩))
      go_ret
      exact ⟨rfl, _, rfl⟩
    · go_enter Try.func12, Try.ntmps12
      go_wp2_with (first | (go_at_call 26; refine (HA.out _).mono ?_; rintro e w' ⟨rfl, q, rfl⟩) | (go_at_call 23; refine (C.out _).mono ?_; rintro e w' ⟨rfl, rfl⟩) | (go_at_call 27; refine (HB.out _).mono ?_; rintro e w' ⟨rfl, q, rfl⟩) | (go_at_call 24; refine (S.out _).mono ?_; rintro e w' ⟨rfl, rfl⟩))
      go_ret
      exact ⟨rfl, _, rfl⟩

theorem genP (x : Nat) (hx : x < 18446744073709551616) (w : World) :
    Calls Try.prog 14 #[.int .u64 x] w fun e w' => e = .returned (.int .i64 (Ph.gen x)) ∧ ∃ q, w' = w.drewN q := by
  have HM := hide (fun w => mayP x hx w)
  have HA := hide (fun w => aboveP x hx w)
  unfold Ph.gen
  generalize Ph.may x = m at *
  cases m
  · go_enter Try.func14, Try.ntmps14
    go_wp2_with (go_at_call 12; refine (HM.out _).mono ?_; rintro e w' ⟨rfl, q, rfl⟩)
    go_ret
    exact ⟨rfl, _, rfl⟩
  · go_enter Try.func14, Try.ntmps14
    go_wp2_with (first | (go_at_call 12; refine (HM.out _).mono ?_; rintro e w' ⟨rfl, q, rfl⟩) | (go_at_call 26; refine (HA.out _).mono ?_; rintro e w' ⟨rfl, q, rfl⟩))
    go_ret
    exact ⟨rfl, _, rfl⟩

theorem phP (x : Nat) (hx : x < 18446744073709551616) (w : World) :
    Calls Try.prog 16 #[.int .u64 x] w fun e w' => e = .returned (.int .i64 (Ph.ph x)) ∧ ∃ q, w' = w.drewN q := by
  have HM := hide (fun w => mayP x hx w)
  have HA := hide (fun w => belowP x hx w)
  unfold Ph.ph
  generalize Ph.may x = m at *
  cases m
  · go_enter Try.func16, Try.ntmps16
    go_wp2_with (go_at_call 12; refine (HM.out _).mono ?_; rintro e w' ⟨rfl, q, rfl⟩)
    go_ret
    exact ⟨rfl, _, rfl⟩
  · go_enter Try.func16, Try.ntmps16
    go_wp2_with (first | (go_at_call 12; refine (HM.out _).mono ?_; rintro e w' ⟨rfl, q, rfl⟩) | (go_at_call 27; refine (HA.out _).mono ?_; rintro e w' ⟨rfl, q, rfl⟩))
    go_ret
    exact ⟨rfl, _, rfl⟩

/-! ### Swept, Waits -/

theorem sweptP (x : Nat) (hx : x < 18446744073709551616) (g : Int) (w : World) :
    Calls Try.prog 18 #[.int .u64 x, .int .i64 g] w fun e w' => e = .returned (.bool (Ph.swept x g)) ∧ ∃ q, w' = w.drewN q := by
  have HP := hide (fun w => phP x hx w)
  have HG := hide (fun w => genP x hx w)
  unfold Ph.swept
  generalize Ph.ph x = f at *
  generalize Ph.gen x = c at *
  by_cases h1 : f = 1
  · subst h1
    go_enter Try.func18, Try.ntmps18
    go_wp2_with (first | (go_at_call 16; refine (HP.out _).mono ?_; rintro e w' ⟨rfl, q, rfl⟩) | (go_at_call 14; refine (HG.out _).mono ?_; rintro e w' ⟨rfl, q, rfl⟩))
    go_ret
    exact ⟨rfl, _, rfl⟩
  by_cases h2 : f = 2
  · subst h2
    go_enter Try.func18, Try.ntmps18
    go_wp2_with (first | (go_at_call 16; refine (HP.out _).mono ?_; rintro e w' ⟨rfl, q, rfl⟩) | (go_at_call 14; refine (HG.out _).mono ?_; rintro e w' ⟨rfl, q, rfl⟩))
    go_ret
    exact ⟨rfl, _, rfl⟩
  by_cases h3 : f = 3
  · subst h3
    go_enter Try.func18, Try.ntmps18
    go_wp2_with (first | (go_at_call 16; refine (HP.out _).mono ?_; rintro e w' ⟨rfl, q, rfl⟩) | (go_at_call 14; refine (HG.out _).mono ?_; rintro e w' ⟨rfl, q, rfl⟩))
    go_ret
    exact ⟨rfl, _, rfl⟩
  by_cases h5 : f = 5
  · subst h5
    go_enter Try.func18, Try.ntmps18
    go_wp2_with (first | (go_at_call 16; refine (HP.out _).mono ?_; rintro e w' ⟨rfl, q, rfl⟩) | (go_at_call 14; refine (HG.out _).mono ?_; rintro e w' ⟨rfl, q, rfl⟩))
    go_ret
    exact ⟨rfl, _, rfl⟩
  have e : Ph.isSwept f = false := by simp [Ph.isSwept, h1, h2, h3, h5]
  rw [e, Bool.false_and]
  have d1 : (f == 1) = false := by simp [h1]
  have d2 : (f == 2) = false := by simp [h2]
  have d3 : (f == 3) = false := by simp [h3]
  have d5 : (f == 5) = false := by simp [h5]
  go_enter Try.func18, Try.ntmps18
  go_wp2_with (first | (go_at_call 16; refine (HP.out _).mono ?_; rintro e w' ⟨rfl, q, rfl⟩) | (go_at_call 14; refine (HG.out _).mono ?_; rintro e w' ⟨rfl, q, rfl⟩))
  go_ret
  exact ⟨rfl, _, rfl⟩

theorem waitsP (x : Nat) (hx : x < 18446744073709551616) (g : Int) (w : World) :
    Calls Try.prog 20 #[.int .u64 x, .int .i64 g] w fun e w' => e = .returned (.bool (Ph.waits x g)) ∧ ∃ q, w' = w.drewN q := by
  have HP := hide (fun w => phP x hx w)
  have HG := hide (fun w => genP x hx w)
  obtain ⟨hg1, hg2⟩ := Ph.gen_lt x
  unfold Ph.waits
  generalize Ph.ph x = f at *
  generalize Ph.gen x = c at *
  by_cases h1 : f = 1
  · subst h1
    go_enter Try.func20, Try.ntmps20
    go_wp2_with (first | (go_at_call 16; refine (HP.out _).mono ?_; rintro e w' ⟨rfl, q, rfl⟩) | (go_at_call 14; refine (HG.out _).mono ?_; rintro e w' ⟨rfl, q, rfl⟩))
    go_ret
    exact ⟨rfl, _, rfl⟩
  have d1 : (f == 1) = false := by simp [h1]
  rw [d1, Bool.false_and]
  go_enter Try.func20, Try.ntmps20
  go_wp2_with (first | (go_at_call 16; refine (HP.out _).mono ?_; rintro e w' ⟨rfl, q, rfl⟩) | (go_at_call 14; refine (HG.out _).mono ?_; rintro e w' ⟨rfl, q, rfl⟩))
  go_ret
  exact ⟨rfl, _, rfl⟩

/-! ### within, may, Goes -/

theorem withinP (f t : Int) (w : World) :
    Calls Try.prog 28 #[.int .i64 f, .int .i64 t] w fun e w' => e = .returned (.bool (Ph.within f t)) ∧ w' = w := by
  by_cases h1 : f = 1
  · subst h1
    have e : Ph.within 1 t = (t == 2 || t == 3) := rfl
    rw [e]
    clear e
    by_cases k2 : t = 2
    · subst k2
      go_enter Try.func28, Try.ntmps28
      go_wp2
      go_ret
      exact ⟨rfl, rfl⟩
    have d2 : (t == 2) = false := by simp [k2]
    rw [d2, Bool.false_or]
    go_enter Try.func28, Try.ntmps28
    go_wp2
    go_ret
    exact ⟨rfl, rfl⟩
  by_cases h2 : f = 2
  · subst h2
    have e : Ph.within 2 t = (t == 1 || t == 3 || t == 0) := rfl
    rw [e]
    clear e
    clear h1
    by_cases k1 : t = 1
    · subst k1
      go_enter Try.func28, Try.ntmps28
      go_wp2
      go_ret
      exact ⟨rfl, rfl⟩
    have d1 : (t == 1) = false := by simp [k1]
    rw [d1, Bool.false_or]
    by_cases k3 : t = 3
    · subst k3
      go_enter Try.func28, Try.ntmps28
      go_wp2
      go_ret
      exact ⟨rfl, rfl⟩
    have d3 : (t == 3) = false := by simp [k3]
    rw [d3, Bool.false_or]
    go_enter Try.func28, Try.ntmps28
    go_wp2
    go_ret
    exact ⟨rfl, rfl⟩
  by_cases h3 : f = 3
  · subst h3
    have e : Ph.within 3 t = (t == 1 || t == 0) := rfl
    rw [e]
    clear e
    clear h1
    clear h2
    by_cases k1 : t = 1
    · subst k1
      go_enter Try.func28, Try.ntmps28
      go_wp2
      go_ret
      exact ⟨rfl, rfl⟩
    have d1 : (t == 1) = false := by simp [k1]
    rw [d1, Bool.false_or]
    go_enter Try.func28, Try.ntmps28
    go_wp2
    go_ret
    exact ⟨rfl, rfl⟩
  by_cases h4 : f = 4
  · subst h4
    have e : Ph.within 4 t = (t == 5 || t == 6) := rfl
    rw [e]
    clear e
    clear h1
    clear h2
    clear h3
    by_cases k5 : t = 5
    · subst k5
      go_enter Try.func28, Try.ntmps28
      go_wp2
      go_ret
      exact ⟨rfl, rfl⟩
    have d5 : (t == 5) = false := by simp [k5]
    rw [d5, Bool.false_or]
    go_enter Try.func28, Try.ntmps28
    go_wp2
    go_ret
    exact ⟨rfl, rfl⟩
  by_cases h5 : f = 5
  · subst h5
    have e : Ph.within 5 t = (t == 2) := rfl
    rw [e]
    clear e
    clear h1
    clear h2
    clear h3
    clear h4
    go_enter Try.func28, Try.ntmps28
    go_wp2
    go_ret
    exact ⟨rfl, rfl⟩
  by_cases h6 : f = 6
  · subst h6
    have e : Ph.within 6 t = (t == 2) := rfl
    rw [e]
    clear e
    clear h1
    clear h2
    clear h3
    clear h4
    clear h5
    go_enter Try.func28, Try.ntmps28
    go_wp2
    go_ret
    exact ⟨rfl, rfl⟩
  have e : Ph.within f t = false := by simp [Ph.within, h1, h2, h3, h4, h5, h6]
  rw [e]
  have d1 : (f == 1) = false := by simp [h1]
  have d2 : (f == 2) = false := by simp [h2]
  have d3 : (f == 3) = false := by simp [h3]
  have d4 : (f == 4) = false := by simp [h4]
  have d5 : (f == 5) = false := by simp [h5]
  have d6 : (f == 6) = false := by simp [h6]
  go_enter Try.func28, Try.ntmps28
  go_wp2
  go_ret
  exact ⟨rfl, rfl⟩

theorem stepP (x : Nat) (hx : x < 18446744073709551616) (g p : Int) (w : World) :
    Calls Try.prog 25 #[.int .u64 x, .int .i64 g, .int .i64 p] w fun e w' => e = .returned (.bool (Ph.step x g p)) ∧ ∃ q, w' = w.drewN q := by
  have HP := hide (fun w => phP x hx w)
  have HG := hide (fun w => genP x hx w)
  have HW := hide (fun w => waitsP x hx g w)
  have HI := hide (fun w => withinP (Ph.ph x) p w)
  unfold Ph.step
  by_cases h0 : x = 0
  · subst h0
    rw [if_pos rfl]
    clear HP HG HW HI
    go_enter Try.func25, Try.ntmps25
    go_wp2
    go_ret
    exact ⟨rfl, 0, rfl⟩
  rw [if_neg h0]
  have d0 : ((x : Int) == 0) = false := by simp; omega
  generalize Ph.ph x = f at *
  generalize Ph.gen x = c at *
  generalize Ph.waits x g = b at *
  generalize Ph.within f p = i at *
  cases b
  · rw [if_neg (by decide)]
    by_cases hg : c = g
    · subst hg
      rw [if_pos rfl]
      go_enter Try.func25, Try.ntmps25
      go_wp2_with (first | (go_at_call 16; refine (HP.out _).mono ?_; rintro e w' ⟨rfl, q, rfl⟩) | (go_at_call 14; refine (HG.out _).mono ?_; rintro e w' ⟨rfl, q, rfl⟩) | (go_at_call 20; refine (HW.out _).mono ?_; rintro e w' ⟨rfl, q, rfl⟩) | (go_at_call 28; refine (HI.out _).mono ?_; rintro e w' ⟨rfl, rfl⟩))
      go_ret
      exact ⟨rfl, _, rfl⟩
    · rw [if_neg hg]
      have dg : (c == g) = false := by simp [hg]
      go_enter Try.func25, Try.ntmps25
      go_wp2_with (first | (go_at_call 16; refine (HP.out _).mono ?_; rintro e w' ⟨rfl, q, rfl⟩) | (go_at_call 14; refine (HG.out _).mono ?_; rintro e w' ⟨rfl, q, rfl⟩) | (go_at_call 20; refine (HW.out _).mono ?_; rintro e w' ⟨rfl, q, rfl⟩) | (go_at_call 28; refine (HI.out _).mono ?_; rintro e w' ⟨rfl, rfl⟩))
      go_ret
      exact ⟨rfl, _, rfl⟩
  · rw [if_pos rfl]
    clear HP HG HI
    by_cases k2 : p = 2
    · subst k2
      go_enter Try.func25, Try.ntmps25
      go_wp2_with (go_at_call 20; refine (HW.out _).mono ?_; rintro e w' ⟨rfl, q, rfl⟩)
      go_ret
      exact ⟨rfl, _, rfl⟩
    have d2 : (p == 2) = false := by simp [k2]
    rw [d2, Bool.false_or]
    go_enter Try.func25, Try.ntmps25
    go_wp2_with (go_at_call 20; refine (HW.out _).mono ?_; rintro e w' ⟨rfl, q, rfl⟩)
    go_ret
    exact ⟨rfl, _, rfl⟩

theorem goesP (x : Nat) (hx : x < 18446744073709551616) (g p : Int) (w : World) :
    Calls Try.prog 10 #[.int .u64 x, .int .i64 g, .int .i64 p] w fun e w' => e = .returned (.tuple #[.int .u64 (Ph.goes x g p).1, .bool (Ph.goes x g p).2]) ∧ ∃ q, w' = w.drewN q := by
  have C := hide (fun w => cycleP g w)
  have S := hide (fun w => stepP x hx g p w)
  have M := hide (fun w => makeP g p w)
  unfold Ph.goes
  generalize Ph.cyc g = c at *
  generalize Ph.step x g p = s at *
  generalize Ph.make g p = m at *
  obtain ⟨m1, m2⟩ := m
  cases c
  · clear S M
    go_enter Try.func10, Try.ntmps10
    go_wp2_with (go_at_call 23; refine (C.out _).mono ?_; rintro e w' ⟨rfl, rfl⟩)
    go_ret2
    exact ⟨rfl, 0, rfl⟩
  cases s
  · clear M
    go_enter Try.func10, Try.ntmps10
    go_wp2_with (first | (go_at_call 23; refine (C.out _).mono ?_; rintro e w' ⟨rfl, rfl⟩) | (go_at_call 25; refine (S.out _).mono ?_; rintro e w' ⟨rfl, q, rfl⟩))
    go_ret2
    exact ⟨rfl, _, rfl⟩
  by_cases k0 : p = 0
  · subst k0
    clear M
    go_enter Try.func10, Try.ntmps10
    go_wp2_with (first | (go_at_call 23; refine (C.out _).mono ?_; rintro e w' ⟨rfl, rfl⟩) | (go_at_call 25; refine (S.out _).mono ?_; rintro e w' ⟨rfl, q, rfl⟩))
    go_ret2
    exact ⟨rfl, _, rfl⟩
  rw [if_neg k0]
  have d0 : (p == 0) = false := by simp [k0]
  go_enter Try.func10, Try.ntmps10
  go_wp2_with (first | (go_at_call 23; refine (C.out _).mono ?_; rintro e w' ⟨rfl, rfl⟩) | (go_at_call 25; refine (S.out _).mono ?_; rintro e w' ⟨rfl, q, rfl⟩) | (go_at_call 8; refine (M.out _).mono ?_; rintro e w' ⟨rfl, rfl⟩))
  go_ret2
  exact ⟨rfl, _, rfl⟩

end Go.Proofs.Ytdhjingcnnkbiaa
