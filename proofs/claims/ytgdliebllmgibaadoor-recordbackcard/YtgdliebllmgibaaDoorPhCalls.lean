/- What the functions of package phase answer, each at every argument. -/
import Derived.Test.YtgdliebllmgibaaDoorPh
import Derived.Test.YtgdliebllmgibaaDoorLeaves
namespace Go.Proofs.YtgdliebllmgibaaDoor
open Go.RowKit

theorem or_state_key (g p : Int) (h1 : 1 ≤ g) (h2 : g ≤ 2147483648) (h3 : 1 ≤ p) (h4 : p ≤ 6) :
    bits BinOp.or IntKind.u64 (g * 8) p = (Ph.state g p : Int) := by
  obtain ⟨k, rfl⟩ : ∃ k : Nat, p = (k : Int) := ⟨p.toNat, by omega⟩
  obtain ⟨m, rfl⟩ : ∃ m : Nat, g = (m : Int) := ⟨g.toNat, by omega⟩
  have e : (m : Int) * 8 = ((m * 8 : Nat) : Int) := by simp
  rw [e, bits_or_u64_nat _ _ (by omega) (by omega), Ph.or_state m k (by omega)]
  unfold Ph.state
  omega

theorem cycleP (g : Int) (w : World) : Calls Tryd.prog 59 #[.int .i64 g] w fun e w' => e = .returned (.bool (Ph.cyc g)) ∧ w' = w := by
  unfold Ph.cyc
  by_cases h1 : 1 ≤ g
  · by_cases h2 : g ≤ 2147483648
    · rw [decide_eq_true h1, decide_eq_true h2]
      go_enter Tryd.func59, Tryd.ntmps59
      go_wp2
      go_ret
      exact ⟨rfl, rfl⟩
    · rw [decide_eq_true h1, decide_eq_false h2]
      have d2 := decide_eq_false h2
      go_enter Tryd.func59, Tryd.ntmps59
      go_wp2
      go_ret
      exact ⟨rfl, rfl⟩
  · rw [decide_eq_false h1, Bool.false_and]
    go_enter Tryd.func59, Tryd.ntmps59
    go_wp2
    go_ret
    exact ⟨rfl, rfl⟩

theorem someP (p : Int) (w : World) : Calls Tryd.prog 60 #[.int .i64 p] w fun e w' => e = .returned (.bool (Ph.som p)) ∧ w' = w := by
  unfold Ph.som
  by_cases h1 : 1 ≤ p
  · by_cases h2 : p ≤ 6
    · rw [decide_eq_true h1, decide_eq_true h2]
      go_enter Tryd.func60, Tryd.ntmps60
      go_wp2
      go_ret
      exact ⟨rfl, rfl⟩
    · rw [decide_eq_true h1, decide_eq_false h2]
      have d2 := decide_eq_false h2
      go_enter Tryd.func60, Tryd.ntmps60
      go_wp2
      go_ret
      exact ⟨rfl, rfl⟩
  · rw [decide_eq_false h1, Bool.false_and]
    go_enter Tryd.func60, Tryd.ntmps60
    go_wp2
    go_ret
    exact ⟨rfl, rfl⟩

theorem makeP (g p : Int) (w : World) :
    Calls Tryd.prog 34 #[.int .i64 g, .int .i64 p] w fun e w' => e = .returned (.tuple #[.int .u64 (Ph.make g p).1, .bool (Ph.make g p).2]) ∧ w' = w := by
  have C := hide (fun w => cycleP g w)
  have S := hide (fun w => someP p w)
  cases hc : Ph.cyc g
  · rw [Ph.make_out1 p hc]
    rw [hc] at C
    clear S hc
    go_enter Tryd.func34, Tryd.ntmps34
    go_wp2_with (go_at_call 59; refine (C.out _).mono ?_; rintro e w' ⟨rfl, rfl⟩)
    go_ret2
    exact ⟨rfl, rfl⟩
  · cases hs : Ph.som p
    · rw [Ph.make_out2 g hs]
      rw [hc] at C
      rw [hs] at S
      clear hs hc
      go_enter Tryd.func34, Tryd.ntmps34
      go_wp2_with (first | (go_at_call 59; refine (C.out _).mono ?_; rintro e w' ⟨rfl, rfl⟩) | (go_at_call 60; refine (S.out _).mono ?_; rintro e w' ⟨rfl, rfl⟩))
      go_ret2
      exact ⟨rfl, rfl⟩
    · rw [Ph.make_in hc hs]
      rw [hc] at C
      rw [hs] at S
      obtain ⟨h1, h2⟩ := Ph.cyc_iff.1 hc
      obtain ⟨h3, h4⟩ := Ph.som_iff.1 hs
      clear hs hc
      have HK := hide (or_state_key g p h1 h2 h3 h4)
      go_enter Tryd.func34, Tryd.ntmps34
      go_wp2_with (first | (go_at_call 59; refine (C.out _).mono ?_; rintro e w' ⟨rfl, rfl⟩) | (go_at_call 60; refine (S.out _).mono ?_; rintro e w' ⟨rfl, rfl⟩))
      go_ret2
      refine ⟨?_, rfl⟩
      rw [← HK.out]
      rfl

/-! ### above, below, May, Gen, Phase -/

theorem field_abv (x : Nat) (hx : x < 18446744073709551616) (w : World) :
    Calls Tryd.prog 89 #[.int .u64 x, .int .i64 3, .int .i64 61] w fun e w' => e = .returned (.int .u64 (Ph.abv x)) ∧ ∃ q, w' = w.drewN q := by
  have h := field17 x hx 3 61 w (by omega)
  have e : fieldAns x 3 61 = Ph.abv x := by
    unfold fieldAns
    rw [if_pos (by decide)]
    show x / 2 ^ 3 &&& (2 ^ 61 - 1) = _
    rw [Nat.and_two_pow_sub_one_eq_mod]
    have := Ph.abv_lt x hx
    unfold Ph.abv at *
    omega
  rw [e] at h
  exact h

theorem field_low3 (x : Nat) (hx : x < 18446744073709551616) (w : World) :
    Calls Tryd.prog 89 #[.int .u64 x, .int .i64 0, .int .i64 3] w fun e w' => e = .returned (.int .u64 (Ph.low x)) ∧ ∃ q, w' = w.drewN q := by
  have h := field17 x hx 0 3 w (by omega)
  have e : fieldAns x 0 3 = Ph.low x := by
    unfold fieldAns
    rw [if_pos (by decide)]
    show x / 2 ^ 0 &&& (2 ^ 3 - 1) = _
    rw [Nat.and_two_pow_sub_one_eq_mod, Nat.pow_zero, Nat.div_one]
    rfl
  rw [e] at h
  exact h

theorem aboveP (x : Nat) (hx : x < 18446744073709551616) (w : World) :
    Calls Tryd.prog 67 #[.int .u64 x] w fun e w' => e = .returned (.int .i64 (Ph.abv x : Nat)) ∧ ∃ q, w' = w.drewN q := by
  have H := hide (fun w => field_abv x hx w)
  have hl := Ph.abv_lt x hx
  generalize Ph.abv x = y at *
  go_enter Tryd.func67, Tryd.ntmps67
  go_wp2_with (go_at_call 89; refine (H.out _).mono ?_; rintro e w' ⟨rfl, q, rfl⟩)
  go_ret
  exact ⟨ret_int (by first | rfl | omega), _, rfl⟩

theorem belowP (x : Nat) (hx : x < 18446744073709551616) (w : World) :
    Calls Tryd.prog 68 #[.int .u64 x] w fun e w' => e = .returned (.int .i64 (Ph.low x : Nat)) ∧ ∃ q, w' = w.drewN q := by
  have H := hide (fun w => field_low3 x hx w)
  have hl := Ph.low_lt x
  generalize Ph.low x = y at *
  go_enter Tryd.func68, Tryd.ntmps68
  go_wp2_with (go_at_call 89; refine (H.out _).mono ?_; rintro e w' ⟨rfl, q, rfl⟩)
  go_ret
  exact ⟨ret_int (by first | rfl | omega), _, rfl⟩

theorem mayP (x : Nat) (hx : x < 18446744073709551616) (w : World) :
    Calls Tryd.prog 66 #[.int .u64 x] w fun e w' => e = .returned (.bool (Ph.may x)) ∧ ∃ q, w' = w.drewN q := by
  have HA := hide (fun w => aboveP x hx w)
  have HB := hide (fun w => belowP x hx w)
  have C := hide (fun w => cycleP (Ph.abv x : Nat) w)
  have S := hide (fun w => someP (Ph.low x : Nat) w)
  unfold Ph.may
  generalize Ph.abv x = a at *
  generalize Ph.low x = b at *
  generalize Ph.cyc (a : Int) = c at *
  generalize Ph.som (b : Int) = s at *
  by_cases h0 : x = 0
  · subst h0
    clear HA HB C S
    go_enter Tryd.func66, Tryd.ntmps66
    go_wp2
    go_ret
    exact ⟨rfl, 0, rfl⟩
  · have e0 : (x == 0) = false := by simp [h0]
    rw [e0, Bool.false_or]
    have d0 : ((x : Int) == 0) = false := by simp; omega
    cases c
    · clear HB S
      go_enter Tryd.func66, Tryd.ntmps66
      go_wp2_with (first | (go_at_call 67; refine (HA.out _).mono ?_; rintro e w' ⟨rfl, q, rfl⟩) | (go_at_call 59; refine (C.out _).mono ?_; rintro e w' ⟨rfl, rfl⟩))
      go_ret
      exact ⟨rfl, _, rfl⟩
    · go_enter Tryd.func66, Tryd.ntmps66
      go_wp2_with (first | (go_at_call 67; refine (HA.out _).mono ?_; rintro e w' ⟨rfl, q, rfl⟩) | (go_at_call 59; refine (C.out _).mono ?_; rintro e w' ⟨rfl, rfl⟩) | (go_at_call 68; refine (HB.out _).mono ?_; rintro e w' ⟨rfl, q, rfl⟩) | (go_at_call 60; refine (S.out _).mono ?_; rintro e w' ⟨rfl, rfl⟩))
      go_ret
      exact ⟨rfl, _, rfl⟩

theorem genP (x : Nat) (hx : x < 18446744073709551616) (w : World) :
    Calls Tryd.prog 39 #[.int .u64 x] w fun e w' => e = .returned (.int .i64 (Ph.gen x)) ∧ ∃ q, w' = w.drewN q := by
  have HM := hide (fun w => mayP x hx w)
  have HA := hide (fun w => aboveP x hx w)
  unfold Ph.gen
  generalize Ph.may x = m at *
  cases m
  · go_enter Tryd.func39, Tryd.ntmps39
    go_wp2_with (go_at_call 66; refine (HM.out _).mono ?_; rintro e w' ⟨rfl, q, rfl⟩)
    go_ret
    exact ⟨rfl, _, rfl⟩
  · go_enter Tryd.func39, Tryd.ntmps39
    go_wp2_with (first | (go_at_call 66; refine (HM.out _).mono ?_; rintro e w' ⟨rfl, q, rfl⟩) | (go_at_call 67; refine (HA.out _).mono ?_; rintro e w' ⟨rfl, q, rfl⟩))
    go_ret
    exact ⟨rfl, _, rfl⟩

theorem phP (x : Nat) (hx : x < 18446744073709551616) (w : World) :
    Calls Tryd.prog 40 #[.int .u64 x] w fun e w' => e = .returned (.int .i64 (Ph.ph x)) ∧ ∃ q, w' = w.drewN q := by
  have HM := hide (fun w => mayP x hx w)
  have HA := hide (fun w => belowP x hx w)
  unfold Ph.ph
  generalize Ph.may x = m at *
  cases m
  · go_enter Tryd.func40, Tryd.ntmps40
    go_wp2_with (go_at_call 66; refine (HM.out _).mono ?_; rintro e w' ⟨rfl, q, rfl⟩)
    go_ret
    exact ⟨rfl, _, rfl⟩
  · go_enter Tryd.func40, Tryd.ntmps40
    go_wp2_with (first | (go_at_call 66; refine (HM.out _).mono ?_; rintro e w' ⟨rfl, q, rfl⟩) | (go_at_call 68; refine (HA.out _).mono ?_; rintro e w' ⟨rfl, q, rfl⟩))
    go_ret
    exact ⟨rfl, _, rfl⟩

/-! ### Swept, Waits -/

/-! ### within, may, Goes -/

end Go.Proofs.YtgdliebllmgibaaDoor
