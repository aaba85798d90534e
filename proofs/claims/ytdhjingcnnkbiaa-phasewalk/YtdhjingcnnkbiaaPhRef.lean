/- What the functions of package dustpanref6 answer of states, each at every argument, and the examples. -/
import Derived.Test.YtdhjingcnnkbiaaPhCalls
namespace Go.Proofs.Ytdhjingcnnkbiaa
open Go.RowKit

theorem rstate (g p : Int) (w : World) :
    Calls Try.prog 9 #[.int .i64 g, .int .i64 p] w fun e w' => e = .returned (.tuple #[.int .u64 (Ph.make g p).1, .bool (Ph.make g p).2]) ∧ w' = w := by
  by_cases h1 : 1 ≤ g
  · by_cases h2 : g ≤ 2147483648
    · have hc := Ph.cyc_iff.2 ⟨h1, h2⟩
      by_cases h3 : 1 ≤ p
      · by_cases h4 : p ≤ 6
        · have hs := Ph.som_iff.2 ⟨h3, h4⟩
          rw [Ph.make_in hc hs]
          clear hc hs
          have HK : Hid (8 * g + p = (Ph.state g p : Int)) := by show _ = _; unfold Ph.state; omega
          go_enter Try.func9, Try.ntmps9
          go_wp2
          go_ret2
          refine ⟨?_, rfl⟩
          rw [← HK.out]
          rfl
        · have hs : Ph.som p = false := by simp [Ph.som]; omega
          rw [Ph.make_out2 g hs]
          clear hc hs
          have d4 : decide (6 < p) = true := by simp; omega
          go_enter Try.func9, Try.ntmps9
          go_wp2
          go_ret2
          exact ⟨rfl, rfl⟩
      · have hs : Ph.som p = false := by simp [Ph.som]; omega
        rw [Ph.make_out2 g hs]
        clear hc hs
        have d3 : decide (p < 1) = true := by simp; omega
        go_enter Try.func9, Try.ntmps9
        go_wp2
        go_ret2
        exact ⟨rfl, rfl⟩
    · have hc : Ph.cyc g = false := by simp [Ph.cyc]; omega
      rw [Ph.make_out1 p hc]
      clear hc
      have d2 : decide (2147483648 < g) = true := by simp; omega
      go_enter Try.func9, Try.ntmps9
      go_wp2
      go_ret2
      exact ⟨rfl, rfl⟩
  · have hc : Ph.cyc g = false := by simp [Ph.cyc]; omega
    rw [Ph.make_out1 p hc]
    clear hc
    have d1 : decide (g < 1) = true := by simp; omega
    go_enter Try.func9, Try.ntmps9
    go_wp2
    go_ret2
    exact ⟨rfl, rfl⟩

theorem tmod8 (x : Nat) : (x : Int).tmod 8 = ((Ph.low x : Nat) : Int) := by
  rw [Int.tmod_eq_emod_of_nonneg (by omega)]
  unfold Ph.low
  omega
theorem emod8 (x : Nat) : (x : Int) % 8 = ((Ph.low x : Nat) : Int) := by
  unfold Ph.low
  omega
theorem ediv8 (x : Nat) : (x : Int) / 8 = ((Ph.abv x : Nat) : Int) := by
  unfold Ph.abv
  omega

theorem rmay (x : Nat) (hx : x < 18446744073709551616) (w : World) :
    Calls Try.prog 13 #[.int .u64 x] w fun e w' => e = .returned (.bool (Ph.may x)) ∧ w' = w := by
  by_cases h0 : x = 0
  · subst h0
    go_enter Try.func13, Try.ntmps13
    go_wp2
    go_ret
    exact ⟨rfl, rfl⟩
  have d0 : ((x : Int) == 0) = false := by simp; omega
  have e0 : Ph.may x = (Ph.cyc (Ph.abv x : Nat) && Ph.som (Ph.low x : Nat)) := by simp [Ph.may, h0]
  rw [e0]
  have ed := ediv8 x
  have em := emod8 x
  unfold Ph.cyc Ph.som
  generalize Ph.abv x = a at *
  generalize Ph.low x = b at *
  have HM : Hid ((x : Int).tmod 8 = (b : Int)) := (Int.tmod_eq_emod_of_nonneg (by omega)).trans em
  by_cases h1 : 1 ≤ a
  · have d1 : decide (1 ≤ (a : Int)) = true := by simp; omega
    rw [d1, Bool.true_and]
    by_cases h2 : a ≤ 2147483648
    · have d2 : decide ((a : Int) ≤ 2147483648) = true := by simp; omega
      rw [d2, Bool.true_and]
      by_cases h3 : 1 ≤ b
      · have d3 : decide (1 ≤ (b : Int)) = true := by simp; omega
        rw [d3, Bool.true_and]
        by_cases h4 : b ≤ 6
        · have d4 : decide ((b : Int) ≤ 6) = true := by simp; omega
          rw [d4]
          go_enter Try.func13, Try.ntmps13
          go_wp2
          go_ret
          exact ⟨rfl, rfl⟩
        · have d4 : decide ((b : Int) ≤ 6) = false := by simp; omega
          rw [d4]
          go_enter Try.func13, Try.ntmps13
          go_wp2
          go_ret
          exact ⟨rfl, rfl⟩
      · have d3 : decide (1 ≤ (b : Int)) = false := by simp; omega
        rw [d3, Bool.false_and]
        go_enter Try.func13, Try.ntmps13
        go_wp2
        go_ret
        exact ⟨rfl, rfl⟩
    · have d2 : decide ((a : Int) ≤ 2147483648) = false := by simp; omega
      rw [d2, Bool.false_and]
      go_enter Try.func13, Try.ntmps13
      go_wp2
      go_ret
      exact ⟨rfl, rfl⟩
  · have d1 : decide (1 ≤ (a : Int)) = false := by simp; omega
    rw [d1, Bool.false_and, Bool.false_and]
    go_enter Try.func13, Try.ntmps13
    go_wp2
    go_ret
    exact ⟨rfl, rfl⟩

theorem rgen (x : Nat) (hx : x < 18446744073709551616) (w : World) :
    Calls Try.prog 15 #[.int .u64 x] w fun e w' => e = .returned (.int .i64 (Ph.gen x)) ∧ w' = w := by
  have HM := hide (fun w => rmay x hx w)
  have ee := ediv8 x
  have hl := Ph.abv_lt x hx
  unfold Ph.gen
  generalize Ph.may x = m at *
  generalize Ph.abv x = y at *
  cases m
  · go_enter Try.func15, Try.ntmps15
    go_wp2_with (go_at_call 13; refine (HM.out _).mono ?_; rintro e w' ⟨rfl, rfl⟩)
    go_ret
    exact ⟨rfl, rfl⟩
  · go_enter Try.func15, Try.ntmps15
    go_wp2_with (go_at_call 13; refine (HM.out _).mono ?_; rintro e w' ⟨rfl, rfl⟩)
    go_ret
    exact ⟨ret_int (by first | rfl | omega), rfl⟩

theorem rph (x : Nat) (hx : x < 18446744073709551616) (w : World) :
    Calls Try.prog 17 #[.int .u64 x] w fun e w' => e = .returned (.int .i64 (Ph.ph x)) ∧ w' = w := by
  have HM := hide (fun w => rmay x hx w)
  have HT : Hid ((x : Int).tmod 8 = ((Ph.low x : Nat) : Int)) := tmod8 x
  have ee := emod8 x
  have hl := Ph.low_lt x
  unfold Ph.ph
  generalize Ph.may x = m at *
  generalize Ph.low x = y at *
  cases m
  · go_enter Try.func17, Try.ntmps17
    go_wp2_with (go_at_call 13; refine (HM.out _).mono ?_; rintro e w' ⟨rfl, rfl⟩)
    go_ret
    exact ⟨rfl, rfl⟩
  · go_enter Try.func17, Try.ntmps17
    go_wp2_with (go_at_call 13; refine (HM.out _).mono ?_; rintro e w' ⟨rfl, rfl⟩)
    go_ret
    exact ⟨ret_int (by first | rfl | omega), rfl⟩

theorem rswept (x : Nat) (hx : x < 18446744073709551616) (g : Int) (w : World) :
    Calls Try.prog 19 #[.int .u64 x, .int .i64 g] w fun e w' => e = .returned (.bool (Ph.swept x g)) ∧ w' = w := by
  have HP := hide (fun w => rph x hx w)
  have HG := hide (fun w => rgen x hx w)
  unfold Ph.swept
  generalize Ph.ph x = f at *
  generalize Ph.gen x = c at *
  by_cases h0 : f = 0
  · subst h0
    go_enter Try.func19, Try.ntmps19
    go_wp2_with (first | (go_at_call 17; refine (HP.out _).mono ?_; rintro e w' ⟨rfl, rfl⟩) | (go_at_call 15; refine (HG.out _).mono ?_; rintro e w' ⟨rfl, rfl⟩))
    go_ret
    exact ⟨rfl, rfl⟩
  have d0 : (f == 0) = false := by simp [h0]
  have d0' : (f != 0) = true := by simp [h0]
  by_cases hg : c = g
  · subst hg
    rw [beq_self_eq_true, Bool.and_true]
    by_cases h1 : f = 1
    · subst h1
      go_enter Try.func19, Try.ntmps19
      go_wp2_with (first | (go_at_call 17; refine (HP.out _).mono ?_; rintro e w' ⟨rfl, rfl⟩) | (go_at_call 15; refine (HG.out _).mono ?_; rintro e w' ⟨rfl, rfl⟩))
      go_ret
      exact ⟨rfl, rfl⟩
    by_cases h2 : f = 2
    · subst h2
      go_enter Try.func19, Try.ntmps19
      go_wp2_with (first | (go_at_call 17; refine (HP.out _).mono ?_; rintro e w' ⟨rfl, rfl⟩) | (go_at_call 15; refine (HG.out _).mono ?_; rintro e w' ⟨rfl, rfl⟩))
      go_ret
      exact ⟨rfl, rfl⟩
    by_cases h3 : f = 3
    · subst h3
      go_enter Try.func19, Try.ntmps19
      go_wp2_with (first | (go_at_call 17; refine (HP.out _).mono ?_; rintro e w' ⟨rfl, rfl⟩) | (go_at_call 15; refine (HG.out _).mono ?_; rintro e w' ⟨rfl, rfl⟩))
      go_ret
      exact ⟨rfl, rfl⟩
    by_cases h5 : f = 5
    · subst h5
      go_enter Try.func19, Try.ntmps19
      go_wp2_with (first | (go_at_call 17; refine (HP.out _).mono ?_; rintro e w' ⟨rfl, rfl⟩) | (go_at_call 15; refine (HG.out _).mono ?_; rintro e w' ⟨rfl, rfl⟩))
      go_ret
      exact ⟨rfl, rfl⟩
    have e : Ph.isSwept f = false := by simp [Ph.isSwept, h1, h2, h3, h5]
    rw [e]
    have d1 : (f == 1) = false := by simp [h1]
    have d2 : (f == 2) = false := by simp [h2]
    have d3 : (f == 3) = false := by simp [h3]
    have d5 : (f == 5) = false := by simp [h5]
    go_enter Try.func19, Try.ntmps19
    go_wp2_with (first | (go_at_call 17; refine (HP.out _).mono ?_; rintro e w' ⟨rfl, rfl⟩) | (go_at_call 15; refine (HG.out _).mono ?_; rintro e w' ⟨rfl, rfl⟩))
    go_ret
    exact ⟨rfl, rfl⟩
  have dg : (c == g) = false := by simp [hg]
  rw [dg, Bool.and_false]
  go_enter Try.func19, Try.ntmps19
  go_wp2_with (first | (go_at_call 17; refine (HP.out _).mono ?_; rintro e w' ⟨rfl, rfl⟩) | (go_at_call 15; refine (HG.out _).mono ?_; rintro e w' ⟨rfl, rfl⟩))
  go_ret
  exact ⟨rfl, rfl⟩

theorem rwaits (x : Nat) (hx : x < 18446744073709551616) (g : Int) (hg : g ≤ 9223372036854775807) (w : World) :
    Calls Try.prog 21 #[.int .u64 x, .int .i64 g] w fun e w' => e = .returned (.bool (Ph.waits x g)) ∧ w' = w := by
  have HP := hide (fun w => rph x hx w)
  have HG := hide (fun w => rgen x hx w)
  have hc : Ph.ph x = 1 → 1 ≤ Ph.gen x := fun h => by
    cases hm : Ph.may x
    · rw [Ph.ph_none hm] at h
      omega
    · by_cases h0 : x = 0
      · subst h0
        exact absurd h (by decide)
      · exact (Ph.cyc_iff.1 (Ph.of_may hm h0).1).1
  unfold Ph.waits
  generalize Ph.ph x = f at *
  generalize Ph.gen x = c at *
  by_cases h1 : f = 1
  · subst h1
    have hc1 := hc rfl
    clear hc
    by_cases h2 : 1 < g
    · have e : (c + 1 == g) = (c == g - 1) := by
        by_cases h : c = g - 1
        · subst h; simp
        · rw [beq_eq_false_iff_ne.2 h, beq_eq_false_iff_ne]
          omega
      rw [e]
      go_enter Try.func21, Try.ntmps21
      go_wp2_with (first | (go_at_call 17; refine (HP.out _).mono ?_; rintro e w' ⟨rfl, rfl⟩) | (go_at_call 15; refine (HG.out _).mono ?_; rintro e w' ⟨rfl, rfl⟩))
      go_ret
      exact ⟨rfl, rfl⟩
    · have e : (c + 1 == g) = false := by rw [beq_eq_false_iff_ne]; omega
      rw [e]
      have d2 : decide (1 < g) = false := by simp; omega
      go_enter Try.func21, Try.ntmps21
      go_wp2_with (first | (go_at_call 17; refine (HP.out _).mono ?_; rintro e w' ⟨rfl, rfl⟩) | (go_at_call 15; refine (HG.out _).mono ?_; rintro e w' ⟨rfl, rfl⟩))
      go_ret
      exact ⟨rfl, rfl⟩
  have d1 : (f == 1) = false := by simp [h1]
  rw [d1, Bool.false_and]
  go_enter Try.func21, Try.ntmps21
  go_wp2_with (first | (go_at_call 17; refine (HP.out _).mono ?_; rintro e w' ⟨rfl, rfl⟩) | (go_at_call 15; refine (HG.out _).mono ?_; rintro e w' ⟨rfl, rfl⟩))
  go_ret
  exact ⟨rfl, rfl⟩

theorem goes_no {x : Nat} {g p : Int} (h : Ph.step x g p = false) : Ph.goes x g p = (0, false) := by unfold Ph.goes; rw [h, Bool.and_false]; rfl
theorem goes_none {x : Nat} {g p : Int} (h : Ph.cyc g = false) : Ph.goes x g p = (0, false) := by unfold Ph.goes; rw [h]; rfl
theorem goes_zero {x : Nat} {g : Int} (hc : Ph.cyc g = true) (h : Ph.step x g 0 = true) : Ph.goes x g 0 = (0, true) := by unfold Ph.goes; rw [hc, h]; rfl
theorem goes_in {x : Nat} {g p : Int} (hc : Ph.cyc g = true) (h0 : p ≠ 0) (h : Ph.step x g p = true) : Ph.goes x g p = Ph.make g p := by unfold Ph.goes; rw [hc, h, if_neg h0]; rfl

set_option maxHeartbeats 1000000 in
theorem rgoes (x : Nat) (hx : x < 18446744073709551616) (g p : Int) (hg : g ≤ 9223372036854775807) (w : World) :
    Calls Try.prog 11 #[.int .u64 x, .int .i64 g, .int .i64 p] w fun e w' => e = .returned (.tuple #[.int .u64 (Ph.goes x g p).1, .bool (Ph.goes x g p).2]) ∧ w' = w := by
  have HM := hide (fun w => rmay x hx w)
  have HP := hide (fun w => rph x hx w)
  have HG := hide (fun w => rgen x hx w)
  have HW := hide (fun w => rwaits x hx g hg w)
  have M := hide (fun w => rstate g p w)
  cases hm : Ph.may x
  · rw [goes_no (Ph.step_none hm g p)]
    rw [hm] at HM
    clear HP HG HW M hm
    go_enter Try.func11, Try.ntmps11
    go_wp2_with (go_at_call 13; refine (HM.out _).mono ?_; rintro e w' ⟨rfl, rfl⟩)
    go_ret2
    exact ⟨rfl, rfl⟩
  rw [hm] at HM
  by_cases h1 : 1 ≤ g
  rotate_left
  · rw [goes_none (by simp [Ph.cyc]; omega)]
    clear HP HG HW M hm
    have d1 : decide (g < 1) = true := by simp; omega
    go_enter Try.func11, Try.ntmps11
    go_wp2_with (go_at_call 13; refine (HM.out _).mono ?_; rintro e w' ⟨rfl, rfl⟩)
    go_ret2
    exact ⟨rfl, rfl⟩
  by_cases h2 : g ≤ 2147483648
  rotate_left
  · rw [goes_none (by simp [Ph.cyc]; omega)]
    clear HP HG HW M hm
    have d1 : decide (2147483648 < g) = true := by simp; omega
    go_enter Try.func11, Try.ntmps11
    go_wp2_with (go_at_call 13; refine (HM.out _).mono ?_; rintro e w' ⟨rfl, rfl⟩)
    go_ret2
    exact ⟨rfl, rfl⟩
  have hc := Ph.cyc_iff.2 ⟨h1, h2⟩
  by_cases h0 : x = 0
  · subst h0
    by_cases k2 : p = 2
    · subst k2
      have hs : Ph.step 0 g 2 = true := by simp [Ph.step]
      rw [goes_in hc (by decide) hs]
      generalize Ph.make g 2 = m at *
      obtain ⟨m1, m2⟩ := m
      clear hs hc
      go_enter Try.func11, Try.ntmps11
      go_wp2_with (first | (go_at_call 13; refine (HM.out _).mono ?_; rintro e w' ⟨rfl, rfl⟩) | (go_at_call 17; refine (HP.out _).mono ?_; rintro e w' ⟨rfl, rfl⟩) | (go_at_call 15; refine (HG.out _).mono ?_; rintro e w' ⟨rfl, rfl⟩) | (go_at_call 21; refine (HW.out _).mono ?_; rintro e w' ⟨rfl, rfl⟩) | (go_at_call 9; refine (M.out _).mono ?_; rintro e w' ⟨rfl, rfl⟩))
      go_ret2
      exact ⟨rfl, rfl⟩
    have hs : Ph.step 0 g p = false := by simp [Ph.step, k2]
    rw [goes_no hs]
    clear hs hc M
    have d2 : (p == 2) = false := by simp [k2]
    go_enter Try.func11, Try.ntmps11
    go_wp2_with (first | (go_at_call 13; refine (HM.out _).mono ?_; rintro e w' ⟨rfl, rfl⟩) | (go_at_call 17; refine (HP.out _).mono ?_; rintro e w' ⟨rfl, rfl⟩) | (go_at_call 15; refine (HG.out _).mono ?_; rintro e w' ⟨rfl, rfl⟩) | (go_at_call 21; refine (HW.out _).mono ?_; rintro e w' ⟨rfl, rfl⟩) | (go_at_call 9; refine (M.out _).mono ?_; rintro e w' ⟨rfl, rfl⟩))
    go_ret2
    exact ⟨rfl, rfl⟩

  have d0 : ((x : Int) == 0) = false := by simp; omega
  have hp := Ph.som_iff.1 (Ph.of_may hm h0).2.1
  cases hb : Ph.waits x g
  · rw [hb] at HW
    by_cases hgg : Ph.gen x = g
    rotate_left
    · have dg : (Ph.gen x == g) = false := by simp [hgg]
      have dg' : (Ph.gen x != g) = true := by simp [hgg]
      have hs : Ph.step x g p = false := by simp [Ph.step, h0, hb, hgg]
      rw [goes_no hs]
      clear hs hc M
      generalize Ph.gen x = c at *
      go_enter Try.func11, Try.ntmps11
      go_wp2_with (first | (go_at_call 13; refine (HM.out _).mono ?_; rintro e w' ⟨rfl, rfl⟩) | (go_at_call 17; refine (HP.out _).mono ?_; rintro e w' ⟨rfl, rfl⟩) | (go_at_call 15; refine (HG.out _).mono ?_; rintro e w' ⟨rfl, rfl⟩) | (go_at_call 21; refine (HW.out _).mono ?_; rintro e w' ⟨rfl, rfl⟩) | (go_at_call 9; refine (M.out _).mono ?_; rintro e w' ⟨rfl, rfl⟩))
      go_ret2
      exact ⟨rfl, rfl⟩
    rw [hgg] at HG
    by_cases f1 : Ph.ph x = 1
    · rw [f1] at HP
      by_cases k2 : p = 2
      · subst k2
        have hs : Ph.step x g 2 = true := by simp [Ph.step, Ph.within, h0, hb, hgg, f1]
        rw [goes_in hc (by decide) hs]
        generalize Ph.make g 2 = m at *
        obtain ⟨m1, m2⟩ := m
        clear hs hc
        go_enter Try.func11, Try.ntmps11
        go_wp2_with (first | (go_at_call 13; refine (HM.out _).mono ?_; rintro e w' ⟨rfl, rfl⟩) | (go_at_call 17; refine (HP.out _).mono ?_; rintro e w' ⟨rfl, rfl⟩) | (go_at_call 15; refine (HG.out _).mono ?_; rintro e w' ⟨rfl, rfl⟩) | (go_at_call 21; refine (HW.out _).mono ?_; rintro e w' ⟨rfl, rfl⟩) | (go_at_call 9; refine (M.out _).mono ?_; rintro e w' ⟨rfl, rfl⟩))
        go_ret2
        exact ⟨rfl, rfl⟩
      by_cases k3 : p = 3
      · subst k3
        have hs : Ph.step x g 3 = true := by simp [Ph.step, Ph.within, h0, hb, hgg, f1]
        rw [goes_in hc (by decide) hs]
        generalize Ph.make g 3 = m at *
        obtain ⟨m1, m2⟩ := m
        clear hs hc
        go_enter Try.func11, Try.ntmps11
        go_wp2_with (first | (go_at_call 13; refine (HM.out _).mono ?_; rintro e w' ⟨rfl, rfl⟩) | (go_at_call 17; refine (HP.out _).mono ?_; rintro e w' ⟨rfl, rfl⟩) | (go_at_call 15; refine (HG.out _).mono ?_; rintro e w' ⟨rfl, rfl⟩) | (go_at_call 21; refine (HW.out _).mono ?_; rintro e w' ⟨rfl, rfl⟩) | (go_at_call 9; refine (M.out _).mono ?_; rintro e w' ⟨rfl, rfl⟩))
        go_ret2
        exact ⟨rfl, rfl⟩
      have hs : Ph.step x g p = false := by simp [Ph.step, Ph.within, h0, hb, hgg, f1, k2, k3]
      rw [goes_no hs]
      clear hs hc M
      have d2 : (p == 2) = false := by simp [k2]
      have d3 : (p == 3) = false := by simp [k3]
      go_enter Try.func11, Try.ntmps11
      go_wp2_with (first | (go_at_call 13; refine (HM.out _).mono ?_; rintro e w' ⟨rfl, rfl⟩) | (go_at_call 17; refine (HP.out _).mono ?_; rintro e w' ⟨rfl, rfl⟩) | (go_at_call 15; refine (HG.out _).mono ?_; rintro e w' ⟨rfl, rfl⟩) | (go_at_call 21; refine (HW.out _).mono ?_; rintro e w' ⟨rfl, rfl⟩) | (go_at_call 9; refine (M.out _).mono ?_; rintro e w' ⟨rfl, rfl⟩))
      go_ret2
      exact ⟨rfl, rfl⟩
    by_cases f2 : Ph.ph x = 2
    · rw [f2] at HP
      by_cases k1 : p = 1
      · subst k1
        have hs : Ph.step x g 1 = true := by simp [Ph.step, Ph.within, h0, hb, hgg, f2]
        rw [goes_in hc (by decide) hs]
        generalize Ph.make g 1 = m at *
        obtain ⟨m1, m2⟩ := m
        clear hs hc
        go_enter Try.func11, Try.ntmps11
        go_wp2_with (first | (go_at_call 13; refine (HM.out _).mono ?_; rintro e w' ⟨rfl, rfl⟩) | (go_at_call 17; refine (HP.out _).mono ?_; rintro e w' ⟨rfl, rfl⟩) | (go_at_call 15; refine (HG.out _).mono ?_; rintro e w' ⟨rfl, rfl⟩) | (go_at_call 21; refine (HW.out _).mono ?_; rintro e w' ⟨rfl, rfl⟩) | (go_at_call 9; refine (M.out _).mono ?_; rintro e w' ⟨rfl, rfl⟩))
        go_ret2
        exact ⟨rfl, rfl⟩
      by_cases k3 : p = 3
      · subst k3
        have hs : Ph.step x g 3 = true := by simp [Ph.step, Ph.within, h0, hb, hgg, f2]
        rw [goes_in hc (by decide) hs]
        generalize Ph.make g 3 = m at *
        obtain ⟨m1, m2⟩ := m
        clear hs hc
        go_enter Try.func11, Try.ntmps11
        go_wp2_with (first | (go_at_call 13; refine (HM.out _).mono ?_; rintro e w' ⟨rfl, rfl⟩) | (go_at_call 17; refine (HP.out _).mono ?_; rintro e w' ⟨rfl, rfl⟩) | (go_at_call 15; refine (HG.out _).mono ?_; rintro e w' ⟨rfl, rfl⟩) | (go_at_call 21; refine (HW.out _).mono ?_; rintro e w' ⟨rfl, rfl⟩) | (go_at_call 9; refine (M.out _).mono ?_; rintro e w' ⟨rfl, rfl⟩))
        go_ret2
        exact ⟨rfl, rfl⟩
      by_cases k0 : p = 0
      · subst k0
        have hs : Ph.step x g 0 = true := by simp [Ph.step, Ph.within, h0, hb, hgg, f2]
        rw [goes_zero hc hs]
        clear hs hc
        go_enter Try.func11, Try.ntmps11
        go_wp2_with (first | (go_at_call 13; refine (HM.out _).mono ?_; rintro e w' ⟨rfl, rfl⟩) | (go_at_call 17; refine (HP.out _).mono ?_; rintro e w' ⟨rfl, rfl⟩) | (go_at_call 15; refine (HG.out _).mono ?_; rintro e w' ⟨rfl, rfl⟩) | (go_at_call 21; refine (HW.out _).mono ?_; rintro e w' ⟨rfl, rfl⟩) | (go_at_call 9; refine (M.out _).mono ?_; rintro e w' ⟨rfl, rfl⟩))
        go_ret2
        exact ⟨rfl, rfl⟩
      have hs : Ph.step x g p = false := by simp [Ph.step, Ph.within, h0, hb, hgg, f2, k1, k3, k0]
      rw [goes_no hs]
      clear hs hc M
      have d1 : (p == 1) = false := by simp [k1]
      have d3 : (p == 3) = false := by simp [k3]
      have d0 : (p == 0) = false := by simp [k0]
      go_enter Try.func11, Try.ntmps11
      go_wp2_with (first | (go_at_call 13; refine (HM.out _).mono ?_; rintro e w' ⟨rfl, rfl⟩) | (go_at_call 17; refine (HP.out _).mono ?_; rintro e w' ⟨rfl, rfl⟩) | (go_at_call 15; refine (HG.out _).mono ?_; rintro e w' ⟨rfl, rfl⟩) | (go_at_call 21; refine (HW.out _).mono ?_; rintro e w' ⟨rfl, rfl⟩) | (go_at_call 9; refine (M.out _).mono ?_; rintro e w' ⟨rfl, rfl⟩))
      go_ret2
      exact ⟨rfl, rfl⟩
    by_cases f3 : Ph.ph x = 3
    · rw [f3] at HP
      by_cases k1 : p = 1
      · subst k1
        have hs : Ph.step x g 1 = true := by simp [Ph.step, Ph.within, h0, hb, hgg, f3]
        rw [goes_in hc (by decide) hs]
        generalize Ph.make g 1 = m at *
        obtain ⟨m1, m2⟩ := m
        clear hs hc
        go_enter Try.func11, Try.ntmps11
        go_wp2_with (first | (go_at_call 13; refine (HM.out _).mono ?_; rintro e w' ⟨rfl, rfl⟩) | (go_at_call 17; refine (HP.out _).mono ?_; rintro e w' ⟨rfl, rfl⟩) | (go_at_call 15; refine (HG.out _).mono ?_; rintro e w' ⟨rfl, rfl⟩) | (go_at_call 21; refine (HW.out _).mono ?_; rintro e w' ⟨rfl, rfl⟩) | (go_at_call 9; refine (M.out _).mono ?_; rintro e w' ⟨rfl, rfl⟩))
        go_ret2
        exact ⟨rfl, rfl⟩
      by_cases k0 : p = 0
      · subst k0
        have hs : Ph.step x g 0 = true := by simp [Ph.step, Ph.within, h0, hb, hgg, f3]
        rw [goes_zero hc hs]
        clear hs hc
        go_enter Try.func11, Try.ntmps11
        go_wp2_with (first | (go_at_call 13; refine (HM.out _).mono ?_; rintro e w' ⟨rfl, rfl⟩) | (go_at_call 17; refine (HP.out _).mono ?_; rintro e w' ⟨rfl, rfl⟩) | (go_at_call 15; refine (HG.out _).mono ?_; rintro e w' ⟨rfl, rfl⟩) | (go_at_call 21; refine (HW.out _).mono ?_; rintro e w' ⟨rfl, rfl⟩) | (go_at_call 9; refine (M.out _).mono ?_; rintro e w' ⟨rfl, rfl⟩))
        go_ret2
        exact ⟨rfl, rfl⟩
      have hs : Ph.step x g p = false := by simp [Ph.step, Ph.within, h0, hb, hgg, f3, k1, k0]
      rw [goes_no hs]
      clear hs hc M
      have d1 : (p == 1) = false := by simp [k1]
      have d0 : (p == 0) = false := by simp [k0]
      go_enter Try.func11, Try.ntmps11
      go_wp2_with (first | (go_at_call 13; refine (HM.out _).mono ?_; rintro e w' ⟨rfl, rfl⟩) | (go_at_call 17; refine (HP.out _).mono ?_; rintro e w' ⟨rfl, rfl⟩) | (go_at_call 15; refine (HG.out _).mono ?_; rintro e w' ⟨rfl, rfl⟩) | (go_at_call 21; refine (HW.out _).mono ?_; rintro e w' ⟨rfl, rfl⟩) | (go_at_call 9; refine (M.out _).mono ?_; rintro e w' ⟨rfl, rfl⟩))
      go_ret2
      exact ⟨rfl, rfl⟩
    by_cases f4 : Ph.ph x = 4
    · rw [f4] at HP
      by_cases k5 : p = 5
      · subst k5
        have hs : Ph.step x g 5 = true := by simp [Ph.step, Ph.within, h0, hb, hgg, f4]
        rw [goes_in hc (by decide) hs]
        generalize Ph.make g 5 = m at *
        obtain ⟨m1, m2⟩ := m
        clear hs hc
        go_enter Try.func11, Try.ntmps11
        go_wp2_with (first | (go_at_call 13; refine (HM.out _).mono ?_; rintro e w' ⟨rfl, rfl⟩) | (go_at_call 17; refine (HP.out _).mono ?_; rintro e w' ⟨rfl, rfl⟩) | (go_at_call 15; refine (HG.out _).mono ?_; rintro e w' ⟨rfl, rfl⟩) | (go_at_call 21; refine (HW.out _).mono ?_; rintro e w' ⟨rfl, rfl⟩) | (go_at_call 9; refine (M.out _).mono ?_; rintro e w' ⟨rfl, rfl⟩))
        go_ret2
        exact ⟨rfl, rfl⟩
      by_cases k6 : p = 6
      · subst k6
        have hs : Ph.step x g 6 = true := by simp [Ph.step, Ph.within, h0, hb, hgg, f4]
        rw [goes_in hc (by decide) hs]
        generalize Ph.make g 6 = m at *
        obtain ⟨m1, m2⟩ := m
        clear hs hc
        go_enter Try.func11, Try.ntmps11
        go_wp2_with (first | (go_at_call 13; refine (HM.out _).mono ?_; rintro e w' ⟨rfl, rfl⟩) | (go_at_call 17; refine (HP.out _).mono ?_; rintro e w' ⟨rfl, rfl⟩) | (go_at_call 15; refine (HG.out _).mono ?_; rintro e w' ⟨rfl, rfl⟩) | (go_at_call 21; refine (HW.out _).mono ?_; rintro e w' ⟨rfl, rfl⟩) | (go_at_call 9; refine (M.out _).mono ?_; rintro e w' ⟨rfl, rfl⟩))
        go_ret2
        exact ⟨rfl, rfl⟩
      have hs : Ph.step x g p = false := by simp [Ph.step, Ph.within, h0, hb, hgg, f4, k5, k6]
      rw [goes_no hs]
      clear hs hc M
      have d5 : (p == 5) = false := by simp [k5]
      have d6 : (p == 6) = false := by simp [k6]
      go_enter Try.func11, Try.ntmps11
      go_wp2_with (first | (go_at_call 13; refine (HM.out _).mono ?_; rintro e w' ⟨rfl, rfl⟩) | (go_at_call 17; refine (HP.out _).mono ?_; rintro e w' ⟨rfl, rfl⟩) | (go_at_call 15; refine (HG.out _).mono ?_; rintro e w' ⟨rfl, rfl⟩) | (go_at_call 21; refine (HW.out _).mono ?_; rintro e w' ⟨rfl, rfl⟩) | (go_at_call 9; refine (M.out _).mono ?_; rintro e w' ⟨rfl, rfl⟩))
      go_ret2
      exact ⟨rfl, rfl⟩
    by_cases f5 : Ph.ph x = 5
    · rw [f5] at HP
      by_cases k2 : p = 2
      · subst k2
        have hs : Ph.step x g 2 = true := by simp [Ph.step, Ph.within, h0, hb, hgg, f5]
        rw [goes_in hc (by decide) hs]
        generalize Ph.make g 2 = m at *
        obtain ⟨m1, m2⟩ := m
        clear hs hc
        go_enter Try.func11, Try.ntmps11
        go_wp2_with (first | (go_at_call 13; refine (HM.out _).mono ?_; rintro e w' ⟨rfl, rfl⟩) | (go_at_call 17; refine (HP.out _).mono ?_; rintro e w' ⟨rfl, rfl⟩) | (go_at_call 15; refine (HG.out _).mono ?_; rintro e w' ⟨rfl, rfl⟩) | (go_at_call 21; refine (HW.out _).mono ?_; rintro e w' ⟨rfl, rfl⟩) | (go_at_call 9; refine (M.out _).mono ?_; rintro e w' ⟨rfl, rfl⟩))
        go_ret2
        exact ⟨rfl, rfl⟩
      have hs : Ph.step x g p = false := by simp [Ph.step, Ph.within, h0, hb, hgg, f5, k2]
      rw [goes_no hs]
      clear hs hc M
      have d2 : (p == 2) = false := by simp [k2]
      go_enter Try.func11, Try.ntmps11
      go_wp2_with (first | (go_at_call 13; refine (HM.out _).mono ?_; rintro e w' ⟨rfl, rfl⟩) | (go_at_call 17; refine (HP.out _).mono ?_; rintro e w' ⟨rfl, rfl⟩) | (go_at_call 15; refine (HG.out _).mono ?_; rintro e w' ⟨rfl, rfl⟩) | (go_at_call 21; refine (HW.out _).mono ?_; rintro e w' ⟨rfl, rfl⟩) | (go_at_call 9; refine (M.out _).mono ?_; rintro e w' ⟨rfl, rfl⟩))
      go_ret2
      exact ⟨rfl, rfl⟩
    by_cases f6 : Ph.ph x = 6
    · rw [f6] at HP
      by_cases k2 : p = 2
      · subst k2
        have hs : Ph.step x g 2 = true := by simp [Ph.step, Ph.within, h0, hb, hgg, f6]
        rw [goes_in hc (by decide) hs]
        generalize Ph.make g 2 = m at *
        obtain ⟨m1, m2⟩ := m
        clear hs hc
        go_enter Try.func11, Try.ntmps11
        go_wp2_with (first | (go_at_call 13; refine (HM.out _).mono ?_; rintro e w' ⟨rfl, rfl⟩) | (go_at_call 17; refine (HP.out _).mono ?_; rintro e w' ⟨rfl, rfl⟩) | (go_at_call 15; refine (HG.out _).mono ?_; rintro e w' ⟨rfl, rfl⟩) | (go_at_call 21; refine (HW.out _).mono ?_; rintro e w' ⟨rfl, rfl⟩) | (go_at_call 9; refine (M.out _).mono ?_; rintro e w' ⟨rfl, rfl⟩))
        go_ret2
        exact ⟨rfl, rfl⟩
      have hs : Ph.step x g p = false := by simp [Ph.step, Ph.within, h0, hb, hgg, f6, k2]
      rw [goes_no hs]
      clear hs hc M
      have d2 : (p == 2) = false := by simp [k2]
      go_enter Try.func11, Try.ntmps11
      go_wp2_with (first | (go_at_call 13; refine (HM.out _).mono ?_; rintro e w' ⟨rfl, rfl⟩) | (go_at_call 17; refine (HP.out _).mono ?_; rintro e w' ⟨rfl, rfl⟩) | (go_at_call 15; refine (HG.out _).mono ?_; rintro e w' ⟨rfl, rfl⟩) | (go_at_call 21; refine (HW.out _).mono ?_; rintro e w' ⟨rfl, rfl⟩) | (go_at_call 9; refine (M.out _).mono ?_; rintro e w' ⟨rfl, rfl⟩))
      go_ret2
      exact ⟨rfl, rfl⟩
    exfalso
    omega
  · rw [hb] at HW
    by_cases k2 : p = 2
    · subst k2
      have hs : Ph.step x g 2 = true := by simp [Ph.step, h0, hb]
      rw [goes_in hc (by decide) hs]
      generalize Ph.make g 2 = m at *
      obtain ⟨m1, m2⟩ := m
      clear hs hc
      go_enter Try.func11, Try.ntmps11
      go_wp2_with (first | (go_at_call 13; refine (HM.out _).mono ?_; rintro e w' ⟨rfl, rfl⟩) | (go_at_call 17; refine (HP.out _).mono ?_; rintro e w' ⟨rfl, rfl⟩) | (go_at_call 15; refine (HG.out _).mono ?_; rintro e w' ⟨rfl, rfl⟩) | (go_at_call 21; refine (HW.out _).mono ?_; rintro e w' ⟨rfl, rfl⟩) | (go_at_call 9; refine (M.out _).mono ?_; rintro e w' ⟨rfl, rfl⟩))
      go_ret2
      exact ⟨rfl, rfl⟩
    by_cases k4 : p = 4
    · subst k4
      have hs : Ph.step x g 4 = true := by simp [Ph.step, h0, hb]
      rw [goes_in hc (by decide) hs]
      generalize Ph.make g 4 = m at *
      obtain ⟨m1, m2⟩ := m
      clear hs hc
      go_enter Try.func11, Try.ntmps11
      go_wp2_with (first | (go_at_call 13; refine (HM.out _).mono ?_; rintro e w' ⟨rfl, rfl⟩) | (go_at_call 17; refine (HP.out _).mono ?_; rintro e w' ⟨rfl, rfl⟩) | (go_at_call 15; refine (HG.out _).mono ?_; rintro e w' ⟨rfl, rfl⟩) | (go_at_call 21; refine (HW.out _).mono ?_; rintro e w' ⟨rfl, rfl⟩) | (go_at_call 9; refine (M.out _).mono ?_; rintro e w' ⟨rfl, rfl⟩))
      go_ret2
      exact ⟨rfl, rfl⟩
    have hs : Ph.step x g p = false := by simp [Ph.step, h0, hb, k2, k4]
    rw [goes_no hs]
    clear hs hc M
    have d2 : (p == 2) = false := by simp [k2]
    have d4 : (p == 4) = false := by simp [k4]
    go_enter Try.func11, Try.ntmps11
    go_wp2_with (first | (go_at_call 13; refine (HM.out _).mono ?_; rintro e w' ⟨rfl, rfl⟩) | (go_at_call 17; refine (HP.out _).mono ?_; rintro e w' ⟨rfl, rfl⟩) | (go_at_call 15; refine (HG.out _).mono ?_; rintro e w' ⟨rfl, rfl⟩) | (go_at_call 21; refine (HW.out _).mono ?_; rintro e w' ⟨rfl, rfl⟩) | (go_at_call 9; refine (M.out _).mono ?_; rintro e w' ⟨rfl, rfl⟩))
    go_ret2
    exact ⟨rfl, rfl⟩

/-! ### awake -/

theorem awakeP (w : World) : Calls Try.prog 22 #[] w fun e w' => e = .returned (.bool true) ∧ ∃ q, w' = w.drewN q := by
  have M := hide (fun w => makeP 3 1 w)
  have G := hide (fun w => goesP 25 (by omega) 4 4 w)
  have e1 : Ph.make 3 1 = (25, true) := by decide
  have e2 : Ph.goes 25 4 4 = (36, true) := by decide
  rw [e1] at M
  rw [e2] at G
  go_enter Try.func22, Try.ntmps22
  go_wp2_with (first | (go_at_call 8; refine (M.out _).mono ?_; rintro e w' ⟨rfl, rfl⟩) | (go_at_call 10; refine (G.out _).mono ?_; rintro e w' ⟨rfl, q, rfl⟩))
  go_ret
  exact ⟨rfl, _, rfl⟩

end Go.Proofs.Ytdhjingcnnkbiaa
