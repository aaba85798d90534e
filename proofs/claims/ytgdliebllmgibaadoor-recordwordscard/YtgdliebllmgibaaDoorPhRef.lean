/- What the functions of package dustpanref6 answer of states, each at every argument, and the examples. -/
import Derived.Test.YtgdliebllmgibaaDoorPhCalls
namespace Go.Proofs.YtgdliebllmgibaaDoor
open Go.RowKit

theorem tmod8 (x : Nat) : (x : Int).tmod 8 = ((Ph.low x : Nat) : Int) := by
  rw [Int.tmod_eq_emod_of_nonneg (by omega)]
  unfold Ph.low
  omega
theorem emod8 (x : Nat) : (x : Int) % 8 = ((Ph.low x : Nat) : Int) := by
  unfold Ph.low
  omega
theorem ediv8 (x : Nat) : (x : Int) / 8 = ((Ph.abv x : Nat) : Int) := by
  unfold Ph.abv
  omega

theorem rmay (x : Nat) (hx : x < 18446744073709551616) (w : World) :
    Calls Tryd.prog 78 #[.int .u64 x] w fun e w' => e = .returned (.bool (Ph.may x)) ∧ w' = w := by
  by_cases h0 : x = 0
  · subst h0
    go_enter Tryd.func78, Tryd.ntmps78
    go_wp2
    go_ret
    exact ⟨rfl, rfl⟩
  have d0 : ((x : Int) == 0) = false := by simp; omega
  have e0 : Ph.may x = (Ph.cyc (Ph.abv x : Nat) && Ph.som (Ph.low x : Nat)) := by simp [Ph.may, h0]
  rw [e0]
  have ed := ediv8 x
  have em := emod8 x
  unfold Ph.cyc Ph.som
  generalize Ph.abv x = a at *
  generalize Ph.low x = b at *
  have HM : Hid ((x : Int).tmod 8 = (b : Int)) := (Int.tmod_eq_emod_of_nonneg (by omega)).trans em
  by_cases h1 : 1 ≤ a
  · have d1 : decide (1 ≤ (a : Int)) = true := by simp; omega
    rw [d1, Bool.true_and]
    by_cases h2 : a ≤ 2147483648
    · have d2 : decide ((a : Int) ≤ 2147483648) = true := by simp; omega
      rw [d2, Bool.true_and]
      by_cases h3 : 1 ≤ b
      · have d3 : decide (1 ≤ (b : Int)) = true := by simp; omega
        rw [d3, Bool.true_and]
        by_cases h4 : b ≤ 6
        · have d4 : decide ((b : Int) ≤ 6) = true := by simp; omega
          rw [d4]
          go_enter Tryd.func78, Tryd.ntmps78
          go_wp2
          go_ret
          exact ⟨rfl, rfl⟩
        · have d4 : decide ((b : Int) ≤ 6) = false := by simp; omega
          rw [d4]
          go_enter Tryd.func78, Tryd.ntmps78
          go_wp2
          go_ret
          exact ⟨rfl, rfl⟩
      · have d3 : decide (1 ≤ (b : Int)) = false := by simp; omega
        rw [d3, Bool.false_and]
        go_enter Tryd.func78, Tryd.ntmps78
        go_wp2
        go_ret
        exact ⟨rfl, rfl⟩
    · have d2 : decide ((a : Int) ≤ 2147483648) = false := by simp; omega
      rw [d2, Bool.false_and]
      go_enter Tryd.func78, Tryd.ntmps78
      go_wp2
      go_ret
      exact ⟨rfl, rfl⟩
  · have d1 : decide (1 ≤ (a : Int)) = false := by simp; omega
    rw [d1, Bool.false_and, Bool.false_and]
    go_enter Tryd.func78, Tryd.ntmps78
    go_wp2
    go_ret
    exact ⟨rfl, rfl⟩

theorem rgen (x : Nat) (hx : x < 18446744073709551616) (w : World) :
    Calls Tryd.prog 48 #[.int .u64 x] w fun e w' => e = .returned (.int .i64 (Ph.gen x)) ∧ w' = w := by
  have HM := hide (fun w => rmay x hx w)
  have ee := ediv8 x
  have hl := Ph.abv_lt x hx
  unfold Ph.gen
  generalize Ph.may x = m at *
  generalize Ph.abv x = y at *
  cases m
  · go_enter Tryd.func48, Tryd.ntmps48
    go_wp2_with (go_at_call 78; refine (HM.out _).mono ?_; rintro e w' ⟨rfl, rfl⟩)
    go_ret
    exact ⟨rfl, rfl⟩
  · go_enter Tryd.func48, Tryd.ntmps48
    go_wp2_with (go_at_call 78; refine (HM.out _).mono ?_; rintro e w' ⟨rfl, rfl⟩)
    go_ret
    exact ⟨ret_int (by first | rfl | omega), rfl⟩

theorem rph (x : Nat) (hx : x < 18446744073709551616) (w : World) :
    Calls Tryd.prog 49 #[.int .u64 x] w fun e w' => e = .returned (.int .i64 (Ph.ph x)) ∧ w' = w := by
  have HM := hide (fun w => rmay x hx w)
  have HT : Hid ((x : Int).tmod 8 = ((Ph.low x : Nat) : Int)) := tmod8 x
  have ee := emod8 x
  have hl := Ph.low_lt x
  unfold Ph.ph
  generalize Ph.may x = m at *
  generalize Ph.low x = y at *
  cases m
  · go_enter Tryd.func49, Tryd.ntmps49
    go_wp2_with (go_at_call 78; refine (HM.out _).mono ?_; rintro e w' ⟨rfl, rfl⟩)
    go_ret
    exact ⟨rfl, rfl⟩
  · go_enter Tryd.func49, Tryd.ntmps49
    go_wp2_with (go_at_call 78; refine (HM.out _).mono ?_; rintro e w' ⟨rfl, rfl⟩)
    go_ret
    exact ⟨ret_int (by first | rfl | omega), rfl⟩

theorem goes_no {x : Nat} {g p : Int} (h : Ph.step x g p = false) : Ph.goes x g p = (0, false) := by unfold Ph.goes; rw [h, Bool.and_false]; rfl
theorem goes_none {x : Nat} {g p : Int} (h : Ph.cyc g = false) : Ph.goes x g p = (0, false) := by unfold Ph.goes; rw [h]; rfl
theorem goes_zero {x : Nat} {g : Int} (hc : Ph.cyc g = true) (h : Ph.step x g 0 = true) : Ph.goes x g 0 = (0, true) := by unfold Ph.goes; rw [hc, h]; rfl
theorem goes_in {x : Nat} {g p : Int} (hc : Ph.cyc g = true) (h0 : p ≠ 0) (h : Ph.step x g p = true) : Ph.goes x g p = Ph.make g p := by unfold Ph.goes; rw [hc, h, if_neg h0]; rfl

/-! ### awake -/

end Go.Proofs.YtgdliebllmgibaaDoor
