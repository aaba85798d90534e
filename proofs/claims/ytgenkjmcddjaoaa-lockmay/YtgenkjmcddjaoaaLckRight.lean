/- What a take, a leave, of the document may be made of. -/
import Derived.Test.YtgenkjmcddjaoaaDocMay
import Derived.Test.YtgenkjmcddjaoaaLK
namespace Go.Proofs.Ytgenkjmcddjaoaa
open Go.RowKit

set_option maxRecDepth 100000 in
set_option maxHeartbeats 2000000 in
theorem rightTake (P T t : Int) (w : World) :
    Calls Try.prog 30 #[.agg (mIn 3 P T t 0 0 0 0 0 0 0 0 false (.slice none 0 0))] w fun e w' => e = .returned (.bool (mayTake P T t)) ∧ Below w.heap.size w w' := by
  unfold mayTake
  cases hm : Lay.may P T
  · exact rightOut 3 P T t 0 0 0 0 0 0 0 0 false (.slice none 0 0) hm w
  · have M := hide (fun w => rlmay P T w)
    rw [hm] at M
    obtain ⟨m1, m2, m3, m4⟩ := Lay.may_iff.1 hm
    have d2 : decide ((0 : Int) < P) = true := by simp; omega
    clear hm m1 m2 m3 m4
    rw [Bool.true_and]
    by_cases h0 : 0 ≤ t
    · have e0 : decide (0 ≤ t) = true := by simpa using h0
      have e0' : decide (t ≥ 0) = true := by simpa using h0
      rw [e0, Bool.true_and]
      by_cases h1 : t < T
      · have e1 : decide (t < T) = true := by simpa using h1
        rw [e1]
        clear h0 h1
        have B0 := MBx.new w 3 P T t 0 0 0 0 0 0 0 0 false (.slice none 0 0)
        have c0 := B0.c0
        have c1 := B0.c1
        have c2 := B0.c2
        unfold mIn at *
        go_enter Try.func30, Try.ntmps30
        go_wp2_with fail
        refine (M.out _).mono ?_
        rintro e w1 ⟨rfl, hb⟩
        have B1 := MBx.grow (by assumption) hb
        clear c0 c1 c2
        have c0 := B1.c0
        have c1 := B1.c1
        have c2 := B1.c2
        have c3 := B1.c3
        have c4 := B1.c4
        have c6 := B1.c6
        have c7 := B1.c7
        have c10 := B1.c10
        go_wp2
        go_ret
        exact ⟨rfl, B1.below⟩
      · have e1 : decide (t < T) = false := by simpa using h1
        rw [e1]
        clear h0 h1
        have B0 := MBx.new w 3 P T t 0 0 0 0 0 0 0 0 false (.slice none 0 0)
        have c0 := B0.c0
        have c1 := B0.c1
        have c2 := B0.c2
        unfold mIn at *
        go_enter Try.func30, Try.ntmps30
        go_wp2_with fail
        refine (M.out _).mono ?_
        rintro e w1 ⟨rfl, hb⟩
        have B1 := MBx.grow (by assumption) hb
        clear c0 c1 c2
        have c0 := B1.c0
        have c1 := B1.c1
        have c2 := B1.c2
        have c3 := B1.c3
        have c4 := B1.c4
        have c6 := B1.c6
        have c7 := B1.c7
        have c10 := B1.c10
        go_wp2
        go_ret
        exact ⟨rfl, B1.below⟩
    · have e0 : decide (0 ≤ t) = false := by simpa using h0
      have e0' : decide (t ≥ 0) = false := by simpa using h0
      rw [e0, Bool.false_and]
      clear h0
      have B0 := MBx.new w 3 P T t 0 0 0 0 0 0 0 0 false (.slice none 0 0)
      have c0 := B0.c0
      have c1 := B0.c1
      have c2 := B0.c2
      unfold mIn at *
      go_enter Try.func30, Try.ntmps30
      go_wp2_with fail
      refine (M.out _).mono ?_
      rintro e w1 ⟨rfl, hb⟩
      have B1 := MBx.grow (by assumption) hb
      clear c0 c1 c2
      have c0 := B1.c0
      have c1 := B1.c1
      have c2 := B1.c2
      have c3 := B1.c3
      have c4 := B1.c4
      have c6 := B1.c6
      have c7 := B1.c7
      have c10 := B1.c10
      go_wp2
      go_ret
      exact ⟨rfl, B1.below⟩
set_option maxRecDepth 100000 in
set_option maxHeartbeats 2000000 in
theorem rightLeave (P T : Int) (w : World) :
    Calls Try.prog 30 #[.agg (mIn 4 P T 0 0 0 0 0 0 0 0 0 false (.slice none 0 0))] w fun e w' => e = .returned (.bool (Lay.may P T)) ∧ Below w.heap.size w w' := by
  cases hm : Lay.may P T
  · exact rightOut 4 P T 0 0 0 0 0 0 0 0 0 false (.slice none 0 0) hm w
  · have M := hide (fun w => rlmay P T w)
    rw [hm] at M
    obtain ⟨m1, m2, m3, m4⟩ := Lay.may_iff.1 hm
    have d2 : decide ((0 : Int) < P) = true := by simp; omega
    have d1 : decide ((0 : Int) < T) = true := by simp; omega
    clear hm m1 m2 m3 m4
    have B0 := MBx.new w 4 P T 0 0 0 0 0 0 0 0 0 false (.slice none 0 0)
    have c0 := B0.c0
    have c1 := B0.c1
    have c2 := B0.c2
    unfold mIn at *
    go_enter Try.func30, Try.ntmps30
    go_wp2_with fail
    refine (M.out _).mono ?_
    rintro e w1 ⟨rfl, hb⟩
    have B1 := MBx.grow (by assumption) hb
    clear c0 c1 c2
    have c0 := B1.c0
    have c1 := B1.c1
    have c2 := B1.c2
    have c3 := B1.c3
    have c4 := B1.c4
    have c6 := B1.c6
    have c7 := B1.c7
    have c10 := B1.c10
    go_wp2
    go_ret
    exact ⟨rfl, B1.below⟩
end Go.Proofs.Ytgenkjmcddjaoaa
