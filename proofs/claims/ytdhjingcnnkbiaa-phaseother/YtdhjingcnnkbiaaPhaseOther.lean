/- Of another cycle nothing goes on, but what waits, and what is none; of no cycle nothing does: the law PhaseOther answers true at every input, and its arguments read behind the call as they read before. -/
import Derived.Test.YtdhjingcnnkbiaaPhOk
import Derived.Test.YtdhjingcnnkbiaaPhMath
namespace Go.Proofs.Ytdhjingcnnkbiaa.phaseOther
open Go.ChangeShapes Go.WideShapes Go.ChangeAt Go.RowKit

set_option maxHeartbeats 2000000 in
theorem no (x : Nat) (g p : Int) (HX : Hid (x < 18446744073709551616)) (HN : Hid (Ph.goes x g p = (0, false))) (w : World) (hok : PhOk w w) :
    Calls Try.prog 7 #[.int .u64 x, .int .i64 g, .int .i64 p] w fun e w' => e = .returned (.bool true) ∧ PhOk w w' := by
  go_enter Try.func7, Try.ntmps7
  go_wp2_with (first | (go_at_call 10; refine (goesOk x HX.out g p 0 false HN.out (by assumption)).mono ?_; rintro e w1 ⟨rfl, hok⟩) | (go_at_call 22; refine (awakeOk7 (by assumption)).mono ?_; rintro e w1 ⟨rfl, hok⟩))
  go_ret
  exact ⟨rfl, by assumption⟩


set_option maxHeartbeats 2000000 in
theorem yesZ0 (x : Nat) (g p : Int) (c : Nat) (HX : Hid (x < 18446744073709551616)) (g1 : 1 ≤ g) (g2 : g ≤ 2147483648) (HN : Hid (Ph.goes x g p = (c, true))) (HB : Hid (Ph.may x = true)) (HC : Hid (c < 18446744073709551616)) (HQ : Hid (Ph.ph c = p)) (hx0 : ((x : Int) == 0) = true) (hc0 : ((c : Int) == 0) = true) (w : World) (hok : PhOk w w) :
    Calls Try.prog 7 #[.int .u64 x, .int .i64 g, .int .i64 p] w fun e w' => e = .returned (.bool true) ∧ PhOk w w' := by
  go_enter Try.func7, Try.ntmps7
  go_wp2_with fail
  refine (goesOk x HX.out g p c true HN.out hok).mono ?_
  rintro e w1 ⟨rfl, hok1⟩
  go_wp2_with fail
  refine (mayOk x HX.out true HB.out hok1).mono ?_
  rintro e w2 ⟨rfl, hok2⟩
  go_wp2_with fail
  refine (phOk c HC.out p HQ.out hok2).mono ?_
  rintro e w3 ⟨rfl, hok3⟩
  go_wp2_with fail
  refine (awakeOk7 hok3).mono ?_
  rintro e w4 ⟨rfl, hok4⟩
  go_wp2
  go_ret
  exact ⟨rfl, hok4⟩


set_option maxHeartbeats 2000000 in
theorem yesZ1 (x : Nat) (g p : Int) (c : Nat) (HX : Hid (x < 18446744073709551616)) (g1 : 1 ≤ g) (g2 : g ≤ 2147483648) (HN : Hid (Ph.goes x g p = (c, true))) (HB : Hid (Ph.may x = true)) (HC : Hid (c < 18446744073709551616)) (HQ : Hid (Ph.ph c = p)) (hx0 : ((x : Int) == 0) = true) (hc0 : ((c : Int) == 0) = false) (HD : Hid (Ph.gen c = g)) (w : World) (hok : PhOk w w) :
    Calls Try.prog 7 #[.int .u64 x, .int .i64 g, .int .i64 p] w fun e w' => e = .returned (.bool true) ∧ PhOk w w' := by
  go_enter Try.func7, Try.ntmps7
  go_wp2_with fail
  refine (goesOk x HX.out g p c true HN.out hok).mono ?_
  rintro e w1 ⟨rfl, hok1⟩
  go_wp2_with fail
  refine (mayOk x HX.out true HB.out hok1).mono ?_
  rintro e w2 ⟨rfl, hok2⟩
  go_wp2_with fail
  refine (genOk c HC.out g HD.out hok2).mono ?_
  rintro e w3 ⟨rfl, hok3⟩
  go_wp2_with fail
  refine (phOk c HC.out p HQ.out hok3).mono ?_
  rintro e w4 ⟨rfl, hok4⟩
  go_wp2_with fail
  refine (awakeOk7 hok4).mono ?_
  rintro e w5 ⟨rfl, hok5⟩
  go_wp2
  go_ret
  exact ⟨rfl, hok5⟩


set_option maxHeartbeats 2000000 in
theorem yesG0 (x : Nat) (g p : Int) (c : Nat) (HX : Hid (x < 18446744073709551616)) (g1 : 1 ≤ g) (g2 : g ≤ 2147483648) (HN : Hid (Ph.goes x g p = (c, true))) (HB : Hid (Ph.may x = true)) (HC : Hid (c < 18446744073709551616)) (HQ : Hid (Ph.ph c = p)) (hx0 : ((x : Int) == 0) = false) (HG : Hid (Ph.gen x = g)) (hc0 : ((c : Int) == 0) = true) (w : World) (hok : PhOk w w) :
    Calls Try.prog 7 #[.int .u64 x, .int .i64 g, .int .i64 p] w fun e w' => e = .returned (.bool true) ∧ PhOk w w' := by
  go_enter Try.func7, Try.ntmps7
  go_wp2_with fail
  refine (goesOk x HX.out g p c true HN.out hok).mono ?_
  rintro e w1 ⟨rfl, hok1⟩
  go_wp2_with fail
  refine (mayOk x HX.out true HB.out hok1).mono ?_
  rintro e w2 ⟨rfl, hok2⟩
  go_wp2_with fail
  refine (genOk x HX.out g HG.out hok2).mono ?_
  rintro e w3 ⟨rfl, hok3⟩
  go_wp2_with fail
  refine (phOk c HC.out p HQ.out hok3).mono ?_
  rintro e w4 ⟨rfl, hok4⟩
  go_wp2_with fail
  refine (awakeOk7 hok4).mono ?_
  rintro e w5 ⟨rfl, hok5⟩
  go_wp2
  go_ret
  exact ⟨rfl, hok5⟩


set_option maxHeartbeats 2000000 in
theorem yesG1 (x : Nat) (g p : Int) (c : Nat) (HX : Hid (x < 18446744073709551616)) (g1 : 1 ≤ g) (g2 : g ≤ 2147483648) (HN : Hid (Ph.goes x g p = (c, true))) (HB : Hid (Ph.may x = true)) (HC : Hid (c < 18446744073709551616)) (HQ : Hid (Ph.ph c = p)) (hx0 : ((x : Int) == 0) = false) (HG : Hid (Ph.gen x = g)) (hc0 : ((c : Int) == 0) = false) (HD : Hid (Ph.gen c = g)) (w : World) (hok : PhOk w w) :
    Calls Try.prog 7 #[.int .u64 x, .int .i64 g, .int .i64 p] w fun e w' => e = .returned (.bool true) ∧ PhOk w w' := by
  go_enter Try.func7, Try.ntmps7
  go_wp2_with fail
  refine (goesOk x HX.out g p c true HN.out hok).mono ?_
  rintro e w1 ⟨rfl, hok1⟩
  go_wp2_with fail
  refine (mayOk x HX.out true HB.out hok1).mono ?_
  rintro e w2 ⟨rfl, hok2⟩
  go_wp2_with fail
  refine (genOk x HX.out g HG.out hok2).mono ?_
  rintro e w3 ⟨rfl, hok3⟩
  go_wp2_with fail
  refine (genOk c HC.out g HD.out hok3).mono ?_
  rintro e w4 ⟨rfl, hok4⟩
  go_wp2_with fail
  refine (phOk c HC.out p HQ.out hok4).mono ?_
  rintro e w5 ⟨rfl, hok5⟩
  go_wp2_with fail
  refine (awakeOk7 hok5).mono ?_
  rintro e w6 ⟨rfl, hok6⟩
  go_wp2
  go_ret
  exact ⟨rfl, hok6⟩


set_option maxHeartbeats 2000000 in
theorem yesW0 (x : Nat) (g p : Int) (c : Nat) (HX : Hid (x < 18446744073709551616)) (g1 : 1 ≤ g) (g2 : g ≤ 2147483648) (HN : Hid (Ph.goes x g p = (c, true))) (HB : Hid (Ph.may x = true)) (HC : Hid (c < 18446744073709551616)) (HQ : Hid (Ph.ph c = p)) (hx0 : ((x : Int) == 0) = false) (y : Int) (hy : (y == g) = false) (HG : Hid (Ph.gen x = y)) (HW : Hid (Ph.waits x g = true)) (hc0 : ((c : Int) == 0) = true) (w : World) (hok : PhOk w w) :
    Calls Try.prog 7 #[.int .u64 x, .int .i64 g, .int .i64 p] w fun e w' => e = .returned (.bool true) ∧ PhOk w w' := by
  go_enter Try.func7, Try.ntmps7
  go_wp2_with fail
  refine (goesOk x HX.out g p c true HN.out hok).mono ?_
  rintro e w1 ⟨rfl, hok1⟩
  go_wp2_with fail
  refine (mayOk x HX.out true HB.out hok1).mono ?_
  rintro e w2 ⟨rfl, hok2⟩
  go_wp2_with fail
  refine (genOk x HX.out y HG.out hok2).mono ?_
  rintro e w3 ⟨rfl, hok3⟩
  go_wp2_with fail
  refine (waitsOk x HX.out g true HW.out hok3).mono ?_
  rintro e w4 ⟨rfl, hok4⟩
  go_wp2_with fail
  refine (phOk c HC.out p HQ.out hok4).mono ?_
  rintro e w5 ⟨rfl, hok5⟩
  go_wp2_with fail
  refine (awakeOk7 hok5).mono ?_
  rintro e w6 ⟨rfl, hok6⟩
  go_wp2
  go_ret
  exact ⟨rfl, hok6⟩


set_option maxHeartbeats 2000000 in
theorem yesW1 (x : Nat) (g p : Int) (c : Nat) (HX : Hid (x < 18446744073709551616)) (g1 : 1 ≤ g) (g2 : g ≤ 2147483648) (HN : Hid (Ph.goes x g p = (c, true))) (HB : Hid (Ph.may x = true)) (HC : Hid (c < 18446744073709551616)) (HQ : Hid (Ph.ph c = p)) (hx0 : ((x : Int) == 0) = false) (y : Int) (hy : (y == g) = false) (HG : Hid (Ph.gen x = y)) (HW : Hid (Ph.waits x g = true)) (hc0 : ((c : Int) == 0) = false) (HD : Hid (Ph.gen c = g)) (w : World) (hok : PhOk w w) :
    Calls Try.prog 7 #[.int .u64 x, .int .i64 g, .int .i64 p] w fun e w' => e = .returned (.bool true) ∧ PhOk w w' := by
  go_enter Try.func7, Try.ntmps7
  go_wp2_with fail
  refine (goesOk x HX.out g p c true HN.out hok).mono ?_
  rintro e w1 ⟨rfl, hok1⟩
  go_wp2_with fail
  refine (mayOk x HX.out true HB.out hok1).mono ?_
  rintro e w2 ⟨rfl, hok2⟩
  go_wp2_with fail
  refine (genOk x HX.out y HG.out hok2).mono ?_
  rintro e w3 ⟨rfl, hok3⟩
  go_wp2_with fail
  refine (waitsOk x HX.out g true HW.out hok3).mono ?_
  rintro e w4 ⟨rfl, hok4⟩
  go_wp2_with fail
  refine (genOk c HC.out g HD.out hok4).mono ?_
  rintro e w5 ⟨rfl, hok5⟩
  go_wp2_with fail
  refine (phOk c HC.out p HQ.out hok5).mono ?_
  rintro e w6 ⟨rfl, hok6⟩
  go_wp2_with fail
  refine (awakeOk7 hok6).mono ?_
  rintro e w7 ⟨rfl, hok7⟩
  go_wp2
  go_ret
  exact ⟨rfl, hok7⟩


theorem walk (x : Nat) (hx : x < 18446744073709551616) (g : Int) (_hg : -9223372036854775808 ≤ g ∧ g ≤ 9223372036854775807) (p : Int) (_hp : -9223372036854775808 ≤ p ∧ p ≤ 9223372036854775807) (w : World) :
    Calls Try.prog 7 #[.int .u64 x, .int .i64 g, .int .i64 p] w fun e w' => e = .returned (.bool true) ∧ Below w.heap.size w w' := by
  refine Calls.mono (R := fun e w' => e = .returned (.bool true) ∧ PhOk w w') ?_ fun _ _ ⟨he, hb⟩ => ⟨he, hb.below⟩
  have HX := hide hx
  obtain ⟨c, d, h⟩ : ∃ c d, Ph.goes x g p = (c, d) := ⟨_, _, rfl⟩
  cases d
  · have e := Ph.goes_false h
    subst e
    exact no x g p HX (hide h) w (.start w)
  obtain ⟨hc, hm, hs, ht⟩ := Ph.goes_true h
  obtain ⟨g1, g2⟩ := Ph.cyc_iff.1 hc
  have HN := hide h
  have HB := hide hm
  by_cases x0 : x = 0
  · have z : ((x : Int) == 0) = true := by simp [x0]
    rcases ht with ⟨c0, p0⟩ | ⟨c0, ec, hp⟩
    · exact yesZ0 x g p c HX g1 g2 HN HB (hide (by rw [c0]; decide)) (hide (by rw [c0, p0]; decide)) z (by simp [c0]) w (.start w)
    · exact yesZ1 x g p c HX g1 g2 HN HB (hide (by rw [ec]; exact Ph.state_lt hc hp)) (hide (by rw [ec]; exact Ph.state_ph hc hp)) z (by simp; omega) (hide (by rw [ec]; exact Ph.state_gen hc hp)) w (.start w)
  have z : ((x : Int) == 0) = false := by simp; omega
  by_cases hg : Ph.gen x = g
  · rcases ht with ⟨c0, p0⟩ | ⟨c0, ec, hp⟩
    · exact yesG0 x g p c HX g1 g2 HN HB (hide (by rw [c0]; decide)) (hide (by rw [c0, p0]; decide)) z (hide hg) (by simp [c0]) w (.start w)
    · exact yesG1 x g p c HX g1 g2 HN HB (hide (by rw [ec]; exact Ph.state_lt hc hp)) (hide (by rw [ec]; exact Ph.state_ph hc hp)) z (hide hg) (by simp; omega) (hide (by rw [ec]; exact Ph.state_gen hc hp)) w (.start w)
  have hw : Ph.waits x g = true := by
    rcases hs with h | h | h
    · exact absurd h x0
    · exact absurd h hg
    · exact h
  rcases ht with ⟨c0, p0⟩ | ⟨c0, ec, hp⟩
  · exact yesW0 x g p c HX g1 g2 HN HB (hide (by rw [c0]; decide)) (hide (by rw [c0, p0]; decide)) z _ (by simp [hg]) (hide rfl) (hide hw) (by simp [c0]) w (.start w)
  · exact yesW1 x g p c HX g1 g2 HN HB (hide (by rw [ec]; exact Ph.state_lt hc hp)) (hide (by rw [ec]; exact Ph.state_ph hc hp)) z _ (by simp [hg]) (hide rfl) (hide hw) (by simp; omega) (hide (by rw [ec]; exact Ph.state_gen hc hp)) w (.start w)

set_option maxRecDepth 100000 in
theorem lifted (os : Os) (started : os.Started) (H : Type) (enc : TypeId × Value → H) :
    ReturnsInHanded {} Try.checked os 7 .any (Rows.phaseOtherSpec.pre6 enc Try.prog Try.f7 Rows.phaseOtherRow.domain false) (Rows.phaseOtherSpec.post enc Try.prog Try.f7 false true false false) := by
  refine returnsInHanded_of_change (C := Try.checked) own started (by kernel_rfl) Try.func7
    (ChangeSpec.witness6 (enc := enc) (C := Try.checked) false ⟨#[], #[.int .u64 0, .int .i64 0, .int .i64 0], []⟩ 8 (by kernel_rfl) (by kernel_rfl) (by kernel_rfl) (by kernel_rfl)) ?_
  intro W base args ds gs before hval0 hW _ _
  have hval : ∀ (j : Nat) t v, Try.f7.params[j]? = some t → args[j]? = some v → Value.okWide Try.prog W .any base t v := hval0
  have hW' := hW
  obtain ⟨p, q, hA0, hV, rfl, hfz, hnd⟩ := hW
  have hA : DataW.TrodAll enc Try.prog W 0 (fun _ => true) true Try.f7.params.toList args.toList ds p := hA0
  rw [Try.params7] at hA hval
  obtain ⟨v0, vs0, d0, ds0, p0, q0, hargs, rfl, rfl, h0, r0⟩ := trodAll_cons hA
  obtain ⟨v1, vs1, d1, ds1, p1, q1, rfl, rfl, rfl, h1, r1⟩ := trodAll_cons r0
  obtain ⟨v2, vs2, d2, ds2, p2, q2, rfl, rfl, rfl, h2, r2⟩ := trodAll_cons r1
  obtain ⟨rfl, rfl, rfl⟩ := trodAll_nil r2
  obtain rfl : args = #[v0, v1, v2] := by cases args; simp_all
  obtain ⟨rfl, rfl⟩ := trodVars_none hV
  obtain ⟨a0, rfl, rfl, rfl, w0⟩ := open_int Try.underlying22 (hval 0 22 v0 rfl rfl) h0
  obtain ⟨a1, rfl, rfl, rfl, w1⟩ := open_int Try.underlying3 (hval 1 3 v1 rfl rfl) h1
  obtain ⟨a2, rfl, rfl, rfl, w2⟩ := open_int Try.underlying3 (hval 2 3 v2 rfl rfl) h2
  clear hA0 hval0
  obtain ⟨x0, hx0, rfl⟩ := u64_nat w0
  have hx1 := i64_bd w1
  have hx2 := i64_bd w2
  refine (walk x0 hx0 a1 hx1 a2 hx2 W).mono fun e W' ⟨he, bel⟩ => ?_
  subst he
  exact ⟨_, rfl, _, _, _, [], _, [], hW', trodAll_mk1 (shut_bool Try.underlying4 _), (trodAll_cons_mk (shut_int Try.underlying22 w0) (trodAll_cons_mk (shut_int Try.underlying3 w1) (trodAll_cons_mk (shut_int Try.underlying3 w2) trodAll_mk0))), rfl, bel.frame _, fun h => by cases h⟩

end Go.Proofs.Ytdhjingcnnkbiaa.phaseOther
namespace Go.Proofs.Ytdhjingcnnkbiaa

theorem phaseOther_holds : Rows.PhaseOtherSaid :=
  OpenClaim.holds_of_wide 7 Try.f7 rfl rfl rfl rfl rfl rfl rfl ⟨rfl, rfl, rfl, rfl, rfl⟩ rfl rfl rfl rfl rfl (by kernel_rfl) Try.func7 (by kernel_rfl)
    (of_decide_eq_true (by kernel_rfl)) (by unfold Func.isWrapper; first | (rw [if_pos (by decide +kernel)]; kernel_rfl) | (rw [if_neg (by decide +kernel)]; exact ⟨rfl, rfl⟩))
    (fun os started H enc _ => phaseOther.lifted os started H enc)
end Go.Proofs.Ytdhjingcnnkbiaa
