/- What waits becomes held, or swept beside, and nothing else; from there it is not swept again in that cycle: the law PhaseOnce answers true at every input, and its arguments read behind the call as they read before. -/
import Derived.Test.YtdhjingcnnkbiaaPhOk
import Derived.Test.YtdhjingcnnkbiaaPhMath
namespace Go.Proofs.Ytdhjingcnnkbiaa.phaseOnce
open Go.ChangeShapes Go.WideShapes Go.ChangeAt Go.RowKit

set_option maxHeartbeats 2000000 in
theorem held (x : Nat) (hx : x < 65536) (y : Nat) (hy : y < 256) (a : Nat) (g p : Int) (eg : 2 + (x : Int) = g) (ep : (y : Int) % 8 = p) (HA : Hid (a < 18446744073709551616)) (HM : Hid (Ph.make (g - 1) 1 = (a, true))) (h2 : (p == 2) = true) (c : Nat) (HC : Hid (c < 18446744073709551616)) (HN : Hid (Ph.goes a g p = (c, true))) (HO : Hid (Ph.goes c g 4 = (0, false))) (w : World) (hok : PhOk w w) :
    Calls Try.prog 6 #[.int .u16 x, .int .u8 y] w fun e w' => e = .returned (.bool true) ∧ PhOk w w' := by
  go_enter Try.func6, Try.ntmps6
  go_wp2_with fail
  refine (makeOk (g - 1) 1 a true HM.out hok).mono ?_
  rintro e w1 ⟨rfl, hok1⟩
  go_wp2_with fail
  refine (goesOk a HA.out g p c true HN.out hok1).mono ?_
  rintro e w2 ⟨rfl, hok2⟩
  go_wp2_with fail
  refine (goesOk c HC.out g 4 0 false HO.out hok2).mono ?_
  rintro e w3 ⟨rfl, hok3⟩
  go_wp2_with fail
  refine (awakeOk7 hok3).mono ?_
  rintro e w4 ⟨rfl, hok4⟩
  go_wp2
  go_ret
  exact ⟨rfl, hok4⟩


set_option maxHeartbeats 2000000 in
theorem swept (x : Nat) (hx : x < 65536) (y : Nat) (hy : y < 256) (a : Nat) (g p : Int) (eg : 2 + (x : Int) = g) (ep : (y : Int) % 8 = p) (HA : Hid (a < 18446744073709551616)) (HM : Hid (Ph.make (g - 1) 1 = (a, true))) (h2 : (p == 2) = false) (h4 : (p == 4) = true) (c : Nat) (HC : Hid (c < 18446744073709551616)) (HN : Hid (Ph.goes a g p = (c, true))) (HO : Hid (Ph.goes c g 4 = (0, false))) (w : World) (hok : PhOk w w) :
    Calls Try.prog 6 #[.int .u16 x, .int .u8 y] w fun e w' => e = .returned (.bool true) ∧ PhOk w w' := by
  go_enter Try.func6, Try.ntmps6
  go_wp2_with fail
  refine (makeOk (g - 1) 1 a true HM.out hok).mono ?_
  rintro e w1 ⟨rfl, hok1⟩
  go_wp2_with fail
  refine (goesOk a HA.out g p c true HN.out hok1).mono ?_
  rintro e w2 ⟨rfl, hok2⟩
  go_wp2_with fail
  refine (goesOk c HC.out g 4 0 false HO.out hok2).mono ?_
  rintro e w3 ⟨rfl, hok3⟩
  go_wp2_with fail
  refine (awakeOk7 hok3).mono ?_
  rintro e w4 ⟨rfl, hok4⟩
  go_wp2
  go_ret
  exact ⟨rfl, hok4⟩


set_option maxHeartbeats 2000000 in
theorem neither (x : Nat) (hx : x < 65536) (y : Nat) (hy : y < 256) (a : Nat) (g p : Int) (eg : 2 + (x : Int) = g) (ep : (y : Int) % 8 = p) (HA : Hid (a < 18446744073709551616)) (HM : Hid (Ph.make (g - 1) 1 = (a, true))) (h2 : (p == 2) = false) (h4 : (p == 4) = false) (HN : Hid (Ph.goes a g p = (0, false))) (w : World) (hok : PhOk w w) :
    Calls Try.prog 6 #[.int .u16 x, .int .u8 y] w fun e w' => e = .returned (.bool true) ∧ PhOk w w' := by
  go_enter Try.func6, Try.ntmps6
  go_wp2_with fail
  refine (makeOk (g - 1) 1 a true HM.out hok).mono ?_
  rintro e w1 ⟨rfl, hok1⟩
  go_wp2_with fail
  refine (goesOk a HA.out g p 0 false HN.out hok1).mono ?_
  rintro e w2 ⟨rfl, hok2⟩
  go_wp2_with fail
  refine (awakeOk7 hok2).mono ?_
  rintro e w3 ⟨rfl, hok3⟩
  go_wp2
  go_ret
  exact ⟨rfl, hok3⟩


theorem walk (x : Nat) (hx : x < 65536) (y : Nat) (hy : y < 256) (w : World) :
    Calls Try.prog 6 #[.int .u16 x, .int .u8 y] w fun e w' => e = .returned (.bool true) ∧ Below w.heap.size w w' := by
  obtain ⟨g, eg⟩ : ∃ g : Int, 2 + (x : Int) = g := ⟨_, rfl⟩
  obtain ⟨p, ep⟩ : ∃ p : Int, (y : Int) % 8 = p := ⟨_, rfl⟩
  have hb : Ph.cyc (g - 1) = true := Ph.cyc_iff.2 ⟨by omega, by omega⟩
  have hc : Ph.cyc g = true := Ph.cyc_iff.2 ⟨by omega, by omega⟩
  have hs := Ph.waits_step (g := g) (by omega) (by omega) p
  refine Calls.mono (R := fun e w' => e = .returned (.bool true) ∧ PhOk w w') ?_ fun _ _ ⟨he, hb⟩ => ⟨he, hb.below⟩
  have HA := hide (Ph.state_lt hb (p := 1) (by decide))
  have HM := hide (Ph.make_in hb (p := 1) (by decide))
  by_cases h2 : p = 2
  · rw [h2] at hs
    refine held x hx y hy _ g p eg ep HA HM (by simp [h2]) (Ph.state g 2) (hide (Ph.state_lt hc (by decide))) (hide ?_) (hide (goes_no ?_)) w (.start w)
    · rw [h2, goes_in hc (by decide) hs, Ph.make_in hc (by decide)]
    · rw [Ph.same_step hc (by decide)]
      rfl
  by_cases h4 : p = 4
  · rw [h4] at hs
    refine swept x hx y hy _ g p eg ep HA HM (by simp [h2]) (by simp [h4]) (Ph.state g 4) (hide (Ph.state_lt hc (by decide))) (hide ?_) (hide (goes_no ?_)) w (.start w)
    · rw [h4, goes_in hc (by decide) hs, Ph.make_in hc (by decide)]
    · rw [Ph.same_step hc (by decide)]
      rfl
  · refine neither x hx y hy _ g p eg ep HA HM (by simp [h2]) (by simp [h4]) (hide (goes_no ?_)) w (.start w)
    rw [hs]
    simp [h2, h4]

set_option maxRecDepth 100000 in
theorem lifted (os : Os) (started : os.Started) (H : Type) (enc : TypeId × Value → H) :
    ReturnsInHanded {} Try.checked os 6 .any (Rows.phaseOnceSpec.pre6 enc Try.prog Try.f6 Rows.phaseOnceRow.domain false) (Rows.phaseOnceSpec.post enc Try.prog Try.f6 false true false false) := by
  refine returnsInHanded_of_change (C := Try.checked) own started (by kernel_rfl) Try.func6
    (ChangeSpec.witness6 (enc := enc) (C := Try.checked) false ⟨#[], #[.int .u16 0, .int .u8 0], []⟩ 8 (by kernel_rfl) (by kernel_rfl) (by kernel_rfl) (by kernel_rfl)) ?_
  intro W base args ds gs before hval0 hW _ _
  have hval : ∀ (j : Nat) t v, Try.f6.params[j]? = some t → args[j]? = some v → Value.okWide Try.prog W .any base t v := hval0
  have hW' := hW
  obtain ⟨p, q, hA0, hV, rfl, hfz, hnd⟩ := hW
  have hA : DataW.TrodAll enc Try.prog W 0 (fun _ => true) true Try.f6.params.toList args.toList ds p := hA0
  rw [Try.params6] at hA hval
  obtain ⟨v0, vs0, d0, ds0, p0, q0, hargs, rfl, rfl, h0, r0⟩ := trodAll_cons hA
  obtain ⟨v1, vs1, d1, ds1, p1, q1, rfl, rfl, rfl, h1, r1⟩ := trodAll_cons r0
  obtain ⟨rfl, rfl, rfl⟩ := trodAll_nil r1
  obtain rfl : args = #[v0, v1] := by cases args; simp_all
  obtain ⟨rfl, rfl⟩ := trodVars_none hV
  obtain ⟨a0, rfl, rfl, rfl, w0⟩ := open_int Try.underlying33 (hval 0 33 v0 rfl rfl) h0
  obtain ⟨a1, rfl, rfl, rfl, w1⟩ := open_int Try.underlying5 (hval 1 5 v1 rfl rfl) h1
  clear hA0 hval0
  obtain ⟨x0, hx0, rfl⟩ := u16_nat w0
  obtain ⟨x1, hx1, rfl⟩ := u8_nat w1
  refine (walk x0 hx0 x1 hx1 W).mono fun e W' ⟨he, bel⟩ => ?_
  subst he
  exact ⟨_, rfl, _, _, _, [], _, [], hW', trodAll_mk1 (shut_bool Try.underlying4 _), (trodAll_cons_mk (shut_int Try.underlying33 w0) (trodAll_cons_mk (shut_int Try.underlying5 w1) trodAll_mk0)), rfl, bel.frame _, fun h => by cases h⟩

end Go.Proofs.Ytdhjingcnnkbiaa.phaseOnce
namespace Go.Proofs.Ytdhjingcnnkbiaa

theorem phaseOnce_holds : Rows.PhaseOnceSaid :=
  OpenClaim.holds_of_wide 6 Try.f6 rfl rfl rfl rfl rfl rfl rfl ⟨rfl, rfl, rfl, rfl, rfl⟩ rfl rfl rfl rfl rfl (by kernel_rfl) Try.func6 (by kernel_rfl)
    (of_decide_eq_true (by kernel_rfl)) (by unfold Func.isWrapper; first | (rw [if_pos (by decide +kernel)]; kernel_rfl) | (rw [if_neg (by decide +kernel)]; exact ⟨rfl, rfl⟩))
    (fun os started H enc _ => phaseOnce.lifted os started H enc)
end Go.Proofs.Ytdhjingcnnkbiaa
