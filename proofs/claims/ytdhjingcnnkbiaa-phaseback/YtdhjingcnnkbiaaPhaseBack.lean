/- A state tells the cycle and the phase it was made of; it is one: the law PhaseBack answers true at every input, and its arguments read behind the call as they read before. -/
import Derived.Test.YtdhjingcnnkbiaaPhOk
namespace Go.Proofs.Ytdhjingcnnkbiaa.phaseBack
open Go.ChangeShapes Go.WideShapes Go.ChangeAt Go.RowKit

set_option maxHeartbeats 2000000 in
theorem core (x : Nat) (hx : x < 4294967296) (y : Nat) (hy : y < 256) (a : Nat) (g p : Int) (eg : 1 + (x : Int) % 2147483648 = g) (ep : 1 + (y : Int) % 6 = p)
    (HA : Hid (a < 18446744073709551616)) (HM : Hid (Ph.make g p = (a, true))) (HB : Hid (Ph.may a = true)) (HG : Hid (Ph.gen a = g)) (HP : Hid (Ph.ph a = p)) (w : World) (hok : PhOk w w) :
    Calls Try.prog 4 #[.int .u32 x, .int .u8 y] w fun e w' => e = .returned (.bool true) ∧ PhOk w w' := by
  go_enter Try.func4, Try.ntmps4
  go_wp2_with (first | (go_at_call 8; refine (makeOk g p a true HM.out (by assumption)).mono ?_; rintro e w1 ⟨rfl, hok⟩) | (go_at_call 12; refine (mayOk a HA.out true HB.out (by assumption)).mono ?_; rintro e w1 ⟨rfl, hok⟩) | (go_at_call 14; refine (genOk a HA.out g HG.out (by assumption)).mono ?_; rintro e w1 ⟨rfl, hok⟩) | (go_at_call 16; refine (phOk a HA.out p HP.out (by assumption)).mono ?_; rintro e w1 ⟨rfl, hok⟩) | (go_at_call 22; refine (awakeOk7 (by assumption)).mono ?_; rintro e w1 ⟨rfl, hok⟩))
  go_ret
  exact ⟨rfl, by assumption⟩

theorem walk (x : Nat) (hx : x < 4294967296) (y : Nat) (hy : y < 256) (w : World) :
    Calls Try.prog 4 #[.int .u32 x, .int .u8 y] w fun e w' => e = .returned (.bool true) ∧ Below w.heap.size w w' := by
  obtain ⟨g, eg⟩ : ∃ g : Int, 1 + (x : Int) % 2147483648 = g := ⟨_, rfl⟩
  obtain ⟨p, ep⟩ : ∃ p : Int, 1 + (y : Int) % 6 = p := ⟨_, rfl⟩
  have hc : Ph.cyc g = true := Ph.cyc_iff.2 ⟨by omega, by omega⟩
  have hs : Ph.som p = true := Ph.som_iff.2 ⟨by omega, by omega⟩
  exact (core x hx y hy (Ph.state g p) g p eg ep (hide (Ph.state_lt hc hs)) (hide (Ph.make_in hc hs)) (hide (Ph.state_may hc hs)) (hide (Ph.state_gen hc hs)) (hide (Ph.state_ph hc hs)) w (.start w)).mono fun _ _ ⟨he, hb⟩ => ⟨he, hb.below⟩

set_option maxRecDepth 100000 in
theorem lifted (os : Os) (started : os.Started) (H : Type) (enc : TypeId × Value → H) :
    ReturnsInHanded {} Try.checked os 4 .any (Rows.phaseBackSpec.pre6 enc Try.prog Try.f4 Rows.phaseBackRow.domain false) (Rows.phaseBackSpec.post enc Try.prog Try.f4 false true false false) := by
  refine returnsInHanded_of_change (C := Try.checked) own started (by kernel_rfl) Try.func4
    (ChangeSpec.witness6 (enc := enc) (C := Try.checked) false ⟨#[], #[.int .u32 0, .int .u8 0], []⟩ 8 (by kernel_rfl) (by kernel_rfl) (by kernel_rfl) (by kernel_rfl)) ?_
  intro W base args ds gs before hval0 hW _ _
  have hval : ∀ (j : Nat) t v, Try.f4.params[j]? = some t → args[j]? = some v → Value.okWide Try.prog W .any base t v := hval0
  have hW' := hW
  obtain ⟨p, q, hA0, hV, rfl, hfz, hnd⟩ := hW
  have hA : DataW.TrodAll enc Try.prog W 0 (fun _ => true) true Try.f4.params.toList args.toList ds p := hA0
  rw [Try.params4] at hA hval
  obtain ⟨v0, vs0, d0, ds0, p0, q0, hargs, rfl, rfl, h0, r0⟩ := trodAll_cons hA
  obtain ⟨v1, vs1, d1, ds1, p1, q1, rfl, rfl, rfl, h1, r1⟩ := trodAll_cons r0
  obtain ⟨rfl, rfl, rfl⟩ := trodAll_nil r1
  obtain rfl : args = #[v0, v1] := by cases args; simp_all
  obtain ⟨rfl, rfl⟩ := trodVars_none hV
  obtain ⟨a0, rfl, rfl, rfl, w0⟩ := open_int Try.underlying31 (hval 0 31 v0 rfl rfl) h0
  obtain ⟨a1, rfl, rfl, rfl, w1⟩ := open_int Try.underlying5 (hval 1 5 v1 rfl rfl) h1
  clear hA0 hval0
  obtain ⟨x0, hx0, rfl⟩ := u32_nat w0
  obtain ⟨x1, hx1, rfl⟩ := u8_nat w1
  refine (walk x0 hx0 x1 hx1 W).mono fun e W' ⟨he, bel⟩ => ?_
  subst he
  exact ⟨_, rfl, _, _, _, [], _, [], hW', trodAll_mk1 (shut_bool Try.underlying4 _), (trodAll_cons_mk (shut_int Try.underlying31 w0) (trodAll_cons_mk (shut_int Try.underlying5 w1) trodAll_mk0)), rfl, bel.frame _, fun h => by cases h⟩

end Go.Proofs.Ytdhjingcnnkbiaa.phaseBack
namespace Go.Proofs.Ytdhjingcnnkbiaa

theorem phaseBack_holds : Rows.PhaseBackSaid :=
  OpenClaim.holds_of_wide 4 Try.f4 rfl rfl rfl rfl rfl rfl rfl ⟨rfl, rfl, rfl, rfl, rfl⟩ rfl rfl rfl rfl rfl (by kernel_rfl) Try.func4 (by kernel_rfl)
    (of_decide_eq_true (by kernel_rfl)) (by unfold Func.isWrapper; first | (rw [if_pos (by decide +kernel)]; kernel_rfl) | (rw [if_neg (by decide +kernel)]; exact ⟨rfl, rfl⟩))
    (fun os started H enc _ => phaseBack.lifted os started H enc)
end Go.Proofs.Ytdhjingcnnkbiaa
