/- Of any word and numbers: the state, whether a word is one, its cycle and phase, whether it is swept, or waits, and what it may become, are the document's: the law PhaseAll answers true at every input, and its arguments read behind the call as they read before. -/
import Derived.Test.YtdhjingcnnkbiaaPhOk
namespace Go.Proofs.Ytdhjingcnnkbiaa.phaseAll
open Go.ChangeShapes Go.WideShapes Go.ChangeAt Go.RowKit

set_option maxHeartbeats 2000000 in
theorem core (x : Nat) (hx : x < 18446744073709551616) (g : Int) (hg : g ≤ 9223372036854775807) (p : Int) (a c : Nat) (b d m s v : Bool) (y f : Int) (HM : Hid (Ph.make g p = (a, b))) (HN : Hid (Ph.goes x g p = (c, d))) (HB : Hid (Ph.may x = m)) (HG : Hid (Ph.gen x = y)) (HP : Hid (Ph.ph x = f)) (HS : Hid (Ph.swept x g = s)) (HV : Hid (Ph.waits x g = v)) (w : World) (hok : PhOk w w) :
    Calls Try.prog 3 #[.int .u64 x, .int .i64 g, .int .i64 p] w fun e w' => e = .returned (.bool true) ∧ PhOk w w' := by
  have HX := hide hx
  have HI := hide hg
  clear hx hg
  go_enter Try.func3, Try.ntmps3
  go_wp2_with (first | (go_at_call 8; refine (makeOk g p a b HM.out (by assumption)).mono ?_; rintro e w1 ⟨rfl, hok⟩) | (go_at_call 9; refine (rstateOk g p a b HM.out (by assumption)).mono ?_; rintro e w1 ⟨rfl, hok⟩) | (go_at_call 10; refine (goesOk x HX.out g p c d HN.out (by assumption)).mono ?_; rintro e w1 ⟨rfl, hok⟩) | (go_at_call 11; refine (rgoesOk x HX.out g p HI.out c d HN.out (by assumption)).mono ?_; rintro e w1 ⟨rfl, hok⟩) | (go_at_call 12; refine (mayOk x HX.out m HB.out (by assumption)).mono ?_; rintro e w1 ⟨rfl, hok⟩) | (go_at_call 13; refine (rmayOk x HX.out m HB.out (by assumption)).mono ?_; rintro e w1 ⟨rfl, hok⟩) | (go_at_call 14; refine (genOk x HX.out y HG.out (by assumption)).mono ?_; rintro e w1 ⟨rfl, hok⟩) | (go_at_call 15; refine (rgenOk x HX.out y HG.out (by assumption)).mono ?_; rintro e w1 ⟨rfl, hok⟩) | (go_at_call 16; refine (phOk x HX.out f HP.out (by assumption)).mono ?_; rintro e w1 ⟨rfl, hok⟩) | (go_at_call 17; refine (rphOk x HX.out f HP.out (by assumption)).mono ?_; rintro e w1 ⟨rfl, hok⟩) | (go_at_call 18; refine (sweptOk x HX.out g s HS.out (by assumption)).mono ?_; rintro e w1 ⟨rfl, hok⟩) | (go_at_call 19; refine (rsweptOk x HX.out g s HS.out (by assumption)).mono ?_; rintro e w1 ⟨rfl, hok⟩) | (go_at_call 20; refine (waitsOk x HX.out g v HV.out (by assumption)).mono ?_; rintro e w1 ⟨rfl, hok⟩) | (go_at_call 21; refine (rwaitsOk x HX.out g HI.out v HV.out (by assumption)).mono ?_; rintro e w1 ⟨rfl, hok⟩) | (go_at_call 22; refine (awakeOk7 (by assumption)).mono ?_; rintro e w1 ⟨rfl, hok⟩))
  go_ret
  exact ⟨rfl, by assumption⟩

theorem walk (x : Nat) (hx : x < 18446744073709551616) (g : Int) (hg : -9223372036854775808 ≤ g ∧ g ≤ 9223372036854775807) (p : Int) (_hp : -9223372036854775808 ≤ p ∧ p ≤ 9223372036854775807) (w : World) :
    Calls Try.prog 3 #[.int .u64 x, .int .i64 g, .int .i64 p] w fun e w' => e = .returned (.bool true) ∧ Below w.heap.size w w' :=
  (core x hx g hg.2 p _ _ _ _ _ _ _ _ _ (hide rfl) (hide rfl) (hide rfl) (hide rfl) (hide rfl) (hide rfl) (hide rfl) w (.start w)).mono fun _ _ ⟨he, hb⟩ => ⟨he, hb.below⟩

set_option maxRecDepth 100000 in
theorem lifted (os : Os) (started : os.Started) (H : Type) (enc : TypeId × Value → H) :
    ReturnsInHanded {} Try.checked os 3 .any (Rows.phaseAllSpec.pre6 enc Try.prog Try.f3 Rows.phaseAllRow.domain false) (Rows.phaseAllSpec.post enc Try.prog Try.f3 false true false false) := by
  refine returnsInHanded_of_change (C := Try.checked) own started (by kernel_rfl) Try.func3
    (ChangeSpec.witness6 (enc := enc) (C := Try.checked) false ⟨#[], #[.int .u64 0, .int .i64 0, .int .i64 0], []⟩ 8 (by kernel_rfl) (by kernel_rfl) (by kernel_rfl) (by kernel_rfl)) ?_
  intro W base args ds gs before hval0 hW _ _
  have hval : ∀ (j : Nat) t v, Try.f3.params[j]? = some t → args[j]? = some v → Value.okWide Try.prog W .any base t v := hval0
  have hW' := hW
  obtain ⟨p, q, hA0, hV, rfl, hfz, hnd⟩ := hW
  have hA : DataW.TrodAll enc Try.prog W 0 (fun _ => true) true Try.f3.params.toList args.toList ds p := hA0
  rw [Try.params3] at hA hval
  obtain ⟨v0, vs0, d0, ds0, p0, q0, hargs, rfl, rfl, h0, r0⟩ := trodAll_cons hA
  obtain ⟨v1, vs1, d1, ds1, p1, q1, rfl, rfl, rfl, h1, r1⟩ := trodAll_cons r0
  obtain ⟨v2, vs2, d2, ds2, p2, q2, rfl, rfl, rfl, h2, r2⟩ := trodAll_cons r1
  obtain ⟨rfl, rfl, rfl⟩ := trodAll_nil r2
  obtain rfl : args = #[v0, v1, v2] := by cases args; simp_all
  obtain ⟨rfl, rfl⟩ := trodVars_none hV
  obtain ⟨a0, rfl, rfl, rfl, w0⟩ := open_int Try.underlying22 (hval 0 22 v0 rfl rfl) h0
  obtain ⟨a1, rfl, rfl, rfl, w1⟩ := open_int Try.underlying3 (hval 1 3 v1 rfl rfl) h1
  obtain ⟨a2, rfl, rfl, rfl, w2⟩ := open_int Try.underlying3 (hval 2 3 v2 rfl rfl) h2
  clear hA0 hval0
  obtain ⟨x0, hx0, rfl⟩ := u64_nat w0
  have hx1 := i64_bd w1
  have hx2 := i64_bd w2
  refine (walk x0 hx0 a1 hx1 a2 hx2 W).mono fun e W' ⟨he, bel⟩ => ?_
  subst he
  exact ⟨_, rfl, _, _, _, [], _, [], hW', trodAll_mk1 (shut_bool Try.underlying4 _), (trodAll_cons_mk (shut_int Try.underlying22 w0) (trodAll_cons_mk (shut_int Try.underlying3 w1) (trodAll_cons_mk (shut_int Try.underlying3 w2) trodAll_mk0))), rfl, bel.frame _, fun h => by cases h⟩

end Go.Proofs.Ytdhjingcnnkbiaa.phaseAll
namespace Go.Proofs.Ytdhjingcnnkbiaa

theorem phaseAll_holds : Rows.PhaseAllSaid :=
  OpenClaim.holds_of_wide 3 Try.f3 rfl rfl rfl rfl rfl rfl rfl ⟨rfl, rfl, rfl, rfl, rfl⟩ rfl rfl rfl rfl rfl (by kernel_rfl) Try.func3 (by kernel_rfl)
    (of_decide_eq_true (by kernel_rfl)) (by unfold Func.isWrapper; first | (rw [if_pos (by decide +kernel)]; kernel_rfl) | (rw [if_neg (by decide +kernel)]; exact ⟨rfl, rfl⟩))
    (fun os started H enc _ => phaseAll.lifted os started H enc)
end Go.Proofs.Ytdhjingcnnkbiaa
