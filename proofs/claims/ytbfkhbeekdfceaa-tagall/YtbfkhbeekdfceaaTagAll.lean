/- Of any tag, page and word: the head, its page, its tag, the head that follows it, are the document's: the law TagAll answers true at every input, and its arguments read behind the call as they read before. -/
import Derived.Test.YtbfkhbeekdfceaaTgOk
namespace Go.Proofs.Ytbfkhbeekdfceaa.tagAll
open Go.ChangeShapes Go.WideShapes Go.ChangeAt Go.RowKit

set_option maxHeartbeats 2000000 in
theorem core (t : Nat) (ht : t < 4294967296) (p : Int) (x : Nat) (hx : x < 18446744073709551616) (a c g : Nat) (y : Int) (b d : Bool) (HM : Hid (Tg.make t p = (a, b))) (HN : Hid (Tg.next x p = (c, d))) (HP : Hid (Tg.page x = y)) (HG : Hid (Tg.tag x = g)) (w : World) (hok : TgOk w w) :
    Calls Try.prog 3 #[.int .u32 t, .int .i64 p, .int .u64 x] w fun e w' => e = .returned (.bool true) ∧ TgOk w w' := by
  have HT := hide ht
  have HX := hide hx
  clear ht hx
  go_enter Try.func3, Try.ntmps3
  go_wp2_with (first | (go_at_call 7; refine (makeOk t HT.out p a b HM.out (by assumption)).mono ?_; rintro e w1 ⟨rfl, hok⟩) | (go_at_call 8; refine (rmakeOk t HT.out p a b HM.out (by assumption)).mono ?_; rintro e w1 ⟨rfl, hok⟩) | (go_at_call 9; refine (nextOk x HX.out p c d HN.out (by assumption)).mono ?_; rintro e w1 ⟨rfl, hok⟩) | (go_at_call 10; refine (rnextOk x HX.out p c d HN.out (by assumption)).mono ?_; rintro e w1 ⟨rfl, hok⟩) | (go_at_call 11; refine (pageOk x HX.out y HP.out (by assumption)).mono ?_; rintro e w1 ⟨rfl, hok⟩) | (go_at_call 12; refine (rpageOk x HX.out y HP.out (by assumption)).mono ?_; rintro e w1 ⟨rfl, hok⟩) | (go_at_call 13; refine (tagOk x HX.out g HG.out (by assumption)).mono ?_; rintro e w1 ⟨rfl, hok⟩) | (go_at_call 14; refine (rtagOk x HX.out g HG.out (by assumption)).mono ?_; rintro e w1 ⟨rfl, hok⟩) | (go_at_call 15; refine (awakeOk6 (by assumption)).mono ?_; rintro e w1 ⟨rfl, hok⟩))
  go_ret
  exact ⟨rfl, by assumption⟩

theorem walk (t : Nat) (ht : t < 4294967296) (p : Int) (_hp : -9223372036854775808 ≤ p ∧ p ≤ 9223372036854775807) (x : Nat) (hx : x < 18446744073709551616) (w : World) :
    Calls Try.prog 3 #[.int .u32 t, .int .i64 p, .int .u64 x] w fun e w' => e = .returned (.bool true) ∧ Below w.heap.size w w' :=
  (core t ht p x hx _ _ _ _ _ _ (hide rfl) (hide rfl) (hide rfl) (hide rfl) w (.start w)).mono fun _ _ ⟨he, hb⟩ => ⟨he, hb.below⟩

set_option maxRecDepth 100000 in
theorem lifted (os : Os) (started : os.Started) (H : Type) (enc : TypeId × Value → H) :
    ReturnsInHanded {} Try.checked os 3 .any (Rows.tagAllSpec.pre6 enc Try.prog Try.f3 Rows.tagAllRow.domain false) (Rows.tagAllSpec.post enc Try.prog Try.f3 false true false false) := by
  refine returnsInHanded_of_change (C := Try.checked) own started (by kernel_rfl) Try.func3
    (ChangeSpec.witness6 (enc := enc) (C := Try.checked) false ⟨#[], #[.int .u32 0, .int .i64 0, .int .u64 0], []⟩ 8 (by kernel_rfl) (by kernel_rfl) (by kernel_rfl) (by kernel_rfl)) ?_
  intro W base args ds gs before hval0 hW _ _
  have hval : ∀ (j : Nat) t v, Try.f3.params[j]? = some t → args[j]? = some v → Value.okWide Try.prog W .any base t v := hval0
  have hW' := hW
  obtain ⟨p, q, hA0, hV, rfl, hfz, hnd⟩ := hW
  have hA : DataW.TrodAll enc Try.prog W 0 (fun _ => true) true Try.f3.params.toList args.toList ds p := hA0
  rw [Try.params3] at hA hval
  obtain ⟨v0, vs0, d0, ds0, p0, q0, hargs, rfl, rfl, h0, r0⟩ := trodAll_cons hA
  obtain ⟨v1, vs1, d1, ds1, p1, q1, rfl, rfl, rfl, h1, r1⟩ := trodAll_cons r0
  obtain ⟨v2, vs2, d2, ds2, p2, q2, rfl, rfl, rfl, h2, r2⟩ := trodAll_cons r1
  obtain ⟨rfl, rfl, rfl⟩ := trodAll_nil r2
  obtain rfl : args = #[v0, v1, v2] := by cases args; simp_all
  obtain ⟨rfl, rfl⟩ := trodVars_none hV
  obtain ⟨a0, rfl, rfl, rfl, w0⟩ := open_int Try.underlying22 (hval 0 22 v0 rfl rfl) h0
  obtain ⟨a1, rfl, rfl, rfl, w1⟩ := open_int Try.underlying3 (hval 1 3 v1 rfl rfl) h1
  obtain ⟨a2, rfl, rfl, rfl, w2⟩ := open_int Try.underlying23 (hval 2 23 v2 rfl rfl) h2
  clear hA0 hval0
  obtain ⟨x0, hx0, rfl⟩ := u32_nat w0
  have hx1 := i64_bd w1
  obtain ⟨x2, hx2, rfl⟩ := u64_nat w2
  refine (walk x0 hx0 a1 hx1 x2 hx2 W).mono fun e W' ⟨he, bel⟩ => ?_
  subst he
  exact ⟨_, rfl, _, _, _, [], _, [], hW', trodAll_mk1 (shut_bool Try.underlying4 _), (trodAll_cons_mk (shut_int Try.underlying22 w0) (trodAll_cons_mk (shut_int Try.underlying3 w1) (trodAll_cons_mk (shut_int Try.underlying23 w2) trodAll_mk0))), rfl, bel.frame _, fun h => by cases h⟩

end Go.Proofs.Ytbfkhbeekdfceaa.tagAll
namespace Go.Proofs.Ytbfkhbeekdfceaa

theorem tagAll_holds : Rows.TagAllSaid :=
  OpenClaim.holds_of_wide 3 Try.f3 rfl rfl rfl rfl rfl rfl rfl ⟨rfl, rfl, rfl, rfl, rfl⟩ rfl rfl rfl rfl rfl (by kernel_rfl) Try.func3 (by kernel_rfl)
    (of_decide_eq_true (by kernel_rfl)) (by unfold Func.isWrapper; first | (rw [if_pos (by decide +kernel)]; kernel_rfl) | (rw [if_neg (by decide +kernel)]; exact ⟨rfl, rfl⟩))
    (fun os started H enc _ => tagAll.lifted os started H enc)
end Go.Proofs.Ytbfkhbeekdfceaa
