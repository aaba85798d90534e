/- Of no other page is there a head; a word tells a page that may be, or none: the law TagNone answers true at every input, and its arguments read behind the call as they read before. -/
import Derived.Test.YtbfkhbeekdfceaaTgOk
namespace Go.Proofs.Ytbfkhbeekdfceaa.tagNone
open Go.ChangeShapes Go.WideShapes Go.ChangeAt Go.RowKit

theorem low_and (x : Nat) (hx : x < 18446744073709551616) : bits BinOp.and IntKind.u64 (x : Int) 4294967295 = ((Tg.low x : Nat) : Int) := by
  rw [show (4294967295 : Int) = ((4294967295 : Nat) : Int) from rfl, bits_and_u64_nat _ _ hx (by omega), show (4294967295 : Nat) = 2 ^ 32 - 1 from rfl, Nat.and_two_pow_sub_one_eq_mod]
  rfl

set_option maxHeartbeats 2000000 in
theorem core (t : Nat) (ht : t < 4294967296) (p : Int) (x : Nat) (hx : x < 18446744073709551616) (a c : Nat) (y : Int) (b d : Bool) (HM : Hid (Tg.make t p = (a, b))) (HN : Hid (Tg.next x p = (c, d))) (HP : Hid (Tg.page x = y))
    (hb : b = decide (-1 ≤ p ∧ p < 4096)) (hd : d = decide (-1 ≤ p ∧ p < 4096)) (y1 : -1 ≤ y) (y2 : y < 4096) (hlow : y ≠ -1 → bits BinOp.and IntKind.u64 (x : Int) 4294967295 = y + 1) (w : World) (hok : TgOk w w) :
    Calls Try.prog 6 #[.int .u32 t, .int .i64 p, .int .u64 x] w fun e w' => e = .returned (.bool true) ∧ TgOk w w' := by
  have HT := hide ht
  have HX := hide hx
  by_cases hy : y = -1
  · subst hy
    clear hlow
    by_cases h1 : -1 ≤ p
    · by_cases h2 : p < 4096
      · have e1 : b = true := by rw [hb]; simp [h1, h2]
        have e2 : d = true := by rw [hd]; simp [h1, h2]
        subst e1 e2
        clear hb hd
        go_enter Try.func6, Try.ntmps6
        go_wp2_with (first | (go_at_call 7; refine (makeOk t HT.out p a true HM.out (by assumption)).mono ?_; rintro e w1 ⟨rfl, hok⟩) | (go_at_call 9; refine (nextOk x HX.out p c true HN.out (by assumption)).mono ?_; rintro e w1 ⟨rfl, hok⟩) | (go_at_call 11; refine (pageOk x HX.out _ HP.out (by assumption)).mono ?_; rintro e w1 ⟨rfl, hok⟩) | (go_at_call 15; refine (awakeOk6 (by assumption)).mono ?_; rintro e w1 ⟨rfl, hok⟩))
        go_ret
        exact ⟨rfl, by assumption⟩
      · have d2 : decide (p < 4096) = false := by simp; omega
        have e1 : b = false := by rw [hb]; simp; omega
        have e2 : d = false := by rw [hd]; simp; omega
        subst e1 e2
        clear hb hd
        go_enter Try.func6, Try.ntmps6
        go_wp2_with (first | (go_at_call 7; refine (makeOk t HT.out p a false HM.out (by assumption)).mono ?_; rintro e w1 ⟨rfl, hok⟩) | (go_at_call 9; refine (nextOk x HX.out p c false HN.out (by assumption)).mono ?_; rintro e w1 ⟨rfl, hok⟩) | (go_at_call 11; refine (pageOk x HX.out _ HP.out (by assumption)).mono ?_; rintro e w1 ⟨rfl, hok⟩) | (go_at_call 15; refine (awakeOk6 (by assumption)).mono ?_; rintro e w1 ⟨rfl, hok⟩))
        go_ret
        exact ⟨rfl, by assumption⟩
    · have e1 : b = false := by rw [hb]; simp; omega
      have e2 : d = false := by rw [hd]; simp; omega
      subst e1 e2
      clear hb hd
      go_enter Try.func6, Try.ntmps6
      go_wp2_with (first | (go_at_call 7; refine (makeOk t HT.out p a false HM.out (by assumption)).mono ?_; rintro e w1 ⟨rfl, hok⟩) | (go_at_call 9; refine (nextOk x HX.out p c false HN.out (by assumption)).mono ?_; rintro e w1 ⟨rfl, hok⟩) | (go_at_call 11; refine (pageOk x HX.out _ HP.out (by assumption)).mono ?_; rintro e w1 ⟨rfl, hok⟩) | (go_at_call 15; refine (awakeOk6 (by assumption)).mono ?_; rintro e w1 ⟨rfl, hok⟩))
      go_ret
      exact ⟨rfl, by assumption⟩
  · have hk := hlow hy
    have dy : (y == -1) = false := by simp [hy]
    clear hlow
    by_cases h1 : -1 ≤ p
    · by_cases h2 : p < 4096
      · have e1 : b = true := by rw [hb]; simp [h1, h2]
        have e2 : d = true := by rw [hd]; simp [h1, h2]
        subst e1 e2
        clear hb hd
        go_enter Try.func6, Try.ntmps6
        go_wp2_with (first | (go_at_call 7; refine (makeOk t HT.out p a true HM.out (by assumption)).mono ?_; rintro e w1 ⟨rfl, hok⟩) | (go_at_call 9; refine (nextOk x HX.out p c true HN.out (by assumption)).mono ?_; rintro e w1 ⟨rfl, hok⟩) | (go_at_call 11; refine (pageOk x HX.out _ HP.out (by assumption)).mono ?_; rintro e w1 ⟨rfl, hok⟩) | (go_at_call 15; refine (awakeOk6 (by assumption)).mono ?_; rintro e w1 ⟨rfl, hok⟩))
        go_ret
        exact ⟨rfl, by assumption⟩
      · have d2 : decide (p < 4096) = false := by simp; omega
        have e1 : b = false := by rw [hb]; simp; omega
        have e2 : d = false := by rw [hd]; simp; omega
        subst e1 e2
        clear hb hd
        go_enter Try.func6, Try.ntmps6
        go_wp2_with (first | (go_at_call 7; refine (makeOk t HT.out p a false HM.out (by assumption)).mono ?_; rintro e w1 ⟨rfl, hok⟩) | (go_at_call 9; refine (nextOk x HX.out p c false HN.out (by assumption)).mono ?_; rintro e w1 ⟨rfl, hok⟩) | (go_at_call 11; refine (pageOk x HX.out _ HP.out (by assumption)).mono ?_; rintro e w1 ⟨rfl, hok⟩) | (go_at_call 15; refine (awakeOk6 (by assumption)).mono ?_; rintro e w1 ⟨rfl, hok⟩))
        go_ret
        exact ⟨rfl, by assumption⟩
    · have e1 : b = false := by rw [hb]; simp; omega
      have e2 : d = false := by rw [hd]; simp; omega
      subst e1 e2
      clear hb hd
      go_enter Try.func6, Try.ntmps6
      go_wp2_with (first | (go_at_call 7; refine (makeOk t HT.out p a false HM.out (by assumption)).mono ?_; rintro e w1 ⟨rfl, hok⟩) | (go_at_call 9; refine (nextOk x HX.out p c false HN.out (by assumption)).mono ?_; rintro e w1 ⟨rfl, hok⟩) | (go_at_call 11; refine (pageOk x HX.out _ HP.out (by assumption)).mono ?_; rintro e w1 ⟨rfl, hok⟩) | (go_at_call 15; refine (awakeOk6 (by assumption)).mono ?_; rintro e w1 ⟨rfl, hok⟩))
      go_ret
      exact ⟨rfl, by assumption⟩

theorem walk (t : Nat) (ht : t < 4294967296) (p : Int) (_hp : -9223372036854775808 ≤ p ∧ p ≤ 9223372036854775807) (x : Nat) (hx : x < 18446744073709551616) (w : World) :
    Calls Try.prog 6 #[.int .u32 t, .int .i64 p, .int .u64 x] w fun e w' => e = .returned (.bool true) ∧ Below w.heap.size w w' :=
  (core t ht p x hx _ _ _ _ _ (hide rfl) (hide rfl) (hide rfl) (Tg.make_may t p) (Tg.make_may _ p) (Tg.page_may x).1 (Tg.page_may x).2 (fun h => by rw [low_and x hx]; exact Tg.page_low x h) w (.start w)).mono fun _ _ ⟨he, hb⟩ => ⟨he, hb.below⟩

set_option maxRecDepth 100000 in
theorem lifted (os : Os) (started : os.Started) (H : Type) (enc : TypeId × Value → H) :
    ReturnsInHanded {} Try.checked os 6 .any (Rows.tagNoneSpec.pre6 enc Try.prog Try.f6 Rows.tagNoneRow.domain false) (Rows.tagNoneSpec.post enc Try.prog Try.f6 false true false false) := by
  refine returnsInHanded_of_change (C := Try.checked) own started (by kernel_rfl) Try.func6
    (ChangeSpec.witness6 (enc := enc) (C := Try.checked) false ⟨#[], #[.int .u32 0, .int .i64 0, .int .u64 0], []⟩ 8 (by kernel_rfl) (by kernel_rfl) (by kernel_rfl) (by kernel_rfl)) ?_
  intro W base args ds gs before hval0 hW _ _
  have hval : ∀ (j : Nat) t v, Try.f6.params[j]? = some t → args[j]? = some v → Value.okWide Try.prog W .any base t v := hval0
  have hW' := hW
  obtain ⟨p, q, hA0, hV, rfl, hfz, hnd⟩ := hW
  have hA : DataW.TrodAll enc Try.prog W 0 (fun _ => true) true Try.f6.params.toList args.toList ds p := hA0
  rw [Try.params6] at hA hval
  obtain ⟨v0, vs0, d0, ds0, p0, q0, hargs, rfl, rfl, h0, r0⟩ := trodAll_cons hA
  obtain ⟨v1, vs1, d1, ds1, p1, q1, rfl, rfl, rfl, h1, r1⟩ := trodAll_cons r0
  obtain ⟨v2, vs2, d2, ds2, p2, q2, rfl, rfl, rfl, h2, r2⟩ := trodAll_cons r1
  obtain ⟨rfl, rfl, rfl⟩ := trodAll_nil r2
  obtain rfl : args = #[v0, v1, v2] := by cases args; simp_all
  obtain ⟨rfl, rfl⟩ := trodVars_none hV
  obtain ⟨a0, rfl, rfl, rfl, w0⟩ := open_int Try.underlying22 (hval 0 22 v0 rfl rfl) h0
  obtain ⟨a1, rfl, rfl, rfl, w1⟩ := open_int Try.underlying3 (hval 1 3 v1 rfl rfl) h1
  obtain ⟨a2, rfl, rfl, rfl, w2⟩ := open_int Try.underlying23 (hval 2 23 v2 rfl rfl) h2
  clear hA0 hval0
  obtain ⟨x0, hx0, rfl⟩ := u32_nat w0
  have hx1 := i64_bd w1
  obtain ⟨x2, hx2, rfl⟩ := u64_nat w2
  refine (walk x0 hx0 a1 hx1 x2 hx2 W).mono fun e W' ⟨he, bel⟩ => ?_
  subst he
  exact ⟨_, rfl, _, _, _, [], _, [], hW', trodAll_mk1 (shut_bool Try.underlying4 _), (trodAll_cons_mk (shut_int Try.underlying22 w0) (trodAll_cons_mk (shut_int Try.underlying3 w1) (trodAll_cons_mk (shut_int Try.underlying23 w2) trodAll_mk0))), rfl, bel.frame _, fun h => by cases h⟩

end Go.Proofs.Ytbfkhbeekdfceaa.tagNone
namespace Go.Proofs.Ytbfkhbeekdfceaa

theorem tagNone_holds : Rows.TagNoneSaid :=
  OpenClaim.holds_of_wide 6 Try.f6 rfl rfl rfl rfl rfl rfl rfl ⟨rfl, rfl, rfl, rfl, rfl⟩ rfl rfl rfl rfl rfl (by kernel_rfl) Try.func6 (by kernel_rfl)
    (of_decide_eq_true (by kernel_rfl)) (by unfold Func.isWrapper; first | (rw [if_pos (by decide +kernel)]; kernel_rfl) | (rw [if_neg (by decide +kernel)]; exact ⟨rfl, rfl⟩))
    (fun os started H enc _ => tagNone.lifted os started H enc)
end Go.Proofs.Ytbfkhbeekdfceaa
