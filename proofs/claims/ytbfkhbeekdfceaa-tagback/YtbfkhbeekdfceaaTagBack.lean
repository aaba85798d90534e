/- A head tells the tag and the page it was made of; the one that follows it has one tag more, and its own page: the law TagBack answers true at every input, and its arguments read behind the call as they read before. -/
import Derived.Test.YtbfkhbeekdfceaaTgOk
namespace Go.Proofs.Ytbfkhbeekdfceaa.tagBack
open Go.ChangeShapes Go.WideShapes Go.ChangeAt Go.RowKit

set_option maxHeartbeats 2000000 in
theorem core (t : Nat) (ht : t < 4294967296) (x : Nat) (hx : x < 65536) (y : Nat) (hy : y < 65536) (a c : Nat) (p q : Int)
    (ep : (x : Int) % 4097 - 1 = p) (eq : (y : Int) % 4097 - 1 = q)
    (HA : Hid (a < 18446744073709551616)) (HC : Hid (c < 18446744073709551616)) (HM : Hid (Tg.make t p = (a, true))) (HN : Hid (Tg.next a q = (c, true)))
    (HP : Hid (Tg.page a = p)) (HG : Hid (Tg.tag a = t)) (HP2 : Hid (Tg.page c = q)) (HG2 : Hid (Tg.tag c = Tg.succ t)) (w : World) (hok : TgOk w w) :
    Calls Try.prog 4 #[.int .u32 t, .int .u16 x, .int .u16 y] w fun e w' => e = .returned (.bool true) ∧ TgOk w w' := by
  have HT := hide ht
  have hs : ((Tg.succ t : Nat) : Int) = ((t : Int) + 1) % 4294967296 := by unfold Tg.succ; omega
  go_enter Try.func4, Try.ntmps4
  go_wp2_with fail
  refine (makeOk t HT.out p a true HM.out (by assumption)).mono ?_
  rintro e w1 ⟨rfl, hok1⟩
  go_wp2_with fail
  refine (nextOk a HA.out q c true HN.out hok1).mono ?_
  rintro e w2 ⟨rfl, hok2⟩
  go_wp2_with fail
  refine (tagOk a HA.out t HG.out hok2).mono ?_
  rintro e w3 ⟨rfl, hok3⟩
  go_wp2_with fail
  refine (pageOk a HA.out p HP.out hok3).mono ?_
  rintro e w4 ⟨rfl, hok4⟩
  go_wp2_with fail
  refine (tagOk c HC.out _ HG2.out hok4).mono ?_
  rw [hs]
  rintro e w5 ⟨rfl, hok5⟩
  go_wp2_with fail
  refine (pageOk c HC.out q HP2.out hok5).mono ?_
  rintro e w6 ⟨rfl, hok6⟩
  go_wp2_with fail
  refine (awakeOk6 hok6).mono ?_
  rintro e w7 ⟨rfl, hok7⟩
  go_wp2
  go_ret
  exact ⟨rfl, hok7⟩

theorem walk (t : Nat) (ht : t < 4294967296) (x : Nat) (hx : x < 65536) (y : Nat) (hy : y < 65536) (w : World) :
    Calls Try.prog 4 #[.int .u32 t, .int .u16 x, .int .u16 y] w fun e w' => e = .returned (.bool true) ∧ Below w.heap.size w w' := by
  obtain ⟨p, ep⟩ : ∃ p : Int, (x : Int) % 4097 - 1 = p := ⟨_, rfl⟩
  obtain ⟨q, eq⟩ : ∃ q : Int, (y : Int) % 4097 - 1 = q := ⟨_, rfl⟩
  have p1 : -1 ≤ p := by omega
  have p2 : p < 4096 := by omega
  have q1 : -1 ≤ q := by omega
  have q2 : q < 4096 := by omega
  have hg := Tg.tag_head t p p1 p2
  refine (core t ht x hx y hy (Tg.head t p) (Tg.head (Tg.succ t) q) p q ep eq (hide (Tg.head_lt t p ht p1 p2)) (hide (Tg.head_lt _ q (Tg.succ_lt t) q1 q2)) (hide (Tg.make_in t p p1 p2)) (hide ?_) (hide (Tg.page_head t p p1 p2)) (hide hg) (hide (Tg.page_head _ q q1 q2)) (hide (Tg.tag_head _ q q1 q2)) w (.start w)).mono fun _ _ ⟨he, hb⟩ => ⟨he, hb.below⟩
  show Tg.make (Tg.succ (Tg.tag _)) q = _
  rw [hg]
  exact Tg.make_in _ q q1 q2

set_option maxRecDepth 100000 in
theorem lifted (os : Os) (started : os.Started) (H : Type) (enc : TypeId × Value → H) :
    ReturnsInHanded {} Try.checked os 4 .any (Rows.tagBackSpec.pre6 enc Try.prog Try.f4 Rows.tagBackRow.domain false) (Rows.tagBackSpec.post enc Try.prog Try.f4 false true false false) := by
  refine returnsInHanded_of_change (C := Try.checked) own started (by kernel_rfl) Try.func4
    (ChangeSpec.witness6 (enc := enc) (C := Try.checked) false ⟨#[], #[.int .u32 0, .int .u16 0, .int .u16 0], []⟩ 8 (by kernel_rfl) (by kernel_rfl) (by kernel_rfl) (by kernel_rfl)) ?_
  intro W base args ds gs before hval0 hW _ _
  have hval : ∀ (j : Nat) t v, Try.f4.params[j]? = some t → args[j]? = some v → Value.okWide Try.prog W .any base t v := hval0
  have hW' := hW
  obtain ⟨p, q, hA0, hV, rfl, hfz, hnd⟩ := hW
  have hA : DataW.TrodAll enc Try.prog W 0 (fun _ => true) true Try.f4.params.toList args.toList ds p := hA0
  rw [Try.params4] at hA hval
  obtain ⟨v0, vs0, d0, ds0, p0, q0, hargs, rfl, rfl, h0, r0⟩ := trodAll_cons hA
  obtain ⟨v1, vs1, d1, ds1, p1, q1, rfl, rfl, rfl, h1, r1⟩ := trodAll_cons r0
  obtain ⟨v2, vs2, d2, ds2, p2, q2, rfl, rfl, rfl, h2, r2⟩ := trodAll_cons r1
  obtain ⟨rfl, rfl, rfl⟩ := trodAll_nil r2
  obtain rfl : args = #[v0, v1, v2] := by cases args; simp_all
  obtain ⟨rfl, rfl⟩ := trodVars_none hV
  obtain ⟨a0, rfl, rfl, rfl, w0⟩ := open_int Try.underlying22 (hval 0 22 v0 rfl rfl) h0
  obtain ⟨a1, rfl, rfl, rfl, w1⟩ := open_int Try.underlying31 (hval 1 31 v1 rfl rfl) h1
  obtain ⟨a2, rfl, rfl, rfl, w2⟩ := open_int Try.underlying31 (hval 2 31 v2 rfl rfl) h2
  clear hA0 hval0
  obtain ⟨x0, hx0, rfl⟩ := u32_nat w0
  obtain ⟨x1, hx1, rfl⟩ := u16_nat w1
  obtain ⟨x2, hx2, rfl⟩ := u16_nat w2
  refine (walk x0 hx0 x1 hx1 x2 hx2 W).mono fun e W' ⟨he, bel⟩ => ?_
  subst he
  exact ⟨_, rfl, _, _, _, [], _, [], hW', trodAll_mk1 (shut_bool Try.underlying4 _), (trodAll_cons_mk (shut_int Try.underlying22 w0) (trodAll_cons_mk (shut_int Try.underlying31 w1) (trodAll_cons_mk (shut_int Try.underlying31 w2) trodAll_mk0))), rfl, bel.frame _, fun h => by cases h⟩

end Go.Proofs.Ytbfkhbeekdfceaa.tagBack
namespace Go.Proofs.Ytbfkhbeekdfceaa

theorem tagBack_holds : Rows.TagBackSaid :=
  OpenClaim.holds_of_wide 4 Try.f4 rfl rfl rfl rfl rfl rfl rfl ⟨rfl, rfl, rfl, rfl, rfl⟩ rfl rfl rfl rfl rfl (by kernel_rfl) Try.func4 (by kernel_rfl)
    (of_decide_eq_true (by kernel_rfl)) (by unfold Func.isWrapper; first | (rw [if_pos (by decide +kernel)]; kernel_rfl) | (rw [if_neg (by decide +kernel)]; exact ⟨rfl, rfl⟩))
    (fun os started H enc _ => tagBack.lifted os started H enc)
end Go.Proofs.Ytbfkhbeekdfceaa
