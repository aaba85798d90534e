/- Of no store each call says so; an access of a word that is not there is none: the law StoreNone answers true at every input, and its arguments read behind the call as they read before. No condition. -/
import Derived.Test.YtlanfpefifegpaaStoreWord
namespace Go.Proofs.Ytlanfpefifegpaa.storeNone
open Go.ChangeShapes Go.WideShapes Go.ChangeAt Go.RowKit

theorem new3 (w : World) : Calls Try.prog 8 #[.int .i64 3] w fun e w' => ∃ p b, e = .returned (.pointer (some ⟨p, 0, none⟩)) ∧ StoreAt 53 w' p b (St.zero 3) ∧ w.heap.size ≤ p ∧ w.heap.size ≤ b ∧ Below w.heap.size w w' :=
  new_in w 3 (by omega) (by omega)

set_option maxHeartbeats 1000000 in
theorem walk (at_ : Int) (hat : -9223372036854775808 ≤ at_ ∧ at_ ≤ 9223372036854775807) (v : Nat) (_hv : v < 18446744073709551616) (old : Nat) (_hold : old < 18446744073709551616) (w : World) :
    Calls Try.prog 7 #[.int .i64 at_, .int .u64 (v : Int), .int .u64 (old : Int)] w fun e w' => e = .returned (.bool true) ∧ Below w.heap.size w w' := by
  have hc : Hid ((St.zero 3).count = 0) := rfl
  have hd : Hid ((St.zero 3).did = .agg #[.int .i64 0, .int .i64 0, .int .u64 0, .int .u64 0]) := rfl
  obtain ⟨hlo, hhi⟩ := hat
  by_cases h1 : 0 ≤ at_
  · by_cases h2 : at_ < 3
    · have HT : Hid ((at_ - 3) < 0 ∨ (((St.zero 3).words.length : Nat) : Int) ≤ (at_ - 3)) := .inl (by omega)
      go_enter Try.func7, Try.ntmps7
      go_wp2_with fail
      refine (s_load_nil _ at_).mono ?_
      rintro e w1 ⟨rfl, rfl⟩
      go_wp2_with fail
      refine (s_cas_nil _ at_ _ _).mono ?_
      rintro e w2 ⟨rfl, rfl⟩
      go_wp2_with fail
      refine (s_add_nil _ at_ _).mono ?_
      rintro e w1 ⟨rfl, rfl⟩
      go_wp2_with fail
      refine (s_put_nil _ at_ _).mono ?_
      rintro e w2 ⟨rfl, rfl⟩
      go_wp2_with fail
      refine (last_nil _).mono ?_
      rintro e w1 ⟨rfl, hb1⟩
      unfold noDid
      go_wp2_with fail
      refine (count_nil _).mono ?_
      rintro e w3 ⟨rfl, rfl⟩
      go_wp2_with fail
      refine (len_nil _).mono ?_
      rintro e w1 ⟨rfl, rfl⟩
      go_wp2_with fail
      refine (words_nil _).mono ?_
      rintro e w3 ⟨rfl, rfl⟩
      go_wp2_with fail
      refine (new3 _).mono ?_
      rintro e w4 ⟨p, b, rfl, hS, hp, hb, hb4⟩
      have HS := hide hS
      clear hS
      go_wp2_with fail
      refine (s_load_out _ p b _ HS.out (at_ - 3) HT.out).mono ?_
      rintro e w5 ⟨rfl, rfl⟩
      go_wp2_with fail
      refine (s_cas_out _ p b _ HS.out (at_ - 3) HT.out _ _).mono ?_
      rintro e w6 ⟨rfl, rfl⟩
      go_wp2_with fail
      refine (s_add_out _ p b _ HS.out (at_ - 3) HT.out _).mono ?_
      rintro e w5 ⟨rfl, rfl⟩
      go_wp2_with fail
      refine (s_put_out _ p b _ HS.out (at_ - 3) HT.out _).mono ?_
      rintro e w6 ⟨rfl, rfl⟩
      go_wp2_with fail
      refine (count_of _ p b _ HS.out).mono ?_
      rintro e w5 ⟨rfl, rfl⟩
      rw [hc.out]
      go_wp2_with fail
      refine (last_of _ p b _ HS.out).mono ?_
      rintro e w6 ⟨rfl, hb6⟩
      rw [hd.out]
      go_wp2_with fail
      refine (awake2 _).mono ?_
      rintro e w7 ⟨rfl, hb7⟩
      go_wp2
      go_ret
      have k1 := hb1.trans (hb4.mono hb1.size)
      have k2 := k1.trans (hb6.mono k1.size)
      exact ⟨rfl, k2.trans (hb7.mono k2.size)⟩
    · have HT : Hid (at_ < 0 ∨ (((St.zero 3).words.length : Nat) : Int) ≤ at_) := .inr (show (3 : Int) ≤ at_ by omega)
      go_enter Try.func7, Try.ntmps7
      go_wp2_with fail
      refine (s_load_nil _ at_).mono ?_
      rintro e w1 ⟨rfl, rfl⟩
      go_wp2_with fail
      refine (s_cas_nil _ at_ _ _).mono ?_
      rintro e w2 ⟨rfl, rfl⟩
      go_wp2_with fail
      refine (s_add_nil _ at_ _).mono ?_
      rintro e w1 ⟨rfl, rfl⟩
      go_wp2_with fail
      refine (s_put_nil _ at_ _).mono ?_
      rintro e w2 ⟨rfl, rfl⟩
      go_wp2_with fail
      refine (last_nil _).mono ?_
      rintro e w1 ⟨rfl, hb1⟩
      unfold noDid
      go_wp2_with fail
      refine (count_nil _).mono ?_
      rintro e w3 ⟨rfl, rfl⟩
      go_wp2_with fail
      refine (len_nil _).mono ?_
      rintro e w1 ⟨rfl, rfl⟩
      go_wp2_with fail
      refine (words_nil _).mono ?_
      rintro e w3 ⟨rfl, rfl⟩
      go_wp2_with fail
      refine (new3 _).mono ?_
      rintro e w4 ⟨p, b, rfl, hS, hp, hb, hb4⟩
      have HS := hide hS
      clear hS
      go_wp2_with fail
      refine (s_load_out _ p b _ HS.out at_ HT.out).mono ?_
      rintro e w5 ⟨rfl, rfl⟩
      go_wp2_with fail
      refine (s_cas_out _ p b _ HS.out at_ HT.out _ _).mono ?_
      rintro e w6 ⟨rfl, rfl⟩
      go_wp2_with fail
      refine (s_add_out _ p b _ HS.out at_ HT.out _).mono ?_
      rintro e w5 ⟨rfl, rfl⟩
      go_wp2_with fail
      refine (s_put_out _ p b _ HS.out at_ HT.out _).mono ?_
      rintro e w6 ⟨rfl, rfl⟩
      go_wp2_with fail
      refine (count_of _ p b _ HS.out).mono ?_
      rintro e w5 ⟨rfl, rfl⟩
      rw [hc.out]
      go_wp2_with fail
      refine (last_of _ p b _ HS.out).mono ?_
      rintro e w6 ⟨rfl, hb6⟩
      rw [hd.out]
      go_wp2_with fail
      refine (awake2 _).mono ?_
      rintro e w7 ⟨rfl, hb7⟩
      go_wp2
      go_ret
      have k1 := hb1.trans (hb4.mono hb1.size)
      have k2 := k1.trans (hb6.mono k1.size)
      exact ⟨rfl, k2.trans (hb7.mono k2.size)⟩
  · have HT : Hid (at_ < 0 ∨ (((St.zero 3).words.length : Nat) : Int) ≤ at_) := .inl (by omega)
    go_enter Try.func7, Try.ntmps7
    go_wp2_with fail
    refine (s_load_nil _ at_).mono ?_
    rintro e w1 ⟨rfl, rfl⟩
    go_wp2_with fail
    refine (s_cas_nil _ at_ _ _).mono ?_
    rintro e w2 ⟨rfl, rfl⟩
    go_wp2_with fail
    refine (s_add_nil _ at_ _).mono ?_
    rintro e w1 ⟨rfl, rfl⟩
    go_wp2_with fail
    refine (s_put_nil _ at_ _).mono ?_
    rintro e w2 ⟨rfl, rfl⟩
    go_wp2_with fail
    refine (last_nil _).mono ?_
    rintro e w1 ⟨rfl, hb1⟩
    unfold noDid
    go_wp2_with fail
    refine (count_nil _).mono ?_
    rintro e w3 ⟨rfl, rfl⟩
    go_wp2_with fail
    refine (len_nil _).mono ?_
    rintro e w1 ⟨rfl, rfl⟩
    go_wp2_with fail
    refine (words_nil _).mono ?_
    rintro e w3 ⟨rfl, rfl⟩
    go_wp2_with fail
    refine (new3 _).mono ?_
    rintro e w4 ⟨p, b, rfl, hS, hp, hb, hb4⟩
    have HS := hide hS
    clear hS
    go_wp2_with fail
    refine (s_load_out _ p b _ HS.out at_ HT.out).mono ?_
    rintro e w5 ⟨rfl, rfl⟩
    go_wp2_with fail
    refine (s_cas_out _ p b _ HS.out at_ HT.out _ _).mono ?_
    rintro e w6 ⟨rfl, rfl⟩
    go_wp2_with fail
    refine (s_add_out _ p b _ HS.out at_ HT.out _).mono ?_
    rintro e w5 ⟨rfl, rfl⟩
    go_wp2_with fail
    refine (s_put_out _ p b _ HS.out at_ HT.out _).mono ?_
    rintro e w6 ⟨rfl, rfl⟩
    go_wp2_with fail
    refine (count_of _ p b _ HS.out).mono ?_
    rintro e w5 ⟨rfl, rfl⟩
    rw [hc.out]
    go_wp2_with fail
    refine (last_of _ p b _ HS.out).mono ?_
    rintro e w6 ⟨rfl, hb6⟩
    rw [hd.out]
    go_wp2_with fail
    refine (awake2 _).mono ?_
    rintro e w7 ⟨rfl, hb7⟩
    go_wp2
    go_ret
    have k1 := hb1.trans (hb4.mono hb1.size)
    have k2 := k1.trans (hb6.mono k1.size)
    exact ⟨rfl, k2.trans (hb7.mono k2.size)⟩

set_option maxRecDepth 100000 in
theorem lifted (os : Os) (started : os.Started) (H : Type) (enc : TypeId × Value → H) :
    ReturnsInHanded {} Try.checked os 7 .any (Rows.storeNoneSpec.pre6 enc Try.prog Try.f7 Rows.storeNoneRow.domain false) (Rows.storeNoneSpec.post enc Try.prog Try.f7 false true false false) := by
  refine returnsInHanded_of_change (C := Try.checked) own started (by kernel_rfl) Try.func7
    (ChangeSpec.witness6 (enc := enc) (C := Try.checked) false ⟨#[], #[.int .i64 0, .int .u64 0, .int .u64 0], []⟩ 8 (by kernel_rfl) (by kernel_rfl) (by kernel_rfl) (by kernel_rfl)) ?_
  intro W base args ds gs before hval0 hW _ _
  have hval : ∀ (j : Nat) t v, Try.f7.params[j]? = some t → args[j]? = some v → Value.okWide Try.prog W .any base t v := hval0
  have hW' := hW
  obtain ⟨p, q, hA0, hV, rfl, hfz, hnd⟩ := hW
  have hA : DataW.TrodAll enc Try.prog W 0 (fun _ => true) true Try.f7.params.toList args.toList ds p := hA0
  rw [Try.params7] at hA hval
  obtain ⟨v0, vs0, d0, ds0, p0, q0, hargs, rfl, rfl, h0, r0⟩ := trodAll_cons hA
  obtain ⟨v1, vs1, d1, ds1, p1, q1, rfl, rfl, rfl, h1, r1⟩ := trodAll_cons r0
  obtain ⟨v2, vs2, d2, ds2, p2, q2, rfl, rfl, rfl, h2, r2⟩ := trodAll_cons r1
  obtain ⟨rfl, rfl, rfl⟩ := trodAll_nil r2
  obtain rfl : args = #[v0, v1, v2] := by cases args; simp_all
  obtain ⟨rfl, rfl⟩ := trodVars_none hV
  obtain ⟨a0, rfl, rfl, rfl, w0⟩ := open_int Try.underlying3 (hval 0 3 v0 rfl rfl) h0
  obtain ⟨a1, rfl, rfl, rfl, w1⟩ := open_int Try.underlying28 (hval 1 28 v1 rfl rfl) h1
  obtain ⟨a2, rfl, rfl, rfl, w2⟩ := open_int Try.underlying28 (hval 2 28 v2 rfl rfl) h2
  clear hA0 hval0
  have hx0 := i64_bd w0
  obtain ⟨x1, hx1, rfl⟩ := u64_nat w1
  obtain ⟨x2, hx2, rfl⟩ := u64_nat w2
  refine (walk a0 hx0 x1 hx1 x2 hx2 W).mono fun e W' ⟨he, bel⟩ => ?_
  subst he
  exact ⟨_, rfl, _, _, _, [], _, [], hW', trodAll_mk1 (shut_bool Try.underlying4 _), (trodAll_cons_mk (shut_int Try.underlying3 w0) (trodAll_cons_mk (shut_int Try.underlying28 w1) (trodAll_cons_mk (shut_int Try.underlying28 w2) trodAll_mk0))), rfl, bel.frame _, fun h => by cases h⟩

end Go.Proofs.Ytlanfpefifegpaa.storeNone
namespace Go.Proofs.Ytlanfpefifegpaa

theorem storeNone_holds : Rows.StoreNoneSaid :=
  OpenClaim.holds_of_wide 7 Try.f7 rfl rfl rfl rfl rfl rfl rfl ⟨rfl, rfl, rfl, rfl, rfl⟩ rfl rfl rfl rfl rfl (by kernel_rfl) Try.func7 (by kernel_rfl)
    (of_decide_eq_true (by kernel_rfl)) (by unfold Func.isWrapper; first | (rw [if_pos (by decide +kernel)]; kernel_rfl) | (rw [if_neg (by decide +kernel)]; exact ⟨rfl, rfl⟩))
    (fun os started H enc _ => storeNone.lifted os started H enc)
end Go.Proofs.Ytlanfpefifegpaa
