/- Of no other number of words is there a store; a new one is of noughts, and no access was done: the law StoreNew answers true at every input, and its arguments read behind the call as they read before. No condition. -/
import Derived.Test.YtlanfpefifegpaaStoreAwake
namespace Go.Proofs.Ytlanfpefifegpaa.storeNew
open Go.ChangeShapes Go.WideShapes Go.ChangeAt Go.RowKit

theorem walk (n : Int) (hn : -9223372036854775808 ≤ n ∧ n ≤ 9223372036854775807) (w : World) :
    Calls Try.prog 4 #[.int .i64 n] w fun e w' => e = .returned (.bool true) ∧ Below w.heap.size w w' := by
  by_cases h0 : n < 1 ∨ 65536 < n
  · have HN := hide (new_out w n h0)
    by_cases h1 : n < 1
    · clear h0
      go_enter Try.func4, Try.ntmps4
      go_wp2_with fail
      refine HN.out.mono ?_
      rintro e w1 ⟨rfl, rfl⟩
      go_wp2_with fail
      refine (awake2 _).mono ?_
      rintro e w2 ⟨rfl, hb⟩
      go_wp2
      go_ret
      exact ⟨rfl, hb⟩
    · have h2 : 65536 < n := by omega
      clear h0
      go_enter Try.func4, Try.ntmps4
      go_wp2_with fail
      refine HN.out.mono ?_
      rintro e w1 ⟨rfl, rfl⟩
      go_wp2_with fail
      refine (awake2 _).mono ?_
      rintro e w2 ⟨rfl, hb⟩
      go_wp2
      go_ret
      exact ⟨rfl, hb⟩
  · obtain ⟨m, rfl⟩ : ∃ m : Nat, n = (m : Int) := ⟨n.toNat, by omega⟩
    have h1 : 1 ≤ m := by omega
    have h2 : m ≤ 65536 := by omega
    have HN := hide (new_in w m h1 h2)
    clear h0 hn
    go_enter Try.func4, Try.ntmps4
    go_wp2_with fail
    refine HN.out.mono ?_
    rintro e w1 ⟨p, b, rfl, hS, hp, hb, hbel⟩
    have HS := hide hS
    clear hS
    have hz : Hid ((St.zero m).words.length = m) := by simp [St.zero, Hid]
    have hd : Hid ((St.zero m).did = .agg #[.int .i64 0, .int .i64 0, .int .u64 0, .int .u64 0]) := rfl
    have hw : Hid ((St.zero m).words = List.replicate m 0) := rfl
    have hc : Hid ((St.zero m).count = 0) := rfl
    go_wp2_with fail
    refine (len_of _ p b _ HS.out).mono ?_
    rintro e w2 ⟨rfl, rfl⟩
    rw [hz.out]
    go_wp2_with fail
    refine (count_of _ p b _ HS.out).mono ?_
    rintro e w3 ⟨rfl, rfl⟩
    rw [hc.out]
    go_wp2_with fail
    refine (last_of _ p b _ HS.out).mono ?_
    rintro e w2 ⟨rfl, hb2⟩
    rw [hd.out]
    have HS2 := hide (HS.out.below hb2)
    clear HS
    go_wp2_with fail
    refine (words_of _ p b _ HS2.out).mono ?_
    rintro e w3 ⟨g, rfl, hW, hg, hb3⟩
    rw [hz.out]
    rw [hw.out] at hW
    have bel : Hid (Below w.heap.size w w3) := (hbel.trans (hb2.mono hbel.size)).trans (hb3.mono (Nat.le_trans hbel.size hb2.size))
    clear hbel hb2 hb3 HS2 hp hb hg
    go_wp2_with fail
    go_loop [5] (fun i => ∃ k : Nat, k ≤ m ∧ i = .int .i64 k) (fun i => m - (intOf i).toNat)
    case atStart => exact ⟨0, by omega, rfl⟩
    case round =>
      obtain ⟨k, hk, rfl⟩ := hrel
      by_cases hlt : k < m
      · have c1 : w3.cell? ⟨g, k, none⟩ = some (.int .u64 0) := (hW.cell k (by simpa using hlt)).trans (by simp [hlt])
        go_wp2
        go_round
        case rel => exact ⟨k + 1, by omega, by go_num⟩
        case measure => simp [intOf]; omega
      · go_wp2_with fail
        refine (awake2 _).mono ?_
        rintro e w4 ⟨rfl, hb4⟩
        go_wp2
        go_ret
        exact ⟨rfl, bel.out.trans (hb4.mono bel.out.size)⟩

set_option maxRecDepth 100000 in
theorem lifted (os : Os) (started : os.Started) (H : Type) (enc : TypeId × Value → H) :
    ReturnsInHanded {} Try.checked os 4 .any (Rows.storeNewSpec.pre6 enc Try.prog Try.f4 Rows.storeNewRow.domain false) (Rows.storeNewSpec.post enc Try.prog Try.f4 false true false false) := by
  refine returnsInHanded_of_change (C := Try.checked) own started (by kernel_rfl) Try.func4
    (ChangeSpec.witness6 (enc := enc) (C := Try.checked) false ⟨#[], #[.int .i64 0], []⟩ 8 (by kernel_rfl) (by kernel_rfl) (by kernel_rfl) (by kernel_rfl)) ?_
  intro W base args ds gs before hval0 hW _ _
  have hval : ∀ (j : Nat) t v, Try.f4.params[j]? = some t → args[j]? = some v → Value.okWide Try.prog W .any base t v := hval0
  have hW' := hW
  obtain ⟨p, q, hA0, hV, rfl, hfz, hnd⟩ := hW
  have hA : DataW.TrodAll enc Try.prog W 0 (fun _ => true) true Try.f4.params.toList args.toList ds p := hA0
  rw [Try.params4] at hA hval
  obtain ⟨v0, vs0, d0, ds0, p0, q0, hargs, rfl, rfl, h0, r0⟩ := trodAll_cons hA
  obtain ⟨rfl, rfl, rfl⟩ := trodAll_nil r0
  obtain rfl : args = #[v0] := by cases args; simp_all
  obtain ⟨rfl, rfl⟩ := trodVars_none hV
  obtain ⟨a0, rfl, rfl, rfl, w0⟩ := open_int Try.underlying3 (hval 0 3 v0 rfl rfl) h0
  clear hA0 hval0
  have hx0 := i64_bd w0
  refine (walk a0 hx0 W).mono fun e W' ⟨he, bel⟩ => ?_
  subst he
  exact ⟨_, rfl, _, _, _, [], _, [], hW', trodAll_mk1 (shut_bool Try.underlying4 _), (trodAll_cons_mk (shut_int Try.underlying3 w0) trodAll_mk0), rfl, bel.frame _, fun h => by cases h⟩

end Go.Proofs.Ytlanfpefifegpaa.storeNew
namespace Go.Proofs.Ytlanfpefifegpaa

theorem storeNew_holds : Rows.StoreNewSaid :=
  OpenClaim.holds_of_wide 4 Try.f4 rfl rfl rfl rfl rfl rfl rfl ⟨rfl, rfl, rfl, rfl, rfl⟩ rfl rfl rfl rfl rfl (by kernel_rfl) Try.func4 (by kernel_rfl)
    (of_decide_eq_true (by kernel_rfl)) (by unfold Func.isWrapper; first | (rw [if_pos (by decide +kernel)]; kernel_rfl) | (rw [if_neg (by decide +kernel)]; exact ⟨rfl, rfl⟩))
    (fun os started H enc _ => storeNew.lifted os started H enc)
end Go.Proofs.Ytlanfpefifegpaa
