/- A swap puts the next word just where the old one was; of two that want the same old one the first alone wins, unless it put that again; what is added is there, going round: the law StoreCas answers true at every input, and its arguments read behind the call as they read before. No condition. -/
import Derived.Test.YtlanfpefifegpaaStoreWord
namespace Go.Proofs.Ytlanfpefifegpaa.storeCas
open Go.ChangeShapes Go.WideShapes Go.ChangeAt Go.RowKit

theorem new256 (w : World) : Calls Try.prog 8 #[.int .i64 256] w fun e w' => ∃ p b, e = .returned (.pointer (some ⟨p, 0, none⟩)) ∧ StoreAt 53 w' p b (St.zero 256) ∧ w.heap.size ≤ p ∧ w.heap.size ≤ b ∧ Below w.heap.size w w' :=
  new_in w 256 (by omega) (by omega)

set_option maxRecDepth 10000 in
theorem has256 {w : World} {p b a : Nat} (h : StoreAt 53 w p b (St.zero 256)) (ha : a < 256) : StoreHas w p b 256 a 0 :=
  ⟨_, h, List.length_replicate .., by unfold St.zero; rw [List.getD_eq_getElem?_getD, List.getElem?_replicate]; simp [ha], ha⟩

set_option maxHeartbeats 1000000 in
theorem walk (a : Nat) (ha : a < 256) (was : Nat) (hwas : was < 18446744073709551616) (old : Nat) (_hold : old < 18446744073709551616) (next : Nat) (hnext : next < 18446744073709551616) (v : Nat) (hv : v < 18446744073709551616) (w : World) :
    Calls Try.prog 5 #[.int .u8 (a : Int), .int .u64 (was : Int), .int .u64 (old : Int), .int .u64 (next : Int), .int .u64 (v : Int)] w fun e w' => e = .returned (.bool true) ∧ Below w.heap.size w w' := by
  by_cases e1 : was = old
  · have q1 := eq_u64 e1
    by_cases e2 : next = old
    · have q2 := eq_u64 e2
      have C1 := hide (fun w p b h => cas_at w p b 256 a was h old next hnext 0 next (if_pos e1) (if_pos e1))
      have C2 := hide (fun w p b h => cas_at w p b 256 a next h old v hv 0 v (if_pos e2) (if_pos e2))
      obtain ⟨sum, hsum⟩ : ∃ y, (v + old) % 18446744073709551616 = y := ⟨_, rfl⟩
      have A1 := hide (fun w p b h => add_at w p b 256 a v h old sum hsum)
      have K := add_wrap v old
      rw [hsum] at K
      clear e1 e2 hsum
      go_enter Try.func5, Try.ntmps5
      go_wp2_with fail
      refine (new256 _).mono ?_
      rintro e w1 ⟨p, b, rfl, hS, hp, hb, hbel⟩
      have HS := has256 hS ha
      clear hS
      go_wp2_with fail
      refine (put_at _ p b 256 a 0 HS was hwas).mono ?_
      rintro e w2 ⟨rfl, hS2, ho2⟩
      go_wp2_with fail
      refine (C1.out _ p b hS2).mono ?_
      rintro e w3 ⟨rfl, hS3, ho3⟩
      go_wp2_with fail
      refine (C2.out _ p b hS3).mono ?_
      rintro e w4 ⟨rfl, hS4, ho4⟩
      go_wp2_with fail
      refine (A1.out _ p b hS4).mono ?_
      rintro e w5 ⟨rfl, hS5, ho5⟩
      go_wp2_with fail
      refine (load_at _ p b 256 a sum hS5).mono ?_
      rintro e w6 ⟨rfl, hS6, ho6⟩
      go_wp2_with fail
      refine (awake2 _).mono ?_
      rintro e w7 ⟨rfl, hb7⟩
      go_wp2
      go_ret
      have bel := below_only (below_only (below_only (below_only (below_only hbel (Nat.le_refl _) hp hb ho2) (Nat.le_refl _) hp hb ho3) (Nat.le_refl _) hp hb ho4) (Nat.le_refl _) hp hb ho5) (Nat.le_refl _) hp hb ho6
      exact ⟨rfl, bel.trans (hb7.mono bel.size)⟩
    · have q2 := ne_u64 e2
      have C1 := hide (fun w p b h => cas_at w p b 256 a was h old next hnext 0 next (if_pos e1) (if_pos e1))
      have C2 := hide (fun w p b h => cas_at w p b 256 a next h old v hv 5 next (if_neg e2) (if_neg e2))
      obtain ⟨sum, hsum⟩ : ∃ y, (next + old) % 18446744073709551616 = y := ⟨_, rfl⟩
      have A1 := hide (fun w p b h => add_at w p b 256 a next h old sum hsum)
      have K := add_wrap next old
      rw [hsum] at K
      clear e1 e2 hsum
      go_enter Try.func5, Try.ntmps5
      go_wp2_with fail
      refine (new256 _).mono ?_
      rintro e w1 ⟨p, b, rfl, hS, hp, hb, hbel⟩
      have HS := has256 hS ha
      clear hS
      go_wp2_with fail
      refine (put_at _ p b 256 a 0 HS was hwas).mono ?_
      rintro e w2 ⟨rfl, hS2, ho2⟩
      go_wp2_with fail
      refine (C1.out _ p b hS2).mono ?_
      rintro e w3 ⟨rfl, hS3, ho3⟩
      go_wp2_with fail
      refine (C2.out _ p b hS3).mono ?_
      rintro e w4 ⟨rfl, hS4, ho4⟩
      go_wp2_with fail
      refine (A1.out _ p b hS4).mono ?_
      rintro e w5 ⟨rfl, hS5, ho5⟩
      go_wp2_with fail
      refine (load_at _ p b 256 a sum hS5).mono ?_
      rintro e w6 ⟨rfl, hS6, ho6⟩
      go_wp2_with fail
      refine (awake2 _).mono ?_
      rintro e w7 ⟨rfl, hb7⟩
      go_wp2
      go_ret
      have bel := below_only (below_only (below_only (below_only (below_only hbel (Nat.le_refl _) hp hb ho2) (Nat.le_refl _) hp hb ho3) (Nat.le_refl _) hp hb ho4) (Nat.le_refl _) hp hb ho5) (Nat.le_refl _) hp hb ho6
      exact ⟨rfl, bel.trans (hb7.mono bel.size)⟩
  · have q1 := ne_u64 e1
    have e2 := e1
    have C1 := hide (fun w p b h => cas_at w p b 256 a was h old next hnext 5 was (if_neg e1) (if_neg e1))
    have C2 := hide (fun w p b h => cas_at w p b 256 a was h old v hv 5 was (if_neg e1) (if_neg e1))
    obtain ⟨sum, hsum⟩ : ∃ y, (was + old) % 18446744073709551616 = y := ⟨_, rfl⟩
    have A1 := hide (fun w p b h => add_at w p b 256 a was h old sum hsum)
    have K := add_wrap was old
    rw [hsum] at K
    clear e1 e2 hsum
    go_enter Try.func5, Try.ntmps5
    go_wp2_with fail
    refine (new256 _).mono ?_
    rintro e w1 ⟨p, b, rfl, hS, hp, hb, hbel⟩
    have HS := has256 hS ha
    clear hS
    go_wp2_with fail
    refine (put_at _ p b 256 a 0 HS was hwas).mono ?_
    rintro e w2 ⟨rfl, hS2, ho2⟩
    go_wp2_with fail
    refine (C1.out _ p b hS2).mono ?_
    rintro e w3 ⟨rfl, hS3, ho3⟩
    go_wp2_with fail
    refine (C2.out _ p b hS3).mono ?_
    rintro e w4 ⟨rfl, hS4, ho4⟩
    go_wp2_with fail
    refine (A1.out _ p b hS4).mono ?_
    rintro e w5 ⟨rfl, hS5, ho5⟩
    go_wp2_with fail
    refine (load_at _ p b 256 a sum hS5).mono ?_
    rintro e w6 ⟨rfl, hS6, ho6⟩
    go_wp2_with fail
    refine (awake2 _).mono ?_
    rintro e w7 ⟨rfl, hb7⟩
    go_wp2
    go_ret
    have bel := below_only (below_only (below_only (below_only (below_only hbel (Nat.le_refl _) hp hb ho2) (Nat.le_refl _) hp hb ho3) (Nat.le_refl _) hp hb ho4) (Nat.le_refl _) hp hb ho5) (Nat.le_refl _) hp hb ho6
    exact ⟨rfl, bel.trans (hb7.mono bel.size)⟩

set_option maxRecDepth 100000 in
theorem lifted (os : Os) (started : os.Started) (H : Type) (enc : TypeId × Value → H) :
    ReturnsInHanded {} Try.checked os 5 .any (Rows.storeCasSpec.pre6 enc Try.prog Try.f5 Rows.storeCasRow.domain false) (Rows.storeCasSpec.post enc Try.prog Try.f5 false true false false) := by
  refine returnsInHanded_of_change (C := Try.checked) own started (by kernel_rfl) Try.func5
    (ChangeSpec.witness6 (enc := enc) (C := Try.checked) false ⟨#[], #[.int .u8 0, .int .u64 0, .int .u64 0, .int .u64 0, .int .u64 0], []⟩ 8 (by kernel_rfl) (by kernel_rfl) (by kernel_rfl) (by kernel_rfl)) ?_
  intro W base args ds gs before hval0 hW _ _
  have hval : ∀ (j : Nat) t v, Try.f5.params[j]? = some t → args[j]? = some v → Value.okWide Try.prog W .any base t v := hval0
  have hW' := hW
  obtain ⟨p, q, hA0, hV, rfl, hfz, hnd⟩ := hW
  have hA : DataW.TrodAll enc Try.prog W 0 (fun _ => true) true Try.f5.params.toList args.toList ds p := hA0
  rw [Try.params5] at hA hval
  obtain ⟨v0, vs0, d0, ds0, p0, q0, hargs, rfl, rfl, h0, r0⟩ := trodAll_cons hA
  obtain ⟨v1, vs1, d1, ds1, p1, q1, rfl, rfl, rfl, h1, r1⟩ := trodAll_cons r0
  obtain ⟨v2, vs2, d2, ds2, p2, q2, rfl, rfl, rfl, h2, r2⟩ := trodAll_cons r1
  obtain ⟨v3, vs3, d3, ds3, p3, q3, rfl, rfl, rfl, h3, r3⟩ := trodAll_cons r2
  obtain ⟨v4, vs4, d4, ds4, p4, q4, rfl, rfl, rfl, h4, r4⟩ := trodAll_cons r3
  obtain ⟨rfl, rfl, rfl⟩ := trodAll_nil r4
  obtain rfl : args = #[v0, v1, v2, v3, v4] := by cases args; simp_all
  obtain ⟨rfl, rfl⟩ := trodVars_none hV
  obtain ⟨a0, rfl, rfl, rfl, w0⟩ := open_int Try.underlying5 (hval 0 5 v0 rfl rfl) h0
  obtain ⟨a1, rfl, rfl, rfl, w1⟩ := open_int Try.underlying28 (hval 1 28 v1 rfl rfl) h1
  obtain ⟨a2, rfl, rfl, rfl, w2⟩ := open_int Try.underlying28 (hval 2 28 v2 rfl rfl) h2
  obtain ⟨a3, rfl, rfl, rfl, w3⟩ := open_int Try.underlying28 (hval 3 28 v3 rfl rfl) h3
  obtain ⟨a4, rfl, rfl, rfl, w4⟩ := open_int Try.underlying28 (hval 4 28 v4 rfl rfl) h4
  clear hA0 hval0
  obtain ⟨x0, hx0, rfl⟩ := u8_nat w0
  obtain ⟨x1, hx1, rfl⟩ := u64_nat w1
  obtain ⟨x2, hx2, rfl⟩ := u64_nat w2
  obtain ⟨x3, hx3, rfl⟩ := u64_nat w3
  obtain ⟨x4, hx4, rfl⟩ := u64_nat w4
  refine (walk x0 hx0 x1 hx1 x2 hx2 x3 hx3 x4 hx4 W).mono fun e W' ⟨he, bel⟩ => ?_
  subst he
  exact ⟨_, rfl, _, _, _, [], _, [], hW', trodAll_mk1 (shut_bool Try.underlying4 _), (trodAll_cons_mk (shut_int Try.underlying5 w0) (trodAll_cons_mk (shut_int Try.underlying28 w1) (trodAll_cons_mk (shut_int Try.underlying28 w2) (trodAll_cons_mk (shut_int Try.underlying28 w3) (trodAll_cons_mk (shut_int Try.underlying28 w4) trodAll_mk0))))), rfl, bel.frame _, fun h => by cases h⟩

end Go.Proofs.Ytlanfpefifegpaa.storeCas
namespace Go.Proofs.Ytlanfpefifegpaa

theorem storeCas_holds : Rows.StoreCasSaid :=
  OpenClaim.holds_of_wide 5 Try.f5 rfl rfl rfl rfl rfl rfl rfl ⟨rfl, rfl, rfl, rfl, rfl⟩ rfl rfl rfl rfl rfl (by kernel_rfl) Try.func5 (by kernel_rfl)
    (of_decide_eq_true (by kernel_rfl)) (by unfold Func.isWrapper; first | (rw [if_pos (by decide +kernel)]; kernel_rfl) | (rw [if_neg (by decide +kernel)]; exact ⟨rfl, rfl⟩))
    (fun os started H enc _ => storeCas.lifted os started H enc)
end Go.Proofs.Ytlanfpefifegpaa
