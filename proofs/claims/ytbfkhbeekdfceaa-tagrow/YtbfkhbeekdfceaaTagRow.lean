/- Heads that follow one another, of whatever pages, are all unlike: the law TagRow answers true at every input, and its arguments read behind the call as they read before. -/
import Derived.Test.YtbfkhbeekdfceaaTgOpen
namespace Go.Proofs.Ytbfkhbeekdfceaa.tagRow
open Go.ChangeShapes Go.WideShapes Go.ChangeAt Go.RowKit

set_option maxRecDepth 100000 in
set_option maxHeartbeats 4000000 in
theorem walk (t : Nat) (ht : t < 4294967296) (ao : Option Addr) (len cap : Nat) (hlc : len ≤ cap) (hcm : cap ≤ maxLen) (w : World) (hW : HalvesIn w ao len) :
    Calls Try.prog 5 #[.int .u32 t, .slice ao len cap] w fun e w' => e = .returned (.bool true) ∧ Below w.heap.size w w' := by
  obtain ⟨i0, hi, hz0, hz1, hz2⟩ := info_parts infoU64
  have HT := hide ht
  have HW := hide hW
  have hlen : len ≤ 9223372036854775807 := by unfold maxLen at hcm; omega
  clear hW
  have M := hide (fun w => make7 t (-1) ht w)
  obtain ⟨x0, e0, hx0, g0⟩ : ∃ x0, Tg.make t (-1) = (x0, true) ∧ x0 < 18446744073709551616 ∧ Tg.tag x0 = t := ⟨_, Tg.make_in t (-1) (by omega) (by omega), Tg.head_lt t (-1) ht (by omega) (by omega), Tg.tag_head t (-1) (by omega) (by omega)⟩
  rw [e0] at M
  have HX0 := hide hx0
  have HG0 := hide g0
  clear e0 g0 hcm
  go_enter Try.func5, Try.ntmps5
  go_wp2_with fail
  refine (M.out _).mono ?_
  rintro e w1 ⟨rfl, rfl⟩
  clear M
  go_wp2_with fail
  go_loopw [5, 6, 7, 8] (fun x ok v i wr => ∃ (k y : Nat) (l : List Nat), k ≤ len ∧ k ≤ 200 ∧ x = .int .u64 (y : Int) ∧ ok = .bool true ∧ i = .int .i64 (k : Int) ∧ y < 18446744073709551616 ∧ Hid (Tg.tag y = (t + k) % 4294967296 ∧ Row t k l ∧ wr.ownsRow w1.heap.size 23 1 v (k + 1) (wordVals l) ∧ Below w1.heap.size w1 wr)) (fun _ _ _ i _ => 200 - (intOf i).toNat)
  case atStart => exact ⟨0, x0, [x0], by omega, by omega, rfl, rfl, rfl, hx0, by rw [HG0.out]; have := HT.out; omega, Row.one t x0 HT.out HG0.out, owns_one _ _, (Below.refl _ _).alloc (Nat.le_refl _) _⟩
  case round =>
    obtain ⟨k, y, l, hk, hk2, rfl, rfl, rfl, hy, hH⟩ := hrel
    by_cases hlt : k < len ∧ k < 200
    · obtain ⟨hlt1, hlt2⟩ := hlt
      obtain ⟨b, o, z, rfl, hz⟩ := HW.out k hlt1
      have hz' := hz.kept hH.out.2.2.2 hz.lt
      have hc := hz'.cell
      have hzx := hz'.hx
      have hzl := hz'.lt
      clear hz hz'
      obtain ⟨p, ep⟩ : ∃ p : Int, (z : Int) % 4097 - 1 = p := ⟨_, rfl⟩
      have p1 : -1 ≤ p := by omega
      have p2 : p < 4096 := by omega
      obtain ⟨x2, en, hx2, g2⟩ : ∃ x2, Tg.next y p = (x2, true) ∧ x2 < 18446744073709551616 ∧ Tg.tag x2 = (t + (k + 1)) % 4294967296 := ⟨_, Tg.make_in _ p p1 p2, Tg.head_lt _ p (Tg.succ_lt _) p1 p2, by rw [Tg.tag_head _ p p1 p2, hH.out.1]; unfold Tg.succ; omega⟩
      have HN := hide (next9 y hy p)
      rw [en] at HN
      have HG := hide g2
      have HNE := hide (fun j hj => hH.out.2.1.ne (by omega) g2 j hj)
      obtain ⟨g, c, rfl⟩ := ownsRow_succ hH.out.2.2.1
      have hgl := (hH.out.2.2.1.lt g rfl).1
      have HC : Hid (∀ j, j < k + 1 → wr.cell? ⟨g, j, none⟩ = some (.int .u64 (l.getD j 0 : Int))) := fun j hj => by
        rw [hH.out.2.2.1.cellAt j (by omega)]
        have := wordVals_get l j (by rw [hH.out.2.1.len]; exact hj)
        simpa using this
      clear en g2
      go_wp2_with fail
      refine (HN.out _).mono ?_
      rintro e w2 ⟨rfl, q, rfl⟩
      clear HN hc
      go_wp2_with fail
      go_loopw [9] (fun kk wx => ∃ j nq : Nat, j ≤ k + 1 ∧ kk = .int .i64 (j : Int) ∧ wx = wr.drewN nq) (fun kk _ => k + 1 - (intOf kk).toNat)
      case atStart => exact ⟨0, q, by omega, rfl, rfl⟩
      case round =>
        obtain ⟨j, nq, hj, rfl, rfl⟩ := hrel
        by_cases hjl : j < k + 1
        · have hcj := HC.out j hjl
          have hne := HNE.out j hjl
          generalize l.getD j 0 = u at *
          have hne2 : ((u : Int) == (x2 : Int)) = false := by simp; omega
          go_wp2
          go_roundw
          case rel => exact ⟨j + 1, _, by omega, by go_num, rfl⟩
          case measure => simp [intOf]; omega
        · obtain rfl : j = k + 1 := by omega
          have HO : Hid ((wr.drewN nq).ownsRow w1.heap.size 23 1 (.slice (some ⟨g, 0, none⟩) (k + 1) c) (k + 1) (wordVals l)) := hH.out.2.2.1
          have HB := hide (below_drewN hH.out.2.2.2 nq)
          generalize wr.drewN nq = V at *
          go_wp2_with (at_builtin; refine wpList_append_own _ rfl _ _ 34 rfl w1.heap.size 23 i0 (.int .u64 0) 1 8 Try.underlying34 hi hz0 hz1 hz2 rfl (by decide) _ _ _ rfl (HO.out.alloc _) ⟨_, 0, none⟩ 1 1 [.int .u64 (x2 : Int)] rfl rfl (cell_one_new _ _ _) (by simp [Value.oneCell']) (by unfold maxLen; omega) (by omega) (by have := HB.out.size; simp; omega) ?_; intro v' w3 hown' hgrow' _)
          go_roundw
          case rel =>
            refine ⟨k + 1, x2, l ++ [x2], by omega, by omega, rfl, rfl, by go_num, hx2, HG.out, hH.out.2.1.more x2 HG.out, ?_, below_app HB.out (Nat.le_refl _) HO.out hgrow'⟩
            rw [wordVals_snoc]
            simpa using hown'
          case measure => simp [intOf]; omega
    · have HB := hide hH.out.2.2.2
      clear hH
      by_cases h1 : k < len
      · have d1 : ¬ k < 200 := by omega
        go_wp2_with fail
        refine (awake15 _).mono ?_
        rintro e w2 ⟨rfl, q, rfl⟩
        go_wp2
        go_ret
        exact ⟨rfl, below_drewN HB.out _⟩
      · go_wp2_with fail
        refine (awake15 _).mono ?_
        rintro e w2 ⟨rfl, q, rfl⟩
        go_wp2
        go_ret
        exact ⟨rfl, below_drewN HB.out _⟩

set_option maxRecDepth 100000 in
theorem lifted (os : Os) (started : os.Started) (H : Type) (enc : TypeId × Value → H) :
    ReturnsInHanded {} Try.checked os 5 .any (Rows.tagRowSpec.pre6 enc Try.prog Try.f5 Rows.tagRowRow.domain false) (Rows.tagRowSpec.post enc Try.prog Try.f5 false true false false) := by
  refine returnsInHanded_of_change (C := Try.checked) own started (by kernel_rfl) Try.func5
    (ChangeSpec.witness6 (enc := enc) (C := Try.checked) false ⟨#[], #[.int .u32 0, .slice none 0 0], []⟩ 8 (by kernel_rfl) (by kernel_rfl) (by kernel_rfl) (by kernel_rfl)) ?_
  intro W base args ds gs before hval0 hW _ _
  have hval : ∀ (j : Nat) t v, Try.f5.params[j]? = some t → args[j]? = some v → Value.okWide Try.prog W .any base t v := hval0
  have hW' := hW
  obtain ⟨p, q, hA0, hV, rfl, hfz, hnd⟩ := hW
  have hA : DataW.TrodAll enc Try.prog W 0 (fun _ => true) true Try.f5.params.toList args.toList ds p := hA0
  rw [Try.params5] at hA hval
  obtain ⟨v0, vs0, d0, ds0, p0, q0, hargs, rfl, rfl, h0, r0⟩ := trodAll_cons hA
  obtain ⟨v1, vs1, d1, ds1, p1, q1, rfl, rfl, rfl, h1, r1⟩ := trodAll_cons r0
  obtain ⟨rfl, rfl, rfl⟩ := trodAll_nil r1
  obtain rfl : args = #[v0, v1] := by cases args; simp_all
  obtain ⟨rfl, rfl⟩ := trodVars_none hV
  obtain ⟨a0, rfl, rfl, rfl, w0⟩ := open_int Try.underlying22 (hval 0 22 v0 rfl rfl) h0
  have h1k := h1
  have lt1 : ∀ x ∈ p1, x.block < W.heap.size := fun x hx => hW'.lt x (by simp [hx])
  obtain ⟨l1_0, l1_1, l1_2, rfl, f1_0, f1_1, f1_2⟩ := open_halves (hval 1 33 v1 rfl rfl) h1
  clear hA0 hval0
  obtain ⟨x0, hx0, rfl⟩ := u32_nat w0
  refine (walk x0 hx0 l1_0 l1_1 l1_2 f1_0 f1_1 W f1_2).mono fun e W' ⟨he, bel⟩ => ?_
  subst he
  exact ⟨_, rfl, _, _, _, [], _, [], hW', trodAll_mk1 (shut_bool Try.underlying4 _), (trodAll_cons_mk (shut_int Try.underlying22 w0) (trodAll_cons_mk (Below.trod laidOut (by kernel_rfl) (of_decide_eq_true (by kernel_rfl)) h1k bel lt1) trodAll_mk0)), rfl, bel.frame _, fun h => by cases h⟩

end Go.Proofs.Ytbfkhbeekdfceaa.tagRow
namespace Go.Proofs.Ytbfkhbeekdfceaa

theorem tagRow_holds : Rows.TagRowSaid :=
  OpenClaim.holds_of_wide 5 Try.f5 rfl rfl rfl rfl rfl rfl rfl ⟨rfl, rfl, rfl, rfl, rfl⟩ rfl rfl rfl rfl rfl (by kernel_rfl) Try.func5 (by kernel_rfl)
    (of_decide_eq_true (by kernel_rfl)) (by unfold Func.isWrapper; first | (rw [if_pos (by decide +kernel)]; kernel_rfl) | (rw [if_neg (by decide +kernel)]; exact ⟨rfl, rfl⟩))
    (fun os started H enc _ => tagRow.lifted os started H enc)
end Go.Proofs.Ytbfkhbeekdfceaa
