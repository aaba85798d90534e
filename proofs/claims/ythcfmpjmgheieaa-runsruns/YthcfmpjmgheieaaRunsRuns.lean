/- Whatever is taken and put, with whatever draws: each answer, all runs, how many pages, how many draws, the tree's shape, are the document's: the law RunsRuns answers true at every input, and its arguments read behind the call as they read before. -/
import Derived.Test.YthcfmpjmgheieaaXB
import Derived.Test.YthcfmpjmgheieaaRunAwake
import Derived.Test.YthcfmpjmgheieaaRunOpen
namespace Go.Proofs.Ythcfmpjmgheieaa.runsRuns
open Go.ChangeShapes Go.WideShapes Go.ChangeAt Go.RowKit

set_option maxRecDepth 100000 in
set_option maxHeartbeats 4000000 in
theorem walk (p : Nat) (hp : p < 256) (a1 : Option Addr) (n1 c1 : Nat) (_h11 : n1 ≤ c1) (_h12 : c1 ≤ maxLen) (a2 : Option Addr) (n2 c2 : Nat) (_h21 : n2 ≤ c2) (_h22 : c2 ≤ maxLen) (w : World)
    (q1 : ∃ f : Nat → Nat, ∀ k, k < n1 → f k < 256 ∧ AtB w a1 k (.int .u8 (f k : Nat))) (q2 : ∃ f : Nat → Nat, ∀ k, k < n2 → f k < 256 ∧ AtB w a2 k (.int .u8 (f k : Nat))) :
    Calls Try.prog 3 #[.int .u8 (p : Int), .slice a1 n1 c1, .slice a2 n2 c2] w fun e w' => e = .returned (.bool true) ∧ Below w.heap.size w w' := by
  obtain ⟨f1, b1⟩ := q1
  obtain ⟨f2, b2⟩ := q2
  unfold maxLen at _h12 _h22
  have hn2 : n2 ≤ 9223372036854775807 := by omega
  have hn1 : n1 ≤ 9223372036854775807 := by omega
  have hb1 : BytesAt w a1 n1 f1 := b1
  have hb2 : BytesAt w a2 n2 f2 := b2
  have HD : Hid (∀ w', Below w.heap.size w w' → _) := hide (fun w' (hb : Below w.heap.size w w') => draws11 w' a1 n1 c1 f1 (hb1.below hb (Nat.le_refl _)) hn1)
  have HB2 := hide hb2
  obtain ⟨pg, hpg⟩ : ∃ pg, 1 + p % 100 = pg := ⟨_, rfl⟩
  have hpi : (1 : Int) + (p : Int) % 100 = (pg : Int) := by omega
  have hpb : 1 ≤ pg ∧ pg ≤ 100 := by omega
  obtain ⟨ds, hds⟩ : ∃ ds, drawsOf f1 (min n1 60) = ds := ⟨_, rfl⟩
  have hdl : ds.length ≤ 60 := by rw [← hds, drawsOf_length]; omega
  rw [hds] at HD
  have HAW := fun w => hide (awake20 w)
  obtain ⟨q7, hq7⟩ : ∃ q7, (1 : Int) + (n2 : Int) % 7 = q7 := ⟨_, rfl⟩
  clear b1 b2 hb1 hb2 hds hpg _h11 _h12 _h21 _h22
  go_enter Try.func3, Try.ntmps3
  go_wp2_with fail
  refine (HD.out _ (Below.refl _ _)).mono ?_
  rintro e w1 ⟨v, rfl, hown, hb1⟩
  obtain ⟨va, vc, rfl, hz, hda, _⟩ := draws_of_owns hown
  have HN := hide (newP (R := Nought) Loc.nought ((Own.start w).below Loc.nought hb1) hpb.1 (by omega) (by omega) va vc hz hda)
  clear hown hb1 hda hz
  obtain ⟨m, hm⟩ : ∃ m, ds.length = m := ⟨_, rfl⟩
  have HM := hide hm
  rw [hm] at HN hdl ⊢
  clear hm
  go_wp2_with fail
  refine HN.out.mono ?_
  rintro e w2 ⟨r, rfl, o2⟩
  have HO2 := hide o2
  clear o2 HN
  go_wp2_with fail
  refine (HD.out _ HO2.out.back).mono ?_
  rintro e w3 ⟨v, rfl, hown, hb3⟩
  obtain ⟨vb, vd, rfl, hz, hda, _⟩ := draws_of_owns hown
  have HN := hide (xnewP (R := Sep (RR r pg ds 1 [(kOf 0 pg, ds.getD 0 0, ())]) Nought) (Loc.rr.sep Loc.nought) (HO2.out.below (Loc.rr.sep Loc.nought) hb3) hpb.1 (by omega) (by rw [HM.out]; omega) vb vd hz hda)
  clear hown hb3 hda hz HD HO2
  rw [HM.out] at HN ⊢
  go_wp2_with fail
  refine HN.out.mono ?_
  rintro e w4 ⟨x, rfl, o4⟩
  have HO4 := hide (o4.cast (R' := Sep (RR r pg ds 1 [(kOf 0 pg, ds.getD 0 0, ())]) (Sep (RX x pg ds 1 [(kOf 0 pg, ds.getD 0 0, ())]) Nought)) (by ac_rfl))
  have HF0 : Hid (Fit 1 pg ds 1 [(kOf 0 pg, ds.getD 0 0, ())]) := hide (Fit.new hpb.1 (by omega) (by rw [HM.out]; omega))
  clear o4 HN
  go_wp2
  go_loopg [10] 363 (fun g r9 wr => ∃ (j dn : Nat) (L : RL), 3 * j + g = 363 ∧ r9 = .int .i64 ((3 * j : Nat) : Int) ∧ Own (Sep (RR r pg ds dn L) (Sep (RX x pg ds dn L) Nought)) w wr ∧ Fit (j + 1) pg ds dn L)
  case atStart => exact ⟨0, _, _, by omega, rfl, HO4.out, HF0.out⟩
  case round =>
    clear HO4 HF0
    obtain ⟨j, dn, L, hg, rfl, ho, hf⟩ := hrel
    have HO := hide ho
    have HF := hide hf
    have hB := ho.back
    clear ho hf
    obtain ⟨i, hi⟩ : ∃ i, 3 * j = i := ⟨_, rfl⟩
    rw [hi]
    by_cases hin : i + 2 < n2 ∧ i < 360
    · obtain ⟨hin, hi1⟩ := hin
      have d1 : decide ((i : Int) + 2 < (n2 : Int)) = true := by simp; omega
      have d2 : decide ((i : Int) < 360) = true := by simp; omega
      obtain ⟨hx, b, o, rfl, hbS, hc0⟩ := HB2.out i (by omega)
      obtain ⟨hy, b', o', hbo, _, hc1⟩ := HB2.out (i + 1) (by omega)
      cases hbo
      obtain ⟨hz, b', o', hbo, _, hc2⟩ := HB2.out (i + 2) (by omega)
      cases hbo
      replace hc0 : wr.cell? ⟨b, o + i, none⟩ = some (.int .u8 (f2 i : Nat)) := (hB.cell (p := ⟨b, o + i, none⟩) hbS).trans hc0
      replace hc1 : wr.cell? ⟨b, o + (i + 1), none⟩ = some (.int .u8 (f2 (i + 1) : Nat)) := (hB.cell (p := ⟨b, o + (i + 1), none⟩) hbS).trans hc1
      replace hc2 : wr.cell? ⟨b, o + (i + 2), none⟩ = some (.int .u8 (f2 (i + 2) : Nat)) := (hB.cell (p := ⟨b, o + (i + 2), none⟩) hbS).trans hc2
      generalize f2 i = x0 at *
      generalize f2 (i + 1) = y at *
      generalize f2 (i + 2) = z at *
      have hpz : (pg : Int) ≠ 0 := by omega
      have hzp : 0 ≤ (z : Int) % (pg : Int) ∧ (z : Int) % (pg : Int) < 100 := ⟨Int.emod_nonneg _ (by omega), Int.lt_of_lt_of_le (Int.emod_lt_of_pos _ (by omega)) (by omega)⟩
      obtain ⟨t, ht⟩ : ∃ t, (z : Int) % (pg : Int) = t := ⟨_, rfl⟩
      obtain ⟨K, hK⟩ : ∃ K, (1 : Int) + (y : Int) % 12 = K := ⟨_, rfl⟩
      rw [ht] at hzp
      clear hB
      go_wp2
      go_quiet (fail)
      obtain ⟨V1, hV1⟩ : ∃ V1, wr.drewN nq = V1 := ⟨_, rfl⟩
      have A1 : Alike wr V1 := by rw [← hV1]; exact Alike.drewN _ _
      rw [hV1]
      replace hc0 : V1.cell? ⟨b, o + i, none⟩ = some (.int .u8 (x0 : Nat)) := (World.cell?_of_block (a := ⟨b, o + i, none⟩) (by rw [A1.heap])).trans hc0
      have O1 := hide (HO.out.below (Loc.rr.sep (Loc.rx.sep Loc.nought)) (A1.below _))
      clear hV1 A1 HO hc1 hc2
      rw [ht]
      have ht64 : -9223372036854775808 ≤ t ∧ t ≤ 9223372036854775807 := by omega
      clear ht hzp hK
      by_cases h2 : x0 % 2 = 0
      case' pos =>
        have d3 : ((x0 : Int) % 2 == 0) = true := by rw [beq_iff_eq]; omega
        go_wp2_with fail
        refine (takeP (Loc.rx.sep Loc.nought) O1.out (HF.out.fine (by omega)) K).mono ?_
        rintro e w5 ⟨rfl, o5⟩
        have O5 := hide (o5.cast (R' := Sep (RX x pg ds dn L) (Sep (RR r pg ds (takeS ds K dn L).1 (takeS ds K dn L).2) Nought)) (by ac_rfl))
        clear o5 O1
        go_wp2_with fail
        refine (xtakeP (Loc.rr.sep Loc.nought) O5.out (HF.out.fine (by omega)) K).mono ?_
        rintro e w6 ⟨rfl, o6⟩
        have F6 := HF.out.take K
        generalize takeA K L = ta at *
        obtain ⟨ta1, ta2⟩ := ta
        generalize takeS ds K dn L = ts at *
        obtain ⟨dn', L'⟩ := ts
        clear O5
      case' neg =>
        have d3 : ((x0 : Int) % 2 == 0) = false := by rw [beq_eq_false_iff_ne]; omega
        go_wp2_with fail
        refine (putP (Loc.rx.sep Loc.nought) O1.out (HF.out.fine (by omega)) t K ht64).mono ?_
        rintro e w5 ⟨rfl, o5⟩
        have O5 := hide (o5.cast (R' := Sep (RX x pg ds dn L) (Sep (RR r pg ds (putS pg ds t K dn L).1 (putS pg ds t K dn L).2) Nought)) (by ac_rfl))
        clear o5 O1
        go_wp2_with fail
        refine (xputP (Loc.rr.sep Loc.nought) O5.out (HF.out.fine (by omega)) t K).mono ?_
        rintro e w6 ⟨rfl, o6⟩
        have F6 := HF.out.put t K
        generalize putA pg t K L = pa at *
        generalize putS pg ds t K dn L = ts at *
        obtain ⟨dn', L'⟩ := ts
        clear O5
      all_goals (
        have O6 := hide (o6.cast (R' := Sep (RR r pg ds dn' L') (Sep (RX x pg ds dn' L') Nought)) (by ac_rfl))
        have HF6 := hide F6
        clear o6 F6 h2 hc0 d3
        by_cases h12 : i % 12 = 0
        · have d4 : ((i : Int).tmod 12 == 0) = true := by rw [Int.tmod_eq_emod_of_nonneg (by omega), beq_iff_eq]; omega
          have d5 : ((i : Int) % 12 == 0) = true := by rw [beq_iff_eq]; omega
          clear h12
          go_wp2_with fail
          refine (same15 Loc.nought O6.out (HF6.out.fine (by omega))).mono ?_
          rintro e w7 ⟨rfl, o7⟩
          have O7 := hide o7
          clear o7 O6
          go_wp2
          go_roundg (363 - (i + 3))
          case measure => omega
          case rel => exact ⟨j + 1, dn', L', by omega, by rw [show 3 * (j + 1) = i + 3 by omega]; rfl, O7.out, HF6.out⟩
        · have d4 : ((i : Int).tmod 12 == 0) = false := by rw [Int.tmod_eq_emod_of_nonneg (by omega), beq_eq_false_iff_ne]; omega
          have d5 : ((i : Int) % 12 == 0) = false := by rw [beq_eq_false_iff_ne]; omega
          clear h12
          go_wp2
          go_roundg (363 - (i + 3))
          case measure => omega
          case rel => exact ⟨j + 1, dn', L', by omega, by rw [show 3 * (j + 1) = i + 3 by omega]; rfl, O6.out, HF6.out⟩)
    · have hx : (¬ i + 2 < n2) ∨ (i + 2 < n2 ∧ ¬ i < 360) := by omega
      clear hin hB HB2
      rcases hx with hx | ⟨hx, hx2⟩
      case' inl => have d1 : decide ((i : Int) + 2 < (n2 : Int)) = false := by simp; omega
      case' inr =>
        have d1 : decide ((i : Int) + 2 < (n2 : Int)) = true := by simp; omega
        have d2 : decide ((i : Int) < 360) = false := by simp; omega
      all_goals (
        go_wp2_with fail
        refine (findP (Loc.rx.sep Loc.nought) HO.out (HF.out.fine (by omega)) q7).mono ?_
        rintro e w5 ⟨rfl, o5⟩
        have O5 := hide (o5.cast (R' := Sep (RX x pg ds dn L) (Sep (RR r pg ds dn L) Nought)) (by ac_rfl))
        clear o5 HO
        go_wp2_with fail
        refine (xfindP (Loc.rr.sep Loc.nought) O5.out (HF.out.fine (by omega)) q7).mono ?_
        rintro e w6 ⟨rfl, o6⟩
        generalize findA q7 L = fa at *
        obtain ⟨fa1, fa2⟩ := fa
        have O6 := hide (o6.cast (R' := Sep (RR r pg ds dn L) (Sep (RX x pg ds dn L) Nought)) (by ac_rfl))
        clear o6 O5
        go_wp2_with fail
        refine (same15 Loc.nought O6.out (HF.out.fine (by omega))).mono ?_
        rintro e w7 ⟨rfl, o7⟩
        have B7 := hide o7.back
        clear o7 O6
        go_wp2_with fail
        refine (HAW _).out.mono ?_
        rintro e w8 ⟨rfl, b8⟩
        have B8 := hide (B7.out.trans (b8.mono B7.out.size))
        clear b8 B7
        go_wp2
        go_ret
        exact ⟨rfl, B8.out⟩)

set_option maxRecDepth 100000 in
theorem lifted (os : Os) (started : os.Started) (H : Type) (enc : TypeId × Value → H) :
    ReturnsInHanded {} Try.checked os 3 .any (Rows.runsRunsSpec.pre6 enc Try.prog Try.f3 Rows.runsRunsRow.domain false) (Rows.runsRunsSpec.post enc Try.prog Try.f3 false true false false) := by
  refine returnsInHanded_of_change (C := Try.checked) own started (by kernel_rfl) Try.func3
    (ChangeSpec.witness6 (enc := enc) (C := Try.checked) false ⟨#[], #[.int .u8 0, .slice none 0 0, .slice none 0 0], []⟩ 8 (by kernel_rfl) (by kernel_rfl) (by kernel_rfl) (by kernel_rfl)) ?_
  intro W base args ds gs before hval0 hW _ _
  have hval : ∀ (j : Nat) t v, Try.f3.params[j]? = some t → args[j]? = some v → Value.okWide Try.prog W .any base t v := hval0
  have hW' := hW
  obtain ⟨p, q, hA0, hV, rfl, hfz, hnd⟩ := hW
  have hA : DataW.TrodAll enc Try.prog W 0 (fun _ => true) true Try.f3.params.toList args.toList ds p := hA0
  rw [Try.params3] at hA hval
  obtain ⟨v0, vs0, d0, ds0, p0, q0, hargs, rfl, rfl, h0, r0⟩ := trodAll_cons hA
  obtain ⟨v1, vs1, d1, ds1, p1, q1, rfl, rfl, rfl, h1, r1⟩ := trodAll_cons r0
  obtain ⟨v2, vs2, d2, ds2, p2, q2, rfl, rfl, rfl, h2, r2⟩ := trodAll_cons r1
  obtain ⟨rfl, rfl, rfl⟩ := trodAll_nil r2
  obtain rfl : args = #[v0, v1, v2] := by cases args; simp_all
  obtain ⟨rfl, rfl⟩ := trodVars_none hV
  obtain ⟨a0, rfl, rfl, rfl, w0⟩ := open_int Try.underlying5 (hval 0 5 v0 rfl rfl) h0
  have h1k := h1
  have lt1 : ∀ x ∈ p1, x.block < W.heap.size := fun x hx => hW'.lt x (by simp [hx])
  obtain ⟨l1_0, l1_1, l1_2, rfl, f1_0, f1_1, f1_2⟩ := open_bytes (hval 1 22 v1 rfl rfl) h1
  have h2k := h2
  have lt2 : ∀ x ∈ p2, x.block < W.heap.size := fun x hx => hW'.lt x (by simp [hx])
  obtain ⟨l2_0, l2_1, l2_2, rfl, f2_0, f2_1, f2_2⟩ := open_bytes (hval 2 22 v2 rfl rfl) h2
  clear hA0 hval0
  obtain ⟨x0, hx0, rfl⟩ := u8_nat w0
  refine (walk x0 hx0 l1_0 l1_1 l1_2 f1_0 f1_1 l2_0 l2_1 l2_2 f2_0 f2_1 W f1_2 f2_2).mono fun e W' ⟨he, bel⟩ => ?_
  subst he
  exact ⟨_, rfl, _, _, _, [], _, [], hW', trodAll_mk1 (shut_bool Try.underlying4 _), (trodAll_cons_mk (shut_int Try.underlying5 w0) (trodAll_cons_mk (Below.trod laidOut (by kernel_rfl) (of_decide_eq_true (by kernel_rfl)) h1k bel lt1) (trodAll_cons_mk (Below.trod laidOut (by kernel_rfl) (of_decide_eq_true (by kernel_rfl)) h2k bel lt2) trodAll_mk0))), rfl, bel.frame _, fun h => by cases h⟩

end Go.Proofs.Ythcfmpjmgheieaa.runsRuns
namespace Go.Proofs.Ythcfmpjmgheieaa

theorem runsRuns_holds : Rows.RunsRunsSaid :=
  OpenClaim.holds_of_wide 3 Try.f3 rfl rfl rfl rfl rfl rfl rfl ⟨rfl, rfl, rfl, rfl, rfl⟩ rfl rfl rfl rfl rfl (by kernel_rfl) Try.func3 (by kernel_rfl)
    (of_decide_eq_true (by kernel_rfl)) (by unfold Func.isWrapper; first | (rw [if_pos (by decide +kernel)]; kernel_rfl) | (rw [if_neg (by decide +kernel)]; exact ⟨rfl, rfl⟩))
    (fun os started H enc _ => runsRuns.lifted os started H enc)
end Go.Proofs.Ythcfmpjmgheieaa
