/- Of any numbers, one behind the other, the program's runs answer as the document's; of no other number of pages are there runs: the law RunsRaw answers true at every input, and its arguments read behind the call as they read before. -/
import Derived.Test.YthcfmpjmgheieaaXB
import Derived.Test.YthcfmpjmgheieaaRunAwake
namespace Go.Proofs.Ythcfmpjmgheieaa.runsRaw
open Go.ChangeShapes Go.WideShapes Go.ChangeAt Go.RowKit

set_option maxHeartbeats 2000000 in
theorem no (P : Int) (hp : P < 1 ∨ 4096 < P) (k t n : Int) (w : World) :
    Calls Try.prog 4 #[.int .i64 P, .int .i64 k, .int .i64 t, .int .i64 n] w fun e w' => e = .returned (.bool true) ∧ Below w.heap.size w w' := by
  have N1 := hide (newNil w P none 0 0 hp)
  have N2 := fun w => hide (xnewNil w P none 0 0 hp)
  have HA := fun w => hide (awake20 w)
  clear hp
  go_enter Try.func4, Try.ntmps4
  go_wp2_with fail
  refine N1.out.mono ?_
  rintro e w1 ⟨rfl, b1⟩
  go_wp2_with fail
  refine (N2 _).out.mono ?_
  rintro e w2 ⟨rfl, b2⟩
  have B2 := hide (b1.trans (b2.mono b1.size))
  clear b1 b2
  go_wp2_with fail
  refine (HA _).out.mono ?_
  rintro e w3 ⟨rfl, b3⟩
  have B3 := hide (B2.out.trans (b3.mono B2.out.size))
  clear b3 B2
  go_wp2
  go_ret
  exact ⟨rfl, B3.out⟩

set_option maxRecDepth 100000 in
set_option maxHeartbeats 4000000 in
theorem yes (pg : Nat) (h1 : 1 ≤ pg) (h2 : pg ≤ 4096) (k t n : Int) (ht : -9223372036854775808 ≤ t ∧ t ≤ 9223372036854775807) (w : World) :
    Calls Try.prog 4 #[.int .i64 (pg : Int), .int .i64 k, .int .i64 t, .int .i64 n] w fun e w' => e = .returned (.bool true) ∧ Below w.heap.size w w' := by
  have N1 := newP (pg := pg) (ds := []) Loc.nought (Own.start w) h1 h2 (by simp) none 0 (fun _ => ⟨rfl, rfl⟩) (fun h => absurd rfl h)
  simp only [List.length_nil] at N1
  have HN1 := hide N1
  have HA := fun w => hide (awake20 w)
  obtain ⟨L, hL⟩ : ∃ L : RL, [(kOf 0 pg, ([] : List Nat).getD 0 0, ())] = L := ⟨_, rfl⟩
  rw [hL] at HN1
  have F1 : Fit 1 pg [] 1 L := by rw [← hL]; exact Fit.new h1 h2 (by simp)
  have HF1 := hide (F1.fine (by omega))
  have F2 := F1.take k
  have HF2 := hide (F2.fine (by omega))
  have HF3 := hide ((F2.put t n).fine (by omega))
  have HL := hide hL
  clear N1 hL F1 F2
  go_enter Try.func4, Try.ntmps4
  go_wp2_with fail
  refine HN1.out.mono ?_
  rintro e w1 ⟨r, rfl, o1⟩
  have O1 := hide o1
  clear o1 HN1
  go_wp2_with fail
  have N2 := xnewP (pg := pg) (ds := []) (Loc.rr.sep Loc.nought) O1.out h1 h2 (by simp) none 0 (fun _ => ⟨rfl, rfl⟩) (fun h => absurd rfl h)
  simp only [List.length_nil] at N2
  rw [HL.out] at N2
  refine N2.mono ?_
  rintro e w2 ⟨x, rfl, o2⟩
  have O2 := hide (o2.cast (R' := Sep (RR r pg [] 1 L) (Sep (RX x pg [] 1 L) Nought)) (by ac_rfl))
  clear o2 N2 O1
  go_wp2_with fail
  refine (takeP (Loc.rx.sep Loc.nought) O2.out HF1.out k).mono ?_
  rintro e w3 ⟨rfl, o3⟩
  have O3 := hide (o3.cast (R' := Sep (RX x pg [] 1 L) (Sep (RR r pg [] (takeS [] k 1 L).1 (takeS [] k 1 L).2) Nought)) (by ac_rfl))
  clear o3 O2
  go_wp2_with fail
  refine (xtakeP (Loc.rr.sep Loc.nought) O3.out HF1.out k).mono ?_
  rintro e w4 ⟨rfl, o4⟩
  generalize takeA k L = ta at *
  obtain ⟨ta1, ta2⟩ := ta
  generalize takeS [] k 1 L = ts at *
  obtain ⟨dn, M⟩ := ts
  have O4 := hide (o4.cast (R' := Sep (RR r pg [] dn M) (Sep (RX x pg [] dn M) Nought)) (by ac_rfl))
  clear o4 O3
  go_wp2_with fail
  refine (putP (Loc.rx.sep Loc.nought) O4.out HF2.out t n ht).mono ?_
  rintro e w5 ⟨rfl, o5⟩
  have O5 := hide (o5.cast (R' := Sep (RX x pg [] dn M) (Sep (RR r pg [] (putS pg [] t n dn M).1 (putS pg [] t n dn M).2) Nought)) (by ac_rfl))
  clear o5 O4
  go_wp2_with fail
  refine (xputP (Loc.rr.sep Loc.nought) O5.out HF2.out t n).mono ?_
  rintro e w6 ⟨rfl, o6⟩
  generalize putA pg t n M = pa at *
  generalize putS pg [] t n dn M = ps at *
  obtain ⟨dm, Z⟩ := ps
  have O6 := hide (o6.cast (R' := Sep (RR r pg [] dm Z) (Sep (RX x pg [] dm Z) Nought)) (by ac_rfl))
  clear o6 O5
  go_wp2_with fail
  refine (findP (Loc.rx.sep Loc.nought) O6.out HF3.out n).mono ?_
  rintro e w7 ⟨rfl, o7⟩
  have O7 := hide (o7.cast (R' := Sep (RX x pg [] dm Z) (Sep (RR r pg [] dm Z) Nought)) (by ac_rfl))
  clear o7 O6
  go_wp2_with fail
  refine (xfindP (Loc.rr.sep Loc.nought) O7.out HF3.out n).mono ?_
  rintro e w8 ⟨rfl, o8⟩
  generalize findA n Z = fa at *
  obtain ⟨fa1, fa2⟩ := fa
  have O8 := hide (o8.cast (R' := Sep (RR r pg [] dm Z) (Sep (RX x pg [] dm Z) Nought)) (by ac_rfl))
  clear o8 O7
  go_wp2_with fail
  refine (same15 Loc.nought O8.out HF3.out).mono ?_
  rintro e w9 ⟨rfl, o9⟩
  have B9 := hide o9.back
  clear o9 O8
  go_wp2_with fail
  refine (HA _).out.mono ?_
  rintro e w10 ⟨rfl, b10⟩
  have B10 := hide (B9.out.trans (b10.mono B9.out.size))
  clear b10 B9
  go_wp2
  go_ret
  exact ⟨rfl, B10.out⟩

theorem walk (P : Int) (_hP : -9223372036854775808 ≤ P ∧ P ≤ 9223372036854775807) (k : Int) (_hk : -9223372036854775808 ≤ k ∧ k ≤ 9223372036854775807) (t : Int) (ht : -9223372036854775808 ≤ t ∧ t ≤ 9223372036854775807) (n : Int) (_hn : -9223372036854775808 ≤ n ∧ n ≤ 9223372036854775807) (w : World) :
    Calls Try.prog 4 #[.int .i64 P, .int .i64 k, .int .i64 t, .int .i64 n] w fun e w' => e = .returned (.bool true) ∧ Below w.heap.size w w' := by
  by_cases hp : P < 1 ∨ 4096 < P
  · exact no P hp k t n w
  · obtain ⟨pg, rfl⟩ : ∃ pg : Nat, P = (pg : Int) := ⟨P.toNat, by omega⟩
    exact yes pg (by omega) (by omega) k t n ht w

set_option maxRecDepth 100000 in
theorem lifted (os : Os) (started : os.Started) (H : Type) (enc : TypeId × Value → H) :
    ReturnsInHanded {} Try.checked os 4 .any (Rows.runsRawSpec.pre6 enc Try.prog Try.f4 Rows.runsRawRow.domain false) (Rows.runsRawSpec.post enc Try.prog Try.f4 false true false false) := by
  refine returnsInHanded_of_change (C := Try.checked) own started (by kernel_rfl) Try.func4
    (ChangeSpec.witness6 (enc := enc) (C := Try.checked) false ⟨#[], #[.int .i64 0, .int .i64 0, .int .i64 0, .int .i64 0], []⟩ 8 (by kernel_rfl) (by kernel_rfl) (by kernel_rfl) (by kernel_rfl)) ?_
  intro W base args ds gs before hval0 hW _ _
  have hval : ∀ (j : Nat) t v, Try.f4.params[j]? = some t → args[j]? = some v → Value.okWide Try.prog W .any base t v := hval0
  have hW' := hW
  obtain ⟨p, q, hA0, hV, rfl, hfz, hnd⟩ := hW
  have hA : DataW.TrodAll enc Try.prog W 0 (fun _ => true) true Try.f4.params.toList args.toList ds p := hA0
  rw [Try.params4] at hA hval
  obtain ⟨v0, vs0, d0, ds0, p0, q0, hargs, rfl, rfl, h0, r0⟩ := trodAll_cons hA
  obtain ⟨v1, vs1, d1, ds1, p1, q1, rfl, rfl, rfl, h1, r1⟩ := trodAll_cons r0
  obtain ⟨v2, vs2, d2, ds2, p2, q2, rfl, rfl, rfl, h2, r2⟩ := trodAll_cons r1
  obtain ⟨v3, vs3, d3, ds3, p3, q3, rfl, rfl, rfl, h3, r3⟩ := trodAll_cons r2
  obtain ⟨rfl, rfl, rfl⟩ := trodAll_nil r3
  obtain rfl : args = #[v0, v1, v2, v3] := by cases args; simp_all
  obtain ⟨rfl, rfl⟩ := trodVars_none hV
  obtain ⟨a0, rfl, rfl, rfl, w0⟩ := open_int Try.underlying3 (hval 0 3 v0 rfl rfl) h0
  obtain ⟨a1, rfl, rfl, rfl, w1⟩ := open_int Try.underlying3 (hval 1 3 v1 rfl rfl) h1
  obtain ⟨a2, rfl, rfl, rfl, w2⟩ := open_int Try.underlying3 (hval 2 3 v2 rfl rfl) h2
  obtain ⟨a3, rfl, rfl, rfl, w3⟩ := open_int Try.underlying3 (hval 3 3 v3 rfl rfl) h3
  clear hA0 hval0
  have hx0 := i64_bd w0
  have hx1 := i64_bd w1
  have hx2 := i64_bd w2
  have hx3 := i64_bd w3
  refine (walk a0 hx0 a1 hx1 a2 hx2 a3 hx3 W).mono fun e W' ⟨he, bel⟩ => ?_
  subst he
  exact ⟨_, rfl, _, _, _, [], _, [], hW', trodAll_mk1 (shut_bool Try.underlying4 _), (trodAll_cons_mk (shut_int Try.underlying3 w0) (trodAll_cons_mk (shut_int Try.underlying3 w1) (trodAll_cons_mk (shut_int Try.underlying3 w2) (trodAll_cons_mk (shut_int Try.underlying3 w3) trodAll_mk0)))), rfl, bel.frame _, fun h => by cases h⟩

end Go.Proofs.Ythcfmpjmgheieaa.runsRaw
namespace Go.Proofs.Ythcfmpjmgheieaa

theorem runsRaw_holds : Rows.RunsRawSaid :=
  OpenClaim.holds_of_wide 4 Try.f4 rfl rfl rfl rfl rfl rfl rfl ⟨rfl, rfl, rfl, rfl, rfl⟩ rfl rfl rfl rfl rfl (by kernel_rfl) Try.func4 (by kernel_rfl)
    (of_decide_eq_true (by kernel_rfl)) (by unfold Func.isWrapper; first | (rw [if_pos (by decide +kernel)]; kernel_rfl) | (rw [if_neg (by decide +kernel)]; exact ⟨rfl, rfl⟩))
    (fun os started H enc _ => runsRaw.lifted os started H enc)
end Go.Proofs.Ythcfmpjmgheieaa
