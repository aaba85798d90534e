/- What is taken, and put back, leaves the runs; put twice it is refused: the law RunsBack answers true at every input, and its arguments read behind the call as they read before. -/
import Derived.Test.YtpngbajahpnlgaaRunSome
import Derived.Test.YtpngbajahpnlgaaRunLaw
namespace Go.Proofs.Ytpngbajahpnlgaa.runsBack
open Go.ChangeShapes Go.WideShapes Go.ChangeAt Go.RowKit

set_option maxRecDepth 100000 in
set_option maxHeartbeats 4000000 in
theorem walk (p : Nat) (hp : p < 256) (a1 : Option Addr) (n1 c1 : Nat) (_h11 : n1 ≤ c1) (_h12 : c1 ≤ maxLen) (a2 : Option Addr) (n2 c2 : Nat) (_h21 : n2 ≤ c2) (_h22 : c2 ≤ maxLen) (k : Nat) (hk : k < 256) (w : World)
    (q1 : ∃ f : Nat → Nat, ∀ k, k < n1 → f k < 256 ∧ AtB w a1 k (.int .u8 (f k : Nat))) (q2 : ∃ f : Nat → Nat, ∀ k, k < n2 → f k < 256 ∧ AtB w a2 k (.int .u8 (f k : Nat))) :
    Calls Try.prog 7 #[.int .u8 (p : Int), .slice a1 n1 c1, .slice a2 n2 c2, .int .u8 (k : Int)] w fun e w' => e = .returned (.bool true) ∧ Below w.heap.size w w' := by
  obtain ⟨f1, b1⟩ := q1
  obtain ⟨f2, b2⟩ := q2
  unfold maxLen at _h12 _h22
  have HS := hide (some21 w p hp a1 n1 c1 f1 (by omega) b1 a2 n2 c2 f2 (by omega) b2)
  clear b1 b2 _h11 _h12 _h21 _h22
  generalize 1 + p % 100 = pg at *
  generalize drawsOf f1 (min n1 60) = ds at *
  obtain ⟨n, hn⟩ : ∃ n, (1 : Int) + (k : Int) % 9 = n := ⟨_, rfl⟩
  have hnb : 1 ≤ n ∧ n ≤ 9 := by omega
  have HAW := fun w => hide (awake20 w)
  go_enter Try.func7, Try.ntmps7
  go_wp2_with fail
  refine HS.out.mono ?_
  rintro e w1 ⟨r, dn, L, rfl, o1, hf⟩
  have HF := hide hf
  have HL1 := hide (listP Loc.nought o1 (hf.fine (by omega)))
  have HTB : 0 ≤ totL L ∧ totL L ≤ 4096 * 60 := by
    have := tot_bd (hf.fine (by omega)) (L.map (·.1)) (List.prefix_refl _)
    have e : totL L = ((L.map (·.1)).map rN).sum := by simp [totL, Function.comp_def]
    rw [← e, List.length_map] at this
    have := hf.len
    omega
  have HLL : Hid ((runsOf L).length ≤ 1099511627776) := hide (by rw [runsOf_length]; have := hf.len; omega)
  clear o1 hf HS
  go_wp2_with fail
  refine HL1.out.mono ?_
  rintro e w2 ⟨v, rfl, o2⟩
  have HT1 := hide (totalP (Loc.rv.sep Loc.nought) o2 (HF.out.fine (by omega)))
  clear o2 HL1
  obtain ⟨T0, hT0⟩ : ∃ T0, totL L = T0 := ⟨_, rfl⟩
  rw [hT0] at HT1 HTB
  have HT0 := hide hT0
  clear hT0
  go_wp2_with fail
  refine HT1.out.mono ?_
  rintro e w3 ⟨rfl, o3⟩
  have HTK := hide (takeP (Loc.rv.sep Loc.nought) o3 (HF.out.fine (by omega)) n)
  clear o3 HT1
  cases hg : fitL n L with
  | none =>
    obtain ⟨t1, t2⟩ := take_none hnb.1 hg ds dn
    rw [t1, t2] at HTK
    clear t1 t2 hg
    simp only at HTK
    go_wp2_with fail
    refine HTK.out.mono ?_
    rintro e w4 ⟨rfl, o4⟩
    have HL2 := hide (listP (Loc.rv.sep Loc.nought) o4 (HF.out.fine (by omega)))
    clear o4 HTK
    go_wp2_with fail
    refine HL2.out.mono ?_
    rintro e w5 ⟨v2, rfl, o5⟩
    have hv2 : RunsV w5 v2 (runsOf L) := by obtain ⟨_, h, _⟩ := o5.mid; exact h
    have hv1 : RunsV w5 v (runsOf L) := by obtain ⟨_, h, _⟩ := o5.drop2.mid; exact h
    have hb5 := o5.back
    have HSR := hide (sameRuns w5 v2 v (runsOf L) hv2 hv1 HLL.out)
    have HB5 := hide hb5
    clear o5 hv1 hv2 hb5 HL2
    go_wp2_with fail
    refine HSR.out.mono ?_
    rintro e w6 ⟨rfl, h6⟩
    have HB6 := hide (HB5.out.trans (h6.below _))
    clear h6
    go_wp2_with fail
    refine (HAW _).out.mono ?_
    rintro e w7 ⟨rfl, h7⟩
    have HB7 := hide (HB6.out.trans (h7.mono HB6.out.size))
    clear h7
    go_wp2
    go_ret
    exact ⟨rfl, HB7.out⟩
  | some i =>
    obtain ⟨dn1, L1, dn2, L2, s1, m1, a1', s2, hk2, a3, s3⟩ := back_math HF.out hnb.1 hg
    have t1 := (take_some hnb.1 hg ds dn).1
    have F1 := HF.out.take n
    rw [s1] at F1
    have F2 := F1.put (rA i.1) n
    rw [s2] at F2
    simp only at F1 F2
    have hra := rA_bd i.1
    rw [t1, s1] at HTK
    simp only at HTK
    rw [HT0.out] at m1
    have HR2 : Hid (runsOf L2 = runsOf L) := hide (runsOf_keys hk2)
    have HT2 : Hid (totL L2 = T0) := hide (by rw [← HT0.out]; exact tot_keys hk2)
    have HF1 := hide F1
    have HF2 := hide F2
    have HM1 := hide m1
    have HA1 := hide a1'
    have HS2 := hide s2
    have HA3 := hide a3
    have HS3 := hide s3
    clear t1 s1 hg F1 F2 m1 a1' s2 a3 s3 hk2 HF
    generalize rA i.1 = y at *
    go_wp2_with fail
    refine HTK.out.mono ?_
    rintro e w4 ⟨rfl, o4⟩
    have HTT := hide (totalP (Loc.rv.sep Loc.nought) o4 (HF1.out.fine (by omega)))
    rw [HM1.out] at HTT
    clear o4 HTK
    go_wp2_with fail
    refine HTT.out.mono ?_
    rintro e w5 ⟨rfl, o5⟩
    have HPP := hide (putP (Loc.rv.sep Loc.nought) o5 (HF1.out.fine (by omega)) y n (by omega))
    rw [HA1.out, HS2.out] at HPP
    simp only at HPP
    clear o5 HTT
    go_wp2_with fail
    refine HPP.out.mono ?_
    rintro e w6 ⟨rfl, o6⟩
    have HD1 := hide (drawnP (Loc.rv.sep Loc.nought) o6)
    have HO6 := hide o6
    clear o6 HPP
    go_wp2_with fail
    refine HD1.out.mono ?_
    rintro e w7 ⟨rfl, rfl⟩
    have HS1 := hide (shapeP (Loc.rv.sep Loc.nought) HO6.out (HF2.out.fine (by omega)))
    clear HD1
    go_wp2_with fail
    refine HS1.out.mono ?_
    rintro e w8 ⟨v8, rfl, o8⟩
    have HP2 := hide (putP (Loc.nv.sep (Loc.rv.sep Loc.nought)) o8 (HF2.out.fine (by omega)) y 1 (by omega))
    rw [HA3.out, HS3.out] at HP2
    simp only at HP2
    clear o8 HS1 HO6
    go_wp2_with fail
    refine HP2.out.mono ?_
    rintro e w9 ⟨rfl, o9⟩
    have HD2 := hide (drawnP (Loc.nv.sep (Loc.rv.sep Loc.nought)) o9)
    have HO9 := hide o9
    clear o9 HP2
    go_wp2_with fail
    refine HD2.out.mono ?_
    rintro e w10 ⟨rfl, rfl⟩
    have HS4 := hide (shapeP (Loc.nv.sep (Loc.rv.sep Loc.nought)) HO9.out (HF2.out.fine (by omega)))
    clear HD2 HO9
    go_wp2_with fail
    refine HS4.out.mono ?_
    rintro e w11 ⟨v11, rfl, o11⟩
    have hn1 : NodesV w11 v11 (shp L2) := by obtain ⟨_, h, _⟩ := o11.mid; exact h
    have hn2 : NodesV w11 v8 (shp L2) := by obtain ⟨_, h, _⟩ := o11.drop2.mid; exact h
    have HSN := hide (sameNodes w11 v11 v8 (shp L2) hn1 hn2 (by rw [shp_length HF2.out.good.ris]; have := HF2.out.len; omega))
    have HO11 := hide o11.drop2
    clear o11 hn1 hn2 HS4
    go_wp2_with fail
    refine HSN.out.mono ?_
    rintro e w12 ⟨rfl, h12⟩
    have HL3 := hide (listP (Loc.nv.sep (Loc.rv.sep Loc.nought)) (HO11.out.below (Loc.rr.sep (Loc.nv.sep (Loc.rv.sep Loc.nought))) (h12.below _)) (HF2.out.fine (by omega)))
    rw [HR2.out] at HL3
    clear h12 HSN HO11
    go_wp2_with fail
    refine HL3.out.mono ?_
    rintro e w13 ⟨v13, rfl, o13⟩
    have hr1 : RunsV w13 v13 (runsOf L) := by obtain ⟨_, h, _⟩ := o13.mid; exact h
    have hr2 : RunsV w13 v (runsOf L) := by obtain ⟨_, h, _⟩ := o13.drop2.drop2.mid; exact h
    have HSR := hide (sameRuns w13 v13 v (runsOf L) hr1 hr2 HLL.out)
    have HO13 := hide o13.drop2
    clear o13 hr1 hr2 HL3
    go_wp2_with fail
    refine HSR.out.mono ?_
    rintro e w14 ⟨rfl, h14⟩
    have HTT := hide (totalP (Loc.nv.sep (Loc.rv.sep Loc.nought)) (HO13.out.below (Loc.rr.sep (Loc.nv.sep (Loc.rv.sep Loc.nought))) (h14.below _)) (HF2.out.fine (by omega)))
    rw [HT2.out] at HTT
    clear h14 HSR HO13
    go_wp2_with fail
    refine HTT.out.mono ?_
    rintro e w15 ⟨rfl, o15⟩
    have HB15 := hide o15.back
    clear o15 HTT
    go_wp2_with fail
    refine (HAW _).out.mono ?_
    rintro e w16 ⟨rfl, h16⟩
    have HB16 := hide (HB15.out.trans (h16.mono HB15.out.size))
    clear h16
    go_wp2
    go_ret
    exact ⟨rfl, HB16.out⟩

set_option maxRecDepth 100000 in
theorem lifted (os : Os) (started : os.Started) (H : Type) (enc : TypeId × Value → H) :
    ReturnsInHanded {} Try.checked os 7 .any (Rows.runsBackSpec.pre6 enc Try.prog Try.f7 Rows.runsBackRow.domain false) (Rows.runsBackSpec.post enc Try.prog Try.f7 false true false false) := by
  refine returnsInHanded_of_change (C := Try.checked) own started (by kernel_rfl) Try.func7
    (ChangeSpec.witness6 (enc := enc) (C := Try.checked) false ⟨#[], #[.int .u8 0, .slice none 0 0, .slice none 0 0, .int .u8 0], []⟩ 8 (by kernel_rfl) (by kernel_rfl) (by kernel_rfl) (by kernel_rfl)) ?_
  intro W base args ds gs before hval0 hW _ _
  have hval : ∀ (j : Nat) t v, Try.f7.params[j]? = some t → args[j]? = some v → Value.okWide Try.prog W .any base t v := hval0
  have hW' := hW
  obtain ⟨p, q, hA0, hV, rfl, hfz, hnd⟩ := hW
  have hA : DataW.TrodAll enc Try.prog W 0 (fun _ => true) true Try.f7.params.toList args.toList ds p := hA0
  rw [Try.params7] at hA hval
  obtain ⟨v0, vs0, d0, ds0, p0, q0, hargs, rfl, rfl, h0, r0⟩ := trodAll_cons hA
  obtain ⟨v1, vs1, d1, ds1, p1, q1, rfl, rfl, rfl, h1, r1⟩ := trodAll_cons r0
  obtain ⟨v2, vs2, d2, ds2, p2, q2, rfl, rfl, rfl, h2, r2⟩ := trodAll_cons r1
  obtain ⟨v3, vs3, d3, ds3, p3, q3, rfl, rfl, rfl, h3, r3⟩ := trodAll_cons r2
  obtain ⟨rfl, rfl, rfl⟩ := trodAll_nil r3
  obtain rfl : args = #[v0, v1, v2, v3] := by cases args; simp_all
  obtain ⟨rfl, rfl⟩ := trodVars_none hV
  obtain ⟨a0, rfl, rfl, rfl, w0⟩ := open_int Try.underlying5 (hval 0 5 v0 rfl rfl) h0
  have h1k := h1
  have lt1 : ∀ x ∈ p1, x.block < W.heap.size := fun x hx => hW'.lt x (by simp [hx])
  obtain ⟨l1_0, l1_1, l1_2, rfl, f1_0, f1_1, f1_2⟩ := open_bytes (hval 1 22 v1 rfl rfl) h1
  have h2k := h2
  have lt2 : ∀ x ∈ p2, x.block < W.heap.size := fun x hx => hW'.lt x (by simp [hx])
  obtain ⟨l2_0, l2_1, l2_2, rfl, f2_0, f2_1, f2_2⟩ := open_bytes (hval 2 22 v2 rfl rfl) h2
  obtain ⟨a3, rfl, rfl, rfl, w3⟩ := open_int Try.underlying5 (hval 3 5 v3 rfl rfl) h3
  clear hA0 hval0
  obtain ⟨x0, hx0, rfl⟩ := u8_nat w0
  obtain ⟨x3, hx3, rfl⟩ := u8_nat w3
  refine (walk x0 hx0 l1_0 l1_1 l1_2 f1_0 f1_1 l2_0 l2_1 l2_2 f2_0 f2_1 x3 hx3 W f1_2 f2_2).mono fun e W' ⟨he, bel⟩ => ?_
  subst he
  exact ⟨_, rfl, _, _, _, [], _, [], hW', trodAll_mk1 (shut_bool Try.underlying4 _), (trodAll_cons_mk (shut_int Try.underlying5 w0) (trodAll_cons_mk (Below.trod laidOut (by kernel_rfl) (of_decide_eq_true (by kernel_rfl)) h1k bel lt1) (trodAll_cons_mk (Below.trod laidOut (by kernel_rfl) (of_decide_eq_true (by kernel_rfl)) h2k bel lt2) (trodAll_cons_mk (shut_int Try.underlying5 w3) trodAll_mk0)))), rfl, bel.frame _, fun h => by cases h⟩

end Go.Proofs.Ytpngbajahpnlgaa.runsBack
namespace Go.Proofs.Ytpngbajahpnlgaa

theorem runsBack_holds : Rows.RunsBackSaid :=
  OpenClaim.holds_of_wide 7 Try.f7 rfl rfl rfl rfl rfl rfl rfl ⟨rfl, rfl, rfl, rfl, rfl⟩ rfl rfl rfl rfl rfl (by kernel_rfl) Try.func7 (by kernel_rfl)
    (of_decide_eq_true (by kernel_rfl)) (by unfold Func.isWrapper; first | (rw [if_pos (by decide +kernel)]; kernel_rfl) | (rw [if_neg (by decide +kernel)]; exact ⟨rfl, rfl⟩))
    (fun os started H enc _ => runsBack.lifted os started H enc)
end Go.Proofs.Ytpngbajahpnlgaa
