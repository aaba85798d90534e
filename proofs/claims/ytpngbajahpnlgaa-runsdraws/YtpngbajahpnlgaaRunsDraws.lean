/- Whatever draws there are, each answer, and all runs, are the same; the tree has the same keys: the law RunsDraws answers true at every input, and its arguments read behind the call as they read before. -/
import Derived.Test.YtpngbajahpnlgaaRunSome
import Derived.Test.YtpngbajahpnlgaaRunKeys
namespace Go.Proofs.Ytpngbajahpnlgaa.runsDraws
open Go.ChangeShapes Go.WideShapes Go.ChangeAt Go.RowKit

set_option maxRecDepth 100000 in
set_option maxHeartbeats 8000000 in
theorem walk (p : Nat) (hp : p < 256) (a1 : Option Addr) (n1 c1 : Nat) (_h11 : n1 ≤ c1) (_h12 : c1 ≤ maxLen) (a2 : Option Addr) (n2 c2 : Nat) (_h21 : n2 ≤ c2) (_h22 : c2 ≤ maxLen) (a3 : Option Addr) (n3 c3 : Nat) (_h31 : n3 ≤ c3) (_h32 : c3 ≤ maxLen) (w : World)
    (q1 : ∃ f : Nat → Nat, ∀ k, k < n1 → f k < 256 ∧ AtB w a1 k (.int .u8 (f k : Nat))) (q2 : ∃ f : Nat → Nat, ∀ k, k < n2 → f k < 256 ∧ AtB w a2 k (.int .u8 (f k : Nat))) (q3 : ∃ f : Nat → Nat, ∀ k, k < n3 → f k < 256 ∧ AtB w a3 k (.int .u8 (f k : Nat))) :
    Calls Try.prog 8 #[.int .u8 (p : Int), .slice a1 n1 c1, .slice a2 n2 c2, .slice a3 n3 c3] w fun e w' => e = .returned (.bool true) ∧ Below w.heap.size w w' := by
  obtain ⟨f1, b1⟩ := q1
  obtain ⟨f2, b2⟩ := q2
  obtain ⟨f3, b3⟩ := q3
  unfold maxLen at _h12 _h22 _h32
  obtain ⟨pg, hpg⟩ : ∃ pg, 1 + p % 100 = pg := ⟨_, rfl⟩
  have hpi : (1 : Int) + (p : Int) % 100 = (pg : Int) := by omega
  have hpb : 1 ≤ pg ∧ pg ≤ 100 := by omega
  have HB3 := hide b3
  have HD1 := hide (draws11 w a1 n1 c1 f1 b1 (by omega))
  have HD2 := fun (u : World) (hu : Below w.heap.size w u) => hide (draws11 u a2 n2 c2 f2 (BytesAt.below b2 hu (Nat.le_refl _)) (by omega))
  have HDD2 := hide HD2
  have hds : (drawsOf f1 (min n1 60)).length ≤ 60 := by rw [drawsOf_length]; omega
  have hes : (drawsOf f2 (min n2 60)).length ≤ 60 := by rw [drawsOf_length]; omega
  have hn3 : n3 ≤ 9223372036854775807 := by omega
  clear b1 b2 b3 _h11 _h12 _h21 _h22 _h31 _h32 HD2 hpg
  generalize drawsOf f1 (min n1 60) = ds at *
  generalize drawsOf f2 (min n2 60) = es at *
  have HAW := fun w => hide (awake20 w)
  go_enter Try.func8, Try.ntmps8
  go_wp2_with fail
  refine HD1.out.mono ?_
  rintro e w1 ⟨v1, rfl, hown, hb1⟩
  obtain ⟨va, vc, rfl, hz, hda, _⟩ := draws_of_owns hown
  have HN := hide (newP (R := Nought) Loc.nought ((Own.start w).below Loc.nought hb1) hpb.1 (by omega) (by omega) va vc hz hda)
  clear hown hb1 hda hz HD1
  obtain ⟨m1, hm1⟩ : ∃ m, ds.length = m := ⟨_, rfl⟩
  rw [hm1] at HN ⊢
  go_wp2_with fail
  refine HN.out.mono ?_
  rintro e w2 ⟨ra, rfl, o2⟩
  have HD2 := HDD2.out w2 o2.back
  have HO2 := hide o2
  clear o2 HN HDD2 hm1
  go_wp2_with fail
  refine HD2.out.mono ?_
  rintro e w3 ⟨v3, rfl, hown, hb3⟩
  obtain ⟨vb, vd, rfl, hz, hda, _⟩ := draws_of_owns hown
  have HN := hide (newP (Loc.rr.sep Loc.nought) (HO2.out.below (Loc.rr.sep Loc.nought) hb3) hpb.1 (by omega) (by omega) vb vd hz hda)
  clear hown hb3 hda hz HD2 HO2
  obtain ⟨m2, hm2⟩ : ∃ m, es.length = m := ⟨_, rfl⟩
  rw [hm2] at HN ⊢
  go_wp2_with fail
  refine HN.out.mono ?_
  rintro e w4 ⟨rb, rfl, o4⟩
  have HO4 := hide o4.swap
  have HFa : Hid (Fit 1 pg ds 1 [(kOf 0 pg, ds.getD 0 0, ())]) := hide (Fit.new hpb.1 (by omega) (by omega))
  have HFb : Hid (Fit 1 pg es 1 [(kOf 0 pg, es.getD 0 0, ())]) := hide (Fit.new hpb.1 (by omega) (by omega))
  clear o4 HN hm2
  go_wp2
  go_loopg [12, 13, 14, 15, 16, 17] 202 (fun g r12 r13 r14 r15 r16 r17 wr => ∃ (j dn : Nat) (La Lb : RL), 2 * j + g = 202 ∧ r12 = .int .i64 ((2 * j : Nat) : Int) ∧ Own (Sep (RR ra pg ds dn La) (Sep (RR rb pg es dn Lb) Nought)) w wr ∧ Fit (j + 1) pg ds dn La ∧ Fit (j + 1) pg es dn Lb ∧ La.map (·.1) = Lb.map (·.1))
  case atStart => exact ⟨0, _, _, _, by omega, rfl, HO4.out, HFa.out, HFb.out, rfl⟩
  case round =>
    clear HO4 HFa HFb
    obtain ⟨j, dn, La, Lb, hg, rfl, ho, hfa, hfb, hkeys⟩ := hrel
    have HO := hide ho
    have HFa := hide hfa
    have HFb := hide hfb
    have HKE := hide hkeys
    have hB := ho.back
    clear ho hfa hfb hkeys
    obtain ⟨i, hi⟩ : ∃ i, 2 * j = i := ⟨_, rfl⟩
    rw [hi]
    by_cases hlt : i + 1 < n3 ∧ i < 200
    · have d1 : decide ((i : Int) + 1 < (n3 : Int)) = true := by simp; omega
      have d2 : decide ((i : Int) < 200) = true := by simp; omega
      obtain ⟨hx, b, o, rfl, hbS, hc0⟩ := HB3.out i (by omega)
      obtain ⟨hy, b', o', hbo, _, hc1⟩ := HB3.out (i + 1) hlt.1
      cases hbo
      replace hc0 : wr.cell? ⟨b, o + i, none⟩ = some (.int .u8 (f3 i : Nat)) := (hB.cell (p := ⟨b, o + i, none⟩) hbS).trans hc0
      replace hc1 : wr.cell? ⟨b, o + (i + 1), none⟩ = some (.int .u8 (f3 (i + 1) : Nat)) := (hB.cell (p := ⟨b, o + (i + 1), none⟩) hbS).trans hc1
      generalize f3 i = x at *
      generalize f3 (i + 1) = y at *
      obtain ⟨n, hn⟩ : ∃ n, (1 : Int) + (y : Int) % 9 = n := ⟨_, rfl⟩
      have hnb : 1 ≤ n ∧ n ≤ 9 := by omega
      by_cases h2 : x % 2 = 0
      · have d3 : ((x : Int) % 2 == 0) = true := by simp; omega
        have d4 : decide ((x : Int) % 2 = 0) = true := by simp; omega
        have HTa := hide (takeP (Loc.rr.sep Loc.nought) HO.out (HFa.out.fine (by omega)) n)
        obtain ⟨k1, k2, k3⟩ := take_keys (n := n) HKE.out ds es dn
        have HF1 := hide (HFa.out.take n)
        have HF2 := hide (HFb.out.take n)
        have HTB := fun (u : World) (L' : RL) (dn' : Nat) (hu : Own (Sep (RR ra pg ds dn' L') (Sep (RR rb pg es dn Lb) Nought)) w u) => hide (takeP (Loc.rr.sep Loc.nought) hu.swap (HFb.out.fine (by omega)) n)
        rw [← k1, ← k2] at HTB
        rw [← k2] at HF2
        have HTBB := hide HTB
        have HK3 := hide k3
        clear h2 k1 k2 k3 HTB
        generalize (takeA n La).1 = t1 at *
        generalize (takeA n La).2 = t2 at *
        generalize (takeS ds n dn La).1 = dn' at *
        generalize (takeS ds n dn La).2 = La' at *
        generalize (takeS es n dn Lb).2 = Lb' at *
        go_wp2_with fail
        refine HTa.out.mono ?_
        rintro e u1 ⟨rfl, o1⟩
        have HTb := HTBB.out u1 _ _ o1
        clear o1 HTa HTBB hc0 hc1 hB
        go_wp2_with fail
        refine HTb.out.mono ?_
        rintro e u2 ⟨rfl, o2⟩
        have HO2 := hide o2.swap
        clear o2 HTb
        go_wp2
        go_roundg (200 - i)
        case measure => omega
        case rel => exact ⟨j + 1, dn', La', Lb', by omega, by rw [show 2 * (j + 1) = i + 2 by omega]; rfl, HO2.out, HF1.out, HF2.out, HK3.out⟩
      · have d3 : ((x : Int) % 2 == 0) = false := by simp; omega
        have d4 : decide ((x : Int) % 2 = 0) = false := by simp; omega
        have hyp : 0 ≤ (y : Int) % (pg : Int) ∧ (y : Int) % (pg : Int) < 100 := ⟨Int.emod_nonneg _ (by omega), Int.lt_of_lt_of_le (Int.emod_lt_of_pos _ (by omega)) (by omega)⟩
        have hpz : (pg : Int) ≠ 0 := by omega
        have HTa := hide (putP (Loc.rr.sep Loc.nought) (HO.out.below (Loc.rr.sep (Loc.rr.sep Loc.nought)) ((Alike.drewN wr 1).below _)) (HFa.out.fine (by omega)) ((y : Int) % (pg : Int)) n (by omega))
        obtain ⟨k1, k2, k3⟩ := put_keys (pg := pg) (x := (y : Int) % (pg : Int)) (n := n) HKE.out ds es dn
        have HF1 := hide (HFa.out.put ((y : Int) % (pg : Int)) n)
        have HF2 := hide (HFb.out.put ((y : Int) % (pg : Int)) n)
        have HTB := fun (u : World) (L' : RL) (dn' : Nat) (hu : Own (Sep (RR ra pg ds dn' L') (Sep (RR rb pg es dn Lb) Nought)) w u) => hide (putP (Loc.rr.sep Loc.nought) hu.swap (HFb.out.fine (by omega)) ((y : Int) % (pg : Int)) n (by omega))
        rw [← k1, ← k2] at HTB
        rw [← k2] at HF2
        have HTBB := hide HTB
        have HK3 := hide k3
        clear h2 k1 k2 k3 HTB
        generalize putA pg ((y : Int) % (pg : Int)) n La = t1 at *
        generalize (putS pg ds ((y : Int) % (pg : Int)) n dn La).1 = dn' at *
        generalize (putS pg ds ((y : Int) % (pg : Int)) n dn La).2 = La' at *
        generalize (putS pg es ((y : Int) % (pg : Int)) n dn Lb).2 = Lb' at *
        have C0 : Hid (CellIs b (o + (i + 1)) (.int .u8 (y : Nat)) wr.drew) := hide hc1
        have u0 : ∀ u : Mem (CellIs b (o + (i + 1)) (.int .u8 (y : Nat))), u.w'.cell? ⟨b, o + (i + 1), none⟩ = some (.int .u8 (y : Nat)) := fun u => u.h
        have hne : Nonempty (Mem (CellIs b (o + (i + 1)) (.int .u8 (y : Nat)))) := ⟨⟨_, C0.out⟩⟩
        have HCW : Hid (∀ u : World, Below w.heap.size w u → CellIs b (o + (i + 1)) (.int .u8 (y : Nat)) u) := hide (fun u hu => (hu.cell (p := ⟨b, o + (i + 1), none⟩) hbS).trans ((hB.cell (p := ⟨b, o + (i + 1), none⟩) hbS).symm.trans hc1))
        go_wp2
        refine region_start (J := CellIs b (o + (i + 1)) (.int .u8 (y : Nat))) (by kernel_rfl) ?_
        refine stretch (fuel := 3) (by kernel_rfl) (fun _ _ _ _ _ h => h) C0.out [0, 1, 2, 3, 4, 5, 6, 7, 8, 9, 11, 12, 13, 14, 15, 16, 17, 18, 19, 20] (by kernel_rfl) ?_
        simp only [List.filterMap_cons, List.filterMap_nil, List.getElem?_toArray, List.getElem?_cons_zero, List.getElem?_cons_succ]
        show wpQuiet _ _ _ _ [_, _, _, _, _, _, _, _, _, _, _, _, _, _, _, _, _, _, _, _] _
        repeat (go_big_quiet_step (fail))
        refine wpQuiet_nil ?_
        refine wpAnyJ_writer (i := 10) rfl (by kernel_rfl) (fun K hK => ?_)
        go_simp
        refine HTa.out.mono ?_
        rintro e u1 ⟨rfl, o1⟩
        have HTb := HTBB.out u1 _ _ o1
        refine hK _ _ (HCW.out u1 o1.back) ?_
        clear hK K o1 HTa HTBB
        refine wpAnyJ_writer (i := 21) rfl (by kernel_rfl) (fun K hK => ?_)
        go_simp
        refine HTb.out.mono ?_
        rintro e u2 ⟨rfl, o2⟩
        have HO2 := hide o2.swap
        have hC2 := HCW.out u2 o2.back
        refine hK _ _ hC2 ?_
        clear hK K o2 HTb
        refine stretch (fuel := 0) (by kernel_rfl) (fun _ _ _ _ _ h => h) hC2 [22] (by kernel_rfl) ?_
        simp only [List.filterMap_cons, List.filterMap_nil, List.getElem?_toArray, List.getElem?_cons_zero, List.getElem?_cons_succ]
        show wpQuiet _ _ _ _ [_] _
        repeat (go_big_quiet_step (fail))
        refine wpQuiet_nil ?_
        refine wpAnyJ_done (by kernel_rfl) ?_
        clear hc0 hc1 hB C0 u0 hne hC2
        go_wp2
        go_roundg (200 - i)
        case measure => omega
        case rel => exact ⟨j + 1, dn', La', Lb', by omega, by rw [show 2 * (j + 1) = i + 2 by omega]; rfl, HO2.out, HF1.out, HF2.out, HK3.out⟩
    · by_cases hlt1 : i + 1 < n3
      · have d1 : decide ((i : Int) + 1 < (n3 : Int)) = true := by simp; omega
        have d2 : decide ((i : Int) < 200) = false := by simp; omega
        clear hB HB3
        have hll : La.length = Lb.length := by have := congrArg List.length HKE.out; simpa using this
        have hLm : La.length ≤ 200 := by have := HFa.out.len; omega
        have HSH := hide (shp_like HFa.out.good.ris HFb.out.good.ris HKE.out)
        have HRK : Hid (runsOf Lb = runsOf La) := hide (runsOf_keys HKE.out.symm)
        have HS1 := hide (shapeP (Loc.rr.sep Loc.nought) HO.out (HFa.out.fine (by omega)))
        obtain ⟨M, hM⟩ : ∃ M, La.length = M := ⟨_, rfl⟩
        have HM1 : Hid ((shp La).length = M) := hide (by rw [shp_length HFa.out.good.ris, hM])
        have HM2 : Hid ((shp Lb).length = M) := hide (by rw [shp_length HFb.out.good.ris, ← hll, hM])
        have HM3 : Hid ((runsOf La).length = M) := hide (by rw [runsOf_length, hM])
        rw [hM] at hLm
        clear hll HO HKE hM
        go_wp2_with fail
        refine HS1.out.mono ?_
        rintro e u1 ⟨v1, rfl, o1⟩
        have HS2 := hide (shapeP (Loc.rr.sep (Loc.nv.sep Loc.nought)) o1.third (HFb.out.fine (by omega)))
        clear o1 HS1
        go_wp2_with fail
        refine HS2.out.mono ?_
        rintro e u2 ⟨v2, rfl, o2⟩
        have HL1 := hide (listP (Loc.rr.sep (Loc.nv.sep (Loc.nv.sep Loc.nought))) o2.third (HFa.out.fine (by omega)))
        have hn2 : NodesV u2 v2 (shp Lb) := by obtain ⟨_, h, _⟩ := o2.mid; exact h
        have hn1 : NodesV u2 v1 (shp La) := by obtain ⟨_, h, _⟩ := o2.drop2.drop2.mid; exact h
        obtain ⟨sa, sc, rfl, _⟩ := hn1
        obtain ⟨ta, tc, rfl, _⟩ := hn2
        rw [HM1.out, HM2.out] at HL1 ⊢
        clear o2 HS2
        go_wp2_with fail
        refine HL1.out.mono ?_
        rintro e u3 ⟨v3, rfl, o3⟩
        have hv3 : RunsV u3 v3 (runsOf La) := by obtain ⟨_, h, _⟩ := o3.mid; exact h
        obtain ⟨la, lc, rfl, _⟩ := hv3
        have o3' := o3.drop2
        have hn2 : NodesV u3 (.slice ta M tc) (shp Lb) := by obtain ⟨_, h, _⟩ := o3'.drop2.mid; exact h
        have hn1 : NodesV u3 (.slice sa M sc) (shp La) := by obtain ⟨_, h, _⟩ := o3'.drop2.drop2.mid; exact h
        obtain ⟨sa', sc', es1, hs⟩ := hn1.cells
        rw [HM1.out] at es1 hs
        cases es1
        obtain ⟨ta', tc', et1, ht⟩ := hn2.cells
        rw [HM2.out] at et1 ht
        cases et1
        have HCS := hide hs
        have HCT := hide ht
        have HO3 := hide o3'
        rw [HM3.out]
        clear o3 o3' hn1 hn2 hs ht HL1
        go_wp2
        go_loopg [20, 21, 22] M (fun g r20 r21 r22 wr => ∃ j : Nat, j + g = M ∧ r20 = .int .i64 (j : Int) ∧ Alike u3 wr)
        case atStart => exact ⟨0, by omega, rfl, Alike.refl _⟩
        case round =>
          obtain ⟨q, hq, rfl, hal⟩ := hrel
          by_cases hqm : q = M
          · have e1 : decide ((q : Int) < (M : Int)) = false := by simp; omega
            have e2 : decide (q < M) = false := by simp; omega
            have HLa := hide (listP (Loc.rr.sep (Loc.nv.sep (Loc.nv.sep Loc.nought))) (HO3.out.below (Loc.rr.sep (Loc.rr.sep (Loc.nv.sep (Loc.nv.sep Loc.nought)))) (hal.below _)) (HFa.out.fine (by omega)))
            clear hal hqm HCS HCT HSH HO3
            go_wp2_with fail
            refine HLa.out.mono ?_
            rintro e u4 ⟨v4, rfl, o4⟩
            have HLb := hide (listP (Loc.rr.sep (Loc.rv.sep (Loc.nv.sep (Loc.nv.sep Loc.nought)))) o4.third (HFb.out.fine (by omega)))
            rw [HRK.out] at HLb
            clear o4 HLa
            go_wp2_with fail
            refine HLb.out.mono ?_
            rintro e u5 ⟨v5, rfl, o5⟩
            have hr5 : RunsV u5 v5 (runsOf La) := by obtain ⟨_, h, _⟩ := o5.mid; exact h
            have hr4 : RunsV u5 v4 (runsOf La) := by obtain ⟨_, h, _⟩ := o5.drop2.drop2.mid; exact h
            have HSR := hide (sameRuns u5 v4 v5 (runsOf La) hr4 hr5 (by rw [HM3.out]; omega))
            have HO5 := hide o5
            clear o5 hr4 hr5 HLb
            go_wp2_with fail
            refine HSR.out.mono ?_
            rintro e u6 ⟨rfl, h6⟩
            have HO6 := hide (HO5.out.below (Loc.rr.sep (Loc.rv.sep (Loc.rr.sep (Loc.rv.sep (Loc.nv.sep (Loc.nv.sep Loc.nought)))))) (h6.below _))
            have HDa := hide (drawnP (Loc.rr.sep (Loc.rv.sep (Loc.rv.sep (Loc.nv.sep (Loc.nv.sep Loc.nought))))) HO6.out.third)
            have HDb := hide (drawnP (Loc.rv.sep (Loc.rr.sep (Loc.rv.sep (Loc.nv.sep (Loc.nv.sep Loc.nought))))) HO6.out)
            have HB6 := hide HO6.out.back
            clear h6 HSR HO5 HO6
            go_wp2_with fail
            refine HDa.out.mono ?_
            rintro e u7 ⟨rfl, rfl⟩
            clear HDa
            go_wp2_with fail
            refine HDb.out.mono ?_
            rintro e u8 ⟨rfl, rfl⟩
            clear HDb
            go_wp2_with fail
            refine (HAW _).out.mono ?_
            rintro e u9 ⟨rfl, h9⟩
            have HB9 := hide (HB6.out.trans (h9.mono HB6.out.size))
            clear h9
            go_wp2
            go_ret
            exact ⟨rfl, HB9.out⟩
          · have e1 : decide ((q : Int) < (M : Int)) = true := by simp; omega
            have e2 : decide (q < M) = true := by simp; omega
            have hqM : q < M := by omega
            obtain ⟨gs, rfl, xs⟩ := HCS.out q hqM
            obtain ⟨j0, hj0, ej0⟩ := HSH.out q (by rw [HM1.out]; exact hqM)
            rw [HM2.out] at hj0
            have HXS := hide xs
            have HEJ := hide ej0
            have HA := hide hal
            clear xs ej0 hal hqm
            obtain ⟨ky, hky⟩ : ∃ ky, ((shp La).getD q (0, 0)).1 = ky := ⟨_, rfl⟩
            rw [hky] at HXS HEJ
            clear hky
            go_wp2
            go_loopg [21, 22] M (fun g' r21 r22 wr' => ∃ (j' : Nat) (fd : Bool), j' + g' = M ∧ r21 = .bool fd ∧ r22 = .int .i64 (j' : Int) ∧ Alike u3 wr' ∧ (j0 < j' → fd = true))
            case atStart => exact ⟨0, false, by omega, rfl, rfl, HA.out, fun h => by omega⟩
            case round =>
              obtain ⟨j', fd, hj', rfl, rfl, hal', hfd⟩ := hrel
              have HA' := hide hal'
              by_cases hjm : j' = M
              · have f1 : decide ((j' : Int) < (M : Int)) = false := by simp; omega
                have f2 : decide (j' < M) = false := by simp; omega
                have hft : fd = true := hfd (by omega)
                subst hft
                clear hal' hfd hjm
                go_wp2
                go_roundg (M - (q + 1))
                case measure => omega
                case rel => exact ⟨q + 1, by omega, by simp, HA'.out⟩
              · have f1 : decide ((j' : Int) < (M : Int)) = true := by simp; omega
                have f2 : decide (j' < M) = true := by simp; omega
                have hjM : j' < M := by omega
                cases fd with
                | true =>
                  clear hal' hfd hjm
                  go_wp2
                  go_quiet (fail)
                  go_wp2
                  go_roundg (M - (j' + 1))
                  case measure => omega
                  case rel => exact ⟨j' + 1, true, by omega, rfl, by simp, HA'.out.trans (Alike.drewN _ _), fun _ => rfl⟩
                | false =>
                  obtain ⟨gt, rfl, xt⟩ := HCT.out j' hjM
                  have x1 : wr.cell? ⟨gs, q * 2, none⟩ = some (.int .i64 ky) := (World.cell?_of_block (a := ⟨gs, q * 2, none⟩) (by rw [hal'.heap])).trans HXS.out
                  have x2 : wr.cell? ⟨gt, j' * 2, none⟩ = some (.int .i64 ((shp Lb).getD j' (0, 0)).1) := (World.cell?_of_block (a := ⟨gt, j' * 2, none⟩) (by rw [hal'.heap])).trans xt
                  have HJJ : Hid (j' = j0 → ((shp Lb).getD j' (0, 0)).1 = ky) := hide (fun e => by rw [e]; exact HEJ.out)
                  have hnj : ¬ j0 < j' := fun h => by have := hfd h; simp at this
                  clear xt hal' hfd hjm
                  generalize ((shp Lb).getD j' (0, 0)).1 = kx at *
                  by_cases hkk : kx = ky
                  · have g1 : (kx == ky) = true := by simp [hkk]
                    have g2 : decide (kx = ky) = true := by simp [hkk]
                    clear hkk
                    go_wp2
                    go_quiet (fail)
                    go_wp2
                    go_roundg (M - (j' + 1))
                    case measure => omega
                    case rel => exact ⟨j' + 1, true, by omega, rfl, by simp, HA'.out.trans (Alike.drewN _ _), fun _ => rfl⟩
                  · have g1 : (kx == ky) = false := by simp [hkk]
                    have g2 : decide (kx = ky) = false := by simp [hkk]
                    have HNJ : Hid (j' ≠ j0) := hide (fun e => hkk (HJJ.out e))
                    clear hkk
                    go_wp2
                    go_quiet (fail)
                    go_wp2
                    go_roundg (M - (j' + 1))
                    case measure => omega
                    case rel => exact ⟨j' + 1, false, by omega, rfl, by simp, HA'.out.trans (Alike.drewN _ _), fun h => by have := HNJ.out; omega⟩
      · have d1 : decide ((i : Int) + 1 < (n3 : Int)) = false := by simp; omega
        clear hB HB3
        have hll : La.length = Lb.length := by have := congrArg List.length HKE.out; simpa using this
        have hLm : La.length ≤ 200 := by have := HFa.out.len; omega
        have HSH := hide (shp_like HFa.out.good.ris HFb.out.good.ris HKE.out)
        have HRK : Hid (runsOf Lb = runsOf La) := hide (runsOf_keys HKE.out.symm)
        have HS1 := hide (shapeP (Loc.rr.sep Loc.nought) HO.out (HFa.out.fine (by omega)))
        obtain ⟨M, hM⟩ : ∃ M, La.length = M := ⟨_, rfl⟩
        have HM1 : Hid ((shp La).length = M) := hide (by rw [shp_length HFa.out.good.ris, hM])
        have HM2 : Hid ((shp Lb).length = M) := hide (by rw [shp_length HFb.out.good.ris, ← hll, hM])
        have HM3 : Hid ((runsOf La).length = M) := hide (by rw [runsOf_length, hM])
        rw [hM] at hLm
        clear hll HO HKE hM
        go_wp2_with fail
        refine HS1.out.mono ?_
        rintro e u1 ⟨v1, rfl, o1⟩
        have HS2 := hide (shapeP (Loc.rr.sep (Loc.nv.sep Loc.nought)) o1.third (HFb.out.fine (by omega)))
        clear o1 HS1
        go_wp2_with fail
        refine HS2.out.mono ?_
        rintro e u2 ⟨v2, rfl, o2⟩
        have HL1 := hide (listP (Loc.rr.sep (Loc.nv.sep (Loc.nv.sep Loc.nought))) o2.third (HFa.out.fine (by omega)))
        have hn2 : NodesV u2 v2 (shp Lb) := by obtain ⟨_, h, _⟩ := o2.mid; exact h
        have hn1 : NodesV u2 v1 (shp La) := by obtain ⟨_, h, _⟩ := o2.drop2.drop2.mid; exact h
        obtain ⟨sa, sc, rfl, _⟩ := hn1
        obtain ⟨ta, tc, rfl, _⟩ := hn2
        rw [HM1.out, HM2.out] at HL1 ⊢
        clear o2 HS2
        go_wp2_with fail
        refine HL1.out.mono ?_
        rintro e u3 ⟨v3, rfl, o3⟩
        have hv3 : RunsV u3 v3 (runsOf La) := by obtain ⟨_, h, _⟩ := o3.mid; exact h
        obtain ⟨la, lc, rfl, _⟩ := hv3
        have o3' := o3.drop2
        have hn2 : NodesV u3 (.slice ta M tc) (shp Lb) := by obtain ⟨_, h, _⟩ := o3'.drop2.mid; exact h
        have hn1 : NodesV u3 (.slice sa M sc) (shp La) := by obtain ⟨_, h, _⟩ := o3'.drop2.drop2.mid; exact h
        obtain ⟨sa', sc', es1, hs⟩ := hn1.cells
        rw [HM1.out] at es1 hs
        cases es1
        obtain ⟨ta', tc', et1, ht⟩ := hn2.cells
        rw [HM2.out] at et1 ht
        cases et1
        have HCS := hide hs
        have HCT := hide ht
        have HO3 := hide o3'
        rw [HM3.out]
        clear o3 o3' hn1 hn2 hs ht HL1
        go_wp2
        go_loopg [20, 21, 22] M (fun g r20 r21 r22 wr => ∃ j : Nat, j + g = M ∧ r20 = .int .i64 (j : Int) ∧ Alike u3 wr)
        case atStart => exact ⟨0, by omega, rfl, Alike.refl _⟩
        case round =>
          obtain ⟨q, hq, rfl, hal⟩ := hrel
          by_cases hqm : q = M
          · have e1 : decide ((q : Int) < (M : Int)) = false := by simp; omega
            have e2 : decide (q < M) = false := by simp; omega
            have HLa := hide (listP (Loc.rr.sep (Loc.nv.sep (Loc.nv.sep Loc.nought))) (HO3.out.below (Loc.rr.sep (Loc.rr.sep (Loc.nv.sep (Loc.nv.sep Loc.nought)))) (hal.below _)) (HFa.out.fine (by omega)))
            clear hal hqm HCS HCT HSH HO3
            go_wp2_with fail
            refine HLa.out.mono ?_
            rintro e u4 ⟨v4, rfl, o4⟩
            have HLb := hide (listP (Loc.rr.sep (Loc.rv.sep (Loc.nv.sep (Loc.nv.sep Loc.nought)))) o4.third (HFb.out.fine (by omega)))
            rw [HRK.out] at HLb
            clear o4 HLa
            go_wp2_with fail
            refine HLb.out.mono ?_
            rintro e u5 ⟨v5, rfl, o5⟩
            have hr5 : RunsV u5 v5 (runsOf La) := by obtain ⟨_, h, _⟩ := o5.mid; exact h
            have hr4 : RunsV u5 v4 (runsOf La) := by obtain ⟨_, h, _⟩ := o5.drop2.drop2.mid; exact h
            have HSR := hide (sameRuns u5 v4 v5 (runsOf La) hr4 hr5 (by rw [HM3.out]; omega))
            have HO5 := hide o5
            clear o5 hr4 hr5 HLb
            go_wp2_with fail
            refine HSR.out.mono ?_
            rintro e u6 ⟨rfl, h6⟩
            have HO6 := hide (HO5.out.below (Loc.rr.sep (Loc.rv.sep (Loc.rr.sep (Loc.rv.sep (Loc.nv.sep (Loc.nv.sep Loc.nought)))))) (h6.below _))
            have HDa := hide (drawnP (Loc.rr.sep (Loc.rv.sep (Loc.rv.sep (Loc.nv.sep (Loc.nv.sep Loc.nought))))) HO6.out.third)
            have HDb := hide (drawnP (Loc.rv.sep (Loc.rr.sep (Loc.rv.sep (Loc.nv.sep (Loc.nv.sep Loc.nought))))) HO6.out)
            have HB6 := hide HO6.out.back
            clear h6 HSR HO5 HO6
            go_wp2_with fail
            refine HDa.out.mono ?_
            rintro e u7 ⟨rfl, rfl⟩
            clear HDa
            go_wp2_with fail
            refine HDb.out.mono ?_
            rintro e u8 ⟨rfl, rfl⟩
            clear HDb
            go_wp2_with fail
            refine (HAW _).out.mono ?_
            rintro e u9 ⟨rfl, h9⟩
            have HB9 := hide (HB6.out.trans (h9.mono HB6.out.size))
            clear h9
            go_wp2
            go_ret
            exact ⟨rfl, HB9.out⟩
          · have e1 : decide ((q : Int) < (M : Int)) = true := by simp; omega
            have e2 : decide (q < M) = true := by simp; omega
            have hqM : q < M := by omega
            obtain ⟨gs, rfl, xs⟩ := HCS.out q hqM
            obtain ⟨j0, hj0, ej0⟩ := HSH.out q (by rw [HM1.out]; exact hqM)
            rw [HM2.out] at hj0
            have HXS := hide xs
            have HEJ := hide ej0
            have HA := hide hal
            clear xs ej0 hal hqm
            obtain ⟨ky, hky⟩ : ∃ ky, ((shp La).getD q (0, 0)).1 = ky := ⟨_, rfl⟩
            rw [hky] at HXS HEJ
            clear hky
            go_wp2
            go_loopg [21, 22] M (fun g' r21 r22 wr' => ∃ (j' : Nat) (fd : Bool), j' + g' = M ∧ r21 = .bool fd ∧ r22 = .int .i64 (j' : Int) ∧ Alike u3 wr' ∧ (j0 < j' → fd = true))
            case atStart => exact ⟨0, false, by omega, rfl, rfl, HA.out, fun h => by omega⟩
            case round =>
              obtain ⟨j', fd, hj', rfl, rfl, hal', hfd⟩ := hrel
              have HA' := hide hal'
              by_cases hjm : j' = M
              · have f1 : decide ((j' : Int) < (M : Int)) = false := by simp; omega
                have f2 : decide (j' < M) = false := by simp; omega
                have hft : fd = true := hfd (by omega)
                subst hft
                clear hal' hfd hjm
                go_wp2
                go_roundg (M - (q + 1))
                case measure => omega
                case rel => exact ⟨q + 1, by omega, by simp, HA'.out⟩
              · have f1 : decide ((j' : Int) < (M : Int)) = true := by simp; omega
                have f2 : decide (j' < M) = true := by simp; omega
                have hjM : j' < M := by omega
                cases fd with
                | true =>
                  clear hal' hfd hjm
                  go_wp2
                  go_quiet (fail)
                  go_wp2
                  go_roundg (M - (j' + 1))
                  case measure => omega
                  case rel => exact ⟨j' + 1, true, by omega, rfl, by simp, HA'.out.trans (Alike.drewN _ _), fun _ => rfl⟩
                | false =>
                  obtain ⟨gt, rfl, xt⟩ := HCT.out j' hjM
                  have x1 : wr.cell? ⟨gs, q * 2, none⟩ = some (.int .i64 ky) := (World.cell?_of_block (a := ⟨gs, q * 2, none⟩) (by rw [hal'.heap])).trans HXS.out
                  have x2 : wr.cell? ⟨gt, j' * 2, none⟩ = some (.int .i64 ((shp Lb).getD j' (0, 0)).1) := (World.cell?_of_block (a := ⟨gt, j' * 2, none⟩) (by rw [hal'.heap])).trans xt
                  have HJJ : Hid (j' = j0 → ((shp Lb).getD j' (0, 0)).1 = ky) := hide (fun e => by rw [e]; exact HEJ.out)
                  have hnj : ¬ j0 < j' := fun h => by have := hfd h; simp at this
                  clear xt hal' hfd hjm
                  generalize ((shp Lb).getD j' (0, 0)).1 = kx at *
                  by_cases hkk : kx = ky
                  · have g1 : (kx == ky) = true := by simp [hkk]
                    have g2 : decide (kx = ky) = true := by simp [hkk]
                    clear hkk
                    go_wp2
                    go_quiet (fail)
                    go_wp2
                    go_roundg (M - (j' + 1))
                    case measure => omega
                    case rel => exact ⟨j' + 1, true, by omega, rfl, by simp, HA'.out.trans (Alike.drewN _ _), fun _ => rfl⟩
                  · have g1 : (kx == ky) = false := by simp [hkk]
                    have g2 : decide (kx = ky) = false := by simp [hkk]
                    have HNJ : Hid (j' ≠ j0) := hide (fun e => hkk (HJJ.out e))
                    clear hkk
                    go_wp2
                    go_quiet (fail)
                    go_wp2
                    go_roundg (M - (j' + 1))
                    case measure => omega
                    case rel => exact ⟨j' + 1, false, by omega, rfl, by simp, HA'.out.trans (Alike.drewN _ _), fun h => by have := HNJ.out; omega⟩

set_option maxRecDepth 100000 in
theorem lifted (os : Os) (started : os.Started) (H : Type) (enc : TypeId × Value → H) :
    ReturnsInHanded {} Try.checked os 8 .any (Rows.runsDrawsSpec.pre6 enc Try.prog Try.f8 Rows.runsDrawsRow.domain false) (Rows.runsDrawsSpec.post enc Try.prog Try.f8 false true false false) := by
  refine returnsInHanded_of_change (C := Try.checked) own started (by kernel_rfl) Try.func8
    (ChangeSpec.witness6 (enc := enc) (C := Try.checked) false ⟨#[], #[.int .u8 0, .slice none 0 0, .slice none 0 0, .slice none 0 0], []⟩ 8 (by kernel_rfl) (by kernel_rfl) (by kernel_rfl) (by kernel_rfl)) ?_
  intro W base args ds gs before hval0 hW _ _
  have hval : ∀ (j : Nat) t v, Try.f8.params[j]? = some t → args[j]? = some v → Value.okWide Try.prog W .any base t v := hval0
  have hW' := hW
  obtain ⟨p, q, hA0, hV, rfl, hfz, hnd⟩ := hW
  have hA : DataW.TrodAll enc Try.prog W 0 (fun _ => true) true Try.f8.params.toList args.toList ds p := hA0
  rw [Try.params8] at hA hval
  obtain ⟨v0, vs0, d0, ds0, p0, q0, hargs, rfl, rfl, h0, r0⟩ := trodAll_cons hA
  obtain ⟨v1, vs1, d1, ds1, p1, q1, rfl, rfl, rfl, h1, r1⟩ := trodAll_cons r0
  obtain ⟨v2, vs2, d2, ds2, p2, q2, rfl, rfl, rfl, h2, r2⟩ := trodAll_cons r1
  obtain ⟨v3, vs3, d3, ds3, p3, q3, rfl, rfl, rfl, h3, r3⟩ := trodAll_cons r2
  obtain ⟨rfl, rfl, rfl⟩ := trodAll_nil r3
  obtain rfl : args = #[v0, v1, v2, v3] := by cases args; simp_all
  obtain ⟨rfl, rfl⟩ := trodVars_none hV
  obtain ⟨a0, rfl, rfl, rfl, w0⟩ := open_int Try.underlying5 (hval 0 5 v0 rfl rfl) h0
  have h1k := h1
  have lt1 : ∀ x ∈ p1, x.block < W.heap.size := fun x hx => hW'.lt x (by simp [hx])
  obtain ⟨l1_0, l1_1, l1_2, rfl, f1_0, f1_1, f1_2⟩ := open_bytes (hval 1 22 v1 rfl rfl) h1
  have h2k := h2
  have lt2 : ∀ x ∈ p2, x.block < W.heap.size := fun x hx => hW'.lt x (by simp [hx])
  obtain ⟨l2_0, l2_1, l2_2, rfl, f2_0, f2_1, f2_2⟩ := open_bytes (hval 2 22 v2 rfl rfl) h2
  have h3k := h3
  have lt3 : ∀ x ∈ p3, x.block < W.heap.size := fun x hx => hW'.lt x (by simp [hx])
  obtain ⟨l3_0, l3_1, l3_2, rfl, f3_0, f3_1, f3_2⟩ := open_bytes (hval 3 22 v3 rfl rfl) h3
  clear hA0 hval0
  obtain ⟨x0, hx0, rfl⟩ := u8_nat w0
  refine (walk x0 hx0 l1_0 l1_1 l1_2 f1_0 f1_1 l2_0 l2_1 l2_2 f2_0 f2_1 l3_0 l3_1 l3_2 f3_0 f3_1 W f1_2 f2_2 f3_2).mono fun e W' ⟨he, bel⟩ => ?_
  subst he
  exact ⟨_, rfl, _, _, _, [], _, [], hW', trodAll_mk1 (shut_bool Try.underlying4 _), (trodAll_cons_mk (shut_int Try.underlying5 w0) (trodAll_cons_mk (Below.trod laidOut (by kernel_rfl) (of_decide_eq_true (by kernel_rfl)) h1k bel lt1) (trodAll_cons_mk (Below.trod laidOut (by kernel_rfl) (of_decide_eq_true (by kernel_rfl)) h2k bel lt2) (trodAll_cons_mk (Below.trod laidOut (by kernel_rfl) (of_decide_eq_true (by kernel_rfl)) h3k bel lt3) trodAll_mk0)))), rfl, bel.frame _, fun h => by cases h⟩

end Go.Proofs.Ytpngbajahpnlgaa.runsDraws
namespace Go.Proofs.Ytpngbajahpnlgaa

theorem runsDraws_holds : Rows.RunsDrawsSaid :=
  OpenClaim.holds_of_wide 8 Try.f8 rfl rfl rfl rfl rfl rfl rfl ⟨rfl, rfl, rfl, rfl, rfl⟩ rfl rfl rfl rfl rfl (by kernel_rfl) Try.func8 (by kernel_rfl)
    (of_decide_eq_true (by kernel_rfl)) (by unfold Func.isWrapper; first | (rw [if_pos (by decide +kernel)]; kernel_rfl) | (rw [if_neg (by decide +kernel)]; exact ⟨rfl, rfl⟩))
    (fun os started H enc _ => runsDraws.lifted os started H enc)
end Go.Proofs.Ytpngbajahpnlgaa
