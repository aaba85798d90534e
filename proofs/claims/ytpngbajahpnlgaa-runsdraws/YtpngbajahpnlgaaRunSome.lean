/- Runs by numbers, as the laws make them: Some. -/
import Derived.Test.YtpngbajahpnlgaaRunOpen
import Derived.Test.YtpngbajahpnlgaaRunAwake
import Derived.Deep.LoopGhost
namespace Go.Proofs.Ytpngbajahpnlgaa
open Go.RowKit

set_option maxRecDepth 100000 in
set_option maxHeartbeats 4000000 in
theorem some21 (w : World) (pgs : Nat) (hp : pgs < 256) (a1 : Option Addr) (n1 c1 : Nat) (f1 : Nat → Nat) (hn1 : n1 ≤ 9223372036854775807) (b1 : BytesAt w a1 n1 f1) (a2 : Option Addr) (n2 c2 : Nat) (f2 : Nat → Nat) (hn2 : n2 ≤ 9223372036854775807) (b2 : BytesAt w a2 n2 f2) :
    Calls Try.prog 21 #[.int .u8 (pgs : Int), .slice a1 n1 c1, .slice a2 n2 c2] w fun e w' => ∃ r dn L, e = .returned (.pointer (some ⟨r, 0, none⟩)) ∧ Own (Sep (RR r (1 + pgs % 100) (drawsOf f1 (min n1 60)) dn L) Nought) w w' ∧ Fit 60 (1 + pgs % 100) (drawsOf f1 (min n1 60)) dn L := by
  obtain ⟨pg, hpg⟩ : ∃ pg, 1 + pgs % 100 = pg := ⟨_, rfl⟩
  have hpi : (1 : Int) + (pgs : Int) % 100 = (pg : Int) := by omega
  have hpb : 1 ≤ pg ∧ pg ≤ 100 := by omega
  obtain ⟨ds, hds⟩ : ∃ ds, drawsOf f1 (min n1 60) = ds := ⟨_, rfl⟩
  have hdl : ds.length ≤ 60 := by rw [← hds, drawsOf_length]; omega
  rw [hpg, hds]
  have HD := hide (draws11 w a1 n1 c1 f1 b1 hn1)
  rw [hds] at HD
  have HB2 := hide b2
  have HDL : Hid (ds.length = min n1 60) := hide (by rw [← hds, drawsOf_length])
  clear b1 b2 hds hpg
  go_enter Try.func21, Try.ntmps21
  go_wp2_with fail
  refine HD.out.mono ?_
  rintro e w1 ⟨v, rfl, hown, hb1⟩
  obtain ⟨va, vc, rfl, hz, hda, _⟩ := draws_of_owns hown
  have HN := hide (newP (R := Nought) Loc.nought ((Own.start w).below Loc.nought hb1) hpb.1 (by omega) (by omega) va vc hz hda)
  clear hown hb1 hda hz HD
  obtain ⟨m, hm⟩ : ∃ m, ds.length = m := ⟨_, rfl⟩
  rw [hm] at HN ⊢
  go_wp2_with fail
  refine HN.out.mono ?_
  rintro e w2 ⟨r, rfl, o2⟩
  have HO2 := hide o2
  have HF0 : Hid (Fit 1 pg ds 1 [(kOf 0 pg, ds.getD 0 0, ())]) := hide (Fit.new hpb.1 (by omega) (by omega))
  have HPI := hide hpi
  clear o2 HN hm hpi HDL
  go_wp2
  go_loopg [9] 102 (fun g r9 wr => ∃ (j dn : Nat) (L : RL), 2 * j + g = 102 ∧ r9 = .int .i64 ((2 * j : Nat) : Int) ∧ Own (Sep (RR r pg ds dn L) Nought) w wr ∧ Fit (j + 1) pg ds dn L)
  case atStart => exact ⟨0, _, _, by omega, rfl, HO2.out, HF0.out⟩
  case round =>
    clear HO2 HF0
    obtain ⟨j, dn, L, hg, rfl, ho, hf⟩ := hrel
    have HO := hide ho
    have HF := hide hf
    have hB := ho.back
    clear ho hf
    obtain ⟨i, hi⟩ : ∃ i, 2 * j = i := ⟨_, rfl⟩
    rw [hi]
    by_cases hin : i + 1 < n2
    · by_cases hi1 : i < 100
      · have d1 : decide ((i : Int) + 1 < (n2 : Int)) = true := by simp; omega
        have d2 : decide ((i : Int) < 100) = true := by simp; omega
        obtain ⟨hx, b, o, rfl, hbS, hc0⟩ := HB2.out i (by omega)
        obtain ⟨hy, b', o', hbo, _, hc1⟩ := HB2.out (i + 1) hin
        cases hbo
        replace hc0 : wr.cell? ⟨b, o + i, none⟩ = some (.int .u8 (f2 i : Nat)) := (hB.cell (p := ⟨b, o + i, none⟩) hbS).trans hc0
        replace hc1 : wr.cell? ⟨b, o + (i + 1), none⟩ = some (.int .u8 (f2 (i + 1) : Nat)) := (hB.cell (p := ⟨b, o + (i + 1), none⟩) hbS).trans hc1
        generalize f2 i = x at *
        generalize f2 (i + 1) = y at *
        by_cases h3 : x % 3 = 0
        · have d3 : decide ((0 : Int) < (x : Int) % 3) = false := by simp; omega
          have hyp : 0 ≤ (y : Int) % (pg : Int) ∧ (y : Int) % (pg : Int) < 100 := ⟨Int.emod_nonneg _ (by omega), Int.lt_of_lt_of_le (Int.emod_lt_of_pos _ (by omega)) (by omega)⟩
          have hpz : (pg : Int) ≠ 0 := by omega
          have HT := hide (putP Loc.nought (HO.out.below (Loc.rr.sep Loc.nought) ((Alike.drewN wr 1).below _)) (HF.out.fine (by omega)) ((y : Int) % (pg : Int)) (1 + (x : Int) % 5) (by omega))
          have HF2 := hide (HF.out.put ((y : Int) % (pg : Int)) (1 + (x : Int) % 5))
          have C0 : Hid (CellsAre b (o + i) (.int .u8 (x : Nat)) b (o + (i + 1)) (.int .u8 (y : Nat)) wr.drew) := hide ⟨hc0, hc1⟩
          have u0 : ∀ u : Mem (CellsAre b (o + i) (.int .u8 (x : Nat)) b (o + (i + 1)) (.int .u8 (y : Nat))), u.w'.cell? ⟨b, o + i, none⟩ = some (.int .u8 (x : Nat)) := fun u => u.h.1
          have u1 : ∀ u : Mem (CellsAre b (o + i) (.int .u8 (x : Nat)) b (o + (i + 1)) (.int .u8 (y : Nat))), u.w'.cell? ⟨b, o + (i + 1), none⟩ = some (.int .u8 (y : Nat)) := fun u => u.h.2
          have hne : Nonempty (Mem (CellsAre b (o + i) (.int .u8 (x : Nat)) b (o + (i + 1)) (.int .u8 (y : Nat)))) := ⟨⟨_, C0.out⟩⟩
          have HC0 := hide hc0
          have HC1 := hide hc1
          have HB := hide hB
          clear h3
          go_wp2
          refine region_start (J := CellsAre b (o + i) (.int .u8 (x : Nat)) b (o + (i + 1)) (.int .u8 (y : Nat))) (by kernel_rfl) ?_
          refine stretch (fuel := 1) (by kernel_rfl) (fun _ _ _ _ _ h => h) C0.out [0, 1, 2, 3, 4, 5, 6, 7, 8, 9, 10, 11, 12, 13, 14, 15] (by kernel_rfl) ?_
          simp only [List.filterMap_cons, List.filterMap_nil, List.getElem?_toArray, List.getElem?_cons_zero, List.getElem?_cons_succ]
          show wpQuiet _ _ _ _ [_, _, _, _, _, _, _, _, _, _, _, _, _, _, _, _] _
          repeat (go_big_quiet_step (fail))
          refine wpQuiet_nil ?_
          refine wpAnyJ_writer (i := 16) rfl (by kernel_rfl) (fun K hK => ?_)
          go_simp
          refine HT.out.mono ?_
          rintro e w3 ⟨rfl, o3⟩
          have hB3 := o3.back
          refine hK _ _ ⟨(hB3.cell (p := ⟨b, o + i, none⟩) hbS).trans ((hB.cell (p := ⟨b, o + i, none⟩) hbS).symm.trans hc0), (hB3.cell (p := ⟨b, o + (i + 1), none⟩) hbS).trans ((hB.cell (p := ⟨b, o + (i + 1), none⟩) hbS).symm.trans hc1)⟩ ?_
          clear hK K
          refine wpAnyJ_done (by kernel_rfl) ?_
          have HO3 := hide o3
          clear o3 hc0 hc1 hB hB3 HT C0 u0 u1 hne
          go_wp2
          go_roundg (100 - i)
          case measure => omega
          case rel => exact ⟨j + 1, _, _, by omega, by rw [show 2 * (j + 1) = i + 2 by omega]; rfl, HO3.out, HF2.out⟩
        · have d3 : decide ((0 : Int) < (x : Int) % 3) = true := by simp; omega
          have HT := hide (takeP Loc.nought HO.out (HF.out.fine (by omega)) (1 + (y : Int) % 9))
          have HF2 := hide (HF.out.take (1 + (y : Int) % 9))
          clear h3
          go_wp2_with fail
          refine HT.out.mono ?_
          rintro e w3 ⟨rfl, o3⟩
          have HO3 := hide o3
          clear o3 hc0 hc1 hB HT
          generalize (takeA (1 + (y : Int) % 9) L).1 = t1 at *
          generalize (takeA (1 + (y : Int) % 9) L).2 = t2 at *
          go_wp2
          go_roundg (100 - i)
          case measure => omega
          case rel => exact ⟨j + 1, _, _, by omega, by rw [show 2 * (j + 1) = i + 2 by omega]; rfl, HO3.out, HF2.out⟩
      · have d1 : decide ((i : Int) + 1 < (n2 : Int)) = true := by simp; omega
        have d2 : decide ((i : Int) < 100) = false := by simp; omega
        clear hB
        go_wp2
        go_ret
        exact ⟨r, dn, L, rfl, HO.out, HF.out.mono (by omega)⟩
    · have d1 : decide ((i : Int) + 1 < (n2 : Int)) = false := by simp; omega
      clear hB
      go_wp2
      go_ret
      exact ⟨r, dn, L, rfl, HO.out, HF.out.mono (by omega)⟩
end Go.Proofs.Ytpngbajahpnlgaa
