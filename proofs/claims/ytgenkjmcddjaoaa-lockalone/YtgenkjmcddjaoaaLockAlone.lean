/- Of threads that take a lock, and leave it when they have it, at no time two have it, who has it is told, one that is left is taken by the next one that tries: the law LockAlone answers true at every input, and its arguments read behind the call as they read before. -/
import Derived.Test.YtgenkjmcddjaoaaLckAlone
namespace Go.Proofs.Ytgenkjmcddjaoaa.lockAlone
open Go.ChangeShapes Go.WideShapes Go.ChangeAt Go.RowKit

/-- Who has it, and the lock's word. -/
def Has (n : Nat) (v : Value) (W : Nat) : Prop := (v = .int .i64 (-1) ∧ W = 0) ∨ ∃ j : Nat, v = .int .i64 (j : Int) ∧ W = j + 1 ∧ j < n

set_option maxRecDepth 100000 in
set_option maxHeartbeats 16000000 in
theorem main (x n : Nat) (hx : x < 256) (hn : x % 8 + 1 = n) (ao : Option Addr) (len cap : Nat) (_hlc : len ≤ cap) (_hcm : cap ≤ 9223372036854775807) (w : World) (hB : BytesIn w ao len) :
    Calls Try.prog 4 #[.int .u8 (x : Int), .slice ao len cap] w fun e w' => e = .returned (.bool true) ∧ Below w.heap.size w w' := by
  have n1 : 1 ≤ n ∧ n ≤ 8 := by omega
  have en : 1 + (x : Int) % 8 = (n : Int) := by omega
  clear hn
  have hm : Lay.may ((2 : Nat) : Int) (n : Int) = true := Lay.may_iff.2 (by omega)
  have hm2 : Lay.may 2 (n : Int) = true := hm
  have A1 := fun (R : Res) (w0 u : World) (l : Loc R) (ho : Own R w0 u) => @anew R w0 u l ho 2 n hm [] (by simp) none 0 (fun _ => ⟨rfl, rfl⟩) (fun h => absurd rfl h)
  rw [show ((2 : Nat) : Int) = 2 from rfl, List.length_nil] at A1
  have hw := Lay.words_bd hm2
  have hs0 : 2 < (St.first (Lay.words 2 (n : Int)).toNat).words.length := by rw [St.first_len]; omega
  have hz0 : (St.first (Lay.words 2 (n : Int)).toNat).words.getD 2 0 = 0 := St.first_last _ 2 (by omega)
  generalize St.first (Lay.words 2 (n : Int)).toNat = s0 at *
  generalize ([(kOf 0 (2 : Nat), ([] : List Nat).getD 0 0, ())] : RL) = rl at *
  have HA1 := hide A1
  have HS0 := hide hs0
  have HZ0 := hide hz0
  have HM2 := hide hm2
  have HBI := hide hB
  have NT := hide (fun (t : Nat) (ht : t < n) (u : World) => newTakeYes 2 (n : Int) (t : Int) (by unfold mayTake; rw [HM2.out]; simp; omega) u)
  have NL := hide (fun (u : World) => newLeaveYes 2 (n : Int) HM2.out u)
  have AW := hide (fun (u : World) => awake13 u)
  have hfd := didFieldL
  obtain ⟨i0, hi, hz0', hz1, hz2⟩ := info_parts infoTakeP
  clear A1 hs0 hz0 hm hm2 hw hB HM2
  obtain ⟨LO, hLO⟩ : ∃ LO : Obj, LO = .cells #[.int .i64 2, .int .i64 (n : Int)] 26 (0, 0) := ⟨_, rfl⟩
  have HLO := hide hLO
  have O1 : Hid (Own (Sep (BO w.heap.size LO) Nought) w (w.alloc (.cells #[.int .i64 2, .int .i64 (n : Int)] 26))) := hide (Own.boNew Loc.nought (Own.start w) (by rw [hLO]; exact heap_alloc_at _ _) (Nat.le_refl _) (grown1 _ _))
  clear hLO
  go_enter Try.func4, Try.ntmps4
  go_wp2_with fail
  generalize w.alloc (.cells #[.int .i64 2, .int .i64 (n : Int)] 26) = w1 at *
  generalize hbl : w.heap.size = bl at *
  have HBL := hide hbl
  clear hbl
  have lB : Loc (Sep (BO bl LO) Nought) := Loc.bo.sep Loc.nought
  refine (HA1.out _ _ _ lB O1.out).mono ?_
  rintro e w2 ⟨q, p, r, rfl, o2⟩
  have O2 := hide o2
  clear o2 O1 HA1
  go_wp2_with (at_make; refine wpList_make_full _ rfl _ _ 65 rfl w2.heap.size 69 i0 (.pointer none) 1 Try.underlying65 hi hz0' hz1 .i64 .i64 _ _ n rfl rfl rfl rfl (by rw [hz2]; omega) (by unfold maxLen; omega) (Nat.le_refl _) ?_; intro w3 hown hgrow; have O3 := hide (Own.rowMade (Loc.ax.sep lB) O2.out rfl hown hgrow); clear hown hgrow O2; generalize w2.heap.size = g at *)
  go_loopw [9, 10] (fun v9 v10 wr => ∃ (i W : Nat) (S : Nat → Option Nat) (s : St), v10 = .int .i64 (i : Int) ∧ i ≤ len ∧ Has n v9 W ∧ Hid (s.words.getD 2 0 = W ∧ 2 < s.words.length ∧ Own (AloneR g q p r n s rl S (Sep (BO bl LO) Nought)) w wr)) (fun _ v10 _ => len - (intOf v10).toNat)
  case atStart => exact ⟨0, 0, fun _ => none, s0, rfl, by omega, .inl ⟨rfl, rfl⟩, ⟨HZ0.out, HS0.out, O3.out.cast (AloneR.start _).symm⟩⟩
  case round =>
    obtain ⟨i, W, S, s, rfl, hi', hW, hH⟩ := hrel
    obtain ⟨hsw, hsl, ho⟩ := hH.out
    have HSL := hide hsl
    have OW := hide ho
    clear hH hsl ho O3 HS0 HZ0
    by_cases hlt : i < len ∧ i < 300
    · obtain ⟨hl1, hl2⟩ := hlt
      obtain ⟨b, o, y, rfl, hc⟩ := HBI.out i hl1
      have hcy := (hc.kept OW.out.back hc.lt).cell
      have hy := hc.hx
      obtain ⟨t, ht⟩ : ∃ t, y % n = t := ⟨_, rfl⟩
      have htn : t < n := by rw [← ht]; exact Nat.mod_lt _ (by omega)
      have et : (y : Int) % (n : Int) = (t : Int) := by rw [← ht]; simp
      have hl := OW.out.has (m := bl) (o := LO) (R := Sep (BO g (.cells (rowN n (optP S)) 69 (0, 0))) (Sep (AX q 2 (n : Int) p r s 2 [] 1 rl) (Sep (Many (takesR n S) n) Nought))) (by unfold AloneR; ac_rfl)
      rw [HLO.out] at hl
      have l0 : wr.cell? ⟨bl, 0, none⟩ = some (.int .i64 2) := cell_of_heap hl
      have l1 : wr.cell? ⟨bl, 1, none⟩ = some (.int .i64 (n : Int)) := cell_of_heap hl
      clear hl hc ht
      rcases hW with ⟨rfl, rfl⟩ | ⟨j, rfl, rfl, hj⟩
      · have dw : ((-1 : Int) == (t : Int)) = false := by rw [beq_eq_false_iff_ne]; omega
        have HSW := hide hsw
        clear hsw
        cases hst : S t with
        | none =>
          have gt : wr.cell? ⟨g, t, none⟩ = some (.pointer none) := (cell_of_heap (OW.out.has (m := g) (R := Sep (AX q 2 (n : Int) p r s 2 [] 1 rl) (Sep (Many (takesR n S) n) (Sep (BO bl LO) Nought))) rfl)).trans ((rowN_get _ htn).trans (congrArg some (optP_none hst)))
          have HSN := hide hst
          clear hst
          go_wp2_with fail
          refine (NT.out t htn _).mono ?_
          rintro e w4 ⟨m, rfl, h1, h2, h3⟩
          have o4 := (Own.boNew (Loc.alone lB) OW.out h1 h2 h3).cast (R' := Sep (BO g (.cells (rowN n (optP S)) 69 (0, 0))) (Sep (BO m (takeO 2 (n : Int) false (t : Int))) (Sep (AX q 2 (n : Int) p r s 2 [] 1 rl) (Sep (Many (takesR n S) n) (Sep (BO bl LO) Nought))))) (by unfold AloneR; ac_rfl)
          have y4 : w4.cell? ⟨g, t, none⟩ = some (.pointer none) := (cell_of_heap (Own.boAt o4)).trans ((rowN_get _ htn).trans (congrArg some (optP_none HSN.out)))
          have f4 : ∀ o, w4.frozen? ⟨g, o, none⟩ = false := fun o => frozen_of_heap (Own.boAt o4)
          have o5 := Own.boSet (Loc.bo.sep (Loc.ax.sep ((Loc.many Loc.takes n).sep lB))) o4 t (.pointer (some ⟨m, 0, none⟩))
          rw [rowN_set] at o5
          have O5 := hide (o5.cast (AloneR.new htn HSN.out))
          have HST : Hid (upd S t (some m) t = some m) := hide (upd_at _ _ _)
          have gt : (w4.setCell ⟨g, t, none⟩ (.pointer (some ⟨m, 0, none⟩))).cell? ⟨g, t, none⟩ = some (.pointer (some ⟨m, 0, none⟩)) := (cell_of_heap (O5.out.has (m := g) (R := Sep (AX q 2 (n : Int) p r s 2 [] 1 rl) (Sep (Many (takesR n (upd S t (some m))) n) (Sep (BO bl LO) Nought))) rfl)).trans ((rowN_get _ htn).trans (congrArg some (optP_some HST.out)))
          clear o4 o5 h1 h2 h3 OW l0 l1
          go_wp2_with fail
          clear y4 f4
          generalize w4.setCell ⟨g, t, none⟩ (.pointer (some ⟨m, 0, none⟩)) = w5 at *
          have OW := O5
          clear O5
          have LR : Hid (Loc (Many (upd (takesR n (upd S t (some m))) t Nought) n)) := hide (Loc.rest Loc.takes t n)
          have Oa := hide (OW.out.cast (AloneR.out htn HST.out))
          clear OW
          refine (takeWon (Loc.bo.sep (LR.out.sep lB)) t (by omega) Oa.out HSL.out HSW.out).mono ?_
          rintro e w6 ⟨s', a, b', c, rfl, ha, hb, o6⟩
          have HSW' := hide ha
          have HSL' := hide hb
          clear ha hb HSW HSL Oa
          have lAll : Loc (Sep (BO m (takeO 2 (n : Int) true (t : Int))) (Sep (AX q 2 (n : Int) p r s' 2 [] 1 rl) (Sep (BO g (.cells (rowN n (optP (upd S t (some m)))) 69 (0, 0))) (Sep (Many (upd (takesR n (upd S t (some m))) t Nought) n) (Sep (BO bl LO) Nought))))) := Loc.bo.sep (Loc.ax.sep (Loc.bo.sep (LR.out.sep lB)))
          have O7 := hide (o6.below lAll (grown1 w6 (.cells #[.int .i64 3, .int .i64 a, .int .u64 b', .int .u64 c] 50)))
          have d7 := heap_alloc_at w6 (.cells #[.int .i64 3, .int .i64 a, .int .u64 b', .int .u64 c] 50)
          have g7 : (w6.alloc (.cells #[.int .i64 3, .int .i64 a, .int .u64 b', .int .u64 c] 50)).cell? ⟨g, t, none⟩ = some (.pointer (some ⟨m, 0, none⟩)) := (cell_of_heap (O7.out.has (m := g) (R := Sep (BO m (takeO 2 (n : Int) true (t : Int))) (Sep (AX q 2 (n : Int) p r s' 2 [] 1 rl) (Sep (Many (upd (takesR n (upd S t (some m))) t Nought) n) (Sep (BO bl LO) Nought)))) (by ac_rfl))).trans ((rowN_get _ htn).trans (congrArg some (optP_some HST.out)))
          clear o6
          go_wp2_with fail
          generalize w6.alloc (.cells #[.int .i64 3, .int .i64 a, .int .u64 b', .int .u64 c] 50) = w7 at *
          generalize w6.heap.size = bd at *
          have dd0 : w7.cell? ⟨bd, 0, none⟩ = some (.int .i64 3) := cell_of_heap d7
          clear d7
          refine (takeDone _ m 2 (n : Int) (t : Int) true (Own.boAt O7.out)).mono ?_
          rintro e w8 ⟨rfl, rfl⟩
          go_wp2_with fail
          refine (takeDone _ m 2 (n : Int) (t : Int) true (Own.boAt O7.out)).mono ?_
          rintro e w9 ⟨rfl, rfl⟩
          have o8 := O7.out.drop.cast (R' := Sep (BO g (.cells (rowN n (optP (upd S t (some m)))) 69 (0, 0))) (Sep (AX q 2 (n : Int) p r s' 2 [] 1 rl) (Sep (Many (upd (takesR n (upd S t (some m))) t Nought) n) (Sep (BO bl LO) Nought)))) (by ac_rfl)
          have f8 : ∀ o, w9.frozen? ⟨g, o, none⟩ = false := fun o => frozen_of_heap (Own.boAt o8)
          have o9 := Own.boSet (Loc.ax.sep (LR.out.sep lB)) o8 t (.pointer none)
          rw [rowN_set] at o9
          have O9 := hide (o9.cast AloneR.off)
          clear o8 o9 O7 lAll dd0
          go_wp2_with fail
          clear f8 g7
          generalize w9.setCell ⟨g, t, none⟩ (.pointer none) = w10 at *
          have Oc := hide (O9.out.cast (R' := Sep (AX q 2 (n : Int) p r s' 2 [] 1 rl) (Sep (BO g (.cells (rowN n (optP (upd (upd S t (some m)) t none))) 69 (0, 0))) (Sep (Many (takesR n (upd (upd S t (some m)) t none)) n) (Sep (BO bl LO) Nought)))) (by unfold AloneR; ac_rfl))
          clear O9
          refine (heldV (Loc.bo.sep ((Loc.many Loc.takes n).sep lB)) Oc.out HSL'.out (t + 1) HSW'.out (by omega) (by omega) (t : Int) (by omega)).mono ?_
          rintro e w11 ⟨rfl, o11⟩
          have O11 : Hid (Own (AloneR g q p r n s' rl (upd (upd S t (some m)) t none) (Sep (BO bl LO) Nought)) w w11) := hide (o11.cast (by unfold AloneR; ac_rfl))
          clear o11 Oc
          go_wp2
          go_roundw
          case rel => exact ⟨i + 1, t + 1, _, _, by go_num, by omega, .inr ⟨t, rfl, rfl, htn⟩, ⟨HSW'.out, HSL'.out, O11.out⟩⟩
          case measure => simp [intOf]; omega
        | some m =>
          have gt : wr.cell? ⟨g, t, none⟩ = some (.pointer (some ⟨m, 0, none⟩)) := (cell_of_heap (OW.out.has (m := g) (R := Sep (AX q 2 (n : Int) p r s 2 [] 1 rl) (Sep (Many (takesR n S) n) (Sep (BO bl LO) Nought))) rfl)).trans ((rowN_get _ htn).trans (congrArg some (optP_some hst)))
          have HST := hide hst
          clear hst
          clear l0 l1
          go_wp2_with fail
          have LR : Hid (Loc (Many (upd (takesR n S) t Nought) n)) := hide (Loc.rest Loc.takes t n)
          have Oa := hide (OW.out.cast (AloneR.out htn HST.out))
          clear OW
          refine (takeWon (Loc.bo.sep (LR.out.sep lB)) t (by omega) Oa.out HSL.out HSW.out).mono ?_
          rintro e w6 ⟨s', a, b', c, rfl, ha, hb, o6⟩
          have HSW' := hide ha
          have HSL' := hide hb
          clear ha hb HSW HSL Oa
          have lAll : Loc (Sep (BO m (takeO 2 (n : Int) true (t : Int))) (Sep (AX q 2 (n : Int) p r s' 2 [] 1 rl) (Sep (BO g (.cells (rowN n (optP S)) 69 (0, 0))) (Sep (Many (upd (takesR n S) t Nought) n) (Sep (BO bl LO) Nought))))) := Loc.bo.sep (Loc.ax.sep (Loc.bo.sep (LR.out.sep lB)))
          have O7 := hide (o6.below lAll (grown1 w6 (.cells #[.int .i64 3, .int .i64 a, .int .u64 b', .int .u64 c] 50)))
          have d7 := heap_alloc_at w6 (.cells #[.int .i64 3, .int .i64 a, .int .u64 b', .int .u64 c] 50)
          have g7 : (w6.alloc (.cells #[.int .i64 3, .int .i64 a, .int .u64 b', .int .u64 c] 50)).cell? ⟨g, t, none⟩ = some (.pointer (some ⟨m, 0, none⟩)) := (cell_of_heap (O7.out.has (m := g) (R := Sep (BO m (takeO 2 (n : Int) true (t : Int))) (Sep (AX q 2 (n : Int) p r s' 2 [] 1 rl) (Sep (Many (upd (takesR n S) t Nought) n) (Sep (BO bl LO) Nought)))) (by ac_rfl))).trans ((rowN_get _ htn).trans (congrArg some (optP_some HST.out)))
          clear o6
          go_wp2_with fail
          generalize w6.alloc (.cells #[.int .i64 3, .int .i64 a, .int .u64 b', .int .u64 c] 50) = w7 at *
          generalize w6.heap.size = bd at *
          have dd0 : w7.cell? ⟨bd, 0, none⟩ = some (.int .i64 3) := cell_of_heap d7
          clear d7
          refine (takeDone _ m 2 (n : Int) (t : Int) true (Own.boAt O7.out)).mono ?_
          rintro e w8 ⟨rfl, rfl⟩
          go_wp2_with fail
          refine (takeDone _ m 2 (n : Int) (t : Int) true (Own.boAt O7.out)).mono ?_
          rintro e w9 ⟨rfl, rfl⟩
          have o8 := O7.out.drop.cast (R' := Sep (BO g (.cells (rowN n (optP S)) 69 (0, 0))) (Sep (AX q 2 (n : Int) p r s' 2 [] 1 rl) (Sep (Many (upd (takesR n S) t Nought) n) (Sep (BO bl LO) Nought)))) (by ac_rfl)
          have f8 : ∀ o, w9.frozen? ⟨g, o, none⟩ = false := fun o => frozen_of_heap (Own.boAt o8)
          have o9 := Own.boSet (Loc.ax.sep (LR.out.sep lB)) o8 t (.pointer none)
          rw [rowN_set] at o9
          have O9 := hide (o9.cast AloneR.off)
          clear o8 o9 O7 lAll dd0
          go_wp2_with fail
          clear f8 g7
          generalize w9.setCell ⟨g, t, none⟩ (.pointer none) = w10 at *
          have Oc := hide (O9.out.cast (R' := Sep (AX q 2 (n : Int) p r s' 2 [] 1 rl) (Sep (BO g (.cells (rowN n (optP (upd S t none))) 69 (0, 0))) (Sep (Many (takesR n (upd S t none)) n) (Sep (BO bl LO) Nought)))) (by unfold AloneR; ac_rfl))
          clear O9
          refine (heldV (Loc.bo.sep ((Loc.many Loc.takes n).sep lB)) Oc.out HSL'.out (t + 1) HSW'.out (by omega) (by omega) (t : Int) (by omega)).mono ?_
          rintro e w11 ⟨rfl, o11⟩
          have O11 : Hid (Own (AloneR g q p r n s' rl (upd S t none) (Sep (BO bl LO) Nought)) w w11) := hide (o11.cast (by unfold AloneR; ac_rfl))
          clear o11 Oc
          go_wp2
          go_roundw
          case rel => exact ⟨i + 1, t + 1, _, _, by go_num, by omega, .inr ⟨t, rfl, rfl, htn⟩, ⟨HSW'.out, HSL'.out, O11.out⟩⟩
          case measure => simp [intOf]; omega
      · by_cases hjt : j = t
        · subst hjt
          have HSW := hide hsw
          clear hsw
          go_wp2_with fail
          refine (NL.out _).mono ?_
          rintro e w4 ⟨m, rfl, h1, h2, h3⟩
          have O4 := hide ((Own.boNew (Loc.alone lB) OW.out h1 h2 h3).cast (R' := Sep (BO m (leaveO 2 (n : Int) false)) (Sep (AX q 2 (n : Int) p r s 2 [] 1 rl) (Sep (BO g (.cells (rowN n (optP S)) 69 (0, 0))) (Sep (Many (takesR n S) n) (Sep (BO bl LO) Nought))))) (by unfold AloneR; ac_rfl))
          clear h1 h2 h3 OW l0 l1
          have lR : Loc (Sep (BO g (.cells (rowN n (optP S)) 69 (0, 0))) (Sep (Many (takesR n S) n) (Sep (BO bl LO) Nought))) := Loc.bo.sep ((Loc.many Loc.takes n).sep lB)
          go_wp2_with fail
          refine (leaveDid lR O4.out HSL.out).mono ?_
          rintro e w5 ⟨s', a, b', c, rfl, ha, hb, o5⟩
          have HSW' := hide ha
          have HSL' := hide hb
          have O5 := hide o5
          clear ha hb o5 O4 HSW HSL
          go_wp2_with fail
          refine (leaveDone _ m 2 (n : Int) true (Own.boAt O5.out)).mono ?_
          rintro e w6 ⟨rfl, rfl⟩
          go_wp2_with fail
          refine (heldV (Loc.bo.sep lR) (O5.out.cast BO.swap) HSL'.out 0 HSW'.out (by omega) (by omega) (-1) (by omega)).mono ?_
          rintro e w7 ⟨rfl, o7⟩
          have O7 : Hid (Own (AloneR g q p r n s' rl S (Sep (BO bl LO) Nought)) w w7) := hide (((o7.cast BO.swap.symm).drop).cast (by unfold AloneR; ac_rfl))
          clear o7 O5 lR
          go_wp2
          go_roundw
          case rel => exact ⟨i + 1, 0, _, _, by go_num, by omega, .inl ⟨rfl, rfl⟩, ⟨HSW'.out, HSL'.out, O7.out⟩⟩
          case measure => simp [intOf]; omega
        · have dw : ((j : Int) == (t : Int)) = false := by rw [beq_eq_false_iff_ne]; omega
          have dj : ((j : Int) == (-1 : Int)) = false := by rw [beq_eq_false_iff_ne]; omega
          have HSW := hide hsw
          clear hsw hjt
          cases hst : S t with
          | none =>
            have gt : wr.cell? ⟨g, t, none⟩ = some (.pointer none) := (cell_of_heap (OW.out.has (m := g) (R := Sep (AX q 2 (n : Int) p r s 2 [] 1 rl) (Sep (Many (takesR n S) n) (Sep (BO bl LO) Nought))) rfl)).trans ((rowN_get _ htn).trans (congrArg some (optP_none hst)))
            have HSN := hide hst
            clear hst
            go_wp2_with fail
            refine (NT.out t htn _).mono ?_
            rintro e w4 ⟨m, rfl, h1, h2, h3⟩
            have o4 := (Own.boNew (Loc.alone lB) OW.out h1 h2 h3).cast (R' := Sep (BO g (.cells (rowN n (optP S)) 69 (0, 0))) (Sep (BO m (takeO 2 (n : Int) false (t : Int))) (Sep (AX q 2 (n : Int) p r s 2 [] 1 rl) (Sep (Many (takesR n S) n) (Sep (BO bl LO) Nought))))) (by unfold AloneR; ac_rfl)
            have y4 : w4.cell? ⟨g, t, none⟩ = some (.pointer none) := (cell_of_heap (Own.boAt o4)).trans ((rowN_get _ htn).trans (congrArg some (optP_none HSN.out)))
            have f4 : ∀ o, w4.frozen? ⟨g, o, none⟩ = false := fun o => frozen_of_heap (Own.boAt o4)
            have o5 := Own.boSet (Loc.bo.sep (Loc.ax.sep ((Loc.many Loc.takes n).sep lB))) o4 t (.pointer (some ⟨m, 0, none⟩))
            rw [rowN_set] at o5
            have O5 := hide (o5.cast (AloneR.new htn HSN.out))
            have HST : Hid (upd S t (some m) t = some m) := hide (upd_at _ _ _)
            have gt : (w4.setCell ⟨g, t, none⟩ (.pointer (some ⟨m, 0, none⟩))).cell? ⟨g, t, none⟩ = some (.pointer (some ⟨m, 0, none⟩)) := (cell_of_heap (O5.out.has (m := g) (R := Sep (AX q 2 (n : Int) p r s 2 [] 1 rl) (Sep (Many (takesR n (upd S t (some m))) n) (Sep (BO bl LO) Nought))) rfl)).trans ((rowN_get _ htn).trans (congrArg some (optP_some HST.out)))
            clear o4 o5 h1 h2 h3 OW l0 l1
            go_wp2_with fail
            clear y4 f4
            generalize w4.setCell ⟨g, t, none⟩ (.pointer (some ⟨m, 0, none⟩)) = w5 at *
            have OW := O5
            clear O5
            have LR : Hid (Loc (Many (upd (takesR n (upd S t (some m))) t Nought) n)) := hide (Loc.rest Loc.takes t n)
            have Oa := hide (OW.out.cast (AloneR.out htn HST.out))
            clear OW
            refine (takeLost (Loc.bo.sep (LR.out.sep lB)) t (by omega) Oa.out HSL.out j HSW.out).mono ?_
            rintro e w6 ⟨s', a, b', c, rfl, ha, hb, o6⟩
            have HSW' := hide ha
            have HSL' := hide hb
            clear ha hb HSW HSL Oa
            have lAll : Loc (Sep (BO m (takeO 2 (n : Int) false (t : Int))) (Sep (AX q 2 (n : Int) p r s' 2 [] 1 rl) (Sep (BO g (.cells (rowN n (optP (upd S t (some m)))) 69 (0, 0))) (Sep (Many (upd (takesR n (upd S t (some m))) t Nought) n) (Sep (BO bl LO) Nought))))) := Loc.bo.sep (Loc.ax.sep (Loc.bo.sep (LR.out.sep lB)))
            have O7 := hide (o6.below lAll (grown1 w6 (.cells #[.int .i64 4, .int .i64 a, .int .u64 b', .int .u64 c] 50)))
            have d7 := heap_alloc_at w6 (.cells #[.int .i64 4, .int .i64 a, .int .u64 b', .int .u64 c] 50)
            have g7 : (w6.alloc (.cells #[.int .i64 4, .int .i64 a, .int .u64 b', .int .u64 c] 50)).cell? ⟨g, t, none⟩ = some (.pointer (some ⟨m, 0, none⟩)) := (cell_of_heap (O7.out.has (m := g) (R := Sep (BO m (takeO 2 (n : Int) false (t : Int))) (Sep (AX q 2 (n : Int) p r s' 2 [] 1 rl) (Sep (Many (upd (takesR n (upd S t (some m))) t Nought) n) (Sep (BO bl LO) Nought)))) (by ac_rfl))).trans ((rowN_get _ htn).trans (congrArg some (optP_some HST.out)))
            clear o6
            go_wp2_with fail
            generalize w6.alloc (.cells #[.int .i64 4, .int .i64 a, .int .u64 b', .int .u64 c] 50) = w7 at *
            generalize w6.heap.size = bd at *
            have dd0 : w7.cell? ⟨bd, 0, none⟩ = some (.int .i64 4) := cell_of_heap d7
            clear d7
            refine (takeDone _ m 2 (n : Int) (t : Int) false (Own.boAt O7.out)).mono ?_
            rintro e w8 ⟨rfl, rfl⟩
            go_wp2_with fail
            refine (takeDone _ m 2 (n : Int) (t : Int) false (Own.boAt O7.out)).mono ?_
            rintro e w9 ⟨rfl, rfl⟩
            have O9 : Hid (Own (AloneR g q p r n s' rl (upd S t (some m)) (Sep (BO bl LO) Nought)) w w9) := hide (O7.out.cast (AloneR.out htn HST.out).symm)
            clear O7 lAll dd0 g7
            go_wp2_with fail
            have Oc := hide (O9.out.cast (R' := Sep (AX q 2 (n : Int) p r s' 2 [] 1 rl) (Sep (BO g (.cells (rowN n (optP (upd S t (some m)))) 69 (0, 0))) (Sep (Many (takesR n (upd S t (some m))) n) (Sep (BO bl LO) Nought)))) (by unfold AloneR; ac_rfl))
            clear O9
            refine (heldV (Loc.bo.sep ((Loc.many Loc.takes n).sep lB)) Oc.out HSL'.out (j + 1) HSW'.out (by omega) (by omega) (j : Int) (by omega)).mono ?_
            rintro e w11 ⟨rfl, o11⟩
            have O11 : Hid (Own (AloneR g q p r n s' rl (upd S t (some m)) (Sep (BO bl LO) Nought)) w w11) := hide (o11.cast (by unfold AloneR; ac_rfl))
            clear o11 Oc
            go_wp2
            go_roundw
            case rel => exact ⟨i + 1, j + 1, _, _, by go_num, by omega, .inr ⟨j, rfl, rfl, hj⟩, ⟨HSW'.out, HSL'.out, O11.out⟩⟩
            case measure => simp [intOf]; omega
          | some m =>
            have gt : wr.cell? ⟨g, t, none⟩ = some (.pointer (some ⟨m, 0, none⟩)) := (cell_of_heap (OW.out.has (m := g) (R := Sep (AX q 2 (n : Int) p r s 2 [] 1 rl) (Sep (Many (takesR n S) n) (Sep (BO bl LO) Nought))) rfl)).trans ((rowN_get _ htn).trans (congrArg some (optP_some hst)))
            have HST := hide hst
            clear hst
            clear l0 l1
            go_wp2_with fail
            have LR : Hid (Loc (Many (upd (takesR n S) t Nought) n)) := hide (Loc.rest Loc.takes t n)
            have Oa := hide (OW.out.cast (AloneR.out htn HST.out))
            clear OW
            refine (takeLost (Loc.bo.sep (LR.out.sep lB)) t (by omega) Oa.out HSL.out j HSW.out).mono ?_
            rintro e w6 ⟨s', a, b', c, rfl, ha, hb, o6⟩
            have HSW' := hide ha
            have HSL' := hide hb
            clear ha hb HSW HSL Oa
            have lAll : Loc (Sep (BO m (takeO 2 (n : Int) false (t : Int))) (Sep (AX q 2 (n : Int) p r s' 2 [] 1 rl) (Sep (BO g (.cells (rowN n (optP S)) 69 (0, 0))) (Sep (Many (upd (takesR n S) t Nought) n) (Sep (BO bl LO) Nought))))) := Loc.bo.sep (Loc.ax.sep (Loc.bo.sep (LR.out.sep lB)))
            have O7 := hide (o6.below lAll (grown1 w6 (.cells #[.int .i64 4, .int .i64 a, .int .u64 b', .int .u64 c] 50)))
            have d7 := heap_alloc_at w6 (.cells #[.int .i64 4, .int .i64 a, .int .u64 b', .int .u64 c] 50)
            have g7 : (w6.alloc (.cells #[.int .i64 4, .int .i64 a, .int .u64 b', .int .u64 c] 50)).cell? ⟨g, t, none⟩ = some (.pointer (some ⟨m, 0, none⟩)) := (cell_of_heap (O7.out.has (m := g) (R := Sep (BO m (takeO 2 (n : Int) false (t : Int))) (Sep (AX q 2 (n : Int) p r s' 2 [] 1 rl) (Sep (Many (upd (takesR n S) t Nought) n) (Sep (BO bl LO) Nought)))) (by ac_rfl))).trans ((rowN_get _ htn).trans (congrArg some (optP_some HST.out)))
            clear o6
            go_wp2_with fail
            generalize w6.alloc (.cells #[.int .i64 4, .int .i64 a, .int .u64 b', .int .u64 c] 50) = w7 at *
            generalize w6.heap.size = bd at *
            have dd0 : w7.cell? ⟨bd, 0, none⟩ = some (.int .i64 4) := cell_of_heap d7
            clear d7
            refine (takeDone _ m 2 (n : Int) (t : Int) false (Own.boAt O7.out)).mono ?_
            rintro e w8 ⟨rfl, rfl⟩
            go_wp2_with fail
            refine (takeDone _ m 2 (n : Int) (t : Int) false (Own.boAt O7.out)).mono ?_
            rintro e w9 ⟨rfl, rfl⟩
            have O9 : Hid (Own (AloneR g q p r n s' rl S (Sep (BO bl LO) Nought)) w w9) := hide (O7.out.cast (AloneR.out htn HST.out).symm)
            clear O7 lAll dd0 g7
            go_wp2_with fail
            have Oc := hide (O9.out.cast (R' := Sep (AX q 2 (n : Int) p r s' 2 [] 1 rl) (Sep (BO g (.cells (rowN n (optP S)) 69 (0, 0))) (Sep (Many (takesR n S) n) (Sep (BO bl LO) Nought)))) (by unfold AloneR; ac_rfl))
            clear O9
            refine (heldV (Loc.bo.sep ((Loc.many Loc.takes n).sep lB)) Oc.out HSL'.out (j + 1) HSW'.out (by omega) (by omega) (j : Int) (by omega)).mono ?_
            rintro e w11 ⟨rfl, o11⟩
            have O11 : Hid (Own (AloneR g q p r n s' rl S (Sep (BO bl LO) Nought)) w w11) := hide (o11.cast (by unfold AloneR; ac_rfl))
            clear o11 Oc
            go_wp2
            go_roundw
            case rel => exact ⟨i + 1, j + 1, _, _, by go_num, by omega, .inr ⟨j, rfl, rfl, hj⟩, ⟨HSW'.out, HSL'.out, O11.out⟩⟩
            case measure => simp [intOf]; omega
    · clear hW hsw
      have hB := OW.out.back
      have HB := hide hB
      clear hB OW HSL
      by_cases hl1 : i < len
      · have hl2 : ¬ i < 300 := fun q => hlt ⟨hl1, q⟩
        clear hlt
        go_wp2_with fail
        refine (AW.out _).mono ?_
        rintro e w4 ⟨rfl, b4⟩
        have HB4 := hide (HB.out.trans (b4.mono HB.out.size))
        go_wp2
        go_ret
        exact ⟨rfl, HB4.out⟩
      · clear hlt
        go_wp2_with fail
        refine (AW.out _).mono ?_
        rintro e w4 ⟨rfl, b4⟩
        have HB4 := hide (HB.out.trans (b4.mono HB.out.size))
        go_wp2
        go_ret
        exact ⟨rfl, HB4.out⟩
theorem walk (x : Nat) (hx : x < 256) (ao : Option Addr) (len cap : Nat) (hlc : len ≤ cap) (hcm : cap ≤ maxLen) (w : World) (hB : BytesIn w ao len) :
    Calls Try.prog 4 #[.int .u8 (x : Int), .slice ao len cap] w fun e w' => e = .returned (.bool true) ∧ Below w.heap.size w w' :=
  main x _ hx rfl ao len cap hlc (by unfold maxLen at hcm; exact hcm) w hB

set_option maxRecDepth 100000 in
theorem lifted (os : Os) (started : os.Started) (H : Type) (enc : TypeId × Value → H) :
    ReturnsInHanded {} Try.checked os 4 .any (Rows.lockAloneSpec.pre6 enc Try.prog Try.f4 Rows.lockAloneRow.domain false) (Rows.lockAloneSpec.post enc Try.prog Try.f4 false true false false) := by
  refine returnsInHanded_of_change (C := Try.checked) own started (by kernel_rfl) Try.func4
    (ChangeSpec.witness6 (enc := enc) (C := Try.checked) false ⟨#[], #[.int .u8 0, .slice none 0 0], []⟩ 8 (by kernel_rfl) (by kernel_rfl) (by kernel_rfl) (by kernel_rfl)) ?_
  intro W base args ds gs before hval0 hW _ _
  have hval : ∀ (j : Nat) t v, Try.f4.params[j]? = some t → args[j]? = some v → Value.okWide Try.prog W .any base t v := hval0
  have hW' := hW
  obtain ⟨p, q, hA0, hV, rfl, hfz, hnd⟩ := hW
  have hA : DataW.TrodAll enc Try.prog W 0 (fun _ => true) true Try.f4.params.toList args.toList ds p := hA0
  rw [Try.params4] at hA hval
  obtain ⟨v0, vs0, d0, ds0, p0, q0, hargs, rfl, rfl, h0, r0⟩ := trodAll_cons hA
  obtain ⟨v1, vs1, d1, ds1, p1, q1, rfl, rfl, rfl, h1, r1⟩ := trodAll_cons r0
  obtain ⟨rfl, rfl, rfl⟩ := trodAll_nil r1
  obtain rfl : args = #[v0, v1] := by cases args; simp_all
  obtain ⟨rfl, rfl⟩ := trodVars_none hV
  obtain ⟨a0, rfl, rfl, rfl, w0⟩ := open_int Try.underlying5 (hval 0 5 v0 rfl rfl) h0
  have h1k := h1
  have lt1 : ∀ x ∈ p1, x.block < W.heap.size := fun x hx => hW'.lt x (by simp [hx])
  obtain ⟨l1_0, l1_1, l1_2, rfl, f1_0, f1_1, f1_2⟩ := open_bytes (hval 1 22 v1 rfl rfl) h1
  clear hA0 hval0
  obtain ⟨x0, hx0, rfl⟩ := u8_nat w0
  refine (walk x0 hx0 l1_0 l1_1 l1_2 f1_0 f1_1 W f1_2).mono fun e W' ⟨he, bel⟩ => ?_
  subst he
  exact ⟨_, rfl, _, _, _, [], _, [], hW', trodAll_mk1 (shut_bool Try.underlying4 _), (trodAll_cons_mk (shut_int Try.underlying5 w0) (trodAll_cons_mk (Below.trod laidOut (by kernel_rfl) (of_decide_eq_true (by kernel_rfl)) h1k bel lt1) trodAll_mk0)), rfl, bel.frame _, fun h => by cases h⟩

end Go.Proofs.Ytgenkjmcddjaoaa.lockAlone
namespace Go.Proofs.Ytgenkjmcddjaoaa

theorem lockAlone_holds : Rows.LockAloneSaid :=
  OpenClaim.holds_of_wide 4 Try.f4 rfl rfl rfl rfl rfl rfl rfl ⟨rfl, rfl, rfl, rfl, rfl⟩ rfl rfl rfl rfl rfl (by kernel_rfl) Try.func4 (by kernel_rfl)
    (of_decide_eq_true (by kernel_rfl)) (by unfold Func.isWrapper; first | (rw [if_pos (by decide +kernel)]; kernel_rfl) | (rw [if_neg (by decide +kernel)]; exact ⟨rfl, rfl⟩))
    (fun os started H enc _ => lockAlone.lifted os started H enc)
end Go.Proofs.Ytgenkjmcddjaoaa
