/- Of two that sweep pages, whoever steps next, while words are turned between: each step, whether it is done, what was freed, all words, are the document's: the law SweepRuns answers true at every input, and its arguments read behind the call as they read before. -/
import Derived.Test.YtafamfjgehnddaaGreatPE
namespace Go.Proofs.YtafamfjgehnddaaGreat.sweepRuns
open Go.ChangeShapes Go.WideShapes Go.ChangeAt Go.RowKit

theorem bytesKept {w w' : World} {ao : Option Addr} {len : Nat} (h : BytesIn w ao len) (b : Below w.heap.size w w') : BytesIn w' ao len := fun k hk => by
  obtain ⟨c, o, x, e, hc⟩ := h k hk
  exact ⟨c, o, x, e, hc.kept b hc.lt⟩
theorem wordsKept {w w' : World} {ao : Option Addr} {len : Nat} (h : WordsAll w ao len) (b : Below w.heap.size w w') : WordsAll w' ao len := fun k hk => by
  obtain ⟨c, o, x, e, hc⟩ := h k hk
  exact ⟨c, o, x, e, hc.kept b hc.lt⟩

set_option maxRecDepth 100000 in
set_option maxHeartbeats 64000000 in
theorem main (ao : Option Addr) (len cap : Nat) (ao2 : Option Addr) (len2 cap2 : Nat) (hl2 : len2 < 9223372036854775808) (w : World) (hB : BytesIn w ao len) (hB2 : WordsAll w ao2 len2) :
    Calls Tryz.prog 4 #[.slice ao len cap, .slice ao2 len2 cap2] w fun e w' => e = .returned (.bool true) ∧ Below w.heap.size w w' := by
  have hm : Lay.may (4 : Int) 1 = true := by decide
  have PA := fun (R : Res) (w0 u : World) (l : Loc R) (h : Own R w0 u) => plArenas l h 4 1 (by decide)
  have hl0 : (St.first (Lay.words ((4 : Nat) : Int) 1).toNat).words.length = (Lay.words 4 1).toNat := St.first_len _
  obtain ⟨wl, hwl, wl1, wl2⟩ := Lay.words_nat hm
  have hF : Fine 4 [] 1 [(kOf 0 4, ([] : List Nat).getD 0 0, ())] := (Fit.new (d := ([] : List Nat).getD 0 0) (by omega) (by omega) (by simp)).fine (by omega)
  generalize St.first (Lay.words ((4 : Nat) : Int) 1).toNat = s0 at *
  rw [show ((4 : Nat) : Int) = 4 from rfl] at PA
  generalize ([(kOf 0 (4 : Nat), ([] : List Nat).getD 0 0, ())] : RL) = rl at *
  have HPA := hide PA
  have HF := hide hF
  have HM := hide hm
  have HWL := hide (show s0.words.length = (Lay.words 4 1).toNat ∧ (Lay.words 4 1).toNat ≤ 65536 from ⟨hl0, by rw [hwl]; simpa using wl2⟩)
  have HKB := hide hB
  have HVB := hide hB2
  have HAW := hide (fun (u : World) => awakeSw u)
  have HNS := hide (fun (k : Nat) (hk : k < 4) (u : World) => newSwpYes 4 1 (k : Int) (maySwp_iff.2 ⟨hm, by omega, by omega⟩) u)
  clear PA hF hm hl0 hwl wl1 wl2 wl hB hB2
  go_enter Tryz.func4, Tryz.ntmps4
  obtain ⟨SO, hSO⟩ : ∃ SO : Obj, SO = .cells #[.int .i64 4, .int .i64 1, .slice none 0 0] 49 (0, 0) := ⟨_, rfl⟩
  have HSO := hide hSO
  have O1 : Hid (Own (Sep (BO w.heap.size SO) Nought) w (w.alloc (.cells #[.int .i64 4, .int .i64 1, .slice none 0 0] 49))) := hide (Own.boNew Loc.nought (Own.start w) (by rw [hSO]; exact heap_alloc_at _ _) (Nat.le_refl _) (grown1 _ _))
  clear hSO
  go_wp2_with fail
  generalize w.alloc (.cells #[.int .i64 4, .int .i64 1, .slice none 0 0] 49) = w2 at *
  generalize w.heap.size = bs at *
  have lB : Loc (Sep (BO bs SO) Nought) := Loc.bo.sep Loc.nought
  refine (HPA.out _ _ _ lB O1.out).mono ?_
  rintro e w3 ⟨q, p, r, a, p', r', rfl, o3⟩
  have O3 := hide o3
  clear o3 O1 HPA
  have lA : Loc (ArenaS q p r a p' r' s0 s0 rl (Sep (BO bs SO) Nought)) := Loc.arenaS lB
  have h8 := heap_alloc_at w3 (.cells #[.pointer none, .pointer none] 53)
  have o4 := Own.boNew lA O3.out h8 (Nat.le_refl _) (grown1 w3 (.cells #[.pointer none, .pointer none] 53))
  have h9 := heap_alloc_at (w3.alloc (.cells #[.pointer none, .pointer none] 53)) (.cells #[.pointer none, .pointer none] 55)
  have o5 := Own.boNew (Loc.bo.sep lA) o4 h9 (Nat.le_refl _) (grown1 _ (.cells #[.pointer none, .pointer none] 55))
  have hz : (w3.alloc (.cells #[.pointer none, .pointer none] 53)).heap.size = w3.heap.size + 1 := by simp
  rw [hz] at o5
  have O5 : Hid (Own (GameS w3.heap.size (w3.heap.size + 1) q p r a p' r' s0 rl (fun _ => .pointer none) (fun _ => .off) (Sep (BO bs SO) Nought)) w ((w3.alloc (.cells #[.pointer none, .pointer none] 53)).alloc (.cells #[.pointer none, .pointer none] 55))) := hide (o5.cast (by rw [GameS.start]; ac_rfl))
  clear o4 o5 h8 h9 hz
  go_upto_region 7 with fail
  generalize (w3.alloc (.cells #[.pointer none, .pointer none] 53)).alloc (.cells #[.pointer none, .pointer none] 55) = w4 at *
  generalize w3.heap.size = g8 at *
  obtain ⟨g9, hg9⟩ : ∃ g9, g8 + 1 = g9 := ⟨_, rfl⟩
  rw [hg9] at O5
  rw [hg9]
  clear hg9 O3 lA
  go_wp2
  go_loopw [10] (fun v wr => ∃ (i : Nat) (s : St) (ov : Nat → Value) (S : Nat → SL), v = .int .i64 (i : Int) ∧ i ≤ len ∧ Hid (s.words.length = (Lay.words 4 1).toNat ∧ FitS ov S ∧ Own (GameS g8 g9 q p r a p' r' s rl ov S (Sep (BO bs SO) Nought)) w wr)) (fun v _ => len - (intOf v).toNat)
  case atStart => exact ⟨0, s0, fun _ => .pointer none, fun _ => .off, rfl, by omega, ⟨HWL.out.1, fun j hj => ⟨none, rfl⟩, O5.out⟩⟩
  case round =>
    obtain ⟨i, s, ov, S, rfl, hil, hH⟩ := hrel
    obtain ⟨hwd, hfit, ho⟩ := hH.out
    have HWD := hide hwd
    have HFIT := hide hfit
    have O := hide ho
    clear hH hwd hfit ho O5
    by_cases hlt : i < len ∧ i < 200
    · obtain ⟨hl1, hl2'⟩ := hlt
      have HKW := hide (bytesKept HKB.out O.out.back)
      obtain ⟨kb, ko, y, rfl, hkc⟩ := HKW.out i hl1
      have hy := hkc.hx
      have HKC := hide hkc
      have hkcell := hkc.cell
      clear hkc
      obtain ⟨k4, hk4⟩ : ∃ k : Nat, y % 4 = k := ⟨_, rfl⟩
      obtain ⟨t, ht⟩ : ∃ t : Nat, y / 4 % 2 = t := ⟨_, rfl⟩
      have hk4' : k4 < 4 := by omega
      have htn : t < 2 := by omega
      have e1 : (y : Int) % 4 = (k4 : Int) := by omega
      have e2 : (y : Int) / 4 % 2 = (t : Int) := by omega
      clear hk4 ht
      go_upto_region 10 with fail
      go_quiet (fail)
      have O1 := hide (O.out.below (Loc.gameS lB) ((Alike.drewN wr nq).below _))
      have hkc1 : (wr.drewN nq).cell? ⟨kb, ko + i, none⟩ = some (.int .u8 (y : Int)) := hkcell
      clear O hkcell HKC HKW
      generalize wr.drewN nq = w1 at *
      go_upto_region 11 with fail
      have d200 : decide ((i : Int) < 200) = true := by simp; omega
      simp only [e1, e2, d200]
      clear e1 e2 d200
      by_cases hput : 180 < y ∧ 0 < len2
      · obtain ⟨h180, hlen⟩ := hput
        have hiv : i % len2 < len2 := Nat.mod_lt _ hlen
        obtain ⟨vb, vo, x, rfl, hvc⟩ := HVB.out (i % len2) hiv
        have hxb := hvc.hx
        have eiv : (i : Int) % (len2 : Int) = ((i % len2 : Nat) : Int) := by omega
        obtain ⟨iv, hivd⟩ : ∃ iv, i % len2 = iv := ⟨_, rfl⟩
        rw [hivd] at hiv hvc eiv
        clear hivd
        obtain ⟨kx, hkx⟩ : ∃ kx : Nat, y / 8 % 2 = kx := ⟨_, rfl⟩
        have e3 : (y : Int) / 8 % 2 = (kx : Int) := by omega
        have hwd : ∃ j : Nat, j < (Lay.words 4 1).toNat ∧ ∀ u : World, Calls Tryz.prog 16 #[.agg #[.int .i64 4, .int .i64 1], .int .i64 (12 + (kx : Int)), .int .i64 (k4 : Int)] u fun e u' => e = .returned (.int .i64 (j : Int)) ∧ Below u.heap.size u u' := by
          rcases (show kx = 0 ∨ kx = 1 by omega) with h0 | h0
          · refine ⟨swA 1 k4, swA_lt HM.out k4 (by omega), fun u => ?_⟩
            have := plWordC 4 1 12 (k4 : Int) u
            rw [page_swA HM.out k4 (by omega)] at this
            rw [h0]; exact this
          · refine ⟨swM 1 k4, swM_lt HM.out k4 (by omega), fun u => ?_⟩
            have := plWordC 4 1 13 (k4 : Int) u
            rw [page_swM HM.out k4 (by omega)] at this
            rw [h0]; exact this
        obtain ⟨j, hj, hcall⟩ := hwd
        have HCW := hide hcall
        have HJL := hide (show j < s.words.length by rw [HWD.out]; exact hj)
        obtain ⟨s', hs'⟩ : ∃ s', s.put j x = s' := ⟨_, rfl⟩
        have HS' := hide hs'
        have HW' : Hid (s'.words.length = (Lay.words 4 1).toNat) := hide (by rw [← hs', sw_put_len]; exact HWD.out)
        have HV0 := hide hvc
        clear hj hcall hs' hvc hkx
        have HJ : Hid (∀ (s1 s2 : St) (u : World), Own (Sep (AX q 4 1 p r s1 4 [] 1 rl) (Sep (MX a 4 1 p' r' s2 4 [] 1 rl) (Sep (BO g8 (.cells (rowN 2 ov) 53 (0, 0))) (Sep (BO g9 (.cells (rowN 2 (refs7 S)) 55 (0, 0))) (Sep (Many (mach7 S) 2) (Sep (BO bs SO) Nought)))))) w u → BkAt a (MObj p' r' 4 1) u ∧ Cel vb (vo + iv) (.int .u64 (x : Int)) u) := hide (fun s1 s2 u h => ⟨h.mhead (R := Sep (AX q 4 1 p r s1 4 [] 1 rl) (Sep (S2 p' s2) (Sep (RX r' 4 [] 1 rl) (Sep (BO g8 (.cells (rowN 2 ov) 53 (0, 0))) (Sep (BO g9 (.cells (rowN 2 (refs7 S)) 55 (0, 0))) (Sep (Many (mach7 S) 2) (Sep (BO bs SO) Nought))))))) (by unfold MX; ac_rfl), (h.back.cell HV0.out.lt).trans HV0.out.cell⟩)
        go_upto_region 13 with fail
        have lX : Loc (Sep (BO g8 (.cells (rowN 2 ov) 53 (0, 0))) (Sep (BO g9 (.cells (rowN 2 (refs7 S)) 55 (0, 0))) (Sep (Many (mach7 S) 2) (Sep (BO bs SO) Nought)))) := Loc.bo.sep (Loc.bo.sep ((Loc.many Loc.mach7 2).sep lB))
        have O2 : Hid (Own (Sep (AX q 4 1 p r s 4 [] 1 rl) (Sep (MX a 4 1 p' r' s 4 [] 1 rl) (Sep (BO g8 (.cells (rowN 2 ov) 53 (0, 0))) (Sep (BO g9 (.cells (rowN 2 (refs7 S)) 55 (0, 0))) (Sep (Many (mach7 S) 2) (Sep (BO bs SO) Nought)))))) w w1.drew) := hide ((O1.out.below (Loc.gameS lB) ((Alike.drewN w1 1).below _)).cast (by unfold GameS ArenaS; ac_rfl))
        have J2 : Hid (BkAt a (MObj p' r' 4 1) w1.drew ∧ Cel vb (vo + iv) (.int .u64 (x : Int)) w1.drew) := hide (HJ.out _ _ _ O2.out)
        have hne : Nonempty (Mem (fun u => BkAt a (MObj p' r' 4 1) u ∧ Cel vb (vo + iv) (.int .u64 (x : Int)) u)) := ⟨⟨_, J2.out⟩⟩
        have UA2 : ∀ u : Mem (fun u => BkAt a (MObj p' r' 4 1) u ∧ Cel vb (vo + iv) (.int .u64 (x : Int)) u), u.w'.cell? ⟨a, 2, none⟩ = some (.int .i64 4) := fun u => cell_of_heap u.h.1
        have UA3 : ∀ u : Mem (fun u => BkAt a (MObj p' r' 4 1) u ∧ Cel vb (vo + iv) (.int .u64 (x : Int)) u), u.w'.cell? ⟨a, 3, none⟩ = some (.int .i64 1) := fun u => cell_of_heap u.h.1
        have UV : ∀ u : Mem (fun u => BkAt a (MObj p' r' 4 1) u ∧ Cel vb (vo + iv) (.int .u64 (x : Int)) u), u.w'.cell? ⟨vb, vo + iv, none⟩ = some (.int .u64 (x : Int)) := fun u => u.h.2
        clear O1
        refine region_start (J := fun u => BkAt a (MObj p' r' 4 1) u ∧ Cel vb (vo + iv) (.int .u64 (x : Int)) u) (by kernel_rfl) ?_
        refine stretch (fuel := 3) (by kernel_rfl) (fun _ _ _ _ _ h => h) J2.out [0, 1, 2, 3, 4, 5, 6, 7, 9, 10, 11, 12, 13, 14, 15] (by kernel_rfl) ?_
        simp only [List.filterMap_cons, List.filterMap_nil, List.getElem?_toArray, List.getElem?_cons_zero, List.getElem?_cons_succ]
        show wpQuiet _ _ _ _ [_, _, _, _, _, _, _, _, _, _, _, _, _, _, _] _
        repeat (go_big_quiet_step (fail))
        refine wpQuiet_nil ?_
        refine wpAnyJ_writer (i := 8) rfl (by kernel_rfl) (fun K' hK => ?_)
        go_simp
        refine (HCW.out _).mono ?_
        rintro e w3 ⟨rfl, b3⟩
        have O3 := hide (O2.out.below (Loc.ax.sep (Loc.mx.sep lX)) b3)
        refine hK _ _ (HJ.out _ _ _ O3.out) ?_
        clear hK K' O2 J2 b3
        refine wpAnyJ_writer (i := 16) rfl (by kernel_rfl) (fun K' hK => ?_)
        go_simp
        refine (plPutC lX O3.out j HJL.out (by rw [HWD.out]; exact HWL.out.2) x hxb s' HS'.out).mono ?_
        rintro e w4 ⟨rfl, o4⟩
        have O4 := hide o4
        refine hK _ _ (HJ.out _ _ _ O4.out) ?_
        clear hK K' O3 o4
        refine stretch (fuel := 0) (by kernel_rfl) (fun _ _ _ _ _ h => h) (HJ.out _ _ _ O4.out) [17] (by kernel_rfl) ?_
        simp only [List.filterMap_cons, List.filterMap_nil, List.getElem?_toArray, List.getElem?_cons_zero, List.getElem?_cons_succ]
        show wpQuiet _ _ _ _ [_] _
        repeat (go_big_quiet_step (fail))
        refine wpQuiet_nil ?_
        refine wpAnyJ_done (by kernel_rfl) ?_
        clear UA2 UA3 UV hne HJ
        have O5 := hide (O4.out.cast (R' := GameS g8 g9 q p r a p' r' s' rl ov S (Sep (BO bs SO) Nought)) (by unfold GameS ArenaS; ac_rfl))
        clear O4
        go_wp2
        go_roundw
        case rel => exact ⟨i + 1, s', ov, S, by go_num, by omega, ⟨HW'.out, HFIT.out, O5.out⟩⟩
        case measure => simp [intOf]; omega
      · go_cut [54] from 45 to 152 (fun r54 wc => r54 = .bool false ∧ w1 = wc)
        case first =>
          by_cases h180 : 180 < y
          · have hlen : len2 = 0 := by omega
            subst hlen
            go_wp2
            go_meet
            exact ⟨rfl, rfl⟩
          · go_wp2
            go_meet
            exact ⟨rfl, rfl⟩
        case rest =>
          obtain ⟨hr54, hwc⟩ := hcut
          subst hr54
          subst hwc
          clear hput hkc1
          have RG9 : Hid (∀ (u : World), Own (GameS g8 g9 q p r a p' r' s rl ov S (Sep (BO bs SO) Nought)) w u → Cel g9 t (refs7 S t) u) := hide (fun u h => (cell_of_heap (h.has (m := g9) (o := .cells (rowN 2 (refs7 S)) 55 (0, 0)) (R := Sep (BO g8 (.cells (rowN 2 ov) 53 (0, 0))) (Sep (Many (mach7 S) 2) (ArenaS q p r a p' r' s s rl (Sep (BO bs SO) Nought)))) (by unfold GameS; ac_rfl))).trans (rowN_get _ htn))
          have c9 : w1.cell? ⟨g9, t, none⟩ = some (refs7 S t) := RG9.out _ O1.out
          have HBD := hide (ax_bd (O1.out.cast (R' := Sep (AX q 4 1 p r s 4 [] 1 rl) (Sep (MX a 4 1 p' r' s 4 [] 1 rl) (Sep (BO g8 (.cells (rowN 2 ov) 53 (0, 0))) (Sep (BO g9 (.cells (rowN 2 (refs7 S)) 55 (0, 0))) (Sep (Many (mach7 S) 2) (Sep (BO bs SO) Nought)))))) (by unfold GameS ArenaS; ac_rfl)))
          clear RG9
          cases hst : S t with
          | on x0 =>
            have e9 : refs7 S t = .pointer (some ⟨x0.b, 0, none⟩) := by unfold refs7; rw [hst]; rfl
            have hk := HFIT.out t htn
            rw [hst] at hk
            have OO := hide (O1.out.cast (R' := Sep x0.res (SideS g8 g9 q p r a p' r' s s rl ov (refs7 S) S t (Sep (BO bs SO) Nought))) (by rw [GameS.out htn, hst]; rfl))
            have HX : Hid (x0.Ok ∧ ov t = .pointer (some ⟨x0.m, 0, none⟩)) := hide hk
            have HE9 := hide e9
            rw [e9] at c9
            clear e9 hk hst O1
            go_upto_region 17 with fail
            clear c9
            obtain ⟨x, ov1, rv1, HH⟩ : ∃ (x : SwG) (ov1 rv1 : Nat → Value), Hid (x.Ok ∧ ov1 t = .pointer (some ⟨x.m, 0, none⟩) ∧ rv1 t = .pointer (some ⟨x.b, 0, none⟩) ∧ (∀ j, j < 2 → j ≠ t → (S j).ok (ov1 j)) ∧ (∀ z : SL, upd rv1 t z.ref = upd (refs7 S) t z.ref) ∧ Own (Sep x.res (SideS g8 g9 q p r a p' r' s s rl ov1 rv1 S t (Sep (BO bs SO) Nought))) w w1) := ⟨x0, ov, refs7 S, HX.out.1, HX.out.2, HE9.out, fun j hj _ => HFIT.out j hj, fun z => rfl, OO.out⟩
            clear OO HX HE9 HFIT
            obtain ⟨m7, b7, pg7, d7, mk7, al7, v7, l7⟩ := x
            obtain ⟨⟨hpg7, hd7, hmk7, hal7, hlog7, hon7⟩, h8, h9, hoth, hrv, oE⟩ := HH.out
            simp only at hpg7 hd7 hmk7 hal7 hlog7 hon7 h8 h9
            have HOTH := hide hoth
            have HRV := hide hrv
            have H8 := hide h8
            have H9 := hide h9
            have HLOG := hide hlog7
            have HON := hide hon7
            obtain ⟨ok7, hok7⟩ : ∃ ok, decide (d7 = 3) = ok := ⟨_, rfl⟩
            obtain ⟨s', hs'⟩ : ∃ s', swS 1 pg7 d7 mk7 al7 s = s' := ⟨_, rfl⟩
            obtain ⟨mk', hmk'⟩ : ∃ x, swMk 1 pg7 d7 mk7 s.words = x := ⟨_, rfl⟩
            obtain ⟨al', hal'⟩ : ∃ x, swAl 1 pg7 d7 al7 s.words = x := ⟨_, rfl⟩
            obtain ⟨fr7, hfr7⟩ : ∃ x, swFreed (d7 + 1) mk' al' = x := ⟨_, rfl⟩
            have hmkb : mk' < 18446744073709551616 := by rw [← hmk']; exact swMk_bd HBD.out hmk7
            have halb : al' < 18446744073709551616 := by rw [← hal']; exact swAl_bd HBD.out hal7
            have HW' : Hid (s'.words.length = (Lay.words 4 1).toNat) := hide (by rw [← hs', swS_len]; exact HWD.out)
            have HOK := hide hok7
            have HS' := hide hs'
            have HMK := hide hmk'
            have HAL := hide hal'
            have HFR := hide hfr7
            have OE : Hid (Own (Sep (BO m7 (swpO 4 1 (pg7 : Int) (d7 : Int) mk7 al7)) (Sep (BO b7 (mObj (kSwp 4 1 pg7) v7)) (Sep (LogR v7.log l7) (SideS g8 g9 q p r a p' r' s s rl ov1 rv1 S t (Sep (BO bs SO) Nought))))) w w1) := hide (oE.cast (by show Sep (Sep (BO m7 (swpO 4 1 (pg7 : Int) (d7 : Int) mk7 al7)) (Sep (BO b7 (mObj (kSwp 4 1 pg7) v7)) (LogR v7.log l7))) _ = _; ac_rfl))
            clear HH hoth hrv h8 h9 hlog7 hon7 hs' hmk' hal' hfr7 hok7 oE
            have lSd : ∀ s1 s2, Loc (SideS g8 g9 q p r a p' r' s1 s2 rl ov1 rv1 S t (Sep (BO bs SO) Nought)) := fun _ _ => Loc.sideS lB
            have OE2 := hide (OE.out.below (Loc.bo.sep (Loc.bo.sep (Loc.logR.sep (lSd s s)))) ((Alike.drewN w1 1).below _))
            clear OE
            have JC : Hid (∀ (X : Res) (s1 s2 : St) (u : World), Own (Sep X (SideS g8 g9 q p r a p' r' s1 s2 rl ov1 rv1 S t (Sep (BO bs SO) Nought))) w u → Cel g8 t (.pointer (some ⟨m7, 0, none⟩)) u ∧ Cel g9 t (.pointer (some ⟨b7, 0, none⟩)) u) := hide (fun X s1 s2 u h => by
              have := SideS.c8 htn h
              rw [H8.out, H9.out] at this
              exact this)
            have JO : Hid (∀ (bo bo2 : Obj) (L9 : Res) (s1 s2 : St) (u : World), Own (Sep (BO m7 bo) (Sep (BO b7 bo2) (Sep L9 (SideS g8 g9 q p r a p' r' s1 s2 rl ov1 rv1 S t (Sep (BO bs SO) Nought))))) w u → Cel g8 t (.pointer (some ⟨m7, 0, none⟩)) u ∧ Cel g9 t (.pointer (some ⟨b7, 0, none⟩)) u) := hide (fun bo bo2 L9 s1 s2 u h => JC.out (Sep (BO m7 bo) (Sep (BO b7 bo2) L9)) s1 s2 u (h.cast (by ac_rfl)))
            have J2 : Hid (Cel g8 t (.pointer (some ⟨m7, 0, none⟩)) w1.drew ∧ Cel g9 t (.pointer (some ⟨b7, 0, none⟩)) w1.drew) := hide (JO.out _ _ _ _ _ _ OE2.out)
            have hne : Nonempty (Mem (fun u => Cel g8 t (.pointer (some ⟨m7, 0, none⟩)) u ∧ Cel g9 t (.pointer (some ⟨b7, 0, none⟩)) u)) := ⟨⟨_, J2.out⟩⟩
            have U8 : ∀ u : Mem (fun u => Cel g8 t (.pointer (some ⟨m7, 0, none⟩)) u ∧ Cel g9 t (.pointer (some ⟨b7, 0, none⟩)) u), u.w'.cell? ⟨g8, t, none⟩ = some (.pointer (some ⟨m7, 0, none⟩)) := fun u => u.h.1
            have U9 : ∀ u : Mem (fun u => Cel g8 t (.pointer (some ⟨m7, 0, none⟩)) u ∧ Cel g9 t (.pointer (some ⟨b7, 0, none⟩)) u), u.w'.cell? ⟨g9, t, none⟩ = some (.pointer (some ⟨b7, 0, none⟩)) := fun u => u.h.2
            refine region_start (J := fun u => Cel g8 t (.pointer (some ⟨m7, 0, none⟩)) u ∧ Cel g9 t (.pointer (some ⟨b7, 0, none⟩)) u) (by kernel_rfl) ?_
            refine stretch (fuel := 30) (by kernel_rfl) (fun _ _ _ _ _ h => h) J2.out [0, 1, 2, 3, 4, 5, 6, 7, 8, 10, 11, 12, 13] (by kernel_rfl) ?_
            simp only [List.filterMap_cons, List.filterMap_nil, List.getElem?_toArray, List.getElem?_cons_zero, List.getElem?_cons_succ]
            show wpQuiet _ _ _ _ [_, _, _, _, _, _, _, _, _, _, _, _, _] _
            repeat (go_big_quiet_step (fail))
            refine wpQuiet_nil ?_
            refine wpAnyJ_writer (i := 9) rfl (by kernel_rfl) (fun K' hK => ?_)
            go_simp
            have lA9 : Loc (Sep (BO b7 (mObj (kSwp 4 1 pg7) v7)) (Sep (LogR v7.log l7) (Sep (MX a 4 1 p' r' s 4 [] 1 rl) (Sep (BO g8 (.cells (rowN 2 ov1) 53 (0, 0))) (Sep (BO g9 (.cells (rowN 2 rv1) 55 (0, 0))) (Sep (Many (upd (mach7 S) t Nought) 2) (Sep (BO bs SO) Nought))))))) := Loc.bo.sep (Loc.logR.sep (Loc.mx.sep (Loc.bo.sep (Loc.bo.sep ((Loc.rest Loc.mach7 t 2).sep lB)))))
            refine (swStep lA9 HM.out pg7 (by omega) d7 hd7 hmk7 hal7 HWD.out (OE2.out.cast (by rw [SideS.ar]; ac_rfl))).mono ?_
            rintro e u3 ⟨rfl, o3⟩
            rw [HS'.out, HMK.out, HAL.out] at o3
            rw [HS'.out]
            have OF := hide (o3.cast (R' := Sep (BO m7 (swpO 4 1 (pg7 : Int) ((d7 + 1 : Nat) : Int) mk' al')) (Sep (BO b7 (mObj (kSwp 4 1 pg7) v7)) (Sep (LogR v7.log l7) (SideS g8 g9 q p r a p' r' s' s rl ov1 rv1 S t (Sep (BO bs SO) Nought))))) (by rw [SideS.ar]; ac_rfl))
            refine hK _ _ (JO.out _ _ _ _ _ _ OF.out) ?_
            clear hK K' o3 OE2 J2 lA9
            refine wpAnyJ_writer (i := 14) rfl (by kernel_rfl) (fun K' hK => ?_)
            go_simp
            have lB9 : Loc (Sep (BO m7 (swpO 4 1 (pg7 : Int) ((d7 + 1 : Nat) : Int) mk' al')) (Sep (AX q 4 1 p r s' 4 [] 1 rl) (Sep (BO g8 (.cells (rowN 2 ov1) 53 (0, 0))) (Sep (BO g9 (.cells (rowN 2 rv1) 55 (0, 0))) (Sep (Many (upd (mach7 S) t Nought) 2) (Sep (BO bs SO) Nought)))))) := Loc.bo.sep (Loc.ax.sep (Loc.bo.sep (Loc.bo.sep ((Loc.rest Loc.mach7 t 2).sep lB))))
            refine (rstepSweep (k := kSwp 4 1 pg7) lB9 HM.out rfl pg7 rfl (by show (pg7 : Int) < 4; omega) HWD.out d7 mk7 al7 hd7 hmk7 hal7 HLOG.out HBD.out (OF.out.cast (by rw [SideS.ar]; show _ = Sep _ (Sep _ (Sep (MX a 4 1 p' r' s 4 [] 1 rl) _)); ac_rfl)) HON.out ok7 HOK.out).mono ?_
            rintro e u4 ⟨rfl, v', l', hdn', hfr', hlog', o4⟩
            have o4 : Own (Sep (BO b7 (mObj (kSwp 4 1 pg7) v')) (Sep (LogR v'.log l') (Sep (MX a 4 1 p' r' (swS 1 pg7 d7 mk7 al7 s) 4 [] 1 rl) _))) w u4 := o4
            rw [HS'.out] at o4
            have hfr' : v'.freed = swFreed (d7 + 1) (swMk 1 pg7 d7 mk7 s.words) (swAl 1 pg7 d7 al7 s.words) := hfr'
            have hlog' : SwLog (d7 + 1) (swMk 1 pg7 d7 mk7 s.words) (swAl 1 pg7 d7 al7 s.words) l' := hlog'
            rw [HMK.out, HAL.out] at hfr' hlog'
            rw [HFR.out] at hfr'
            show _
            rw [show swS (kSwp 4 1 pg7).T pg7 d7 mk7 al7 s = s' from HS'.out]
            have OH := hide (o4.cast (R' := Sep (BO m7 (swpO 4 1 (pg7 : Int) ((d7 + 1 : Nat) : Int) mk' al')) (Sep (BO b7 (mObj (kSwp 4 1 pg7) v')) (Sep (LogR v'.log l') (SideS g8 g9 q p r a p' r' s' s' rl ov1 rv1 S t (Sep (BO bs SO) Nought))))) (by rw [SideS.ar]; ac_rfl))
            have HDN := hide hdn'
            have HFD := hide hfr'
            have HLG := hide hlog'
            refine hK _ _ (JO.out _ _ _ _ _ _ OH.out) ?_
            clear hK K' o4 OF lB9 hdn' hfr' hlog' hne U8 U9
            unfold St.did
            have DC : Hid (∀ u : World, Own (Sep (BO m7 (swpO 4 1 (pg7 : Int) ((d7 + 1 : Nat) : Int) mk' al')) (Sep (BO b7 (mObj (kSwp 4 1 pg7) v')) (Sep (LogR v'.log l') (SideS g8 g9 q p r a p' r' s' s' rl ov1 rv1 S t (Sep (BO bs SO) Nought))))) w u → (Cel g8 t (.pointer (some ⟨m7, 0, none⟩)) u ∧ Cel g9 t (.pointer (some ⟨b7, 0, none⟩)) u) ∧ (Cel b7 15 (.bool ok7) u ∧ Cel b7 27 (.int .u64 (fr7 : Int)) u)) := hide (fun u h => ⟨JO.out _ _ _ _ _ _ h, by
              have hb := h.has (m := b7) (o := mObj (kSwp 4 1 pg7) v') (R := Sep (BO m7 (swpO 4 1 (pg7 : Int) ((d7 + 1 : Nat) : Int) mk' al')) (Sep (LogR v'.log l') (SideS g8 g9 q p r a p' r' s' s' rl ov1 rv1 S t (Sep (BO bs SO) Nought)))) (by ac_rfl)
              have c15 : u.cell? ⟨b7, 15, none⟩ = some (.bool v'.done) := cell_of_heap hb
              have c27 : u.cell? ⟨b7, 27, none⟩ = some (.int .u64 (v'.freed : Int)) := cell_of_heap hb
              rw [HDN.out] at c15
              rw [HFD.out] at c27
              exact ⟨c15, c27⟩⟩)
            refine wpAnyJ_class (I := fun u => (Cel g8 t (.pointer (some ⟨m7, 0, none⟩)) u ∧ Cel g9 t (.pointer (some ⟨b7, 0, none⟩)) u) ∧ (Cel b7 15 (.bool ok7) u ∧ Cel b7 27 (.int .u64 (fr7 : Int)) u)) (fun _ h => h.1) ?_
            have hne : Nonempty (Mem (fun u => (Cel g8 t (.pointer (some ⟨m7, 0, none⟩)) u ∧ Cel g9 t (.pointer (some ⟨b7, 0, none⟩)) u) ∧ (Cel b7 15 (.bool ok7) u ∧ Cel b7 27 (.int .u64 (fr7 : Int)) u))) := ⟨⟨_, DC.out _ OH.out⟩⟩
            have U8 : ∀ u : Mem (fun u => (Cel g8 t (.pointer (some ⟨m7, 0, none⟩)) u ∧ Cel g9 t (.pointer (some ⟨b7, 0, none⟩)) u) ∧ (Cel b7 15 (.bool ok7) u ∧ Cel b7 27 (.int .u64 (fr7 : Int)) u)), u.w'.cell? ⟨g8, t, none⟩ = some (.pointer (some ⟨m7, 0, none⟩)) := fun u => u.h.1.1
            have U9 : ∀ u : Mem (fun u => (Cel g8 t (.pointer (some ⟨m7, 0, none⟩)) u ∧ Cel g9 t (.pointer (some ⟨b7, 0, none⟩)) u) ∧ (Cel b7 15 (.bool ok7) u ∧ Cel b7 27 (.int .u64 (fr7 : Int)) u)), u.w'.cell? ⟨g9, t, none⟩ = some (.pointer (some ⟨b7, 0, none⟩)) := fun u => u.h.1.2
            have U15 : ∀ u : Mem (fun u => (Cel g8 t (.pointer (some ⟨m7, 0, none⟩)) u ∧ Cel g9 t (.pointer (some ⟨b7, 0, none⟩)) u) ∧ (Cel b7 15 (.bool ok7) u ∧ Cel b7 27 (.int .u64 (fr7 : Int)) u)), u.w'.cell? ⟨b7, 15, none⟩ = some (.bool ok7) := fun u => u.h.2.1
            have U27 : ∀ u : Mem (fun u => (Cel g8 t (.pointer (some ⟨m7, 0, none⟩)) u ∧ Cel g9 t (.pointer (some ⟨b7, 0, none⟩)) u) ∧ (Cel b7 15 (.bool ok7) u ∧ Cel b7 27 (.int .u64 (fr7 : Int)) u)), u.w'.cell? ⟨b7, 27, none⟩ = some (.int .u64 (fr7 : Int)) := fun u => u.h.2.2
            refine stretch (fuel := 16) (by kernel_rfl) (fun _ _ _ _ _ h => h) (DC.out _ OH.out) [15, 16, 17, 18, 19, 20, 22, 23, 24, 25, 26, 27] (by kernel_rfl) ?_
            simp only [List.filterMap_cons, List.filterMap_nil, List.getElem?_toArray, List.getElem?_cons_zero, List.getElem?_cons_succ]
            show wpQuiet _ _ _ _ [_, _, _, _, _, _, _, _, _, _, _, _] _
            repeat (go_big_quiet_step (fail))
            refine wpQuiet_nil ?_
            refine wpAnyJ_writer (i := 21) rfl (by kernel_rfl) (fun K' hK => ?_)
            go_simp
            refine (swpDone _ m7 4 1 (pg7 : Int) (d7 + 1) mk' al' (Own.boAt OH.out) ok7 (by rw [← HOK.out]; exact decide_eq_decide.2 (by omega))).mono ?_
            rintro e u5 ⟨rfl, rfl⟩
            refine hK _ _ (DC.out _ OH.out) ?_
            clear hK K'
            refine stretch (fuel := 3) (by kernel_rfl) (fun _ _ _ _ _ h => h) (DC.out _ OH.out) [28, 29, 30, 31, 32, 33, 35, 36, 37, 38, 39, 40] (by kernel_rfl) ?_
            simp only [List.filterMap_cons, List.filterMap_nil, List.getElem?_toArray, List.getElem?_cons_zero, List.getElem?_cons_succ]
            show wpQuiet _ _ _ _ [_, _, _, _, _, _, _, _, _, _, _, _] _
            repeat (go_big_quiet_step (fail))
            refine wpQuiet_nil ?_
            refine wpAnyJ_writer (i := 34) rfl (by kernel_rfl) (fun K' hK => ?_)
            go_simp
            refine (swpFreed _ m7 4 1 (pg7 : Int) (d7 + 1) mk' al' hmkb halb (Own.boAt OH.out) fr7 HFR.out).mono ?_
            rintro e u6 ⟨rfl, b6⟩
            have OI := hide (OH.out.below (Loc.bo.sep (Loc.bo.sep (Loc.logR.sep (lSd s' s')))) b6)
            refine hK _ _ (DC.out _ OI.out) ?_
            clear hK K' OH b6
            refine stretch (fuel := 0) (by kernel_rfl) (fun _ _ _ _ _ h => h) (DC.out _ OI.out) [41, 42] (by kernel_rfl) ?_
            simp only [List.filterMap_cons, List.filterMap_nil, List.getElem?_toArray, List.getElem?_cons_zero, List.getElem?_cons_succ]
            show wpQuiet _ _ _ _ [_, _] _
            repeat (go_big_quiet_step (fail))
            refine wpQuiet_nil ?_
            refine wpAnyJ_done (by kernel_rfl) ?_
            have q9 : u6.cell? ⟨g9, t, none⟩ = some (.pointer (some ⟨b7, 0, none⟩)) := (DC.out _ OI.out).1.2
            have q15 : u6.cell? ⟨b7, 15, none⟩ = some (.bool ok7) := (DC.out _ OI.out).2.1
            clear hne U8 U9 U15 U27 DC JC JO
            cases ok7 with
            | true =>
              have o9 := OI.out.drop.drop.drop.cast (R' := Sep (BO g9 (.cells (rowN 2 rv1) 55 (0, 0))) (Sep (BO g8 (.cells (rowN 2 ov1) 53 (0, 0))) (Sep (Many (upd (mach7 S) t Nought) 2) (ArenaS q p r a p' r' s' s' rl (Sep (BO bs SO) Nought))))) (by unfold SideS; ac_rfl)
              have f9 : ∀ o, u6.frozen? ⟨g9, o, none⟩ = false := fun o => frozen_of_heap (Own.boAt o9)
              have o10 := Own.boSet (Loc.bo.sep ((Loc.rest Loc.mach7 t 2).sep (Loc.arenaS lB))) o9 t (.pointer none)
              rw [rowN_set] at o10
              have O11 : Hid (Own (GameS g8 g9 q p r a p' r' s' rl ov1 (upd S t .off) (Sep (BO bs SO) Nought)) w (u6.setCell ⟨g9, t, none⟩ (.pointer none))) := hide (o10.cast (by
                rw [← GameS.turn htn .off, ← HRV.out .off]
                unfold SideS
                show _ = Sep Nought _
                rw [Sep.nought]
                show Sep (BO g9 (.cells (rowN 2 (upd rv1 t (.pointer none))) _ (0, 0))) _ = _
                ac_rfl))
              clear o9 o10 OI
              go_wp2
              go_roundw
              case rel => exact ⟨i + 1, s', ov1, upd S t .off, by go_num, by omega, ⟨HW'.out, FitS.turn HOTH.out .off ⟨_, H8.out⟩, O11.out⟩⟩
              case measure => simp [intOf]; omega
            | false =>
              have hd3 : d7 ≠ 3 := by have := HOK.out; simpa using this
              have O11 : Hid (Own (GameS g8 g9 q p r a p' r' s' rl ov1 (upd S t (.on ⟨m7, b7, pg7, d7 + 1, mk', al', v', l'⟩)) (Sep (BO bs SO) Nought)) w u6) := hide (OI.out.cast (by
                rw [← GameS.turn htn (.on ⟨m7, b7, pg7, d7 + 1, mk', al', v', l'⟩), ← HRV.out (.on ⟨m7, b7, pg7, d7 + 1, mk', al', v', l'⟩)]
                rw [show upd rv1 t (SL.ref (.on ⟨m7, b7, pg7, d7 + 1, mk', al', v', l'⟩)) = rv1 from by rw [show SL.ref (.on ⟨m7, b7, pg7, d7 + 1, mk', al', v', l'⟩) = rv1 t from H9.out.symm]; exact upd_id _ _]
                show _ = Sep (Sep (BO m7 (swpO 4 1 (pg7 : Int) ((d7 + 1 : Nat) : Int) mk' al')) (Sep (BO b7 (mObj (kSwp 4 1 pg7) v')) (LogR v'.log l'))) _
                ac_rfl))
              clear OI
              go_wp2
              go_roundw
              case rel => exact ⟨i + 1, s', ov1, upd S t (.on ⟨m7, b7, pg7, d7 + 1, mk', al', v', l'⟩), by go_num, by omega, ⟨HW'.out, FitS.turn HOTH.out _ ⟨⟨hpg7, by show d7 + 1 < 4; omega, hmkb, halb, HLG.out, HDN.out⟩, H8.out⟩, O11.out⟩⟩
              case measure => simp [intOf]; omega
          | off =>
            have e9 : refs7 S t = .pointer none := by unfold refs7; rw [hst]; rfl
            obtain ⟨pa, hpa⟩ : ∃ pa, ov t = .pointer pa := by
              have hk := HFIT.out t htn
              rw [hst] at hk
              exact hk
            have OO : Hid (Own (SideS g8 g9 q p r a p' r' s s rl ov (refs7 S) S t (Sep (BO bs SO) Nought)) w w1) := hide (O1.out.cast (by rw [GameS.out htn, hst]; exact Sep.nought _))
            have HPA' := hide hpa
            have HE9 := hide e9
            rw [e9] at c9
            clear e9 hpa hst O1
            go_upto_region 16 with fail
            clear c9
            have lS : Loc (SideS g8 g9 q p r a p' r' s s rl ov (refs7 S) S t (Sep (BO bs SO) Nought)) := Loc.sideS lB
            have O2 := hide (OO.out.below lS ((Alike.drewN w1 1).below _))
            have J2 : Hid (BkAt a (MObj p' r' 4 1) w1.drew) := hide (SideS.mem0 O2.out)
            have hne : Nonempty (Mem (BkAt a (MObj p' r' 4 1))) := ⟨⟨_, J2.out⟩⟩
            have UA2 : ∀ u : Mem (BkAt a (MObj p' r' 4 1)), u.w'.cell? ⟨a, 2, none⟩ = some (.int .i64 4) := fun u => cell_of_heap u.h
            have UA3 : ∀ u : Mem (BkAt a (MObj p' r' 4 1)), u.w'.cell? ⟨a, 3, none⟩ = some (.int .i64 1) := fun u => cell_of_heap u.h
            clear OO
            refine region_start (J := BkAt a (MObj p' r' 4 1)) (by kernel_rfl) ?_
            refine stretch (fuel := 6) (by kernel_rfl) (fun _ _ _ _ _ h => h) J2.out [0, 1, 2, 3, 4, 5, 6, 8, 9, 10, 11, 12, 13] (by kernel_rfl) ?_
            simp only [List.filterMap_cons, List.filterMap_nil, List.getElem?_toArray, List.getElem?_cons_zero, List.getElem?_cons_succ]
            show wpQuiet _ _ _ _ [_, _, _, _, _, _, _, _, _, _, _, _, _] _
            repeat (go_big_quiet_step (fail))
            refine wpQuiet_nil ?_
            refine wpAnyJ_writer (i := 7) rfl (by kernel_rfl) (fun K' hK => ?_)
            go_simp
            refine (HNS.out k4 hk4' _).mono ?_
            rintro e w3 ⟨m, rfl, h1, h2, h3⟩
            have O3 := hide (Own.boNew lS O2.out h1 h2 h3)
            refine hK _ _ (SideS.mem O3.out) ?_
            clear hK K' O2 J2 h1 h2 h3
            refine stretch (fuel := 4) (by kernel_rfl) (fun _ _ _ _ _ h => h) (SideS.mem O3.out) [15] (by kernel_rfl) ?_
            simp only [List.filterMap_cons, List.filterMap_nil, List.getElem?_toArray, List.getElem?_cons_zero, List.getElem?_cons_succ]
            show wpQuiet _ _ _ _ [_] _
            repeat (go_big_quiet_step (fail))
            refine wpQuiet_nil ?_
            refine wpAnyJ_writer (i := 14) rfl (by kernel_rfl) (fun K' hK => ?_)
            go_simp
            refine (m_new (k := kSwp 4 1 k4) (v := vNone7) (Loc.bo.sep lS) O3.out).mono ?_
            rintro e w4 ⟨b, rfl, o4⟩
            have O4 := hide (o4.cast (R' := Sep (Sep (BO b (mObj (kSwp 4 1 k4) vNone7.fresh)) (BO m (swpO 4 1 (k4 : Int) 0 0 0))) (SideS g8 g9 q p r a p' r' s s rl ov (refs7 S) S t (Sep (BO bs SO) Nought))) (by ac_rfl))
            refine hK _ _ (SideS.mem O4.out) ?_
            clear hK K' O3 o4
            have y8 : w4.cell? ⟨g8, t, none⟩ = some (.pointer pa) := by rw [← HPA'.out]; exact (SideS.c8 htn O4.out).1
            have lM : Loc (Sep (BO b (mObj (kSwp 4 1 k4) vNone7.fresh)) (BO m (swpO 4 1 (k4 : Int) 0 0 0))) := Loc.bo.sep Loc.bo
            have o5 := O4.out.cast (R' := Sep (BO g8 (.cells (rowN 2 ov) 53 (0, 0))) (Sep (Sep (BO b (mObj (kSwp 4 1 k4) vNone7.fresh)) (BO m (swpO 4 1 (k4 : Int) 0 0 0))) (Sep (BO g9 (.cells (rowN 2 (refs7 S)) 55 (0, 0))) (Sep (Many (upd (mach7 S) t Nought) 2) (ArenaS q p r a p' r' s s rl (Sep (BO bs SO) Nought)))))) (by unfold SideS; ac_rfl)
            have f8 : ∀ o, w4.frozen? ⟨g8, o, none⟩ = false := fun o => frozen_of_heap (Own.boAt o5)
            have o6 := Own.boSet (lM.sep (Loc.bo.sep ((Loc.rest Loc.mach7 t 2).sep (Loc.arenaS lB)))) o5 t (.pointer (some ⟨m, 0, none⟩))
            rw [rowN_set] at o6
            have O6 := hide (o6.cast (R' := Sep (Sep (BO b (mObj (kSwp 4 1 k4) vNone7.fresh)) (BO m (swpO 4 1 (k4 : Int) 0 0 0))) (SideS g8 g9 q p r a p' r' s s rl (upd ov t (.pointer (some ⟨m, 0, none⟩))) (refs7 S) S t (Sep (BO bs SO) Nought))) (by unfold SideS; ac_rfl))
            clear o5 o6
            refine wpAnyJ_writer (i := 16) rfl (by kernel_rfl) (fun K' hK => ?_)
            go_simp
            refine hK _ _ (SideS.mem O6.out) ?_
            clear hK K' y8 f8 O4
            generalize w4.setCell ⟨g8, t, none⟩ (.pointer (some ⟨m, 0, none⟩)) = w5 at *
            refine stretch (fuel := 1) (by kernel_rfl) (fun _ _ _ _ _ h => h) (SideS.mem O6.out) [17] (by kernel_rfl) ?_
            simp only [List.filterMap_cons, List.filterMap_nil, List.getElem?_toArray, List.getElem?_cons_zero, List.getElem?_cons_succ]
            show wpQuiet _ _ _ _ [_] _
            repeat (go_big_quiet_step (fail))
            refine wpQuiet_nil ?_
            have y9 : w5.cell? ⟨g9, t, none⟩ = some (.pointer none) := by rw [← HE9.out]; exact (SideS.c8 htn O6.out).2
            have o7 := O6.out.cast (R' := Sep (BO g9 (.cells (rowN 2 (refs7 S)) 55 (0, 0))) (Sep (Sep (BO b (mObj (kSwp 4 1 k4) vNone7.fresh)) (BO m (swpO 4 1 (k4 : Int) 0 0 0))) (Sep (BO g8 (.cells (rowN 2 (upd ov t (.pointer (some ⟨m, 0, none⟩)))) 53 (0, 0))) (Sep (Many (upd (mach7 S) t Nought) 2) (ArenaS q p r a p' r' s s rl (Sep (BO bs SO) Nought)))))) (by unfold SideS; ac_rfl)
            have f9 : ∀ o, w5.frozen? ⟨g9, o, none⟩ = false := fun o => frozen_of_heap (Own.boAt o7)
            have o8 := Own.boSet (lM.sep (Loc.bo.sep ((Loc.rest Loc.mach7 t 2).sep (Loc.arenaS lB)))) o7 t (.pointer (some ⟨b, 0, none⟩))
            rw [rowN_set] at o8
            have O8 := hide (o8.cast (R' := Sep (Sep (BO b (mObj (kSwp 4 1 k4) vNone7.fresh)) (BO m (swpO 4 1 (k4 : Int) 0 0 0))) (SideS g8 g9 q p r a p' r' s s rl (upd ov t (.pointer (some ⟨m, 0, none⟩))) (upd (refs7 S) t (.pointer (some ⟨b, 0, none⟩))) S t (Sep (BO bs SO) Nought))) (by unfold SideS; ac_rfl))
            clear o7 o8
            refine wpAnyJ_writer (i := 18) rfl (by kernel_rfl) (fun K' hK => ?_)
            go_simp
            refine hK _ _ (SideS.mem O8.out) ?_
            clear hK K' y9 f9 O6
            generalize w5.setCell ⟨g9, t, none⟩ (.pointer (some ⟨b, 0, none⟩)) = w6 at *
            refine wpAnyJ_done (by kernel_rfl) ?_
            clear UA2 UA3 hne lS
            go_upto_region 17 with fail
            obtain ⟨x, ov1, rv1, HH⟩ : ∃ (x : SwG) (ov1 rv1 : Nat → Value), Hid (x.Ok ∧ ov1 t = .pointer (some ⟨x.m, 0, none⟩) ∧ rv1 t = .pointer (some ⟨x.b, 0, none⟩) ∧ (∀ j, j < 2 → j ≠ t → (S j).ok (ov1 j)) ∧ (∀ z : SL, upd rv1 t z.ref = upd (refs7 S) t z.ref) ∧ Own (Sep x.res (SideS g8 g9 q p r a p' r' s s rl ov1 rv1 S t (Sep (BO bs SO) Nought))) w w6) := ⟨⟨m, b, k4, 0, 0, 0, vNone7.fresh, []⟩, upd ov t (.pointer (some ⟨m, 0, none⟩)), upd (refs7 S) t (.pointer (some ⟨b, 0, none⟩)), ⟨hk4', by show 0 < 4; omega, by show 0 < _; omega, by show 0 < _; omega, SwLog.none, rfl⟩, upd_at _ _ _, upd_at _ _ _, fun j hj hjt => by rw [upd_ne _ _ hjt]; exact HFIT.out j hj, fun z => upd_upd _ _ _ _, (Own.logNo O8.out).cast (by show _ = Sep (Sep (BO m (swpO 4 1 (k4 : Int) 0 0 0)) (Sep (BO b (mObj (kSwp 4 1 k4) vNone7.fresh)) (LogR (.slice none 0 0) []))) _; ac_rfl)⟩
            clear O8 HFIT HPA' HE9 lM
            obtain ⟨m7, b7, pg7, d7, mk7, al7, v7, l7⟩ := x
            obtain ⟨⟨hpg7, hd7, hmk7, hal7, hlog7, hon7⟩, h8, h9, hoth, hrv, oE⟩ := HH.out
            simp only at hpg7 hd7 hmk7 hal7 hlog7 hon7 h8 h9
            have HOTH := hide hoth
            have HRV := hide hrv
            have H8 := hide h8
            have H9 := hide h9
            have HLOG := hide hlog7
            have HON := hide hon7
            obtain ⟨ok7, hok7⟩ : ∃ ok, decide (d7 = 3) = ok := ⟨_, rfl⟩
            obtain ⟨s', hs'⟩ : ∃ s', swS 1 pg7 d7 mk7 al7 s = s' := ⟨_, rfl⟩
            obtain ⟨mk', hmk'⟩ : ∃ x, swMk 1 pg7 d7 mk7 s.words = x := ⟨_, rfl⟩
            obtain ⟨al', hal'⟩ : ∃ x, swAl 1 pg7 d7 al7 s.words = x := ⟨_, rfl⟩
            obtain ⟨fr7, hfr7⟩ : ∃ x, swFreed (d7 + 1) mk' al' = x := ⟨_, rfl⟩
            have hmkb : mk' < 18446744073709551616 := by rw [← hmk']; exact swMk_bd HBD.out hmk7
            have halb : al' < 18446744073709551616 := by rw [← hal']; exact swAl_bd HBD.out hal7
            have HW' : Hid (s'.words.length = (Lay.words 4 1).toNat) := hide (by rw [← hs', swS_len]; exact HWD.out)
            have HOK := hide hok7
            have HS' := hide hs'
            have HMK := hide hmk'
            have HAL := hide hal'
            have HFR := hide hfr7
            have OE : Hid (Own (Sep (BO m7 (swpO 4 1 (pg7 : Int) (d7 : Int) mk7 al7)) (Sep (BO b7 (mObj (kSwp 4 1 pg7) v7)) (Sep (LogR v7.log l7) (SideS g8 g9 q p r a p' r' s s rl ov1 rv1 S t (Sep (BO bs SO) Nought))))) w w6) := hide (oE.cast (by show Sep (Sep (BO m7 (swpO 4 1 (pg7 : Int) (d7 : Int) mk7 al7)) (Sep (BO b7 (mObj (kSwp 4 1 pg7) v7)) (LogR v7.log l7))) _ = _; ac_rfl))
            clear HH hoth hrv h8 h9 hlog7 hon7 hs' hmk' hal' hfr7 hok7 oE
            have lSd : ∀ s1 s2, Loc (SideS g8 g9 q p r a p' r' s1 s2 rl ov1 rv1 S t (Sep (BO bs SO) Nought)) := fun _ _ => Loc.sideS lB
            have OE2 := hide (OE.out.below (Loc.bo.sep (Loc.bo.sep (Loc.logR.sep (lSd s s)))) ((Alike.drewN w6 1).below _))
            clear OE
            have JC : Hid (∀ (X : Res) (s1 s2 : St) (u : World), Own (Sep X (SideS g8 g9 q p r a p' r' s1 s2 rl ov1 rv1 S t (Sep (BO bs SO) Nought))) w u → Cel g8 t (.pointer (some ⟨m7, 0, none⟩)) u ∧ Cel g9 t (.pointer (some ⟨b7, 0, none⟩)) u) := hide (fun X s1 s2 u h => by
              have := SideS.c8 htn h
              rw [H8.out, H9.out] at this
              exact this)
            have JO : Hid (∀ (bo bo2 : Obj) (L9 : Res) (s1 s2 : St) (u : World), Own (Sep (BO m7 bo) (Sep (BO b7 bo2) (Sep L9 (SideS g8 g9 q p r a p' r' s1 s2 rl ov1 rv1 S t (Sep (BO bs SO) Nought))))) w u → Cel g8 t (.pointer (some ⟨m7, 0, none⟩)) u ∧ Cel g9 t (.pointer (some ⟨b7, 0, none⟩)) u) := hide (fun bo bo2 L9 s1 s2 u h => JC.out (Sep (BO m7 bo) (Sep (BO b7 bo2) L9)) s1 s2 u (h.cast (by ac_rfl)))
            have J2 : Hid (Cel g8 t (.pointer (some ⟨m7, 0, none⟩)) w6.drew ∧ Cel g9 t (.pointer (some ⟨b7, 0, none⟩)) w6.drew) := hide (JO.out _ _ _ _ _ _ OE2.out)
            have hne : Nonempty (Mem (fun u => Cel g8 t (.pointer (some ⟨m7, 0, none⟩)) u ∧ Cel g9 t (.pointer (some ⟨b7, 0, none⟩)) u)) := ⟨⟨_, J2.out⟩⟩
            have U8 : ∀ u : Mem (fun u => Cel g8 t (.pointer (some ⟨m7, 0, none⟩)) u ∧ Cel g9 t (.pointer (some ⟨b7, 0, none⟩)) u), u.w'.cell? ⟨g8, t, none⟩ = some (.pointer (some ⟨m7, 0, none⟩)) := fun u => u.h.1
            have U9 : ∀ u : Mem (fun u => Cel g8 t (.pointer (some ⟨m7, 0, none⟩)) u ∧ Cel g9 t (.pointer (some ⟨b7, 0, none⟩)) u), u.w'.cell? ⟨g9, t, none⟩ = some (.pointer (some ⟨b7, 0, none⟩)) := fun u => u.h.2
            refine region_start (J := fun u => Cel g8 t (.pointer (some ⟨m7, 0, none⟩)) u ∧ Cel g9 t (.pointer (some ⟨b7, 0, none⟩)) u) (by kernel_rfl) ?_
            refine stretch (fuel := 30) (by kernel_rfl) (fun _ _ _ _ _ h => h) J2.out [0, 1, 2, 3, 4, 5, 6, 7, 8, 10, 11, 12, 13] (by kernel_rfl) ?_
            simp only [List.filterMap_cons, List.filterMap_nil, List.getElem?_toArray, List.getElem?_cons_zero, List.getElem?_cons_succ]
            show wpQuiet _ _ _ _ [_, _, _, _, _, _, _, _, _, _, _, _, _] _
            repeat (go_big_quiet_step (fail))
            refine wpQuiet_nil ?_
            refine wpAnyJ_writer (i := 9) rfl (by kernel_rfl) (fun K' hK => ?_)
            go_simp
            have lA9 : Loc (Sep (BO b7 (mObj (kSwp 4 1 pg7) v7)) (Sep (LogR v7.log l7) (Sep (MX a 4 1 p' r' s 4 [] 1 rl) (Sep (BO g8 (.cells (rowN 2 ov1) 53 (0, 0))) (Sep (BO g9 (.cells (rowN 2 rv1) 55 (0, 0))) (Sep (Many (upd (mach7 S) t Nought) 2) (Sep (BO bs SO) Nought))))))) := Loc.bo.sep (Loc.logR.sep (Loc.mx.sep (Loc.bo.sep (Loc.bo.sep ((Loc.rest Loc.mach7 t 2).sep lB)))))
            refine (swStep lA9 HM.out pg7 (by omega) d7 hd7 hmk7 hal7 HWD.out (OE2.out.cast (by rw [SideS.ar]; ac_rfl))).mono ?_
            rintro e u3 ⟨rfl, o3⟩
            rw [HS'.out, HMK.out, HAL.out] at o3
            rw [HS'.out]
            have OF := hide (o3.cast (R' := Sep (BO m7 (swpO 4 1 (pg7 : Int) ((d7 + 1 : Nat) : Int) mk' al')) (Sep (BO b7 (mObj (kSwp 4 1 pg7) v7)) (Sep (LogR v7.log l7) (SideS g8 g9 q p r a p' r' s' s rl ov1 rv1 S t (Sep (BO bs SO) Nought))))) (by rw [SideS.ar]; ac_rfl))
            refine hK _ _ (JO.out _ _ _ _ _ _ OF.out) ?_
            clear hK K' o3 OE2 J2 lA9
            refine wpAnyJ_writer (i := 14) rfl (by kernel_rfl) (fun K' hK => ?_)
            go_simp
            have lB9 : Loc (Sep (BO m7 (swpO 4 1 (pg7 : Int) ((d7 + 1 : Nat) : Int) mk' al')) (Sep (AX q 4 1 p r s' 4 [] 1 rl) (Sep (BO g8 (.cells (rowN 2 ov1) 53 (0, 0))) (Sep (BO g9 (.cells (rowN 2 rv1) 55 (0, 0))) (Sep (Many (upd (mach7 S) t Nought) 2) (Sep (BO bs SO) Nought)))))) := Loc.bo.sep (Loc.ax.sep (Loc.bo.sep (Loc.bo.sep ((Loc.rest Loc.mach7 t 2).sep lB))))
            refine (rstepSweep (k := kSwp 4 1 pg7) lB9 HM.out rfl pg7 rfl (by show (pg7 : Int) < 4; omega) HWD.out d7 mk7 al7 hd7 hmk7 hal7 HLOG.out HBD.out (OF.out.cast (by rw [SideS.ar]; show _ = Sep _ (Sep _ (Sep (MX a 4 1 p' r' s 4 [] 1 rl) _)); ac_rfl)) HON.out ok7 HOK.out).mono ?_
            rintro e u4 ⟨rfl, v', l', hdn', hfr', hlog', o4⟩
            have o4 : Own (Sep (BO b7 (mObj (kSwp 4 1 pg7) v')) (Sep (LogR v'.log l') (Sep (MX a 4 1 p' r' (swS 1 pg7 d7 mk7 al7 s) 4 [] 1 rl) _))) w u4 := o4
            rw [HS'.out] at o4
            have hfr' : v'.freed = swFreed (d7 + 1) (swMk 1 pg7 d7 mk7 s.words) (swAl 1 pg7 d7 al7 s.words) := hfr'
            have hlog' : SwLog (d7 + 1) (swMk 1 pg7 d7 mk7 s.words) (swAl 1 pg7 d7 al7 s.words) l' := hlog'
            rw [HMK.out, HAL.out] at hfr' hlog'
            rw [HFR.out] at hfr'
            show _
            rw [show swS (kSwp 4 1 pg7).T pg7 d7 mk7 al7 s = s' from HS'.out]
            have OH := hide (o4.cast (R' := Sep (BO m7 (swpO 4 1 (pg7 : Int) ((d7 + 1 : Nat) : Int) mk' al')) (Sep (BO b7 (mObj (kSwp 4 1 pg7) v')) (Sep (LogR v'.log l') (SideS g8 g9 q p r a p' r' s' s' rl ov1 rv1 S t (Sep (BO bs SO) Nought))))) (by rw [SideS.ar]; ac_rfl))
            have HDN := hide hdn'
            have HFD := hide hfr'
            have HLG := hide hlog'
            refine hK _ _ (JO.out _ _ _ _ _ _ OH.out) ?_
            clear hK K' o4 OF lB9 hdn' hfr' hlog' hne U8 U9
            unfold St.did
            have DC : Hid (∀ u : World, Own (Sep (BO m7 (swpO 4 1 (pg7 : Int) ((d7 + 1 : Nat) : Int) mk' al')) (Sep (BO b7 (mObj (kSwp 4 1 pg7) v')) (Sep (LogR v'.log l') (SideS g8 g9 q p r a p' r' s' s' rl ov1 rv1 S t (Sep (BO bs SO) Nought))))) w u → (Cel g8 t (.pointer (some ⟨m7, 0, none⟩)) u ∧ Cel g9 t (.pointer (some ⟨b7, 0, none⟩)) u) ∧ (Cel b7 15 (.bool ok7) u ∧ Cel b7 27 (.int .u64 (fr7 : Int)) u)) := hide (fun u h => ⟨JO.out _ _ _ _ _ _ h, by
              have hb := h.has (m := b7) (o := mObj (kSwp 4 1 pg7) v') (R := Sep (BO m7 (swpO 4 1 (pg7 : Int) ((d7 + 1 : Nat) : Int) mk' al')) (Sep (LogR v'.log l') (SideS g8 g9 q p r a p' r' s' s' rl ov1 rv1 S t (Sep (BO bs SO) Nought)))) (by ac_rfl)
              have c15 : u.cell? ⟨b7, 15, none⟩ = some (.bool v'.done) := cell_of_heap hb
              have c27 : u.cell? ⟨b7, 27, none⟩ = some (.int .u64 (v'.freed : Int)) := cell_of_heap hb
              rw [HDN.out] at c15
              rw [HFD.out] at c27
              exact ⟨c15, c27⟩⟩)
            refine wpAnyJ_class (I := fun u => (Cel g8 t (.pointer (some ⟨m7, 0, none⟩)) u ∧ Cel g9 t (.pointer (some ⟨b7, 0, none⟩)) u) ∧ (Cel b7 15 (.bool ok7) u ∧ Cel b7 27 (.int .u64 (fr7 : Int)) u)) (fun _ h => h.1) ?_
            have hne : Nonempty (Mem (fun u => (Cel g8 t (.pointer (some ⟨m7, 0, none⟩)) u ∧ Cel g9 t (.pointer (some ⟨b7, 0, none⟩)) u) ∧ (Cel b7 15 (.bool ok7) u ∧ Cel b7 27 (.int .u64 (fr7 : Int)) u))) := ⟨⟨_, DC.out _ OH.out⟩⟩
            have U8 : ∀ u : Mem (fun u => (Cel g8 t (.pointer (some ⟨m7, 0, none⟩)) u ∧ Cel g9 t (.pointer (some ⟨b7, 0, none⟩)) u) ∧ (Cel b7 15 (.bool ok7) u ∧ Cel b7 27 (.int .u64 (fr7 : Int)) u)), u.w'.cell? ⟨g8, t, none⟩ = some (.pointer (some ⟨m7, 0, none⟩)) := fun u => u.h.1.1
            have U9 : ∀ u : Mem (fun u => (Cel g8 t (.pointer (some ⟨m7, 0, none⟩)) u ∧ Cel g9 t (.pointer (some ⟨b7, 0, none⟩)) u) ∧ (Cel b7 15 (.bool ok7) u ∧ Cel b7 27 (.int .u64 (fr7 : Int)) u)), u.w'.cell? ⟨g9, t, none⟩ = some (.pointer (some ⟨b7, 0, none⟩)) := fun u => u.h.1.2
            have U15 : ∀ u : Mem (fun u => (Cel g8 t (.pointer (some ⟨m7, 0, none⟩)) u ∧ Cel g9 t (.pointer (some ⟨b7, 0, none⟩)) u) ∧ (Cel b7 15 (.bool ok7) u ∧ Cel b7 27 (.int .u64 (fr7 : Int)) u)), u.w'.cell? ⟨b7, 15, none⟩ = some (.bool ok7) := fun u => u.h.2.1
            have U27 : ∀ u : Mem (fun u => (Cel g8 t (.pointer (some ⟨m7, 0, none⟩)) u ∧ Cel g9 t (.pointer (some ⟨b7, 0, none⟩)) u) ∧ (Cel b7 15 (.bool ok7) u ∧ Cel b7 27 (.int .u64 (fr7 : Int)) u)), u.w'.cell? ⟨b7, 27, none⟩ = some (.int .u64 (fr7 : Int)) := fun u => u.h.2.2
            refine stretch (fuel := 16) (by kernel_rfl) (fun _ _ _ _ _ h => h) (DC.out _ OH.out) [15, 16, 17, 18, 19, 20, 22, 23, 24, 25, 26, 27] (by kernel_rfl) ?_
            simp only [List.filterMap_cons, List.filterMap_nil, List.getElem?_toArray, List.getElem?_cons_zero, List.getElem?_cons_succ]
            show wpQuiet _ _ _ _ [_, _, _, _, _, _, _, _, _, _, _, _] _
            repeat (go_big_quiet_step (fail))
            refine wpQuiet_nil ?_
            refine wpAnyJ_writer (i := 21) rfl (by kernel_rfl) (fun K' hK => ?_)
            go_simp
            refine (swpDone _ m7 4 1 (pg7 : Int) (d7 + 1) mk' al' (Own.boAt OH.out) ok7 (by rw [← HOK.out]; exact decide_eq_decide.2 (by omega))).mono ?_
            rintro e u5 ⟨rfl, rfl⟩
            refine hK _ _ (DC.out _ OH.out) ?_
            clear hK K'
            refine stretch (fuel := 3) (by kernel_rfl) (fun _ _ _ _ _ h => h) (DC.out _ OH.out) [28, 29, 30, 31, 32, 33, 35, 36, 37, 38, 39, 40] (by kernel_rfl) ?_
            simp only [List.filterMap_cons, List.filterMap_nil, List.getElem?_toArray, List.getElem?_cons_zero, List.getElem?_cons_succ]
            show wpQuiet _ _ _ _ [_, _, _, _, _, _, _, _, _, _, _, _] _
            repeat (go_big_quiet_step (fail))
            refine wpQuiet_nil ?_
            refine wpAnyJ_writer (i := 34) rfl (by kernel_rfl) (fun K' hK => ?_)
            go_simp
            refine (swpFreed _ m7 4 1 (pg7 : Int) (d7 + 1) mk' al' hmkb halb (Own.boAt OH.out) fr7 HFR.out).mono ?_
            rintro e u6 ⟨rfl, b6⟩
            have OI := hide (OH.out.below (Loc.bo.sep (Loc.bo.sep (Loc.logR.sep (lSd s' s')))) b6)
            refine hK _ _ (DC.out _ OI.out) ?_
            clear hK K' OH b6
            refine stretch (fuel := 0) (by kernel_rfl) (fun _ _ _ _ _ h => h) (DC.out _ OI.out) [41, 42] (by kernel_rfl) ?_
            simp only [List.filterMap_cons, List.filterMap_nil, List.getElem?_toArray, List.getElem?_cons_zero, List.getElem?_cons_succ]
            show wpQuiet _ _ _ _ [_, _] _
            repeat (go_big_quiet_step (fail))
            refine wpQuiet_nil ?_
            refine wpAnyJ_done (by kernel_rfl) ?_
            have q9 : u6.cell? ⟨g9, t, none⟩ = some (.pointer (some ⟨b7, 0, none⟩)) := (DC.out _ OI.out).1.2
            have q15 : u6.cell? ⟨b7, 15, none⟩ = some (.bool ok7) := (DC.out _ OI.out).2.1
            clear hne U8 U9 U15 U27 DC JC JO
            cases ok7 with
            | true =>
              have o9 := OI.out.drop.drop.drop.cast (R' := Sep (BO g9 (.cells (rowN 2 rv1) 55 (0, 0))) (Sep (BO g8 (.cells (rowN 2 ov1) 53 (0, 0))) (Sep (Many (upd (mach7 S) t Nought) 2) (ArenaS q p r a p' r' s' s' rl (Sep (BO bs SO) Nought))))) (by unfold SideS; ac_rfl)
              have f9 : ∀ o, u6.frozen? ⟨g9, o, none⟩ = false := fun o => frozen_of_heap (Own.boAt o9)
              have o10 := Own.boSet (Loc.bo.sep ((Loc.rest Loc.mach7 t 2).sep (Loc.arenaS lB))) o9 t (.pointer none)
              rw [rowN_set] at o10
              have O11 : Hid (Own (GameS g8 g9 q p r a p' r' s' rl ov1 (upd S t .off) (Sep (BO bs SO) Nought)) w (u6.setCell ⟨g9, t, none⟩ (.pointer none))) := hide (o10.cast (by
                rw [← GameS.turn htn .off, ← HRV.out .off]
                unfold SideS
                show _ = Sep Nought _
                rw [Sep.nought]
                show Sep (BO g9 (.cells (rowN 2 (upd rv1 t (.pointer none))) _ (0, 0))) _ = _
                ac_rfl))
              clear o9 o10 OI
              go_wp2
              go_roundw
              case rel => exact ⟨i + 1, s', ov1, upd S t .off, by go_num, by omega, ⟨HW'.out, FitS.turn HOTH.out .off ⟨_, H8.out⟩, O11.out⟩⟩
              case measure => simp [intOf]; omega
            | false =>
              have hd3 : d7 ≠ 3 := by have := HOK.out; simpa using this
              have O11 : Hid (Own (GameS g8 g9 q p r a p' r' s' rl ov1 (upd S t (.on ⟨m7, b7, pg7, d7 + 1, mk', al', v', l'⟩)) (Sep (BO bs SO) Nought)) w u6) := hide (OI.out.cast (by
                rw [← GameS.turn htn (.on ⟨m7, b7, pg7, d7 + 1, mk', al', v', l'⟩), ← HRV.out (.on ⟨m7, b7, pg7, d7 + 1, mk', al', v', l'⟩)]
                rw [show upd rv1 t (SL.ref (.on ⟨m7, b7, pg7, d7 + 1, mk', al', v', l'⟩)) = rv1 from by rw [show SL.ref (.on ⟨m7, b7, pg7, d7 + 1, mk', al', v', l'⟩) = rv1 t from H9.out.symm]; exact upd_id _ _]
                show _ = Sep (Sep (BO m7 (swpO 4 1 (pg7 : Int) ((d7 + 1 : Nat) : Int) mk' al')) (Sep (BO b7 (mObj (kSwp 4 1 pg7) v')) (LogR v'.log l'))) _
                ac_rfl))
              clear OI
              go_wp2
              go_roundw
              case rel => exact ⟨i + 1, s', ov1, upd S t (.on ⟨m7, b7, pg7, d7 + 1, mk', al', v', l'⟩), by go_num, by omega, ⟨HW'.out, FitS.turn HOTH.out _ ⟨⟨hpg7, by show d7 + 1 < 4; omega, hmkb, halb, HLG.out, HDN.out⟩, H8.out⟩, O11.out⟩⟩
              case measure => simp [intOf]; omega
    · have hlt' := hlt
      clear hlt
      have O8 := hide (O.out.cast (R' := Sep (AX q 4 1 p r s 4 [] 1 rl) (Sep (MX a 4 1 p' r' s 4 [] 1 rl) (Sep (BO g8 (.cells (rowN 2 ov) 53 (0, 0))) (Sep (BO g9 (.cells (rowN 2 (refs7 S)) 55 (0, 0))) (Sep (Many (mach7 S) 2) (Sep (BO bs SO) Nought)))))) (by unfold GameS ArenaS; ac_rfl))
      have lX : Loc (Sep (BO g8 (.cells (rowN 2 ov) 53 (0, 0))) (Sep (BO g9 (.cells (rowN 2 (refs7 S)) 55 (0, 0))) (Sep (Many (mach7 S) 2) (Sep (BO bs SO) Nought)))) := Loc.bo.sep (Loc.bo.sep ((Loc.many Loc.mach7 2).sep lB))
      have PSM := hide (plSame lX O8.out HF.out (by rw [HWD.out]; exact HWL.out.2))
      clear O O8
      by_cases hl1 : i < len
      · have hl2' : ¬ i < 200 := fun h => hlt' ⟨hl1, h⟩
        clear hlt'
        go_wp2_with fail
        refine PSM.out.mono ?_
        rintro e w10 ⟨rfl, o10⟩
        have HB10 := hide o10.back
        clear o10 PSM
        go_wp2_with fail
        refine (HAW.out _).mono ?_
        rintro e w11 ⟨rfl, b11⟩
        have HB11 := hide (HB10.out.trans (b11.mono HB10.out.size))
        go_wp2
        go_ret
        exact ⟨rfl, HB11.out⟩
      · clear hlt'
        go_wp2_with fail
        refine PSM.out.mono ?_
        rintro e w10 ⟨rfl, o10⟩
        have HB10 := hide o10.back
        clear o10 PSM
        go_wp2_with fail
        refine (HAW.out _).mono ?_
        rintro e w11 ⟨rfl, b11⟩
        have HB11 := hide (HB10.out.trans (b11.mono HB10.out.size))
        go_wp2
        go_ret
        exact ⟨rfl, HB11.out⟩

theorem walk (ao : Option Addr) (len cap : Nat) (_hlc : len ≤ cap) (_hcm : cap ≤ maxLen) (ao2 : Option Addr) (len2 cap2 : Nat) (hlc2 : len2 ≤ cap2) (hcm2 : cap2 ≤ maxLen) (_t1 _t2 : True) (w : World) (hB : BytesIn w ao len) (hB2 : WordsAll w ao2 len2) :
    Calls Tryz.prog 4 #[.slice ao len cap, .slice ao2 len2 cap2] w fun e w' => e = .returned (.bool true) ∧ Below w.heap.size w w' :=
  main ao len cap ao2 len2 cap2 (by unfold maxLen at hcm2; omega) w hB hB2

set_option maxRecDepth 100000 in
theorem lifted (os : Os) (started : os.Started) (H : Type) (enc : TypeId × Value → H) :
    ReturnsInHanded {} Tryz.checked os 4 .any (Rows.sweepRunsSpec.pre6 enc Tryz.prog Tryz.f4 Rows.sweepRunsRow.domain false) (Rows.sweepRunsSpec.post enc Tryz.prog Tryz.f4 false true false false) := by
  refine returnsInHanded_of_change (C := Tryz.checked) own started (by kernel_rfl) Tryz.func4
    (ChangeSpec.witness6 (enc := enc) (C := Tryz.checked) false ⟨#[], #[.slice none 0 0, .slice none 0 0], []⟩ 8 (by kernel_rfl) (by kernel_rfl) (by kernel_rfl) (by kernel_rfl)) ?_
  intro W base args ds gs before hval0 hW _ _
  have hval : ∀ (j : Nat) t v, Tryz.f4.params[j]? = some t → args[j]? = some v → Value.okWide Tryz.prog W .any base t v := hval0
  have hW' := hW
  obtain ⟨p, q, hA0, hV, rfl, hfz, hnd⟩ := hW
  have hA : DataW.TrodAll enc Tryz.prog W 0 (fun _ => true) true Tryz.f4.params.toList args.toList ds p := hA0
  rw [Tryz.params4] at hA hval
  obtain ⟨v0, vs0, d0, ds0, p0, q0, hargs, rfl, rfl, h0, r0⟩ := trodAll_cons hA
  obtain ⟨v1, vs1, d1, ds1, p1, q1, rfl, rfl, rfl, h1, r1⟩ := trodAll_cons r0
  obtain ⟨rfl, rfl, rfl⟩ := trodAll_nil r1
  obtain rfl : args = #[v0, v1] := by cases args; simp_all
  obtain ⟨rfl, rfl⟩ := trodVars_none hV
  have h0k := h0
  have lt0 : ∀ x ∈ p0, x.block < W.heap.size := fun x hx => hW'.lt x (by simp [hx])
  obtain ⟨l0_0, l0_1, l0_2, rfl, f0_0, f0_1, f0_2⟩ := open_bytes (hval 0 22 v0 rfl rfl) h0
  have h1k := h1
  have lt1 : ∀ x ∈ p1, x.block < W.heap.size := fun x hx => hW'.lt x (by simp [hx])
  obtain ⟨l1_0, l1_1, l1_2, rfl, f1_0, f1_1, f1_2, f1_3, f1_4⟩ := open_words (hval 1 46 v1 rfl rfl) h1
  clear hA0 hval0
  refine (walk l0_0 l0_1 l0_2 f0_0 f0_1 l1_0 l1_1 l1_2 f1_0 f1_1 f1_2 f1_3 W f0_2 f1_4).mono fun e W' ⟨he, bel⟩ => ?_
  subst he
  exact ⟨_, rfl, _, _, _, [], _, [], hW', trodAll_mk1 (shut_bool Tryz.underlying4 _), (trodAll_cons_mk (Below.trod laidOut (by kernel_rfl) (of_decide_eq_true (by kernel_rfl)) h0k bel lt0) (trodAll_cons_mk (Below.trod laidOut (by kernel_rfl) (of_decide_eq_true (by kernel_rfl)) h1k bel lt1) trodAll_mk0)), rfl, bel.frame _, fun h => by cases h⟩

end Go.Proofs.YtafamfjgehnddaaGreat.sweepRuns
namespace Go.Proofs.YtafamfjgehnddaaGreat

theorem sweepRuns_holds : Rows.SweepRunsSaid :=
  OpenClaim.holds_of_wide 4 Tryz.f4 rfl rfl rfl rfl rfl rfl rfl ⟨rfl, rfl, rfl, rfl, rfl⟩ rfl rfl rfl rfl rfl (by kernel_rfl) Tryz.func4 (by kernel_rfl)
    (of_decide_eq_true (by kernel_rfl)) (by unfold Func.isWrapper; first | (rw [if_pos (by decide +kernel)]; kernel_rfl) | (rw [if_neg (by decide +kernel)]; exact ⟨rfl, rfl⟩))
    (fun os started H enc _ => sweepRuns.lifted os started H enc)
end Go.Proofs.YtafamfjgehnddaaGreat
