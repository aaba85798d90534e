/- Whoever takes and leaves a lock, in whatever order: each step, whether it is done, who has it, and all words, are the document's: the law LockRuns answers true at every input, and its arguments read behind the call as they read before. -/
import Derived.Test.YtgenkjmcddjaoaaGreatDM
namespace Go.Proofs.YtgenkjmcddjaoaaGreat.lockRuns
open Go.ChangeShapes Go.WideShapes Go.ChangeAt Go.RowKit

theorem buildL (P T t : Int) (u : World) : (Instr.build 66 #[(0, .int .i64 4), (1, .agg #[.int .i64 P, .int .i64 T]), (2, .int .i64 t)]).run Tryz.prog u = .ok (.agg #[.int .i64 4, .int .i64 P, .int .i64 T, .int .i64 t, .int .i64 0, .int .i64 0, .int .i64 0, .int .i64 0, .int .i64 0, .int .i64 0, .int .i64 0, .int .u64 0, .bool false, .slice none 0 0, .slice none 0 0, .bool false, .int .i64 0, .bool false, .pointer none, .int .i64 0, .int .i64 0, .int .u64 0, .int .u64 0, .int .i64 0, .int .i64 0, .int .i64 0, .int .i64 0, .int .u64 0, .slice none 0 0, .slice none 0 0, .int .i64 0, .int .i64 0]) u := run_build u _ _ _ (by kernel_rfl)
theorem bytesKept {w w' : World} {ao : Option Addr} {len : Nat} (h : BytesIn w ao len) (b : Below w.heap.size w w') : BytesIn w' ao len := fun k hk => by
  obtain ⟨c, o, x, e, hc⟩ := h k hk
  exact ⟨c, o, x, e, hc.kept b hc.lt⟩
/-- The threads' machines, their rows. -/
def Fit (n i : Nat) (tv tl : Nat → Value) (S : Nat → LS) : Prop := ∀ j, j < n → (S j).ok i (tv j) (tl j)
theorem Fit.turn {n i t : Nat} {tv1 tl1 : Nat → Value} {S : Nat → LS} (h : ∀ j, j < n → j ≠ t → (S j).ok i (tv1 j) (tl1 j)) (x : LS) (hx : x.ok (i + 1) (tv1 t) (tl1 t)) : Fit n (i + 1) tv1 tl1 (upd S t x) := fun j hj => by
  by_cases e : j = t
  · subst e; rw [upd_at]; exact hx
  · rw [upd_ne _ _ e]; exact (h j hj e).mono (by omega)
/-- The words on the way. -/
structure Wds (n wl : Nat) (s : St) : Prop where
  len : s.words.length = wl
  at_ : s.words.getD 2 0 ≤ n
theorem Wds.cas {n wl t : Nat} {s : St} (h : Wds n wl s) (h2 : 2 < wl) (ht : t < n) : Wds n wl (s.cas 2 0 (t + 1)) := by
  have h1 := h.at_
  refine ⟨(lk_cas_len s _).trans h.len, ?_⟩
  rw [lk_cas_at s _ (by rw [h.len]; exact h2)]
  split <;> omega
theorem Wds.put {n wl : Nat} {s : St} (h : Wds n wl s) (h2 : 2 < wl) : Wds n wl (s.put 2 0) :=
  ⟨(lk_put_len s).trans h.len, by rw [lk_put_at s (by rw [h.len]; exact h2)]; omega⟩
theorem bytesKept2 {w w' : World} {ao : Option Addr} {len : Nat} (h : BytesIn w ao len) (b : Below w.heap.size w w') : BytesIn w' ao len := bytesKept h b

set_option maxRecDepth 100000 in
set_option maxHeartbeats 64000000 in
theorem main (x0 y0 pg n : Nat) (hx0 : x0 < 256) (hy0 : y0 < 256) (hpg : x0 % 20 + 1 = pg) (hn : y0 % 6 + 1 = n) (ao : Option Addr) (len cap : Nat) (ao2 : Option Addr) (len2 cap2 : Nat) (w : World) (hB : BytesIn w ao len) (hB2 : BytesIn w ao2 len2) :
    Calls Tryz.prog 4 #[.int .u8 (x0 : Int), .int .u8 (y0 : Int), .slice ao len cap, .slice ao2 len2 cap2] w fun e w' => e = .returned (.bool true) ∧ Below w.heap.size w w' := by
  have p1 : 1 ≤ pg ∧ pg ≤ 20 := by omega
  have n1 : 1 ≤ n ∧ n ≤ 6 := by omega
  have hm : Lay.may (pg : Int) (n : Int) = true := Lay.may_iff.2 (by omega)
  have PS := plSetup20 x0 y0 hx0 hy0
  rw [hpg, hn] at PS
  have PA := fun (R : Res) (w0 u : World) (l : Loc R) (h : Own R w0 u) => plArenas l h pg (n : Int) hm
  obtain ⟨wl, hwl, wl1, wl2⟩ := Lay.words_nat hm
  have hwb := Lay.words_bd hm
  rw [hwl, Int.toNat_natCast] at PA
  have hs0 : Wds n wl (St.first wl) := ⟨St.first_len wl, by rw [St.first_last wl 2 (by omega)]; omega⟩
  have hF : Fine pg [] 1 [(kOf 0 pg, ([] : List Nat).getD 0 0, ())] := (Fit.new (d := ([] : List Nat).getD 0 0) (by omega) (by omega) (by simp)).fine (by omega)
  generalize St.first wl = s0 at *
  generalize ([(kOf 0 pg, ([] : List Nat).getD 0 0, ())] : RL) = rl at *
  have HPS := hide PS
  have HPA := hide PA
  have HWD0 := hide hs0
  have HF := hide hF
  have HWL : Hid (2 < wl ∧ wl ≤ 65536) := hide ⟨by omega, wl2⟩
  have HKB := hide hB
  have HPB := hide hB2
  have HNT := hide (fun (t : Nat) (ht : t < n) (u : World) => newTakeYes (pg : Int) (n : Int) (t : Int) (by unfold mayTake; rw [hm]; simp; omega) u)
  have HNL := hide (fun (u : World) => newLeaveYes (pg : Int) (n : Int) hm u)
  have HAW := hide (fun (u : World) => awake13 u)
  obtain ⟨i0, hi, hz0, hz1, hz2⟩ := info_parts infoTakeP
  obtain ⟨i1, hi1, hy0', hy1, hy2⟩ := info_parts infoLeaveP
  obtain ⟨i2, hi2, hx0', hx1, hx2⟩ := info_parts infoMP
  clear PS PA hs0 hF hm hwl hwb wl1 wl2 hB hB2 hpg hn
  go_enter Tryz.func4, Tryz.ntmps4
  go_wp2_with fail
  refine (HPS.out _).mono ?_
  rintro e w1 ⟨rfl, b1⟩
  obtain ⟨SO, hSO⟩ : ∃ SO : Obj, SO = .cells #[.int .i64 (pg : Int), .int .i64 (n : Int), .slice none 0 0] 48 (0, 0) := ⟨_, rfl⟩
  have HSO' := hide hSO
  have O1 : Hid (Own (Sep (BO w1.heap.size SO) Nought) w (w1.alloc (.cells #[.int .i64 (pg : Int), .int .i64 (n : Int), .slice none 0 0] 48))) := hide (Own.boNew Loc.nought ((Own.start w).below Loc.nought b1) (by rw [hSO]; exact heap_alloc_at _ _) (Nat.le_refl _) (grown1 _ _))
  clear hSO b1 HPS
  go_wp2_with fail
  generalize w1.alloc (.cells #[.int .i64 (pg : Int), .int .i64 (n : Int), .slice none 0 0] 48) = w2 at *
  generalize w1.heap.size = bs at *
  have lB : Loc (Sep (BO bs SO) Nought) := Loc.bo.sep Loc.nought
  refine (HPA.out _ _ _ lB O1.out).mono ?_
  rintro e w3 ⟨q, p, r, a, p', r', rfl, o3⟩
  have O3 := hide o3
  have hbs : ∀ {R' : Res} {u : World} {R : Res}, Own R' w u → R' = Sep (BO bs SO) R → Cel bs 1 (.int .i64 (n : Int)) u := fun h e => by
    have := h.has e
    rw [HSO'.out] at this
    exact cell_of_heap this
  have HBS : Hid (∀ {R' : Res} {u : World} {R : Res}, Own R' w u → R' = Sep (BO bs SO) R → Cel bs 1 (.int .i64 (n : Int)) u) := hide hbs
  clear o3 O1 HPA hbs
  go_upto_region 5 with fail
  go_cut [12, 13] from 30 (fun r12 r13 wc => ∃ gT gL, r12 = .slice (some ⟨gT, 0, none⟩) n n ∧ r13 = .slice (some ⟨gL, 0, none⟩) n n ∧ Hid (Own (Sep (BO gT (.cells (rowN n (fun _ => .pointer none)) 67 (0, 0))) (Sep (BO gL (.cells (rowN n (fun _ => .pointer none)) 68 (0, 0))) (Sep (AX q (pg : Int) (n : Int) p r s0 pg [] 1 rl) (Sep (MX a (pg : Int) (n : Int) p' r' s0 pg [] 1 rl) (Sep (BO bs SO) Nought))))) w wc))
  case first =>
    have lAM : Loc (Sep (AX q (pg : Int) (n : Int) p r s0 pg [] 1 rl) (Sep (MX a (pg : Int) (n : Int) p' r' s0 pg [] 1 rl) (Sep (BO bs SO) Nought))) := Loc.ax.sep (Loc.mx.sep lB)
    have O4 : Hid (Own (Sep (AX q (pg : Int) (n : Int) p r s0 pg [] 1 rl) (Sep (MX a (pg : Int) (n : Int) p' r' s0 pg [] 1 rl) (Sep (BO bs SO) Nought))) w w3.drew) := hide (O3.out.below lAM ((Alike.drewN w3 1).below _))
    have J4 : Hid (Cel bs 1 (.int .i64 (n : Int)) w3.drew) := hide (HBS.out O4.out (R := Sep (AX q (pg : Int) (n : Int) p r s0 pg [] 1 rl) (Sep (MX a (pg : Int) (n : Int) p' r' s0 pg [] 1 rl) Nought)) (by ac_rfl))
    have hne : Nonempty (Mem (Cel bs 1 (.int .i64 (n : Int)))) := ⟨⟨_, J4.out⟩⟩
    have US : ∀ u : Mem (Cel bs 1 (.int .i64 (n : Int))), u.w'.cell? ⟨bs, 1, none⟩ = some (.int .i64 (n : Int)) := fun u => u.h
    refine region_start (J := Cel bs 1 (.int .i64 (n : Int))) (by kernel_rfl) ?_
    refine stretch (fuel := 4) (by kernel_rfl) (fun _ _ _ _ _ h => h) J4.out [0, 1, 3, 4] (by kernel_rfl) ?_
    simp only [List.filterMap_cons, List.filterMap_nil, List.getElem?_toArray, List.getElem?_cons_zero, List.getElem?_cons_succ]
    show wpQuiet _ _ _ _ [_, _, _, _] _
    repeat (go_big_quiet_step (fail))
    refine wpQuiet_nil ?_
    refine wpAnyJ_two (i := 2) (j := 5) rfl rfl (by kernel_rfl) (fun K hK => ?_) (fun K hK => ?_)
    · rw [if_pos (show Region.wanted _ _ = true from rfl)]
      refine oper_make _ _ _ 52 rfl w3.drew.heap.size 67 i0 (.pointer none) 1 Tryz.underlying52 hi hz0 hz1 .i64 .i64 n rfl rfl (by rw [hz2]; omega) (by unfold maxLen; omega) (Nat.le_refl _) ?_
      intro w4 hown hgrow
      have o5 := Own.rowMade lAM O4.out rfl hown hgrow
      have J5 : Hid (Cel bs 1 (.int .i64 (n : Int)) w4) := hide (HBS.out o5 (R := Sep (BO w3.drew.heap.size (.cells (rowN n (fun _ => .pointer none)) 67 (0, 0))) (Sep (AX q (pg : Int) (n : Int) p r s0 pg [] 1 rl) (Sep (MX a (pg : Int) (n : Int) p' r' s0 pg [] 1 rl) Nought))) (by ac_rfl))
      have O5 := hide o5
      clear o5 hown hgrow O4
      generalize w3.drew.heap.size = g1 at *
      refine hK _ _ J5.out ?_
      clear hK K
      simp only [Act.put, List.getElem_toArray, List.getElem_cons_succ, List.getElem_cons_zero, List.setIfInBounds_toArray, List.set_cons_succ, List.set_cons_zero]
      refine stretch (fuel := 2) (by kernel_rfl) (fun _ _ _ _ _ h => h) J5.out [6] (by kernel_rfl) ?_
      simp only [List.filterMap_cons, List.filterMap_nil, List.getElem?_toArray, List.getElem?_cons_zero, List.getElem?_cons_succ]
      show wpQuiet _ _ _ _ [_] _
      repeat (go_big_quiet_step (fail))
      refine wpQuiet_nil ?_
      refine wpAnyJ_writer (i := 5) rfl (by kernel_rfl) (fun K hK => ?_)
      rw [if_pos (show Region.wanted _ _ = true from rfl)]
      refine oper_make _ _ _ 53 rfl w4.heap.size 68 i1 (.pointer none) 1 Tryz.underlying53 hi1 hy0' hy1 .i64 .i64 n rfl rfl (by rw [hy2]; omega) (by unfold maxLen; omega) (Nat.le_refl _) ?_
      intro w5 hown hgrow
      have o6 := Own.rowMade (Loc.bo.sep lAM) O5.out rfl hown hgrow
      have J6 : Hid (Cel bs 1 (.int .i64 (n : Int)) w5) := hide (HBS.out o6 (R := Sep (BO w4.heap.size (.cells (rowN n (fun _ => .pointer none)) 68 (0, 0))) (Sep (BO g1 (.cells (rowN n (fun _ => .pointer none)) 67 (0, 0))) (Sep (AX q (pg : Int) (n : Int) p r s0 pg [] 1 rl) (Sep (MX a (pg : Int) (n : Int) p' r' s0 pg [] 1 rl) Nought)))) (by ac_rfl))
      have O6 := hide o6
      clear o6 hown hgrow O5
      generalize w4.heap.size = g2 at *
      refine hK _ _ J6.out ?_
      clear hK K
      simp only [Act.put, List.getElem_toArray, List.getElem_cons_succ, List.getElem_cons_zero, List.setIfInBounds_toArray, List.set_cons_succ, List.set_cons_zero]
      refine stretch (fuel := 0) (by kernel_rfl) (fun _ _ _ _ _ h => h) J6.out [7] (by kernel_rfl) ?_
      simp only [List.filterMap_cons, List.filterMap_nil, List.getElem?_toArray, List.getElem?_cons_zero, List.getElem?_cons_succ]
      show wpQuiet _ _ _ _ [_] _
      repeat (go_big_quiet_step (fail))
      refine wpQuiet_nil ?_
      refine wpAnyJ_done (by kernel_rfl) ?_
      go_wp2
      go_meet
      exact ⟨g1, g2, rfl, rfl, O6.out.cast (by ac_rfl)⟩
    · rw [if_pos (show Region.wanted _ _ = true from rfl)]
      refine oper_make _ _ _ 53 rfl w3.drew.heap.size 68 i1 (.pointer none) 1 Tryz.underlying53 hi1 hy0' hy1 .i64 .i64 n rfl rfl (by rw [hy2]; omega) (by unfold maxLen; omega) (Nat.le_refl _) ?_
      intro w4 hown hgrow
      have o5 := Own.rowMade lAM O4.out rfl hown hgrow
      have J5 : Hid (Cel bs 1 (.int .i64 (n : Int)) w4) := hide (HBS.out o5 (R := Sep (BO w3.drew.heap.size (.cells (rowN n (fun _ => .pointer none)) 68 (0, 0))) (Sep (AX q (pg : Int) (n : Int) p r s0 pg [] 1 rl) (Sep (MX a (pg : Int) (n : Int) p' r' s0 pg [] 1 rl) Nought))) (by ac_rfl))
      have O5 := hide o5
      clear o5 hown hgrow O4
      generalize w3.drew.heap.size = g1 at *
      refine hK _ _ J5.out ?_
      clear hK K
      simp only [Act.put, List.getElem_toArray, List.getElem_cons_succ, List.getElem_cons_zero, List.setIfInBounds_toArray, List.set_cons_succ, List.set_cons_zero]
      refine wpAnyJ_writer (i := 2) rfl (by kernel_rfl) (fun K hK => ?_)
      rw [if_pos (show Region.wanted _ _ = true from rfl)]
      refine oper_make _ _ _ 52 rfl w4.heap.size 67 i0 (.pointer none) 1 Tryz.underlying52 hi hz0 hz1 .i64 .i64 n rfl rfl (by rw [hz2]; omega) (by unfold maxLen; omega) (Nat.le_refl _) ?_
      intro w5 hown hgrow
      have o6 := Own.rowMade (Loc.bo.sep lAM) O5.out rfl hown hgrow
      have J6 : Hid (Cel bs 1 (.int .i64 (n : Int)) w5) := hide (HBS.out o6 (R := Sep (BO w4.heap.size (.cells (rowN n (fun _ => .pointer none)) 67 (0, 0))) (Sep (BO g1 (.cells (rowN n (fun _ => .pointer none)) 68 (0, 0))) (Sep (AX q (pg : Int) (n : Int) p r s0 pg [] 1 rl) (Sep (MX a (pg : Int) (n : Int) p' r' s0 pg [] 1 rl) Nought)))) (by ac_rfl))
      have O6 := hide o6
      clear o6 hown hgrow O5
      generalize w4.heap.size = g2 at *
      refine hK _ _ J6.out ?_
      clear hK K
      simp only [Act.put, List.getElem_toArray, List.getElem_cons_succ, List.getElem_cons_zero, List.setIfInBounds_toArray, List.set_cons_succ, List.set_cons_zero]
      refine stretch (fuel := 0) (by kernel_rfl) (fun _ _ _ _ _ h => h) J6.out [6, 7] (by kernel_rfl) ?_
      simp only [List.filterMap_cons, List.filterMap_nil, List.getElem?_toArray, List.getElem?_cons_zero, List.getElem?_cons_succ]
      show wpQuiet _ _ _ _ [_, _] _
      repeat (go_big_quiet_step (fail))
      refine wpQuiet_nil ?_
      refine wpAnyJ_done (by kernel_rfl) ?_
      go_wp2
      go_meet
      exact ⟨g2, g1, rfl, rfl, O6.out.cast (by ac_rfl)⟩
  case rest =>
    obtain ⟨gT, gL, rfl, rfl, O5⟩ := hcut
    have c5 : wc.cell? ⟨bs, 1, none⟩ = some (.int .i64 (n : Int)) := HBS.out O5.out (R := Sep (BO gT (.cells (rowN n (fun _ => .pointer none)) 67 (0, 0))) (Sep (BO gL (.cells (rowN n (fun _ => .pointer none)) 68 (0, 0))) (Sep (AX q (pg : Int) (n : Int) p r s0 pg [] 1 rl) (Sep (MX a (pg : Int) (n : Int) p' r' s0 pg [] 1 rl) Nought)))) (by ac_rfl)
    have l5 : Loc (Sep (BO gT (.cells (rowN n (fun _ => .pointer none)) 67 (0, 0))) (Sep (BO gL (.cells (rowN n (fun _ => .pointer none)) 68 (0, 0))) (Sep (AX q (pg : Int) (n : Int) p r s0 pg [] 1 rl) (Sep (MX a (pg : Int) (n : Int) p' r' s0 pg [] 1 rl) (Sep (BO bs SO) Nought))))) := Loc.bo.sep (Loc.bo.sep (Loc.ax.sep (Loc.mx.sep lB)))
    go_wp2_with (at_make; refine wpList_make_full _ rfl _ _ 54 rfl wc.heap.size 55 i2 (.pointer none) 1 Tryz.underlying54 hi2 hx0' hx1 .i64 .i64 _ _ n rfl rfl rfl rfl (by rw [hx2]; omega) (by unfold maxLen; omega) (Nat.le_refl _) ?_; intro w6 hown hgrow; have O6 := hide (Own.rowMade l5 O5.out rfl hown hgrow); clear hown hgrow O5 l5 c5; generalize wc.heap.size = gR at *)
    have O7 : Hid (Own (GameR gT gL gR q p r a p' r' pg n s0 rl (fun _ => .pointer none) (fun _ => .pointer none) (fun _ => .off) (Sep (BO bs SO) Nought)) w w6) := hide (O6.out.cast (by rw [GameR.start]; ac_rfl))
    clear O6
    go_loopw [15] (fun v15 wr => ∃ (i : Nat) (s : St) (tv tl : Nat → Value) (S : Nat → LS), v15 = .int .i64 (i : Int) ∧ i ≤ len ∧ Hid (Wds n wl s ∧ Fit n i tv tl S ∧ Own (GameR gT gL gR q p r a p' r' pg n s rl tv tl S (Sep (BO bs SO) Nought)) w wr)) (fun v15 _ => len - (intOf v15).toNat)
    case atStart => exact ⟨0, s0, fun _ => .pointer none, fun _ => .pointer none, fun _ => .off, rfl, by omega, ⟨HWD0.out, fun j hj => ⟨⟨none, rfl⟩, ⟨none, rfl⟩⟩, O7.out⟩⟩
    case round =>
      obtain ⟨i, s, tv, tl, S, rfl, hil, hH⟩ := hrel
      obtain ⟨hwd, hfit, ho⟩ := hH.out
      have HWD := hide hwd
      have O := hide ho
      clear hH hwd ho O7 HWD0
      by_cases hlt : i < len ∧ i < 300
      · obtain ⟨hl1, hl2⟩ := hlt
        obtain ⟨kb, ko, y, rfl, hkc⟩ := HKB.out i hl1
        have hy := hkc.hx
        have HKC := hide hkc
        clear hkc
        have c1 : wr.cell? ⟨bs, 1, none⟩ = some (.int .i64 (n : Int)) := HBS.out O.out (R := GameR gT gL gR q p r a p' r' pg n s rl tv tl S Nought) (by unfold GameR; ac_rfl)
        have HPW := hide (bytesKept2 HPB.out O.out.back)
        go_wp2_with fail
        refine (plWho wr ao2 len2 cap2 HPW.out i n (by omega) (by omega) (by omega)).mono ?_
        rintro e wr ⟨⟨t, htn, rfl⟩, rfl⟩
        clear HPW c1
        have GRC : Hid (wr.cell? ⟨gR, t, none⟩ = some (refsV S t)) := hide ((cell_of_heap (O.out.has (m := gR) (o := .cells (rowN n (refsV S)) 55 (0, 0)) (R := Sep (BO gT (.cells (rowN n tv) 67 (0, 0))) (Sep (BO gL (.cells (rowN n tl) 68 (0, 0))) (Sep (AX q (pg : Int) (n : Int) p r s pg [] 1 rl) (Sep (MX a (pg : Int) (n : Int) p' r' s pg [] 1 rl) (Sep (Many (machR (pg : Int) (n : Int) S) n) (Sep (BO bs SO) Nought))))))  (by unfold GameR; ac_rfl))).trans (rowN_get _ htn))
        cases hst : S t with
        | off =>
          have HRO : Hid (refsV S t = .pointer none) := hide (by unfold refsV; rw [hst]; rfl)
          have HSO := hide hst
          obtain ⟨⟨pa, hpa⟩, ⟨pb, hpb⟩⟩ : (∃ pa, tv t = .pointer pa) ∧ ∃ pb, tl t = .pointer pb := by have := hfit t htn; rw [hst] at this; exact this
          have HPA' := hide hpa
          have HPB' := hide hpb
          clear hpa hpb
          have HFIT := hide hfit
          have gRt : wr.cell? ⟨gR, t, none⟩ = some (.pointer none) := GRC.out.trans (congrArg some HRO.out)
          have hq := O.out.mhead (m := a) (p := p') (r := r') (P := (pg : Int)) (T := (n : Int)) (R := Sep (BO gT (.cells (rowN n tv) 67 (0, 0))) (Sep (BO gL (.cells (rowN n tl) 68 (0, 0))) (Sep (BO gR (.cells (rowN n (refsV S)) 55 (0, 0))) (Sep (AX q (pg : Int) (n : Int) p r s pg [] 1 rl) (Sep (S2 p' s) (Sep (RX r' pg [] 1 rl) (Sep (Many (machR (pg : Int) (n : Int) S) n) (Sep (BO bs SO) Nought)))))))) (by unfold GameR MX; ac_rfl)
          have a2 : wr.cell? ⟨a, 2, none⟩ = some (.int .i64 (pg : Int)) := cell_of_heap hq
          have a3 : wr.cell? ⟨a, 3, none⟩ = some (.int .i64 (n : Int)) := cell_of_heap hq
          have bf := buildL (pg : Int) (n : Int) (t : Int)
          have hgx : Hid ((wr.alloc (.cells #[.int .i64 0, .int .i64 0, .int .i64 0, .int .i64 0, .int .i64 0, .int .i64 0, .int .i64 0, .int .i64 0, .int .i64 0, .int .i64 0, .int .i64 0, .int .u64 0, .bool false, .slice none 0 0, .slice none 0 0, .bool false, .int .i64 0, .bool false, .pointer none, .int .i64 0, .int .i64 0, .int .u64 0, .int .u64 0, .int .i64 0, .int .i64 0, .int .i64 0, .int .i64 0, .int .u64 0, .slice none 0 0, .slice none 0 0, .int .i64 0, .int .i64 0] 66)).heap[wr.heap.size]? = some (.cells #[.int .i64 0, .int .i64 0, .int .i64 0, .int .i64 0, .int .i64 0, .int .i64 0, .int .i64 0, .int .i64 0, .int .i64 0, .int .i64 0, .int .i64 0, .int .u64 0, .bool false, .slice none 0 0, .slice none 0 0, .bool false, .int .i64 0, .bool false, .pointer none, .int .i64 0, .int .i64 0, .int .u64 0, .int .u64 0, .int .i64 0, .int .i64 0, .int .i64 0, .int .i64 0, .int .u64 0, .slice none 0 0, .slice none 0 0, .int .i64 0, .int .i64 0] 66 (0, 0))) := hide (heap_alloc_last _ _)
          have hse : Hid ((wr.alloc (.cells #[.int .i64 0, .int .i64 0, .int .i64 0, .int .i64 0, .int .i64 0, .int .i64 0, .int .i64 0, .int .i64 0, .int .i64 0, .int .i64 0, .int .i64 0, .int .u64 0, .bool false, .slice none 0 0, .slice none 0 0, .bool false, .int .i64 0, .bool false, .pointer none, .int .i64 0, .int .i64 0, .int .u64 0, .int .u64 0, .int .i64 0, .int .i64 0, .int .i64 0, .int .i64 0, .int .u64 0, .slice none 0 0, .slice none 0 0, .int .i64 0, .int .i64 0] 66)).setRow wr.heap.size #[.int .i64 4, .int .i64 (pg : Int), .int .i64 (n : Int), .int .i64 (t : Int), .int .i64 0, .int .i64 0, .int .i64 0, .int .i64 0, .int .i64 0, .int .i64 0, .int .i64 0, .int .u64 0, .bool false, .slice none 0 0, .slice none 0 0, .bool false, .int .i64 0, .bool false, .pointer none, .int .i64 0, .int .i64 0, .int .u64 0, .int .u64 0, .int .i64 0, .int .i64 0, .int .i64 0, .int .i64 0, .int .u64 0, .slice none 0 0, .slice none 0 0, .int .i64 0, .int .i64 0] = wr.alloc (.cells #[.int .i64 4, .int .i64 (pg : Int), .int .i64 (n : Int), .int .i64 (t : Int), .int .i64 0, .int .i64 0, .int .i64 0, .int .i64 0, .int .i64 0, .int .i64 0, .int .i64 0, .int .u64 0, .bool false, .slice none 0 0, .slice none 0 0, .bool false, .int .i64 0, .bool false, .pointer none, .int .i64 0, .int .i64 0, .int .u64 0, .int .u64 0, .int .i64 0, .int .i64 0, .int .i64 0, .int .i64 0, .int .u64 0, .slice none 0 0, .slice none 0 0, .int .i64 0, .int .i64 0] 66)) := hide (World.setRow_alloc_new _ _ _ _)
          have OX := hide ((Own.boNew (Loc.game lB) O.out (heap_alloc_at wr (.cells #[.int .i64 4, .int .i64 (pg : Int), .int .i64 (n : Int), .int .i64 (t : Int), .int .i64 0, .int .i64 0, .int .i64 0, .int .i64 0, .int .i64 0, .int .i64 0, .int .i64 0, .int .u64 0, .bool false, .slice none 0 0, .slice none 0 0, .bool false, .int .i64 0, .bool false, .pointer none, .int .i64 0, .int .i64 0, .int .u64 0, .int .u64 0, .int .i64 0, .int .i64 0, .int .i64 0, .int .i64 0, .int .u64 0, .slice none 0 0, .slice none 0 0, .int .i64 0, .int .i64 0] 66)) (Nat.le_refl _) (grown1 _ _)).cast (R' := Sep (BO gT (.cells (rowN n tv) 67 (0, 0))) (Sep (BO wr.heap.size (.cells #[.int .i64 4, .int .i64 (pg : Int), .int .i64 (n : Int), .int .i64 (t : Int), .int .i64 0, .int .i64 0, .int .i64 0, .int .i64 0, .int .i64 0, .int .i64 0, .int .i64 0, .int .u64 0, .bool false, .slice none 0 0, .slice none 0 0, .bool false, .int .i64 0, .bool false, .pointer none, .int .i64 0, .int .i64 0, .int .u64 0, .int .u64 0, .int .i64 0, .int .i64 0, .int .i64 0, .int .i64 0, .int .u64 0, .slice none 0 0, .slice none 0 0, .int .i64 0, .int .i64 0] 66 (0, 0))) (Sep (BO gL (.cells (rowN n tl) 68 (0, 0))) (Sep (BO gR (.cells (rowN n (refsV S)) 55 (0, 0))) (Sep (AX q (pg : Int) (n : Int) p r s pg [] 1 rl) (Sep (MX a (pg : Int) (n : Int) p' r' s pg [] 1 rl) (Sep (Many (machR (pg : Int) (n : Int) S) n) (Sep (BO bs SO) Nought)))))))) (by unfold GameR; ac_rfl))
          clear hfit hst hq O GRC
          go_upto_region 13 with (first
            | fail
            | (refine wpList_store_row rfl 66 _ _ rfl _ _ rfl rfl _ _ hgx.out (by kernel_rfl) rfl (by kernel_rfl) ?_
               rw [hse.out]
               generalize wr.alloc (.cells #[.int .i64 4, .int .i64 (pg : Int), .int .i64 (n : Int), .int .i64 (t : Int), .int .i64 0, .int .i64 0, .int .i64 0, .int .i64 0, .int .i64 0, .int .i64 0, .int .i64 0, .int .u64 0, .bool false, .slice none 0 0, .slice none 0 0, .bool false, .int .i64 0, .bool false, .pointer none, .int .i64 0, .int .i64 0, .int .u64 0, .int .u64 0, .int .i64 0, .int .i64 0, .int .i64 0, .int .i64 0, .int .u64 0, .slice none 0 0, .slice none 0 0, .int .i64 0, .int .i64 0] 66) = wx at *
               generalize wr.heap.size = bx at *
               clear hgx hse bf gRt a2 a3))
          have t0 : wx.cell? ⟨gT, t, none⟩ = some (.pointer pa) := (cell_of_heap (Own.boAt OX.out)).trans ((rowN_get _ htn).trans (congrArg some HPA'.out))
          have tf : ∀ o, wx.frozen? ⟨gT, o, none⟩ = false := fun o => frozen_of_heap (Own.boAt OX.out)
          have lx : Loc (Sep (BO bx (.cells #[.int .i64 4, .int .i64 (pg : Int), .int .i64 (n : Int), .int .i64 (t : Int), .int .i64 0, .int .i64 0, .int .i64 0, .int .i64 0, .int .i64 0, .int .i64 0, .int .i64 0, .int .u64 0, .bool false, .slice none 0 0, .slice none 0 0, .bool false, .int .i64 0, .bool false, .pointer none, .int .i64 0, .int .i64 0, .int .u64 0, .int .u64 0, .int .i64 0, .int .i64 0, .int .i64 0, .int .i64 0, .int .u64 0, .slice none 0 0, .slice none 0 0, .int .i64 0, .int .i64 0] 66 (0, 0))) (Sep (BO gL (.cells (rowN n tl) 68 (0, 0))) (Sep (BO gR (.cells (rowN n (refsV S)) 55 (0, 0))) (Sep (AX q (pg : Int) (n : Int) p r s pg [] 1 rl) (Sep (MX a (pg : Int) (n : Int) p' r' s pg [] 1 rl) (Sep (Many (machR (pg : Int) (n : Int) S) n) (Sep (BO bs SO) Nought))))))) := Loc.bo.sep (Loc.bo.sep (Loc.bo.sep (Loc.ax.sep (Loc.mx.sep ((Loc.many Loc.mach n).sep lB)))))
          have ox1 := Own.boSet lx OX.out t (.pointer none)
          rw [rowN_set] at ox1
          have ox2 := ox1.cast (R' := Sep (BO gL (.cells (rowN n tl) 68 (0, 0))) (Sep (BO gT (.cells (rowN n (upd tv t (.pointer none))) 67 (0, 0))) (Sep (BO bx (.cells #[.int .i64 4, .int .i64 (pg : Int), .int .i64 (n : Int), .int .i64 (t : Int), .int .i64 0, .int .i64 0, .int .i64 0, .int .i64 0, .int .i64 0, .int .i64 0, .int .i64 0, .int .u64 0, .bool false, .slice none 0 0, .slice none 0 0, .bool false, .int .i64 0, .bool false, .pointer none, .int .i64 0, .int .i64 0, .int .u64 0, .int .u64 0, .int .i64 0, .int .i64 0, .int .i64 0, .int .i64 0, .int .u64 0, .slice none 0 0, .slice none 0 0, .int .i64 0, .int .i64 0] 66 (0, 0))) (Sep (BO gR (.cells (rowN n (refsV S)) 55 (0, 0))) (Sep (AX q (pg : Int) (n : Int) p r s pg [] 1 rl) (Sep (MX a (pg : Int) (n : Int) p' r' s pg [] 1 rl) (Sep (Many (machR (pg : Int) (n : Int) S) n) (Sep (BO bs SO) Nought)))))))) (by ac_rfl)
          have l0' : (wx.setCell ⟨gT, t, none⟩ (.pointer none)).cell? ⟨gL, t, none⟩ = some (.pointer pb) := (cell_of_heap (Own.boAt ox2)).trans ((rowN_get _ htn).trans (congrArg some HPB'.out))
          have lf : ∀ o, (wx.setCell ⟨gT, t, none⟩ (.pointer none)).frozen? ⟨gL, o, none⟩ = false := fun o => frozen_of_heap (Own.boAt ox2)
          have lx2 : Loc (Sep (BO gT (.cells (rowN n (upd tv t (.pointer none))) 67 (0, 0))) (Sep (BO bx (.cells #[.int .i64 4, .int .i64 (pg : Int), .int .i64 (n : Int), .int .i64 (t : Int), .int .i64 0, .int .i64 0, .int .i64 0, .int .i64 0, .int .i64 0, .int .i64 0, .int .i64 0, .int .u64 0, .bool false, .slice none 0 0, .slice none 0 0, .bool false, .int .i64 0, .bool false, .pointer none, .int .i64 0, .int .i64 0, .int .u64 0, .int .u64 0, .int .i64 0, .int .i64 0, .int .i64 0, .int .i64 0, .int .u64 0, .slice none 0 0, .slice none 0 0, .int .i64 0, .int .i64 0] 66 (0, 0))) (Sep (BO gR (.cells (rowN n (refsV S)) 55 (0, 0))) (Sep (AX q (pg : Int) (n : Int) p r s pg [] 1 rl) (Sep (MX a (pg : Int) (n : Int) p' r' s pg [] 1 rl) (Sep (Many (machR (pg : Int) (n : Int) S) n) (Sep (BO bs SO) Nought))))))) := Loc.bo.sep (Loc.bo.sep (Loc.bo.sep (Loc.ax.sep (Loc.mx.sep ((Loc.many Loc.mach n).sep lB)))))
          have ox3 := Own.boSet lx2 ox2 t (.pointer none)
          rw [rowN_set] at ox3
          have OY := hide (ox3.cast (R' := Sep (BO bx (.cells #[.int .i64 4, .int .i64 (pg : Int), .int .i64 (n : Int), .int .i64 (t : Int), .int .i64 0, .int .i64 0, .int .i64 0, .int .i64 0, .int .i64 0, .int .i64 0, .int .i64 0, .int .u64 0, .bool false, .slice none 0 0, .slice none 0 0, .bool false, .int .i64 0, .bool false, .pointer none, .int .i64 0, .int .i64 0, .int .u64 0, .int .u64 0, .int .i64 0, .int .i64 0, .int .i64 0, .int .i64 0, .int .u64 0, .slice none 0 0, .slice none 0 0, .int .i64 0, .int .i64 0] 66 (0, 0))) (Sep (BO gT (.cells (rowN n (upd tv t (.pointer none))) 67 (0, 0))) (Sep (BO gL (.cells (rowN n (upd tl t (.pointer none))) 68 (0, 0))) (Sep (BO gR (.cells (rowN n (refsV S)) 55 (0, 0))) (Sep (AX q (pg : Int) (n : Int) p r s pg [] 1 rl) (Sep (MX a (pg : Int) (n : Int) p' r' s pg [] 1 rl) (Sep (Many (machR (pg : Int) (n : Int) S) n) (Sep (BO bs SO) Nought)))))))) (by ac_rfl))
          clear ox1 ox2 ox3 OX lx lx2
          go_upto_region 14 with fail
          clear t0 tf l0' lf
          generalize (wx.setCell ⟨gT, t, none⟩ (.pointer none)).setCell ⟨gL, t, none⟩ (.pointer none) = wy at *
          have hcy := (HKC.out.kept OY.out.back HKC.out.lt).cell
          have lY : Loc (Sep (BO gT (.cells (rowN n (upd tv t (.pointer none))) 67 (0, 0))) (Sep (BO gL (.cells (rowN n (upd tl t (.pointer none))) 68 (0, 0))) (Sep (BO gR (.cells (rowN n (refsV S)) 55 (0, 0))) (Sep (AX q (pg : Int) (n : Int) p r s pg [] 1 rl) (Sep (MX a (pg : Int) (n : Int) p' r' s pg [] 1 rl) (Sep (Many (machR (pg : Int) (n : Int) S) n) (Sep (BO bs SO) Nought))))))) := Loc.bo.sep (Loc.bo.sep (Loc.bo.sep (Loc.ax.sep (Loc.mx.sep ((Loc.many Loc.mach n).sep lB)))))
          by_cases hy2 : y % 2 = 0
          · have ey : (y : Int) % 2 = 0 := by omega
            clear hy2
            have x0 : wy.cell? ⟨bx, 0, none⟩ = some (.int .i64 4) := cell_of_heap (Own.boAt OY.out)
            have xf : ∀ o, wy.frozen? ⟨bx, o, none⟩ = false := fun o => frozen_of_heap (Own.boAt OY.out)
            have OZ : Hid (Own (Sep (BO bx (.cells #[.int .i64 3, .int .i64 (pg : Int), .int .i64 (n : Int), .int .i64 (t : Int), .int .i64 0, .int .i64 0, .int .i64 0, .int .i64 0, .int .i64 0, .int .i64 0, .int .i64 0, .int .u64 0, .bool false, .slice none 0 0, .slice none 0 0, .bool false, .int .i64 0, .bool false, .pointer none, .int .i64 0, .int .i64 0, .int .u64 0, .int .u64 0, .int .i64 0, .int .i64 0, .int .i64 0, .int .i64 0, .int .u64 0, .slice none 0 0, .slice none 0 0, .int .i64 0, .int .i64 0] 66 (0, 0))) (Sep (BO gT (.cells (rowN n (upd tv t (.pointer none))) 67 (0, 0))) (Sep (BO gL (.cells (rowN n (upd tl t (.pointer none))) 68 (0, 0))) (Sep (BO gR (.cells (rowN n (refsV S)) 55 (0, 0))) (Sep (AX q (pg : Int) (n : Int) p r s pg [] 1 rl) (Sep (MX a (pg : Int) (n : Int) p' r' s pg [] 1 rl) (Sep (Many (machR (pg : Int) (n : Int) S) n) (Sep (BO bs SO) Nought)))))))) w (wy.setCell ⟨bx, 0, none⟩ (.int .i64 3))) := hide (Own.boSet lY OY.out 0 (.int .i64 3))
            clear OY
            go_upto_region 16 with fail
            clear x0 xf
            generalize wy.setCell ⟨bx, 0, none⟩ (.int .i64 3) = wz at *
            have hq := OZ.out.mhead (m := a) (p := p') (r := r') (P := (pg : Int)) (T := (n : Int)) (R := Sep (BO bx (.cells #[.int .i64 3, .int .i64 (pg : Int), .int .i64 (n : Int), .int .i64 (t : Int), .int .i64 0, .int .i64 0, .int .i64 0, .int .i64 0, .int .i64 0, .int .i64 0, .int .i64 0, .int .u64 0, .bool false, .slice none 0 0, .slice none 0 0, .bool false, .int .i64 0, .bool false, .pointer none, .int .i64 0, .int .i64 0, .int .u64 0, .int .u64 0, .int .i64 0, .int .i64 0, .int .i64 0, .int .i64 0, .int .u64 0, .slice none 0 0, .slice none 0 0, .int .i64 0, .int .i64 0] 66 (0, 0))) (Sep (BO gT (.cells (rowN n (upd tv t (.pointer none))) 67 (0, 0))) (Sep (BO gL (.cells (rowN n (upd tl t (.pointer none))) 68 (0, 0))) (Sep (BO gR (.cells (rowN n (refsV S)) 55 (0, 0))) (Sep (AX q (pg : Int) (n : Int) p r s pg [] 1 rl) (Sep (S2 p' s) (Sep (RX r' pg [] 1 rl) (Sep (Many (machR (pg : Int) (n : Int) S) n) (Sep (BO bs SO) Nought))))))))) (by unfold MX; ac_rfl)
            have a2 : wz.cell? ⟨a, 2, none⟩ = some (.int .i64 (pg : Int)) := cell_of_heap hq
            have a3 : wz.cell? ⟨a, 3, none⟩ = some (.int .i64 (n : Int)) := cell_of_heap hq
            clear hq
            go_wp2_with fail
            refine (HNT.out t htn _).mono ?_
            rintro e w4 ⟨m, rfl, h1, h2, h3⟩
            have o4 := (Own.boNew (Loc.bo.sep lY) OZ.out h1 h2 h3).cast (R' := Sep (BO gT (.cells (rowN n (upd tv t (.pointer none))) 67 (0, 0))) (Sep (BO m (takeO (pg : Int) (n : Int) false (t : Int))) (Sep (BO bx (.cells #[.int .i64 3, .int .i64 (pg : Int), .int .i64 (n : Int), .int .i64 (t : Int), .int .i64 0, .int .i64 0, .int .i64 0, .int .i64 0, .int .i64 0, .int .i64 0, .int .i64 0, .int .u64 0, .bool false, .slice none 0 0, .slice none 0 0, .bool false, .int .i64 0, .bool false, .pointer none, .int .i64 0, .int .i64 0, .int .u64 0, .int .u64 0, .int .i64 0, .int .i64 0, .int .i64 0, .int .i64 0, .int .u64 0, .slice none 0 0, .slice none 0 0, .int .i64 0, .int .i64 0] 66 (0, 0))) (Sep (BO gL (.cells (rowN n (upd tl t (.pointer none))) 68 (0, 0))) (Sep (BO gR (.cells (rowN n (refsV S)) 55 (0, 0))) (Sep (AX q (pg : Int) (n : Int) p r s pg [] 1 rl) (Sep (MX a (pg : Int) (n : Int) p' r' s pg [] 1 rl) (Sep (Many (machR (pg : Int) (n : Int) S) n) (Sep (BO bs SO) Nought))))))))) (by ac_rfl)
            have y4 : w4.cell? ⟨gT, t, none⟩ = some (.pointer none) := (cell_of_heap (Own.boAt o4)).trans ((rowN_get _ htn).trans (congrArg some (upd_at _ _ _)))
            have f4 : ∀ o, w4.frozen? ⟨gT, o, none⟩ = false := fun o => frozen_of_heap (Own.boAt o4)
            have l4 : Loc (Sep (BO m (takeO (pg : Int) (n : Int) false (t : Int))) (Sep (BO bx (.cells #[.int .i64 3, .int .i64 (pg : Int), .int .i64 (n : Int), .int .i64 (t : Int), .int .i64 0, .int .i64 0, .int .i64 0, .int .i64 0, .int .i64 0, .int .i64 0, .int .i64 0, .int .u64 0, .bool false, .slice none 0 0, .slice none 0 0, .bool false, .int .i64 0, .bool false, .pointer none, .int .i64 0, .int .i64 0, .int .u64 0, .int .u64 0, .int .i64 0, .int .i64 0, .int .i64 0, .int .i64 0, .int .u64 0, .slice none 0 0, .slice none 0 0, .int .i64 0, .int .i64 0] 66 (0, 0))) (Sep (BO gL (.cells (rowN n (upd tl t (.pointer none))) 68 (0, 0))) (Sep (BO gR (.cells (rowN n (refsV S)) 55 (0, 0))) (Sep (AX q (pg : Int) (n : Int) p r s pg [] 1 rl) (Sep (MX a (pg : Int) (n : Int) p' r' s pg [] 1 rl) (Sep (Many (machR (pg : Int) (n : Int) S) n) (Sep (BO bs SO) Nought)))))))) := Loc.bo.sep (Loc.bo.sep (Loc.bo.sep (Loc.bo.sep (Loc.ax.sep (Loc.mx.sep ((Loc.many Loc.mach n).sep lB))))))
            have o5 := Own.boSet l4 o4 t (.pointer (some ⟨m, 0, none⟩))
            rw [rowN_set, upd_upd] at o5
            have O5 := hide (o5.cast (R' := Sep (BO bx (.cells #[.int .i64 3, .int .i64 (pg : Int), .int .i64 (n : Int), .int .i64 (t : Int), .int .i64 0, .int .i64 0, .int .i64 0, .int .i64 0, .int .i64 0, .int .i64 0, .int .i64 0, .int .u64 0, .bool false, .slice none 0 0, .slice none 0 0, .bool false, .int .i64 0, .bool false, .pointer none, .int .i64 0, .int .i64 0, .int .u64 0, .int .u64 0, .int .i64 0, .int .i64 0, .int .i64 0, .int .i64 0, .int .u64 0, .slice none 0 0, .slice none 0 0, .int .i64 0, .int .i64 0] 66 (0, 0))) (Sep (BO m (takeO (pg : Int) (n : Int) false (t : Int))) (Sep (BO gT (.cells (rowN n (upd tv t (.pointer (some ⟨m, 0, none⟩)))) 67 (0, 0))) (Sep (BO gL (.cells (rowN n (upd tl t (.pointer none))) 68 (0, 0))) (Sep (BO gR (.cells (rowN n (refsV S)) 55 (0, 0))) (Sep (AX q (pg : Int) (n : Int) p r s pg [] 1 rl) (Sep (MX a (pg : Int) (n : Int) p' r' s pg [] 1 rl) (Sep (Many (machR (pg : Int) (n : Int) S) n) (Sep (BO bs SO) Nought))))))))) (by ac_rfl))
            clear o4 o5 l4 h1 h2 h3 OZ a2 a3
            go_upto_region 18 with fail
            clear y4 f4
            generalize w4.setCell ⟨gT, t, none⟩ (.pointer (some ⟨m, 0, none⟩)) = w5 at *
            have hM := hide (Own.boAt O5.out)
            have l5 : Loc (Sep (BO bx (.cells #[.int .i64 3, .int .i64 (pg : Int), .int .i64 (n : Int), .int .i64 (t : Int), .int .i64 0, .int .i64 0, .int .i64 0, .int .i64 0, .int .i64 0, .int .i64 0, .int .i64 0, .int .u64 0, .bool false, .slice none 0 0, .slice none 0 0, .bool false, .int .i64 0, .bool false, .pointer none, .int .i64 0, .int .i64 0, .int .u64 0, .int .u64 0, .int .i64 0, .int .i64 0, .int .i64 0, .int .i64 0, .int .u64 0, .slice none 0 0, .slice none 0 0, .int .i64 0, .int .i64 0] 66 (0, 0))) (Sep (BO m (takeO (pg : Int) (n : Int) false (t : Int))) (Sep (BO gT (.cells (rowN n (upd tv t (.pointer (some ⟨m, 0, none⟩)))) 67 (0, 0))) (Sep (BO gL (.cells (rowN n (upd tl t (.pointer none))) 68 (0, 0))) (Sep (BO gR (.cells (rowN n (refsV S)) 55 (0, 0))) (Sep (AX q (pg : Int) (n : Int) p r s pg [] 1 rl) (Sep (MX a (pg : Int) (n : Int) p' r' s pg [] 1 rl) (Sep (Many (machR (pg : Int) (n : Int) S) n) (Sep (BO bs SO) Nought))))))))) := Loc.bo.sep (Loc.bo.sep (Loc.bo.sep (Loc.bo.sep (Loc.bo.sep (Loc.ax.sep (Loc.mx.sep ((Loc.many Loc.mach n).sep lB)))))))
            go_wp2_with (first
              | fail
              | (refine wpList_load_row rfl 66 _ rfl _ rfl 66 #[.int .i64 3, .int .i64 (pg : Int), .int .i64 (n : Int), .int .i64 (t : Int), .int .i64 0, .int .i64 0, .int .i64 0, .int .i64 0, .int .i64 0, .int .i64 0, .int .i64 0, .int .u64 0, .bool false, .slice none 0 0, .slice none 0 0, .bool false, .int .i64 0, .bool false, .pointer none, .int .i64 0, .int .i64 0, .int .u64 0, .int .u64 0, .int .i64 0, .int .i64 0, .int .i64 0, .int .i64 0, .int .u64 0, .slice none 0 0, .slice none 0 0, .int .i64 0, .int .i64 0] (0, 0) _ hM.out Tryz.underlying66 rfl (by kernel_rfl) ?_))
            refine (m_new (k := kTake (pg : Int) (n : Int) t) (v := vNone) l5 O5.out).mono ?_
            rintro e w6 ⟨b, rfl, o6⟩
            have o6' := o6.cast (R' := Sep (BO gR (.cells (rowN n (refsV S)) 55 (0, 0))) (Sep (BO bx (.cells #[.int .i64 3, .int .i64 (pg : Int), .int .i64 (n : Int), .int .i64 (t : Int), .int .i64 0, .int .i64 0, .int .i64 0, .int .i64 0, .int .i64 0, .int .i64 0, .int .i64 0, .int .u64 0, .bool false, .slice none 0 0, .slice none 0 0, .bool false, .int .i64 0, .bool false, .pointer none, .int .i64 0, .int .i64 0, .int .u64 0, .int .u64 0, .int .i64 0, .int .i64 0, .int .i64 0, .int .i64 0, .int .u64 0, .slice none 0 0, .slice none 0 0, .int .i64 0, .int .i64 0] 66 (0, 0))) (Sep (BO b (mObj (kTake (pg : Int) (n : Int) t) vNone.fresh)) (Sep (BO m (takeO (pg : Int) (n : Int) false (t : Int))) (Sep (BO gT (.cells (rowN n (upd tv t (.pointer (some ⟨m, 0, none⟩)))) 67 (0, 0))) (Sep (BO gL (.cells (rowN n (upd tl t (.pointer none))) 68 (0, 0))) (Sep (AX q (pg : Int) (n : Int) p r s pg [] 1 rl) (Sep (MX a (pg : Int) (n : Int) p' r' s pg [] 1 rl) (Sep (Many (machR (pg : Int) (n : Int) S) n) (Sep (BO bs SO) Nought)))))))))) (by ac_rfl)
            have l6 : Loc (Sep (BO bx (.cells #[.int .i64 3, .int .i64 (pg : Int), .int .i64 (n : Int), .int .i64 (t : Int), .int .i64 0, .int .i64 0, .int .i64 0, .int .i64 0, .int .i64 0, .int .i64 0, .int .i64 0, .int .u64 0, .bool false, .slice none 0 0, .slice none 0 0, .bool false, .int .i64 0, .bool false, .pointer none, .int .i64 0, .int .i64 0, .int .u64 0, .int .u64 0, .int .i64 0, .int .i64 0, .int .i64 0, .int .i64 0, .int .u64 0, .slice none 0 0, .slice none 0 0, .int .i64 0, .int .i64 0] 66 (0, 0))) (Sep (BO b (mObj (kTake (pg : Int) (n : Int) t) vNone.fresh)) (Sep (BO m (takeO (pg : Int) (n : Int) false (t : Int))) (Sep (BO gT (.cells (rowN n (upd tv t (.pointer (some ⟨m, 0, none⟩)))) 67 (0, 0))) (Sep (BO gL (.cells (rowN n (upd tl t (.pointer none))) 68 (0, 0))) (Sep (AX q (pg : Int) (n : Int) p r s pg [] 1 rl) (Sep (MX a (pg : Int) (n : Int) p' r' s pg [] 1 rl) (Sep (Many (machR (pg : Int) (n : Int) S) n) (Sep (BO bs SO) Nought))))))))) := Loc.bo.sep (Loc.bo.sep (Loc.bo.sep (Loc.bo.sep (Loc.bo.sep (Loc.ax.sep (Loc.mx.sep ((Loc.many Loc.mach n).sep lB)))))))
            have y6 : w6.cell? ⟨gR, t, none⟩ = some (.pointer none) := (cell_of_heap (Own.boAt o6')).trans ((rowN_get _ htn).trans (congrArg some HRO.out))
            have f6 : ∀ o, w6.frozen? ⟨gR, o, none⟩ = false := fun o => frozen_of_heap (Own.boAt o6')
            have o7 := Own.boSet l6 o6' t (.pointer (some ⟨b, 0, none⟩))
            rw [rowN_set] at o7
            have o8 : Own (Sep (BO gR (.cells (rowN n (upd (refsV S) t (.pointer (some ⟨b, 0, none⟩)))) 55 (0, 0))) (Sep (BO b (mObj (kTake (pg : Int) (n : Int) t) vNone.fresh)) (Sep (BO m (takeO (pg : Int) (n : Int) false (t : Int))) (Sep (BO gT (.cells (rowN n (upd tv t (.pointer (some ⟨m, 0, none⟩)))) 67 (0, 0))) (Sep (BO gL (.cells (rowN n (upd tl t (.pointer none))) 68 (0, 0))) (Sep (AX q (pg : Int) (n : Int) p r s pg [] 1 rl) (Sep (MX a (pg : Int) (n : Int) p' r' s pg [] 1 rl) (Sep (Many (machR (pg : Int) (n : Int) S) n) (Sep (BO bs SO) Nought))))))))) w (w6.setCell ⟨gR, t, none⟩ (.pointer (some ⟨b, 0, none⟩))) := Own.drop (A := BO bx (.cells #[.int .i64 3, .int .i64 (pg : Int), .int .i64 (n : Int), .int .i64 (t : Int), .int .i64 0, .int .i64 0, .int .i64 0, .int .i64 0, .int .i64 0, .int .i64 0, .int .i64 0, .int .u64 0, .bool false, .slice none 0 0, .slice none 0 0, .bool false, .int .i64 0, .bool false, .pointer none, .int .i64 0, .int .i64 0, .int .u64 0, .int .u64 0, .int .i64 0, .int .i64 0, .int .i64 0, .int .i64 0, .int .u64 0, .slice none 0 0, .slice none 0 0, .int .i64 0, .int .i64 0] 66 (0, 0))) (o7.cast (by ac_rfl))
            have hmn : Many (machR (pg : Int) (n : Int) S) n = Many (upd (machR (pg : Int) (n : Int) S) t Nought) n := by
              rw [Many.at (machR (pg : Int) (n : Int) S) t n htn]
              have e : machR (pg : Int) (n : Int) S t = Nought := by unfold machR; rw [HSO.out]; rfl
              rw [e, Sep.nought]
            rw [hmn] at o8
            obtain ⟨v, hv⟩ : ∃ v, vNone.fresh = v := ⟨_, rfl⟩
            have hvl : v.log = .slice none 0 0 := by rw [← hv]; rfl
            have hvd : v.done = false := by rw [← hv]; rfl
            rw [hv] at o8
            have OE : Hid (Own (Sep (BO m (takeO (pg : Int) (n : Int) false (t : Int))) (Sep (BO b (mObj (kTake (pg : Int) (n : Int) t) v)) (Sep (LogR v.log []) (SideR gT gL gR q p r a p' r' pg n s s rl (upd tv t (.pointer (some ⟨m, 0, none⟩))) (upd tl t (.pointer none)) (upd (refsV S) t (.pointer (some ⟨b, 0, none⟩))) S t (Sep (BO bs SO) Nought))))) w (w6.setCell ⟨gR, t, none⟩ (.pointer (some ⟨b, 0, none⟩)))) := hide ((Own.logNone o8).cast (by rw [hvl]; unfold SideR; ac_rfl))
            have HV : Hid (v.done = false ∧ (∀ x ∈ ([] : List Nat), x ≠ 0) ∧ ([] : List Nat).length ≤ i) := hide ⟨hvd, fun _ h => (List.not_mem_nil h).elim, by simp⟩
            have HT1 : Hid ((upd tv t (.pointer (some ⟨m, 0, none⟩))) t = .pointer (some ⟨m, 0, none⟩)) := hide (upd_at _ _ _)
            have HL1 : Hid ((upd tl t (.pointer none)) t = .pointer none) := hide (upd_at _ _ _)
            have HLE : Hid (∃ pb, (upd tl t (.pointer none)) t = .pointer pb) := hide ⟨_, upd_at _ _ _⟩
            have HR1 : Hid (upd (refsV S) t (.pointer (some ⟨b, 0, none⟩)) t = .pointer (some ⟨b, 0, none⟩)) := hide (upd_at _ _ _)
            have HRS : Hid (∀ x : LS, x.ref = .pointer (some ⟨b, 0, none⟩) → upd (refsV S) t x.ref = upd (refsV S) t (.pointer (some ⟨b, 0, none⟩))) := hide (fun x hx => by rw [hx])
            have HRN : Hid (upd (upd (refsV S) t (.pointer (some ⟨b, 0, none⟩))) t (.pointer none) = upd (refsV S) t (.pointer none)) := hide (upd_upd _ _ _ _)
            have HOKS : Hid (∀ j, j < n → j ≠ t → (S j).ok i ((upd tv t (.pointer (some ⟨m, 0, none⟩))) j) ((upd tl t (.pointer none)) j)) := hide (fun j hj e => by rw [upd_ne _ _ e, upd_ne _ _ e]; exact HFIT.out j hj)
            clear o6 o6' o7 o8 l6 O5 hM l5 hmn hvl hvd hv
            go_upto_region 19 with fail
            clear y6 f6
            generalize w6.setCell ⟨gR, t, none⟩ (.pointer (some ⟨b, 0, none⟩)) = W at *
            have HRS0 := HRS
            generalize upd (refsV S) t (.pointer (some ⟨b, 0, none⟩)) = rv1 at *
            generalize (upd tv t (.pointer (some ⟨m, 0, none⟩))) = tv1 at *
            generalize (upd tl t (.pointer none)) = tl1 at *
            obtain ⟨l, hl⟩ : ∃ l : List Nat, [] = l := ⟨_, rfl⟩
            rw [hl] at OE
            rw [hl] at HV
            clear hl
            by_cases hz0 : s.words.getD 2 0 = 0
            · have HOK : Hid (decide (s.words.getD 2 0 = 0) = true) := hide (by rw [decide_eq_true hz0])
              clear hz0
              -- at the world W: OE, HT1 (the row's cell), HR1
              obtain ⟨s', hs'⟩ : ∃ s', s.cas 2 0 (t + 1) = s' := ⟨_, rfl⟩
              have HW' : Hid (Wds n wl s') := hide (by rw [← hs']; exact HWD.out.cas HWL.out.1 htn)
              have HS' := hide hs'
              clear hs'
              have hZD := heap_alloc_at W (.cells #[.int .i64 0, .int .i64 0, .int .u64 0, .int .u64 0] 27)
              obtain ⟨bd, hbd⟩ : ∃ bd, W.heap.size = bd := ⟨_, rfl⟩
              rw [hbd] at hZD
              have lSide : Loc (SideR gT gL gR q p r a p' r' pg n s s rl tv1 tl1 rv1 S t (Sep (BO bs SO) Nought)) := Loc.ax.sep (Loc.mx.sep (Loc.bo.sep (Loc.bo.sep (Loc.bo.sep ((Loc.rest Loc.mach t n).sep lB)))))
              have o1 := Own.boNew (Loc.bo.sep (Loc.bo.sep (Loc.logR.sep lSide))) OE.out hZD (by rw [hbd]; exact Nat.le_refl _) (grown1 _ _)
              have gt1 : (W.alloc (.cells #[.int .i64 0, .int .i64 0, .int .u64 0, .int .u64 0] 27)).cell? ⟨gT, t, none⟩ = some (.pointer (some ⟨m, 0, none⟩)) := (cell_of_heap (o1.has (m := gT) (o := .cells (rowN n tv1) 67 (0, 0)) (R := Sep (BO bd (.cells #[.int .i64 0, .int .i64 0, .int .u64 0, .int .u64 0] 27 (0, 0))) (Sep (BO m (takeO (pg : Int) (n : Int) false (t : Int))) (Sep (BO b (mObj (kTake (pg : Int) (n : Int) t) v)) (Sep (LogR v.log l) (Sep (AX q (pg : Int) (n : Int) p r s pg [] 1 rl) (Sep (MX a (pg : Int) (n : Int) p' r' s pg [] 1 rl) (Sep (BO gL (.cells (rowN n tl1) 68 (0, 0))) (Sep (BO gR (.cells (rowN n rv1) 55 (0, 0))) (Sep (Many (upd (machR (pg : Int) (n : Int) S) t Nought) n) (Sep (BO bs SO) Nought)))))))))) (by unfold SideR; ac_rfl))).trans ((rowN_get _ htn).trans (congrArg some HT1.out))
              have O1 := hide o1
              clear o1 OE hZD
              go_upto_region 21 with fail
              try rw [hbd]
              clear gt1
              generalize W.alloc (.cells #[.int .i64 0, .int .i64 0, .int .u64 0, .int .u64 0] 27) = u1 at *
              have HBD := hide hbd
              clear hbd
              go_cut [19] from 106 to 157 (fun r19 wc => r19 = .bool true ∧ Hid (Own (Sep (BO bd (.cells #[.int .i64 s'.kind, .int .i64 s'.place, .int .u64 (s'.old : Int), .int .u64 (s'.new : Int)] 27 (0, 0))) (Sep (BO m (takeO (pg : Int) (n : Int) true (t : Int))) (Sep (BO b (mObj (kTake (pg : Int) (n : Int) t) v)) (Sep (LogR v.log l) (SideR gT gL gR q p r a p' r' pg n s' s rl tv1 tl1 rv1 S t (Sep (BO bs SO) Nought)))))) w wc))
              case first =>
                have O2 := hide (O1.out.below (Loc.bo.sep (Loc.bo.sep (Loc.bo.sep (Loc.logR.sep lSide)))) ((Alike.drewN u1 1).below _))
                have GC : Hid (∀ (bo mo' : Obj) (s1 s2 : St) (u : World), Own (Sep (BO bd bo) (Sep (BO m mo') (Sep (BO b (mObj (kTake (pg : Int) (n : Int) t) v)) (Sep (LogR v.log l) (SideR gT gL gR q p r a p' r' pg n s1 s2 rl tv1 tl1 rv1 S t (Sep (BO bs SO) Nought)))))) w u → Cel gT t (.pointer (some ⟨m, 0, none⟩)) u) := hide (fun bo mo' s1 s2 u h => (cell_of_heap (h.has (m := gT) (o := .cells (rowN n tv1) 67 (0, 0)) (R := Sep (BO bd bo) (Sep (BO m mo') (Sep (BO b (mObj (kTake (pg : Int) (n : Int) t) v)) (Sep (LogR v.log l) (Sep (AX q (pg : Int) (n : Int) p r s1 pg [] 1 rl) (Sep (MX a (pg : Int) (n : Int) p' r' s2 pg [] 1 rl) (Sep (BO gL (.cells (rowN n tl1) 68 (0, 0))) (Sep (BO gR (.cells (rowN n rv1) 55 (0, 0))) (Sep (Many (upd (machR (pg : Int) (n : Int) S) t Nought) n) (Sep (BO bs SO) Nought)))))))))) (by unfold SideR; ac_rfl))).trans ((rowN_get _ htn).trans (congrArg some HT1.out)))
                have J2 : Hid (Cel gT t (.pointer (some ⟨m, 0, none⟩)) u1.drew) := hide (GC.out _ _ _ _ _ O2.out)
                have hne : Nonempty (Mem (Cel gT t (.pointer (some ⟨m, 0, none⟩)))) := ⟨⟨_, J2.out⟩⟩
                have UG : ∀ u : Mem (Cel gT t (.pointer (some ⟨m, 0, none⟩))), u.w'.cell? ⟨gT, t, none⟩ = some (.pointer (some ⟨m, 0, none⟩)) := fun u => u.h
                clear O1
                refine region_start (J := Cel gT t (.pointer (some ⟨m, 0, none⟩))) (by kernel_rfl) ?_
                refine stretch (fuel := 4) (by kernel_rfl) (fun _ _ _ _ _ h => h) J2.out [0, 1, 2, 3, 4, 6, 7, 8, 9] (by kernel_rfl) ?_
                simp only [List.filterMap_cons, List.filterMap_nil, List.getElem?_toArray, List.getElem?_cons_zero, List.getElem?_cons_succ]
                show wpQuiet _ _ _ _ [_, _, _, _, _, _, _, _, _] _
                repeat (go_big_quiet_step (fail))
                refine wpQuiet_nil ?_
                refine wpAnyJ_writer (i := 5) rfl (by kernel_rfl) (fun K' hK => ?_)
                go_simp
                have lA : Loc (Sep (BO bd (.cells #[.int .i64 0, .int .i64 0, .int .u64 0, .int .u64 0] 27 (0, 0))) (Sep (BO b (mObj (kTake (pg : Int) (n : Int) t) v)) (Sep (LogR v.log l) (Sep (MX a (pg : Int) (n : Int) p' r' s pg [] 1 rl) (Sep (BO gT (.cells (rowN n tv1) 67 (0, 0))) (Sep (BO gL (.cells (rowN n tl1) 68 (0, 0))) (Sep (BO gR (.cells (rowN n rv1) 55 (0, 0))) (Sep (Many (upd (machR (pg : Int) (n : Int) S) t Nought) n) (Sep (BO bs SO) Nought))))))))) := Loc.bo.sep (Loc.bo.sep (Loc.logR.sep (Loc.mx.sep (Loc.bo.sep (Loc.bo.sep (Loc.bo.sep ((Loc.rest Loc.mach t n).sep lB)))))))
                refine (takeStep lA t (by omega) (O2.out.cast (by unfold SideR; ac_rfl)) (by rw [HWD.out.len]; exact HWL.out.1) true HOK.out s' HS'.out).mono ?_
                rintro e u3 ⟨rfl, o3⟩
                have O3 := hide (o3.cast (R' := Sep (BO bd (.cells #[.int .i64 0, .int .i64 0, .int .u64 0, .int .u64 0] 27 (0, 0))) (Sep (BO m (takeO (pg : Int) (n : Int) true (t : Int))) (Sep (BO b (mObj (kTake (pg : Int) (n : Int) t) v)) (Sep (LogR v.log l) (SideR gT gL gR q p r a p' r' pg n s' s rl tv1 tl1 rv1 S t (Sep (BO bs SO) Nought)))))) (by unfold SideR; ac_rfl))
                refine hK _ _ (GC.out _ _ _ _ _ O3.out) ?_
                clear hK K' o3 O2 J2 lA
                have lS' : Loc (Sep (BO m (takeO (pg : Int) (n : Int) true (t : Int))) (Sep (BO b (mObj (kTake (pg : Int) (n : Int) t) v)) (Sep (LogR v.log l) (SideR gT gL gR q p r a p' r' pg n s' s rl tv1 tl1 rv1 S t (Sep (BO bs SO) Nought))))) := Loc.bo.sep (Loc.bo.sep (Loc.logR.sep (Loc.ax.sep (Loc.mx.sep (Loc.bo.sep (Loc.bo.sep (Loc.bo.sep ((Loc.rest Loc.mach t n).sep lB))))))))
                refine wpAnyJ_writer (i := 10) rfl (by kernel_rfl) (fun K' hK => ?_)
                go_simp
                refine (takeDone _ m (pg : Int) (n : Int) (t : Int) true (O3.out.has (m := m) (o := takeO (pg : Int) (n : Int) true (t : Int)) (R := Sep (BO bd (.cells #[.int .i64 0, .int .i64 0, .int .u64 0, .int .u64 0] 27 (0, 0))) (Sep (BO b (mObj (kTake (pg : Int) (n : Int) t) v)) (Sep (LogR v.log l) (SideR gT gL gR q p r a p' r' pg n s' s rl tv1 tl1 rv1 S t (Sep (BO bs SO) Nought))))) (by ac_rfl))).mono ?_
                rintro e u4 ⟨rfl, rfl⟩
                refine hK _ _ (GC.out _ _ _ _ _ O3.out) ?_
                clear hK K'
                refine wpAnyJ_writer (i := 11) rfl (by kernel_rfl) (fun K' hK => ?_)
                have r0 : u4.cell? ⟨bd, 0, none⟩ = some (.int .i64 0) := cell_of_heap (Own.boAt O3.out)
                have r1 : u4.cell? ⟨bd, 1, none⟩ = some (.int .i64 0) := cell_of_heap (Own.boAt O3.out)
                have r2 : u4.cell? ⟨bd, 2, none⟩ = some (.int .u64 0) := cell_of_heap (Own.boAt O3.out)
                have r3 : u4.cell? ⟨bd, 3, none⟩ = some (.int .u64 0) := cell_of_heap (Own.boAt O3.out)
                have fr : ∀ o, u4.frozen? ⟨bd, o, none⟩ = false := fun o => frozen_of_heap (Own.boAt O3.out)
                have O5 : Hid (Own (Sep (BO bd (.cells #[.int .i64 s'.kind, .int .i64 s'.place, .int .u64 (s'.old : Int), .int .u64 (s'.new : Int)] 27 (0, 0))) (Sep (BO m (takeO (pg : Int) (n : Int) true (t : Int))) (Sep (BO b (mObj (kTake (pg : Int) (n : Int) t) v)) (Sep (LogR v.log l) (SideR gT gL gR q p r a p' r' pg n s' s rl tv1 tl1 rv1 S t (Sep (BO bs SO) Nought)))))) w ((((u4.setCell ⟨bd, 0, none⟩ (.int .i64 s'.kind)).setCell ⟨bd, 1, none⟩ (.int .i64 s'.place)).setCell ⟨bd, 2, none⟩ (.int .u64 (s'.old : Int))).setCell ⟨bd, 3, none⟩ (.int .u64 (s'.new : Int)))) :=
                  hide (Own.boSet lS' (Own.boSet lS' (Own.boSet lS' (Own.boSet lS' O3.out 0 (.int .i64 s'.kind)) 1 (.int .i64 s'.place)) 2 (.int .u64 (s'.old : Int))) 3 (.int .u64 (s'.new : Int)))
                unfold St.did
                go_simp
                refine hK _ _ (GC.out _ _ _ _ _ O5.out) ?_
                clear hK K' r0 r1 r2 r3 fr O3
                generalize (((u4.setCell ⟨bd, 0, none⟩ (.int .i64 s'.kind)).setCell ⟨bd, 1, none⟩ (.int .i64 s'.place)).setCell ⟨bd, 2, none⟩ (.int .u64 (s'.old : Int))).setCell ⟨bd, 3, none⟩ (.int .u64 (s'.new : Int)) = u5 at *
                refine stretch (fuel := 0) (by kernel_rfl) (fun _ _ _ _ _ h => h) (GC.out _ _ _ _ _ O5.out) [12] (by kernel_rfl) ?_
                simp only [List.filterMap_cons, List.filterMap_nil, List.getElem?_toArray, List.getElem?_cons_zero, List.getElem?_cons_succ]
                show wpQuiet _ _ _ _ [_] _
                repeat (go_big_quiet_step (fail))
                refine wpQuiet_nil ?_
                refine wpAnyJ_done (by kernel_rfl) ?_
                go_wp2
                go_meet
                exact ⟨rfl, O5.out⟩
              obtain ⟨hr19, O5⟩ := hcut
              subst hr19
              clear O1
              go_upto_region 23 with fail
              have lS' : Loc (Sep (BO m (takeO (pg : Int) (n : Int) true (t : Int))) (Sep (BO b (mObj (kTake (pg : Int) (n : Int) t) v)) (Sep (LogR v.log l) (SideR gT gL gR q p r a p' r' pg n s' s rl tv1 tl1 rv1 S t (Sep (BO bs SO) Nought))))) := Loc.bo.sep (Loc.bo.sep (Loc.logR.sep (Loc.ax.sep (Loc.mx.sep (Loc.bo.sep (Loc.bo.sep (Loc.bo.sep ((Loc.rest Loc.mach t n).sep lB))))))))
              have O6 := hide (O5.out.below (Loc.bo.sep lS') ((Alike.drewN wc 1).below _))
              clear O5
              have RC : Hid (∀ (M1 : Obj) (v1 : MV) (l1 : List Nat) (s1 s2 : St) (u : World), Own (Sep (BO bd (.cells #[.int .i64 s'.kind, .int .i64 s'.place, .int .u64 (s'.old : Int), .int .u64 (s'.new : Int)] 27 (0, 0))) (Sep (BO m M1) (Sep (BO b (mObj (kTake (pg : Int) (n : Int) t) v1)) (Sep (LogR v1.log l1) (SideR gT gL gR q p r a p' r' pg n s1 s2 rl tv1 tl1 rv1 S t (Sep (BO bs SO) Nought)))))) w u → BkAt bd (.cells #[.int .i64 s'.kind, .int .i64 s'.place, .int .u64 (s'.old : Int), .int .u64 (s'.new : Int)] 27 (0, 0)) u ∧ Cel gR t (.pointer (some ⟨b, 0, none⟩)) u) := hide (fun M1 v1 l1 s1 s2 u h => ⟨Own.boAt h, (cell_of_heap (h.has (m := gR) (o := .cells (rowN n rv1) 55 (0, 0)) (R := Sep (BO bd (.cells #[.int .i64 s'.kind, .int .i64 s'.place, .int .u64 (s'.old : Int), .int .u64 (s'.new : Int)] 27 (0, 0))) (Sep (BO m M1) (Sep (BO b (mObj (kTake (pg : Int) (n : Int) t) v1)) (Sep (LogR v1.log l1) (Sep (AX q (pg : Int) (n : Int) p r s1 pg [] 1 rl) (Sep (MX a (pg : Int) (n : Int) p' r' s2 pg [] 1 rl) (Sep (BO gT (.cells (rowN n tv1) 67 (0, 0))) (Sep (BO gL (.cells (rowN n tl1) 68 (0, 0))) (Sep (Many (upd (machR (pg : Int) (n : Int) S) t Nought) n) (Sep (BO bs SO) Nought)))))))))) (by unfold SideR; ac_rfl))).trans ((rowN_get _ htn).trans (congrArg some HR1.out))⟩)
              have hne : Nonempty (Mem (fun u => BkAt bd (.cells #[.int .i64 s'.kind, .int .i64 s'.place, .int .u64 (s'.old : Int), .int .u64 (s'.new : Int)] 27 (0, 0)) u ∧ Cel gR t (.pointer (some ⟨b, 0, none⟩)) u)) := ⟨⟨_, RC.out _ _ _ _ _ _ O6.out⟩⟩
              have UD0 : ∀ u : Mem (fun u => BkAt bd (.cells #[.int .i64 s'.kind, .int .i64 s'.place, .int .u64 (s'.old : Int), .int .u64 (s'.new : Int)] 27 (0, 0)) u ∧ Cel gR t (.pointer (some ⟨b, 0, none⟩)) u), u.w'.cell? ⟨bd, 0, none⟩ = some (.int .i64 s'.kind) := fun u => cell_of_heap u.h.1
              have UD1 : ∀ u : Mem (fun u => BkAt bd (.cells #[.int .i64 s'.kind, .int .i64 s'.place, .int .u64 (s'.old : Int), .int .u64 (s'.new : Int)] 27 (0, 0)) u ∧ Cel gR t (.pointer (some ⟨b, 0, none⟩)) u), u.w'.cell? ⟨bd, 1, none⟩ = some (.int .i64 s'.place) := fun u => cell_of_heap u.h.1
              have UD2 : ∀ u : Mem (fun u => BkAt bd (.cells #[.int .i64 s'.kind, .int .i64 s'.place, .int .u64 (s'.old : Int), .int .u64 (s'.new : Int)] 27 (0, 0)) u ∧ Cel gR t (.pointer (some ⟨b, 0, none⟩)) u), u.w'.cell? ⟨bd, 2, none⟩ = some (.int .u64 (s'.old : Int)) := fun u => cell_of_heap u.h.1
              have UD3 : ∀ u : Mem (fun u => BkAt bd (.cells #[.int .i64 s'.kind, .int .i64 s'.place, .int .u64 (s'.old : Int), .int .u64 (s'.new : Int)] 27 (0, 0)) u ∧ Cel gR t (.pointer (some ⟨b, 0, none⟩)) u), u.w'.cell? ⟨bd, 3, none⟩ = some (.int .u64 (s'.new : Int)) := fun u => cell_of_heap u.h.1
              have UR : ∀ u : Mem (fun u => BkAt bd (.cells #[.int .i64 s'.kind, .int .i64 s'.place, .int .u64 (s'.old : Int), .int .u64 (s'.new : Int)] 27 (0, 0)) u ∧ Cel gR t (.pointer (some ⟨b, 0, none⟩)) u), u.w'.cell? ⟨gR, t, none⟩ = some (.pointer (some ⟨b, 0, none⟩)) := fun u => u.h.2
              refine region_start (J := fun u => BkAt bd (.cells #[.int .i64 s'.kind, .int .i64 s'.place, .int .u64 (s'.old : Int), .int .u64 (s'.new : Int)] 27 (0, 0)) u ∧ Cel gR t (.pointer (some ⟨b, 0, none⟩)) u) (by kernel_rfl) ?_
              refine stretch (fuel := 20) (by kernel_rfl) (fun _ _ _ _ _ h => h) (RC.out _ _ _ _ _ _ O6.out) [0, 1, 2, 3, 4, 5] (by kernel_rfl) ?_
              simp only [List.filterMap_cons, List.filterMap_nil, List.getElem?_toArray, List.getElem?_cons_zero, List.getElem?_cons_succ]
              show wpQuiet _ _ _ _ [_, _, _, _, _, _] _
              repeat (go_big_quiet_step (fail))
              refine wpQuiet_nil ?_
              refine wpAnyJ_writer (i := 6) rfl (by kernel_rfl) (fun K' hK => ?_)
              go_simp
              have lD : Loc (Sep (BO bd (.cells #[.int .i64 s'.kind, .int .i64 s'.place, .int .u64 (s'.old : Int), .int .u64 (s'.new : Int)] 27 (0, 0))) (Sep (BO m (takeO (pg : Int) (n : Int) true (t : Int))) (Sep (AX q (pg : Int) (n : Int) p r s' pg [] 1 rl) (Sep (BO gT (.cells (rowN n tv1) 67 (0, 0))) (Sep (BO gL (.cells (rowN n tl1) 68 (0, 0))) (Sep (BO gR (.cells (rowN n rv1) 55 (0, 0))) (Sep (Many (upd (machR (pg : Int) (n : Int) S) t Nought) n) (Sep (BO bs SO) Nought)))))))) := Loc.bo.sep (Loc.bo.sep (Loc.ax.sep (Loc.bo.sep (Loc.bo.sep (Loc.bo.sep ((Loc.rest Loc.mach t n).sep lB))))))
              refine (rstepTake (k := kTake (pg : Int) (n : Int) t) lD t (by omega) rfl rfl (O6.out.cast (by unfold SideR; ac_rfl)) HV.out.1 HV.out.2.1 (by have := HV.out.2.2; omega) (by rw [HWD.out.len]; exact HWL.out.1) true HOK.out).mono ?_
              rintro e u7 ⟨rfl, v', l', hvd, hll, hlen, o7⟩
              rw [HS'.out] at o7
              rw [HS'.out]
              have O7 := hide (o7.cast (R' := Sep (BO bd (.cells #[.int .i64 s'.kind, .int .i64 s'.place, .int .u64 (s'.old : Int), .int .u64 (s'.new : Int)] 27 (0, 0))) (Sep (BO m (takeO (pg : Int) (n : Int) true (t : Int))) (Sep (BO b (mObj (kTake (pg : Int) (n : Int) t) v')) (Sep (LogR v'.log l') (SideR gT gL gR q p r a p' r' pg n s' s' rl tv1 tl1 rv1 S t (Sep (BO bs SO) Nought)))))) (by unfold SideR; ac_rfl))
              have HVD := hide hvd
              refine hK _ _ (RC.out _ _ _ _ _ _ O7.out) ?_
              clear hK K' o7 O6 lD hvd hll hlen hne UD0 UD1 UD2 UD3 UR
              unfold St.did
              have DC : Hid (∀ u : World, Own (Sep (BO bd (.cells #[.int .i64 s'.kind, .int .i64 s'.place, .int .u64 (s'.old : Int), .int .u64 (s'.new : Int)] 27 (0, 0))) (Sep (BO m (takeO (pg : Int) (n : Int) true (t : Int))) (Sep (BO b (mObj (kTake (pg : Int) (n : Int) t) v')) (Sep (LogR v'.log l') (SideR gT gL gR q p r a p' r' pg n s' s' rl tv1 tl1 rv1 S t (Sep (BO bs SO) Nought)))))) w u → (Cel gR t (.pointer (some ⟨b, 0, none⟩)) u ∧ Cel b 15 (.bool true) u)  ∧ BkAt bd (.cells #[.int .i64 s'.kind, .int .i64 s'.place, .int .u64 (s'.old : Int), .int .u64 (s'.new : Int)] 27 (0, 0)) u) := hide (fun u h => ⟨⟨(RC.out _ _ _ _ _ _ h).2, by
                have := cell_of_heap (o := 15) (h.has (m := b) (o := mObj (kTake (pg : Int) (n : Int) t) v') (R := Sep (BO bd (.cells #[.int .i64 s'.kind, .int .i64 s'.place, .int .u64 (s'.old : Int), .int .u64 (s'.new : Int)] 27 (0, 0))) (Sep (BO m (takeO (pg : Int) (n : Int) true (t : Int))) (Sep (LogR v'.log l') (SideR gT gL gR q p r a p' r' pg n s' s' rl tv1 tl1 rv1 S t (Sep (BO bs SO) Nought))))) (by ac_rfl))
                refine this.trans ?_
                show some (Value.bool v'.done) = _
                rw [HVD.out]⟩, Own.boAt h⟩)
              refine wpAnyJ_class (I := fun u => (Cel gR t (.pointer (some ⟨b, 0, none⟩)) u ∧ Cel b 15 (.bool true) u) ∧ BkAt bd (.cells #[.int .i64 s'.kind, .int .i64 s'.place, .int .u64 (s'.old : Int), .int .u64 (s'.new : Int)] 27 (0, 0)) u) (fun _ h => ⟨h.2, h.1.1⟩) ?_
              have hne : Nonempty (Mem (fun u => (Cel gR t (.pointer (some ⟨b, 0, none⟩)) u ∧ Cel b 15 (.bool true) u) ∧ BkAt bd (.cells #[.int .i64 s'.kind, .int .i64 s'.place, .int .u64 (s'.old : Int), .int .u64 (s'.new : Int)] 27 (0, 0)) u)) := ⟨⟨_, DC.out _ O7.out⟩⟩
              have UR : ∀ u : Mem (fun u => (Cel gR t (.pointer (some ⟨b, 0, none⟩)) u ∧ Cel b 15 (.bool true) u) ∧ BkAt bd (.cells #[.int .i64 s'.kind, .int .i64 s'.place, .int .u64 (s'.old : Int), .int .u64 (s'.new : Int)] 27 (0, 0)) u), u.w'.cell? ⟨gR, t, none⟩ = some (.pointer (some ⟨b, 0, none⟩)) := fun u => u.h.1.1
              have UB : ∀ u : Mem (fun u => (Cel gR t (.pointer (some ⟨b, 0, none⟩)) u ∧ Cel b 15 (.bool true) u) ∧ BkAt bd (.cells #[.int .i64 s'.kind, .int .i64 s'.place, .int .u64 (s'.old : Int), .int .u64 (s'.new : Int)] 27 (0, 0)) u), u.w'.cell? ⟨b, 15, none⟩ = some (.bool true) := fun u => u.h.1.2
              refine stretch (fuel := 4) (by kernel_rfl) (fun _ _ _ _ _ h => h) (DC.out _ O7.out) [7, 8, 9, 10, 11, 12, 13, 14, 15, 16, 17, 18, 19, 20, 22] (by kernel_rfl) ?_
              simp only [List.filterMap_cons, List.filterMap_nil, List.getElem?_toArray, List.getElem?_cons_zero, List.getElem?_cons_succ]
              show wpQuiet _ _ _ _ [_, _, _, _, _, _, _, _, _, _, _, _, _, _, _] _
              repeat (go_big_quiet_step (fail))
              refine wpQuiet_nil ?_
              obtain ⟨hx, hhx⟩ : ∃ hx, s'.words.getD 2 0 = hx := ⟨_, rfl⟩
              obtain ⟨vv, hvv⟩ : ∃ vv, (hx : Int) - 1 = vv := ⟨_, rfl⟩
              have hxn : hx ≤ n := by rw [← hhx]; exact HW'.out.at_
              have hs2 : 2 < s'.words.length := by rw [HW'.out.len]; exact HWL.out.1
              have HHX := hide hhx
              have HVV := hide hvv
              have HS2 := hide hs2
              clear hhx hvv hs2
              refine wpAnyJ_writer (i := 21) rfl (by kernel_rfl) (fun K' hK => ?_)
              go_simp
              have lH : Loc (Sep (BO bd (.cells #[.int .i64 s'.kind, .int .i64 s'.place, .int .u64 (s'.old : Int), .int .u64 (s'.new : Int)] 27 (0, 0))) (Sep (BO m (takeO (pg : Int) (n : Int) true (t : Int))) (Sep (BO b (mObj (kTake (pg : Int) (n : Int) t) v')) (Sep (LogR v'.log l') (Sep (MX a (pg : Int) (n : Int) p' r' s' pg [] 1 rl) (Sep (BO gT (.cells (rowN n tv1) 67 (0, 0))) (Sep (BO gL (.cells (rowN n tl1) 68 (0, 0))) (Sep (BO gR (.cells (rowN n rv1) 55 (0, 0))) (Sep (Many (upd (machR (pg : Int) (n : Int) S) t Nought) n) (Sep (BO bs SO) Nought)))))))))) := Loc.bo.sep (Loc.bo.sep (Loc.bo.sep (Loc.logR.sep (Loc.mx.sep (Loc.bo.sep (Loc.bo.sep (Loc.bo.sep ((Loc.rest Loc.mach t n).sep lB))))))))
              refine (heldW lH (O7.out.cast (by unfold SideR; ac_rfl)) HS2.out hx HHX.out (by omega) (by omega) vv HVV.out).mono ?_
              rintro e u8 ⟨rfl, o8⟩
              have O8 := hide (o8.cast (R' := Sep (BO bd (.cells #[.int .i64 s'.kind, .int .i64 s'.place, .int .u64 (s'.old : Int), .int .u64 (s'.new : Int)] 27 (0, 0))) (Sep (BO m (takeO (pg : Int) (n : Int) true (t : Int))) (Sep (BO b (mObj (kTake (pg : Int) (n : Int) t) v')) (Sep (LogR v'.log l') (SideR gT gL gR q p r a p' r' pg n s' s' rl tv1 tl1 rv1 S t (Sep (BO bs SO) Nought)))))) (by unfold SideR; ac_rfl))
              refine hK _ _ (DC.out _ O8.out) ?_
              clear hK K' o8 O7 lH
              refine wpAnyJ_writer (i := 23) rfl (by kernel_rfl) (fun K' hK => ?_)
              go_simp
              refine (rHeld (O8.out.cast (R' := Sep (MX a (pg : Int) (n : Int) p' r' s' pg [] 1 rl) (Sep (BO bd (.cells #[.int .i64 s'.kind, .int .i64 s'.place, .int .u64 (s'.old : Int), .int .u64 (s'.new : Int)] 27 (0, 0))) (Sep (BO m (takeO (pg : Int) (n : Int) true (t : Int))) (Sep (BO b (mObj (kTake (pg : Int) (n : Int) t) v')) (Sep (LogR v'.log l') (Sep (AX q (pg : Int) (n : Int) p r s' pg [] 1 rl) (Sep (BO gT (.cells (rowN n tv1) 67 (0, 0))) (Sep (BO gL (.cells (rowN n tl1) 68 (0, 0))) (Sep (BO gR (.cells (rowN n rv1) 55 (0, 0))) (Sep (Many (upd (machR (pg : Int) (n : Int) S) t Nought) n) (Sep (BO bs SO) Nought))))))))))) (by unfold SideR; ac_rfl)) HS2.out hx HHX.out (by omega) vv HVV.out).mono ?_
              rintro e u9 ⟨rfl, o9⟩
              have O9 := hide (o9.cast (R' := Sep (BO bd (.cells #[.int .i64 s'.kind, .int .i64 s'.place, .int .u64 (s'.old : Int), .int .u64 (s'.new : Int)] 27 (0, 0))) (Sep (BO m (takeO (pg : Int) (n : Int) true (t : Int))) (Sep (BO b (mObj (kTake (pg : Int) (n : Int) t) v')) (Sep (LogR v'.log l') (SideR gT gL gR q p r a p' r' pg n s' s' rl tv1 tl1 rv1 S t (Sep (BO bs SO) Nought)))))) (by unfold SideR; ac_rfl))
              refine hK _ _ (DC.out _ O9.out) ?_
              clear hK K' o9 O8
              refine stretch (fuel := 0) (by kernel_rfl) (fun _ _ _ _ _ h => h) (DC.out _ O9.out) [24, 25] (by kernel_rfl) ?_
              simp only [List.filterMap_cons, List.filterMap_nil, List.getElem?_toArray, List.getElem?_cons_zero, List.getElem?_cons_succ]
              show wpQuiet _ _ _ _ [_, _] _
              repeat (go_big_quiet_step (fail))
              refine wpQuiet_nil ?_
              refine wpAnyJ_done (by kernel_rfl) ?_
              clear hne UR UB DC RC lS' lSide
              have o10 := O9.out.drop.drop.drop.drop.cast (R' := Sep (BO gR (.cells (rowN n rv1) 55 (0, 0))) (Sep (AX q (pg : Int) (n : Int) p r s' pg [] 1 rl) (Sep (MX a (pg : Int) (n : Int) p' r' s' pg [] 1 rl) (Sep (BO gT (.cells (rowN n tv1) 67 (0, 0))) (Sep (BO gL (.cells (rowN n tl1) 68 (0, 0))) (Sep (Many (upd (machR (pg : Int) (n : Int) S) t Nought) n) (Sep (BO bs SO) Nought))))))) (by unfold SideR; ac_rfl)
              have y10 : u9.cell? ⟨gR, t, none⟩ = some (.pointer (some ⟨b, 0, none⟩)) := (cell_of_heap (Own.boAt o10)).trans ((rowN_get _ htn).trans (congrArg some HR1.out))
              have f10 : ∀ o, u9.frozen? ⟨gR, o, none⟩ = false := fun o => frozen_of_heap (Own.boAt o10)
              have o11 := Own.boSet (Loc.ax.sep (Loc.mx.sep (Loc.bo.sep (Loc.bo.sep ((Loc.rest Loc.mach t n).sep lB))))) o10 t (.pointer none)
              rw [rowN_set] at o11
              try rw [HRN.out] at o11
              have O11 : Hid (Own (GameR gT gL gR q p r a p' r' pg n s' rl tv1 tl1 (upd S t .off) (Sep (BO bs SO) Nought)) w (u9.setCell ⟨gR, t, none⟩ (.pointer none))) := hide (o11.cast (by rw [← GameR.turn htn .off]; unfold SideR; show _ = Sep Nought _; rw [Sep.nought]; show Sep (BO gR (.cells (rowN n (upd (refsV S) t (.pointer none))) _ (0, 0))) _ = _; ac_rfl))
              clear o10 o11 O9
              go_wp2
              go_roundw
              case rel => exact ⟨i + 1, s', tv1, tl1, upd S t .off, by go_num, by omega, ⟨HW'.out, Fit.turn HOKS.out .off ⟨⟨_, HT1.out⟩, HLE.out⟩, O11.out⟩⟩
              case measure => simp [intOf]; omega
            · have HOK : Hid (decide (s.words.getD 2 0 = 0) = false) := hide (by rw [decide_eq_false hz0])
              clear hz0
              -- at the world W: OE, HT1 (the row's cell), HR1
              obtain ⟨s', hs'⟩ : ∃ s', s.cas 2 0 (t + 1) = s' := ⟨_, rfl⟩
              have HW' : Hid (Wds n wl s') := hide (by rw [← hs']; exact HWD.out.cas HWL.out.1 htn)
              have HS' := hide hs'
              clear hs'
              have hZD := heap_alloc_at W (.cells #[.int .i64 0, .int .i64 0, .int .u64 0, .int .u64 0] 27)
              obtain ⟨bd, hbd⟩ : ∃ bd, W.heap.size = bd := ⟨_, rfl⟩
              rw [hbd] at hZD
              have lSide : Loc (SideR gT gL gR q p r a p' r' pg n s s rl tv1 tl1 rv1 S t (Sep (BO bs SO) Nought)) := Loc.ax.sep (Loc.mx.sep (Loc.bo.sep (Loc.bo.sep (Loc.bo.sep ((Loc.rest Loc.mach t n).sep lB)))))
              have o1 := Own.boNew (Loc.bo.sep (Loc.bo.sep (Loc.logR.sep lSide))) OE.out hZD (by rw [hbd]; exact Nat.le_refl _) (grown1 _ _)
              have gt1 : (W.alloc (.cells #[.int .i64 0, .int .i64 0, .int .u64 0, .int .u64 0] 27)).cell? ⟨gT, t, none⟩ = some (.pointer (some ⟨m, 0, none⟩)) := (cell_of_heap (o1.has (m := gT) (o := .cells (rowN n tv1) 67 (0, 0)) (R := Sep (BO bd (.cells #[.int .i64 0, .int .i64 0, .int .u64 0, .int .u64 0] 27 (0, 0))) (Sep (BO m (takeO (pg : Int) (n : Int) false (t : Int))) (Sep (BO b (mObj (kTake (pg : Int) (n : Int) t) v)) (Sep (LogR v.log l) (Sep (AX q (pg : Int) (n : Int) p r s pg [] 1 rl) (Sep (MX a (pg : Int) (n : Int) p' r' s pg [] 1 rl) (Sep (BO gL (.cells (rowN n tl1) 68 (0, 0))) (Sep (BO gR (.cells (rowN n rv1) 55 (0, 0))) (Sep (Many (upd (machR (pg : Int) (n : Int) S) t Nought) n) (Sep (BO bs SO) Nought)))))))))) (by unfold SideR; ac_rfl))).trans ((rowN_get _ htn).trans (congrArg some HT1.out))
              have O1 := hide o1
              clear o1 OE hZD
              go_upto_region 21 with fail
              try rw [hbd]
              clear gt1
              generalize W.alloc (.cells #[.int .i64 0, .int .i64 0, .int .u64 0, .int .u64 0] 27) = u1 at *
              have HBD := hide hbd
              clear hbd
              go_cut [19] from 106 to 157 (fun r19 wc => r19 = .bool false ∧ Hid (Own (Sep (BO bd (.cells #[.int .i64 s'.kind, .int .i64 s'.place, .int .u64 (s'.old : Int), .int .u64 (s'.new : Int)] 27 (0, 0))) (Sep (BO m (takeO (pg : Int) (n : Int) false (t : Int))) (Sep (BO b (mObj (kTake (pg : Int) (n : Int) t) v)) (Sep (LogR v.log l) (SideR gT gL gR q p r a p' r' pg n s' s rl tv1 tl1 rv1 S t (Sep (BO bs SO) Nought)))))) w wc))
              case first =>
                have O2 := hide (O1.out.below (Loc.bo.sep (Loc.bo.sep (Loc.bo.sep (Loc.logR.sep lSide)))) ((Alike.drewN u1 1).below _))
                have GC : Hid (∀ (bo mo' : Obj) (s1 s2 : St) (u : World), Own (Sep (BO bd bo) (Sep (BO m mo') (Sep (BO b (mObj (kTake (pg : Int) (n : Int) t) v)) (Sep (LogR v.log l) (SideR gT gL gR q p r a p' r' pg n s1 s2 rl tv1 tl1 rv1 S t (Sep (BO bs SO) Nought)))))) w u → Cel gT t (.pointer (some ⟨m, 0, none⟩)) u) := hide (fun bo mo' s1 s2 u h => (cell_of_heap (h.has (m := gT) (o := .cells (rowN n tv1) 67 (0, 0)) (R := Sep (BO bd bo) (Sep (BO m mo') (Sep (BO b (mObj (kTake (pg : Int) (n : Int) t) v)) (Sep (LogR v.log l) (Sep (AX q (pg : Int) (n : Int) p r s1 pg [] 1 rl) (Sep (MX a (pg : Int) (n : Int) p' r' s2 pg [] 1 rl) (Sep (BO gL (.cells (rowN n tl1) 68 (0, 0))) (Sep (BO gR (.cells (rowN n rv1) 55 (0, 0))) (Sep (Many (upd (machR (pg : Int) (n : Int) S) t Nought) n) (Sep (BO bs SO) Nought)))))))))) (by unfold SideR; ac_rfl))).trans ((rowN_get _ htn).trans (congrArg some HT1.out)))
                have J2 : Hid (Cel gT t (.pointer (some ⟨m, 0, none⟩)) u1.drew) := hide (GC.out _ _ _ _ _ O2.out)
                have hne : Nonempty (Mem (Cel gT t (.pointer (some ⟨m, 0, none⟩)))) := ⟨⟨_, J2.out⟩⟩
                have UG : ∀ u : Mem (Cel gT t (.pointer (some ⟨m, 0, none⟩))), u.w'.cell? ⟨gT, t, none⟩ = some (.pointer (some ⟨m, 0, none⟩)) := fun u => u.h
                clear O1
                refine region_start (J := Cel gT t (.pointer (some ⟨m, 0, none⟩))) (by kernel_rfl) ?_
                refine stretch (fuel := 4) (by kernel_rfl) (fun _ _ _ _ _ h => h) J2.out [0, 1, 2, 3, 4, 6, 7, 8, 9] (by kernel_rfl) ?_
                simp only [List.filterMap_cons, List.filterMap_nil, List.getElem?_toArray, List.getElem?_cons_zero, List.getElem?_cons_succ]
                show wpQuiet _ _ _ _ [_, _, _, _, _, _, _, _, _] _
                repeat (go_big_quiet_step (fail))
                refine wpQuiet_nil ?_
                refine wpAnyJ_writer (i := 5) rfl (by kernel_rfl) (fun K' hK => ?_)
                go_simp
                have lA : Loc (Sep (BO bd (.cells #[.int .i64 0, .int .i64 0, .int .u64 0, .int .u64 0] 27 (0, 0))) (Sep (BO b (mObj (kTake (pg : Int) (n : Int) t) v)) (Sep (LogR v.log l) (Sep (MX a (pg : Int) (n : Int) p' r' s pg [] 1 rl) (Sep (BO gT (.cells (rowN n tv1) 67 (0, 0))) (Sep (BO gL (.cells (rowN n tl1) 68 (0, 0))) (Sep (BO gR (.cells (rowN n rv1) 55 (0, 0))) (Sep (Many (upd (machR (pg : Int) (n : Int) S) t Nought) n) (Sep (BO bs SO) Nought))))))))) := Loc.bo.sep (Loc.bo.sep (Loc.logR.sep (Loc.mx.sep (Loc.bo.sep (Loc.bo.sep (Loc.bo.sep ((Loc.rest Loc.mach t n).sep lB)))))))
                refine (takeStep lA t (by omega) (O2.out.cast (by unfold SideR; ac_rfl)) (by rw [HWD.out.len]; exact HWL.out.1) false HOK.out s' HS'.out).mono ?_
                rintro e u3 ⟨rfl, o3⟩
                have O3 := hide (o3.cast (R' := Sep (BO bd (.cells #[.int .i64 0, .int .i64 0, .int .u64 0, .int .u64 0] 27 (0, 0))) (Sep (BO m (takeO (pg : Int) (n : Int) false (t : Int))) (Sep (BO b (mObj (kTake (pg : Int) (n : Int) t) v)) (Sep (LogR v.log l) (SideR gT gL gR q p r a p' r' pg n s' s rl tv1 tl1 rv1 S t (Sep (BO bs SO) Nought)))))) (by unfold SideR; ac_rfl))
                refine hK _ _ (GC.out _ _ _ _ _ O3.out) ?_
                clear hK K' o3 O2 J2 lA
                have lS' : Loc (Sep (BO m (takeO (pg : Int) (n : Int) false (t : Int))) (Sep (BO b (mObj (kTake (pg : Int) (n : Int) t) v)) (Sep (LogR v.log l) (SideR gT gL gR q p r a p' r' pg n s' s rl tv1 tl1 rv1 S t (Sep (BO bs SO) Nought))))) := Loc.bo.sep (Loc.bo.sep (Loc.logR.sep (Loc.ax.sep (Loc.mx.sep (Loc.bo.sep (Loc.bo.sep (Loc.bo.sep ((Loc.rest Loc.mach t n).sep lB))))))))
                refine wpAnyJ_writer (i := 10) rfl (by kernel_rfl) (fun K' hK => ?_)
                go_simp
                refine (takeDone _ m (pg : Int) (n : Int) (t : Int) false (O3.out.has (m := m) (o := takeO (pg : Int) (n : Int) false (t : Int)) (R := Sep (BO bd (.cells #[.int .i64 0, .int .i64 0, .int .u64 0, .int .u64 0] 27 (0, 0))) (Sep (BO b (mObj (kTake (pg : Int) (n : Int) t) v)) (Sep (LogR v.log l) (SideR gT gL gR q p r a p' r' pg n s' s rl tv1 tl1 rv1 S t (Sep (BO bs SO) Nought))))) (by ac_rfl))).mono ?_
                rintro e u4 ⟨rfl, rfl⟩
                refine hK _ _ (GC.out _ _ _ _ _ O3.out) ?_
                clear hK K'
                refine wpAnyJ_writer (i := 11) rfl (by kernel_rfl) (fun K' hK => ?_)
                have r0 : u4.cell? ⟨bd, 0, none⟩ = some (.int .i64 0) := cell_of_heap (Own.boAt O3.out)
                have r1 : u4.cell? ⟨bd, 1, none⟩ = some (.int .i64 0) := cell_of_heap (Own.boAt O3.out)
                have r2 : u4.cell? ⟨bd, 2, none⟩ = some (.int .u64 0) := cell_of_heap (Own.boAt O3.out)
                have r3 : u4.cell? ⟨bd, 3, none⟩ = some (.int .u64 0) := cell_of_heap (Own.boAt O3.out)
                have fr : ∀ o, u4.frozen? ⟨bd, o, none⟩ = false := fun o => frozen_of_heap (Own.boAt O3.out)
                have O5 : Hid (Own (Sep (BO bd (.cells #[.int .i64 s'.kind, .int .i64 s'.place, .int .u64 (s'.old : Int), .int .u64 (s'.new : Int)] 27 (0, 0))) (Sep (BO m (takeO (pg : Int) (n : Int) false (t : Int))) (Sep (BO b (mObj (kTake (pg : Int) (n : Int) t) v)) (Sep (LogR v.log l) (SideR gT gL gR q p r a p' r' pg n s' s rl tv1 tl1 rv1 S t (Sep (BO bs SO) Nought)))))) w ((((u4.setCell ⟨bd, 0, none⟩ (.int .i64 s'.kind)).setCell ⟨bd, 1, none⟩ (.int .i64 s'.place)).setCell ⟨bd, 2, none⟩ (.int .u64 (s'.old : Int))).setCell ⟨bd, 3, none⟩ (.int .u64 (s'.new : Int)))) :=
                  hide (Own.boSet lS' (Own.boSet lS' (Own.boSet lS' (Own.boSet lS' O3.out 0 (.int .i64 s'.kind)) 1 (.int .i64 s'.place)) 2 (.int .u64 (s'.old : Int))) 3 (.int .u64 (s'.new : Int)))
                unfold St.did
                go_simp
                refine hK _ _ (GC.out _ _ _ _ _ O5.out) ?_
                clear hK K' r0 r1 r2 r3 fr O3
                generalize (((u4.setCell ⟨bd, 0, none⟩ (.int .i64 s'.kind)).setCell ⟨bd, 1, none⟩ (.int .i64 s'.place)).setCell ⟨bd, 2, none⟩ (.int .u64 (s'.old : Int))).setCell ⟨bd, 3, none⟩ (.int .u64 (s'.new : Int)) = u5 at *
                refine stretch (fuel := 0) (by kernel_rfl) (fun _ _ _ _ _ h => h) (GC.out _ _ _ _ _ O5.out) [12] (by kernel_rfl) ?_
                simp only [List.filterMap_cons, List.filterMap_nil, List.getElem?_toArray, List.getElem?_cons_zero, List.getElem?_cons_succ]
                show wpQuiet _ _ _ _ [_] _
                repeat (go_big_quiet_step (fail))
                refine wpQuiet_nil ?_
                refine wpAnyJ_done (by kernel_rfl) ?_
                go_wp2
                go_meet
                exact ⟨rfl, O5.out⟩
              obtain ⟨hr19, O5⟩ := hcut
              subst hr19
              clear O1
              go_upto_region 23 with fail
              have lS' : Loc (Sep (BO m (takeO (pg : Int) (n : Int) false (t : Int))) (Sep (BO b (mObj (kTake (pg : Int) (n : Int) t) v)) (Sep (LogR v.log l) (SideR gT gL gR q p r a p' r' pg n s' s rl tv1 tl1 rv1 S t (Sep (BO bs SO) Nought))))) := Loc.bo.sep (Loc.bo.sep (Loc.logR.sep (Loc.ax.sep (Loc.mx.sep (Loc.bo.sep (Loc.bo.sep (Loc.bo.sep ((Loc.rest Loc.mach t n).sep lB))))))))
              have O6 := hide (O5.out.below (Loc.bo.sep lS') ((Alike.drewN wc 1).below _))
              clear O5
              have RC : Hid (∀ (M1 : Obj) (v1 : MV) (l1 : List Nat) (s1 s2 : St) (u : World), Own (Sep (BO bd (.cells #[.int .i64 s'.kind, .int .i64 s'.place, .int .u64 (s'.old : Int), .int .u64 (s'.new : Int)] 27 (0, 0))) (Sep (BO m M1) (Sep (BO b (mObj (kTake (pg : Int) (n : Int) t) v1)) (Sep (LogR v1.log l1) (SideR gT gL gR q p r a p' r' pg n s1 s2 rl tv1 tl1 rv1 S t (Sep (BO bs SO) Nought)))))) w u → BkAt bd (.cells #[.int .i64 s'.kind, .int .i64 s'.place, .int .u64 (s'.old : Int), .int .u64 (s'.new : Int)] 27 (0, 0)) u ∧ Cel gR t (.pointer (some ⟨b, 0, none⟩)) u) := hide (fun M1 v1 l1 s1 s2 u h => ⟨Own.boAt h, (cell_of_heap (h.has (m := gR) (o := .cells (rowN n rv1) 55 (0, 0)) (R := Sep (BO bd (.cells #[.int .i64 s'.kind, .int .i64 s'.place, .int .u64 (s'.old : Int), .int .u64 (s'.new : Int)] 27 (0, 0))) (Sep (BO m M1) (Sep (BO b (mObj (kTake (pg : Int) (n : Int) t) v1)) (Sep (LogR v1.log l1) (Sep (AX q (pg : Int) (n : Int) p r s1 pg [] 1 rl) (Sep (MX a (pg : Int) (n : Int) p' r' s2 pg [] 1 rl) (Sep (BO gT (.cells (rowN n tv1) 67 (0, 0))) (Sep (BO gL (.cells (rowN n tl1) 68 (0, 0))) (Sep (Many (upd (machR (pg : Int) (n : Int) S) t Nought) n) (Sep (BO bs SO) Nought)))))))))) (by unfold SideR; ac_rfl))).trans ((rowN_get _ htn).trans (congrArg some HR1.out))⟩)
              have hne : Nonempty (Mem (fun u => BkAt bd (.cells #[.int .i64 s'.kind, .int .i64 s'.place, .int .u64 (s'.old : Int), .int .u64 (s'.new : Int)] 27 (0, 0)) u ∧ Cel gR t (.pointer (some ⟨b, 0, none⟩)) u)) := ⟨⟨_, RC.out _ _ _ _ _ _ O6.out⟩⟩
              have UD0 : ∀ u : Mem (fun u => BkAt bd (.cells #[.int .i64 s'.kind, .int .i64 s'.place, .int .u64 (s'.old : Int), .int .u64 (s'.new : Int)] 27 (0, 0)) u ∧ Cel gR t (.pointer (some ⟨b, 0, none⟩)) u), u.w'.cell? ⟨bd, 0, none⟩ = some (.int .i64 s'.kind) := fun u => cell_of_heap u.h.1
              have UD1 : ∀ u : Mem (fun u => BkAt bd (.cells #[.int .i64 s'.kind, .int .i64 s'.place, .int .u64 (s'.old : Int), .int .u64 (s'.new : Int)] 27 (0, 0)) u ∧ Cel gR t (.pointer (some ⟨b, 0, none⟩)) u), u.w'.cell? ⟨bd, 1, none⟩ = some (.int .i64 s'.place) := fun u => cell_of_heap u.h.1
              have UD2 : ∀ u : Mem (fun u => BkAt bd (.cells #[.int .i64 s'.kind, .int .i64 s'.place, .int .u64 (s'.old : Int), .int .u64 (s'.new : Int)] 27 (0, 0)) u ∧ Cel gR t (.pointer (some ⟨b, 0, none⟩)) u), u.w'.cell? ⟨bd, 2, none⟩ = some (.int .u64 (s'.old : Int)) := fun u => cell_of_heap u.h.1
              have UD3 : ∀ u : Mem (fun u => BkAt bd (.cells #[.int .i64 s'.kind, .int .i64 s'.place, .int .u64 (s'.old : Int), .int .u64 (s'.new : Int)] 27 (0, 0)) u ∧ Cel gR t (.pointer (some ⟨b, 0, none⟩)) u), u.w'.cell? ⟨bd, 3, none⟩ = some (.int .u64 (s'.new : Int)) := fun u => cell_of_heap u.h.1
              have UR : ∀ u : Mem (fun u => BkAt bd (.cells #[.int .i64 s'.kind, .int .i64 s'.place, .int .u64 (s'.old : Int), .int .u64 (s'.new : Int)] 27 (0, 0)) u ∧ Cel gR t (.pointer (some ⟨b, 0, none⟩)) u), u.w'.cell? ⟨gR, t, none⟩ = some (.pointer (some ⟨b, 0, none⟩)) := fun u => u.h.2
              refine region_start (J := fun u => BkAt bd (.cells #[.int .i64 s'.kind, .int .i64 s'.place, .int .u64 (s'.old : Int), .int .u64 (s'.new : Int)] 27 (0, 0)) u ∧ Cel gR t (.pointer (some ⟨b, 0, none⟩)) u) (by kernel_rfl) ?_
              refine stretch (fuel := 20) (by kernel_rfl) (fun _ _ _ _ _ h => h) (RC.out _ _ _ _ _ _ O6.out) [0, 1, 2, 3, 4, 5] (by kernel_rfl) ?_
              simp only [List.filterMap_cons, List.filterMap_nil, List.getElem?_toArray, List.getElem?_cons_zero, List.getElem?_cons_succ]
              show wpQuiet _ _ _ _ [_, _, _, _, _, _] _
              repeat (go_big_quiet_step (fail))
              refine wpQuiet_nil ?_
              refine wpAnyJ_writer (i := 6) rfl (by kernel_rfl) (fun K' hK => ?_)
              go_simp
              have lD : Loc (Sep (BO bd (.cells #[.int .i64 s'.kind, .int .i64 s'.place, .int .u64 (s'.old : Int), .int .u64 (s'.new : Int)] 27 (0, 0))) (Sep (BO m (takeO (pg : Int) (n : Int) false (t : Int))) (Sep (AX q (pg : Int) (n : Int) p r s' pg [] 1 rl) (Sep (BO gT (.cells (rowN n tv1) 67 (0, 0))) (Sep (BO gL (.cells (rowN n tl1) 68 (0, 0))) (Sep (BO gR (.cells (rowN n rv1) 55 (0, 0))) (Sep (Many (upd (machR (pg : Int) (n : Int) S) t Nought) n) (Sep (BO bs SO) Nought)))))))) := Loc.bo.sep (Loc.bo.sep (Loc.ax.sep (Loc.bo.sep (Loc.bo.sep (Loc.bo.sep ((Loc.rest Loc.mach t n).sep lB))))))
              refine (rstepTake (k := kTake (pg : Int) (n : Int) t) lD t (by omega) rfl rfl (O6.out.cast (by unfold SideR; ac_rfl)) HV.out.1 HV.out.2.1 (by have := HV.out.2.2; omega) (by rw [HWD.out.len]; exact HWL.out.1) false HOK.out).mono ?_
              rintro e u7 ⟨rfl, v', l', hvd, hll, hlen, o7⟩
              rw [HS'.out] at o7
              rw [HS'.out]
              have O7 := hide (o7.cast (R' := Sep (BO bd (.cells #[.int .i64 s'.kind, .int .i64 s'.place, .int .u64 (s'.old : Int), .int .u64 (s'.new : Int)] 27 (0, 0))) (Sep (BO m (takeO (pg : Int) (n : Int) false (t : Int))) (Sep (BO b (mObj (kTake (pg : Int) (n : Int) t) v')) (Sep (LogR v'.log l') (SideR gT gL gR q p r a p' r' pg n s' s' rl tv1 tl1 rv1 S t (Sep (BO bs SO) Nought)))))) (by unfold SideR; ac_rfl))
              have HVD := hide hvd
              have HLL : Hid ((∀ x ∈ l', x ≠ 0) ∧ l'.length ≤ i + 1) := hide ⟨hll rfl, by have := HV.out.2.2; omega⟩
              refine hK _ _ (RC.out _ _ _ _ _ _ O7.out) ?_
              clear hK K' o7 O6 lD hvd hll hlen hne UD0 UD1 UD2 UD3 UR
              unfold St.did
              have DC : Hid (∀ u : World, Own (Sep (BO bd (.cells #[.int .i64 s'.kind, .int .i64 s'.place, .int .u64 (s'.old : Int), .int .u64 (s'.new : Int)] 27 (0, 0))) (Sep (BO m (takeO (pg : Int) (n : Int) false (t : Int))) (Sep (BO b (mObj (kTake (pg : Int) (n : Int) t) v')) (Sep (LogR v'.log l') (SideR gT gL gR q p r a p' r' pg n s' s' rl tv1 tl1 rv1 S t (Sep (BO bs SO) Nought)))))) w u → (Cel gR t (.pointer (some ⟨b, 0, none⟩)) u ∧ Cel b 15 (.bool false) u)  ∧ BkAt bd (.cells #[.int .i64 s'.kind, .int .i64 s'.place, .int .u64 (s'.old : Int), .int .u64 (s'.new : Int)] 27 (0, 0)) u) := hide (fun u h => ⟨⟨(RC.out _ _ _ _ _ _ h).2, by
                have := cell_of_heap (o := 15) (h.has (m := b) (o := mObj (kTake (pg : Int) (n : Int) t) v') (R := Sep (BO bd (.cells #[.int .i64 s'.kind, .int .i64 s'.place, .int .u64 (s'.old : Int), .int .u64 (s'.new : Int)] 27 (0, 0))) (Sep (BO m (takeO (pg : Int) (n : Int) false (t : Int))) (Sep (LogR v'.log l') (SideR gT gL gR q p r a p' r' pg n s' s' rl tv1 tl1 rv1 S t (Sep (BO bs SO) Nought))))) (by ac_rfl))
                refine this.trans ?_
                show some (Value.bool v'.done) = _
                rw [HVD.out]⟩, Own.boAt h⟩)
              refine wpAnyJ_class (I := fun u => (Cel gR t (.pointer (some ⟨b, 0, none⟩)) u ∧ Cel b 15 (.bool false) u) ∧ BkAt bd (.cells #[.int .i64 s'.kind, .int .i64 s'.place, .int .u64 (s'.old : Int), .int .u64 (s'.new : Int)] 27 (0, 0)) u) (fun _ h => ⟨h.2, h.1.1⟩) ?_
              have hne : Nonempty (Mem (fun u => (Cel gR t (.pointer (some ⟨b, 0, none⟩)) u ∧ Cel b 15 (.bool false) u) ∧ BkAt bd (.cells #[.int .i64 s'.kind, .int .i64 s'.place, .int .u64 (s'.old : Int), .int .u64 (s'.new : Int)] 27 (0, 0)) u)) := ⟨⟨_, DC.out _ O7.out⟩⟩
              have UR : ∀ u : Mem (fun u => (Cel gR t (.pointer (some ⟨b, 0, none⟩)) u ∧ Cel b 15 (.bool false) u) ∧ BkAt bd (.cells #[.int .i64 s'.kind, .int .i64 s'.place, .int .u64 (s'.old : Int), .int .u64 (s'.new : Int)] 27 (0, 0)) u), u.w'.cell? ⟨gR, t, none⟩ = some (.pointer (some ⟨b, 0, none⟩)) := fun u => u.h.1.1
              have UB : ∀ u : Mem (fun u => (Cel gR t (.pointer (some ⟨b, 0, none⟩)) u ∧ Cel b 15 (.bool false) u) ∧ BkAt bd (.cells #[.int .i64 s'.kind, .int .i64 s'.place, .int .u64 (s'.old : Int), .int .u64 (s'.new : Int)] 27 (0, 0)) u), u.w'.cell? ⟨b, 15, none⟩ = some (.bool false) := fun u => u.h.1.2
              refine stretch (fuel := 4) (by kernel_rfl) (fun _ _ _ _ _ h => h) (DC.out _ O7.out) [7, 8, 9, 10, 11, 12, 13, 14, 15, 16, 17, 18, 19, 20, 22] (by kernel_rfl) ?_
              simp only [List.filterMap_cons, List.filterMap_nil, List.getElem?_toArray, List.getElem?_cons_zero, List.getElem?_cons_succ]
              show wpQuiet _ _ _ _ [_, _, _, _, _, _, _, _, _, _, _, _, _, _, _] _
              repeat (go_big_quiet_step (fail))
              refine wpQuiet_nil ?_
              obtain ⟨hx, hhx⟩ : ∃ hx, s'.words.getD 2 0 = hx := ⟨_, rfl⟩
              obtain ⟨vv, hvv⟩ : ∃ vv, (hx : Int) - 1 = vv := ⟨_, rfl⟩
              have hxn : hx ≤ n := by rw [← hhx]; exact HW'.out.at_
              have hs2 : 2 < s'.words.length := by rw [HW'.out.len]; exact HWL.out.1
              have HHX := hide hhx
              have HVV := hide hvv
              have HS2 := hide hs2
              clear hhx hvv hs2
              refine wpAnyJ_writer (i := 21) rfl (by kernel_rfl) (fun K' hK => ?_)
              go_simp
              have lH : Loc (Sep (BO bd (.cells #[.int .i64 s'.kind, .int .i64 s'.place, .int .u64 (s'.old : Int), .int .u64 (s'.new : Int)] 27 (0, 0))) (Sep (BO m (takeO (pg : Int) (n : Int) false (t : Int))) (Sep (BO b (mObj (kTake (pg : Int) (n : Int) t) v')) (Sep (LogR v'.log l') (Sep (MX a (pg : Int) (n : Int) p' r' s' pg [] 1 rl) (Sep (BO gT (.cells (rowN n tv1) 67 (0, 0))) (Sep (BO gL (.cells (rowN n tl1) 68 (0, 0))) (Sep (BO gR (.cells (rowN n rv1) 55 (0, 0))) (Sep (Many (upd (machR (pg : Int) (n : Int) S) t Nought) n) (Sep (BO bs SO) Nought)))))))))) := Loc.bo.sep (Loc.bo.sep (Loc.bo.sep (Loc.logR.sep (Loc.mx.sep (Loc.bo.sep (Loc.bo.sep (Loc.bo.sep ((Loc.rest Loc.mach t n).sep lB))))))))
              refine (heldW lH (O7.out.cast (by unfold SideR; ac_rfl)) HS2.out hx HHX.out (by omega) (by omega) vv HVV.out).mono ?_
              rintro e u8 ⟨rfl, o8⟩
              have O8 := hide (o8.cast (R' := Sep (BO bd (.cells #[.int .i64 s'.kind, .int .i64 s'.place, .int .u64 (s'.old : Int), .int .u64 (s'.new : Int)] 27 (0, 0))) (Sep (BO m (takeO (pg : Int) (n : Int) false (t : Int))) (Sep (BO b (mObj (kTake (pg : Int) (n : Int) t) v')) (Sep (LogR v'.log l') (SideR gT gL gR q p r a p' r' pg n s' s' rl tv1 tl1 rv1 S t (Sep (BO bs SO) Nought)))))) (by unfold SideR; ac_rfl))
              refine hK _ _ (DC.out _ O8.out) ?_
              clear hK K' o8 O7 lH
              refine wpAnyJ_writer (i := 23) rfl (by kernel_rfl) (fun K' hK => ?_)
              go_simp
              refine (rHeld (O8.out.cast (R' := Sep (MX a (pg : Int) (n : Int) p' r' s' pg [] 1 rl) (Sep (BO bd (.cells #[.int .i64 s'.kind, .int .i64 s'.place, .int .u64 (s'.old : Int), .int .u64 (s'.new : Int)] 27 (0, 0))) (Sep (BO m (takeO (pg : Int) (n : Int) false (t : Int))) (Sep (BO b (mObj (kTake (pg : Int) (n : Int) t) v')) (Sep (LogR v'.log l') (Sep (AX q (pg : Int) (n : Int) p r s' pg [] 1 rl) (Sep (BO gT (.cells (rowN n tv1) 67 (0, 0))) (Sep (BO gL (.cells (rowN n tl1) 68 (0, 0))) (Sep (BO gR (.cells (rowN n rv1) 55 (0, 0))) (Sep (Many (upd (machR (pg : Int) (n : Int) S) t Nought) n) (Sep (BO bs SO) Nought))))))))))) (by unfold SideR; ac_rfl)) HS2.out hx HHX.out (by omega) vv HVV.out).mono ?_
              rintro e u9 ⟨rfl, o9⟩
              have O9 := hide (o9.cast (R' := Sep (BO bd (.cells #[.int .i64 s'.kind, .int .i64 s'.place, .int .u64 (s'.old : Int), .int .u64 (s'.new : Int)] 27 (0, 0))) (Sep (BO m (takeO (pg : Int) (n : Int) false (t : Int))) (Sep (BO b (mObj (kTake (pg : Int) (n : Int) t) v')) (Sep (LogR v'.log l') (SideR gT gL gR q p r a p' r' pg n s' s' rl tv1 tl1 rv1 S t (Sep (BO bs SO) Nought)))))) (by unfold SideR; ac_rfl))
              refine hK _ _ (DC.out _ O9.out) ?_
              clear hK K' o9 O8
              refine stretch (fuel := 0) (by kernel_rfl) (fun _ _ _ _ _ h => h) (DC.out _ O9.out) [24, 25] (by kernel_rfl) ?_
              simp only [List.filterMap_cons, List.filterMap_nil, List.getElem?_toArray, List.getElem?_cons_zero, List.getElem?_cons_succ]
              show wpQuiet _ _ _ _ [_, _] _
              repeat (go_big_quiet_step (fail))
              refine wpQuiet_nil ?_
              refine wpAnyJ_done (by kernel_rfl) ?_
              clear hne UR UB DC RC lS' lSide
              have O11 : Hid (Own (GameR gT gL gR q p r a p' r' pg n s' rl tv1 tl1 (upd S t (.take m b v' l')) (Sep (BO bs SO) Nought)) w u9) := hide (O9.out.drop.cast (by
                rw [← GameR.turn htn (.take m b v' l'), HRS.out (.take m b v' l') rfl]
                show _ = Sep (Sep (BO m (takeO (pg : Int) (n : Int) false (t : Int))) (Sep (BO b (mObj (kTake (pg : Int) (n : Int) t) v')) (LogR v'.log l'))) _
                ac_rfl))
              clear O9
              go_wp2
              go_roundw
              case rel => exact ⟨i + 1, s', tv1, tl1, upd S t (.take m b v' l'), by go_num, by omega, ⟨HW'.out, Fit.turn HOKS.out _ ⟨HVD.out, HLL.out.1, HLL.out.2, HT1.out, HLE.out⟩, O11.out⟩⟩
              case measure => simp [intOf]; omega
          · have ey : (y : Int) % 2 = 1 := by omega
            clear hy2
            have OZ := OY
            clear OY
            go_upto_region 17 with fail
            have hq := OZ.out.mhead (m := a) (p := p') (r := r') (P := (pg : Int)) (T := (n : Int)) (R := Sep (BO bx (.cells #[.int .i64 4, .int .i64 (pg : Int), .int .i64 (n : Int), .int .i64 (t : Int), .int .i64 0, .int .i64 0, .int .i64 0, .int .i64 0, .int .i64 0, .int .i64 0, .int .i64 0, .int .u64 0, .bool false, .slice none 0 0, .slice none 0 0, .bool false, .int .i64 0, .bool false, .pointer none, .int .i64 0, .int .i64 0, .int .u64 0, .int .u64 0, .int .i64 0, .int .i64 0, .int .i64 0, .int .i64 0, .int .u64 0, .slice none 0 0, .slice none 0 0, .int .i64 0, .int .i64 0] 66 (0, 0))) (Sep (BO gT (.cells (rowN n (upd tv t (.pointer none))) 67 (0, 0))) (Sep (BO gL (.cells (rowN n (upd tl t (.pointer none))) 68 (0, 0))) (Sep (BO gR (.cells (rowN n (refsV S)) 55 (0, 0))) (Sep (AX q (pg : Int) (n : Int) p r s pg [] 1 rl) (Sep (S2 p' s) (Sep (RX r' pg [] 1 rl) (Sep (Many (machR (pg : Int) (n : Int) S) n) (Sep (BO bs SO) Nought))))))))) (by unfold MX; ac_rfl)
            have a2 : wy.cell? ⟨a, 2, none⟩ = some (.int .i64 (pg : Int)) := cell_of_heap hq
            have a3 : wy.cell? ⟨a, 3, none⟩ = some (.int .i64 (n : Int)) := cell_of_heap hq
            clear hq
            go_wp2_with fail
            refine (HNL.out _).mono ?_
            rintro e w4 ⟨m, rfl, h1, h2, h3⟩
            have o4 := (Own.boNew (Loc.bo.sep lY) OZ.out h1 h2 h3).cast (R' := Sep (BO gL (.cells (rowN n (upd tl t (.pointer none))) 68 (0, 0))) (Sep (BO m (leaveO (pg : Int) (n : Int) false)) (Sep (BO bx (.cells #[.int .i64 4, .int .i64 (pg : Int), .int .i64 (n : Int), .int .i64 (t : Int), .int .i64 0, .int .i64 0, .int .i64 0, .int .i64 0, .int .i64 0, .int .i64 0, .int .i64 0, .int .u64 0, .bool false, .slice none 0 0, .slice none 0 0, .bool false, .int .i64 0, .bool false, .pointer none, .int .i64 0, .int .i64 0, .int .u64 0, .int .u64 0, .int .i64 0, .int .i64 0, .int .i64 0, .int .i64 0, .int .u64 0, .slice none 0 0, .slice none 0 0, .int .i64 0, .int .i64 0] 66 (0, 0))) (Sep (BO gT (.cells (rowN n (upd tv t (.pointer none))) 67 (0, 0))) (Sep (BO gR (.cells (rowN n (refsV S)) 55 (0, 0))) (Sep (AX q (pg : Int) (n : Int) p r s pg [] 1 rl) (Sep (MX a (pg : Int) (n : Int) p' r' s pg [] 1 rl) (Sep (Many (machR (pg : Int) (n : Int) S) n) (Sep (BO bs SO) Nought))))))))) (by ac_rfl)
            have y4 : w4.cell? ⟨gL, t, none⟩ = some (.pointer none) := (cell_of_heap (Own.boAt o4)).trans ((rowN_get _ htn).trans (congrArg some (upd_at _ _ _)))
            have f4 : ∀ o, w4.frozen? ⟨gL, o, none⟩ = false := fun o => frozen_of_heap (Own.boAt o4)
            have l4 : Loc (Sep (BO m (leaveO (pg : Int) (n : Int) false)) (Sep (BO bx (.cells #[.int .i64 4, .int .i64 (pg : Int), .int .i64 (n : Int), .int .i64 (t : Int), .int .i64 0, .int .i64 0, .int .i64 0, .int .i64 0, .int .i64 0, .int .i64 0, .int .i64 0, .int .u64 0, .bool false, .slice none 0 0, .slice none 0 0, .bool false, .int .i64 0, .bool false, .pointer none, .int .i64 0, .int .i64 0, .int .u64 0, .int .u64 0, .int .i64 0, .int .i64 0, .int .i64 0, .int .i64 0, .int .u64 0, .slice none 0 0, .slice none 0 0, .int .i64 0, .int .i64 0] 66 (0, 0))) (Sep (BO gT (.cells (rowN n (upd tv t (.pointer none))) 67 (0, 0))) (Sep (BO gR (.cells (rowN n (refsV S)) 55 (0, 0))) (Sep (AX q (pg : Int) (n : Int) p r s pg [] 1 rl) (Sep (MX a (pg : Int) (n : Int) p' r' s pg [] 1 rl) (Sep (Many (machR (pg : Int) (n : Int) S) n) (Sep (BO bs SO) Nought)))))))) := Loc.bo.sep (Loc.bo.sep (Loc.bo.sep (Loc.bo.sep (Loc.ax.sep (Loc.mx.sep ((Loc.many Loc.mach n).sep lB))))))
            have o5 := Own.boSet l4 o4 t (.pointer (some ⟨m, 0, none⟩))
            rw [rowN_set, upd_upd] at o5
            have O5 := hide (o5.cast (R' := Sep (BO bx (.cells #[.int .i64 4, .int .i64 (pg : Int), .int .i64 (n : Int), .int .i64 (t : Int), .int .i64 0, .int .i64 0, .int .i64 0, .int .i64 0, .int .i64 0, .int .i64 0, .int .i64 0, .int .u64 0, .bool false, .slice none 0 0, .slice none 0 0, .bool false, .int .i64 0, .bool false, .pointer none, .int .i64 0, .int .i64 0, .int .u64 0, .int .u64 0, .int .i64 0, .int .i64 0, .int .i64 0, .int .i64 0, .int .u64 0, .slice none 0 0, .slice none 0 0, .int .i64 0, .int .i64 0] 66 (0, 0))) (Sep (BO m (leaveO (pg : Int) (n : Int) false)) (Sep (BO gT (.cells (rowN n (upd tv t (.pointer none))) 67 (0, 0))) (Sep (BO gL (.cells (rowN n (upd tl t (.pointer (some ⟨m, 0, none⟩)))) 68 (0, 0))) (Sep (BO gR (.cells (rowN n (refsV S)) 55 (0, 0))) (Sep (AX q (pg : Int) (n : Int) p r s pg [] 1 rl) (Sep (MX a (pg : Int) (n : Int) p' r' s pg [] 1 rl) (Sep (Many (machR (pg : Int) (n : Int) S) n) (Sep (BO bs SO) Nought))))))))) (by ac_rfl))
            clear o4 o5 l4 h1 h2 h3 OZ a2 a3
            go_upto_region 18 with fail
            clear y4 f4
            generalize w4.setCell ⟨gL, t, none⟩ (.pointer (some ⟨m, 0, none⟩)) = w5 at *
            have hM := hide (Own.boAt O5.out)
            have l5 : Loc (Sep (BO bx (.cells #[.int .i64 4, .int .i64 (pg : Int), .int .i64 (n : Int), .int .i64 (t : Int), .int .i64 0, .int .i64 0, .int .i64 0, .int .i64 0, .int .i64 0, .int .i64 0, .int .i64 0, .int .u64 0, .bool false, .slice none 0 0, .slice none 0 0, .bool false, .int .i64 0, .bool false, .pointer none, .int .i64 0, .int .i64 0, .int .u64 0, .int .u64 0, .int .i64 0, .int .i64 0, .int .i64 0, .int .i64 0, .int .u64 0, .slice none 0 0, .slice none 0 0, .int .i64 0, .int .i64 0] 66 (0, 0))) (Sep (BO m (leaveO (pg : Int) (n : Int) false)) (Sep (BO gT (.cells (rowN n (upd tv t (.pointer none))) 67 (0, 0))) (Sep (BO gL (.cells (rowN n (upd tl t (.pointer (some ⟨m, 0, none⟩)))) 68 (0, 0))) (Sep (BO gR (.cells (rowN n (refsV S)) 55 (0, 0))) (Sep (AX q (pg : Int) (n : Int) p r s pg [] 1 rl) (Sep (MX a (pg : Int) (n : Int) p' r' s pg [] 1 rl) (Sep (Many (machR (pg : Int) (n : Int) S) n) (Sep (BO bs SO) Nought))))))))) := Loc.bo.sep (Loc.bo.sep (Loc.bo.sep (Loc.bo.sep (Loc.bo.sep (Loc.ax.sep (Loc.mx.sep ((Loc.many Loc.mach n).sep lB)))))))
            go_wp2_with (first
              | fail
              | (refine wpList_load_row rfl 66 _ rfl _ rfl 66 #[.int .i64 4, .int .i64 (pg : Int), .int .i64 (n : Int), .int .i64 (t : Int), .int .i64 0, .int .i64 0, .int .i64 0, .int .i64 0, .int .i64 0, .int .i64 0, .int .i64 0, .int .u64 0, .bool false, .slice none 0 0, .slice none 0 0, .bool false, .int .i64 0, .bool false, .pointer none, .int .i64 0, .int .i64 0, .int .u64 0, .int .u64 0, .int .i64 0, .int .i64 0, .int .i64 0, .int .i64 0, .int .u64 0, .slice none 0 0, .slice none 0 0, .int .i64 0, .int .i64 0] (0, 0) _ hM.out Tryz.underlying66 rfl (by kernel_rfl) ?_))
            refine (m_new (k := kLeave (pg : Int) (n : Int) t) (v := vNone) l5 O5.out).mono ?_
            rintro e w6 ⟨b, rfl, o6⟩
            have o6' := o6.cast (R' := Sep (BO gR (.cells (rowN n (refsV S)) 55 (0, 0))) (Sep (BO bx (.cells #[.int .i64 4, .int .i64 (pg : Int), .int .i64 (n : Int), .int .i64 (t : Int), .int .i64 0, .int .i64 0, .int .i64 0, .int .i64 0, .int .i64 0, .int .i64 0, .int .i64 0, .int .u64 0, .bool false, .slice none 0 0, .slice none 0 0, .bool false, .int .i64 0, .bool false, .pointer none, .int .i64 0, .int .i64 0, .int .u64 0, .int .u64 0, .int .i64 0, .int .i64 0, .int .i64 0, .int .i64 0, .int .u64 0, .slice none 0 0, .slice none 0 0, .int .i64 0, .int .i64 0] 66 (0, 0))) (Sep (BO b (mObj (kLeave (pg : Int) (n : Int) t) vNone.fresh)) (Sep (BO m (leaveO (pg : Int) (n : Int) false)) (Sep (BO gT (.cells (rowN n (upd tv t (.pointer none))) 67 (0, 0))) (Sep (BO gL (.cells (rowN n (upd tl t (.pointer (some ⟨m, 0, none⟩)))) 68 (0, 0))) (Sep (AX q (pg : Int) (n : Int) p r s pg [] 1 rl) (Sep (MX a (pg : Int) (n : Int) p' r' s pg [] 1 rl) (Sep (Many (machR (pg : Int) (n : Int) S) n) (Sep (BO bs SO) Nought)))))))))) (by ac_rfl)
            have l6 : Loc (Sep (BO bx (.cells #[.int .i64 4, .int .i64 (pg : Int), .int .i64 (n : Int), .int .i64 (t : Int), .int .i64 0, .int .i64 0, .int .i64 0, .int .i64 0, .int .i64 0, .int .i64 0, .int .i64 0, .int .u64 0, .bool false, .slice none 0 0, .slice none 0 0, .bool false, .int .i64 0, .bool false, .pointer none, .int .i64 0, .int .i64 0, .int .u64 0, .int .u64 0, .int .i64 0, .int .i64 0, .int .i64 0, .int .i64 0, .int .u64 0, .slice none 0 0, .slice none 0 0, .int .i64 0, .int .i64 0] 66 (0, 0))) (Sep (BO b (mObj (kLeave (pg : Int) (n : Int) t) vNone.fresh)) (Sep (BO m (leaveO (pg : Int) (n : Int) false)) (Sep (BO gT (.cells (rowN n (upd tv t (.pointer none))) 67 (0, 0))) (Sep (BO gL (.cells (rowN n (upd tl t (.pointer (some ⟨m, 0, none⟩)))) 68 (0, 0))) (Sep (AX q (pg : Int) (n : Int) p r s pg [] 1 rl) (Sep (MX a (pg : Int) (n : Int) p' r' s pg [] 1 rl) (Sep (Many (machR (pg : Int) (n : Int) S) n) (Sep (BO bs SO) Nought))))))))) := Loc.bo.sep (Loc.bo.sep (Loc.bo.sep (Loc.bo.sep (Loc.bo.sep (Loc.ax.sep (Loc.mx.sep ((Loc.many Loc.mach n).sep lB)))))))
            have y6 : w6.cell? ⟨gR, t, none⟩ = some (.pointer none) := (cell_of_heap (Own.boAt o6')).trans ((rowN_get _ htn).trans (congrArg some HRO.out))
            have f6 : ∀ o, w6.frozen? ⟨gR, o, none⟩ = false := fun o => frozen_of_heap (Own.boAt o6')
            have o7 := Own.boSet l6 o6' t (.pointer (some ⟨b, 0, none⟩))
            rw [rowN_set] at o7
            have o8 : Own (Sep (BO gR (.cells (rowN n (upd (refsV S) t (.pointer (some ⟨b, 0, none⟩)))) 55 (0, 0))) (Sep (BO b (mObj (kLeave (pg : Int) (n : Int) t) vNone.fresh)) (Sep (BO m (leaveO (pg : Int) (n : Int) false)) (Sep (BO gT (.cells (rowN n (upd tv t (.pointer none))) 67 (0, 0))) (Sep (BO gL (.cells (rowN n (upd tl t (.pointer (some ⟨m, 0, none⟩)))) 68 (0, 0))) (Sep (AX q (pg : Int) (n : Int) p r s pg [] 1 rl) (Sep (MX a (pg : Int) (n : Int) p' r' s pg [] 1 rl) (Sep (Many (machR (pg : Int) (n : Int) S) n) (Sep (BO bs SO) Nought))))))))) w (w6.setCell ⟨gR, t, none⟩ (.pointer (some ⟨b, 0, none⟩))) := Own.drop (A := BO bx (.cells #[.int .i64 4, .int .i64 (pg : Int), .int .i64 (n : Int), .int .i64 (t : Int), .int .i64 0, .int .i64 0, .int .i64 0, .int .i64 0, .int .i64 0, .int .i64 0, .int .i64 0, .int .u64 0, .bool false, .slice none 0 0, .slice none 0 0, .bool false, .int .i64 0, .bool false, .pointer none, .int .i64 0, .int .i64 0, .int .u64 0, .int .u64 0, .int .i64 0, .int .i64 0, .int .i64 0, .int .i64 0, .int .u64 0, .slice none 0 0, .slice none 0 0, .int .i64 0, .int .i64 0] 66 (0, 0))) (o7.cast (by ac_rfl))
            have hmn : Many (machR (pg : Int) (n : Int) S) n = Many (upd (machR (pg : Int) (n : Int) S) t Nought) n := by
              rw [Many.at (machR (pg : Int) (n : Int) S) t n htn]
              have e : machR (pg : Int) (n : Int) S t = Nought := by unfold machR; rw [HSO.out]; rfl
              rw [e, Sep.nought]
            rw [hmn] at o8
            obtain ⟨v, hv⟩ : ∃ v, vNone.fresh = v := ⟨_, rfl⟩
            have hvl : v.log = .slice none 0 0 := by rw [← hv]; rfl
            have hvd : v.done = false := by rw [← hv]; rfl
            rw [hv] at o8
            have OE : Hid (Own (Sep (BO m (leaveO (pg : Int) (n : Int) false)) (Sep (BO b (mObj (kLeave (pg : Int) (n : Int) t) v)) (Sep (LogR v.log []) (SideR gT gL gR q p r a p' r' pg n s s rl (upd tv t (.pointer none)) (upd tl t (.pointer (some ⟨m, 0, none⟩))) (upd (refsV S) t (.pointer (some ⟨b, 0, none⟩))) S t (Sep (BO bs SO) Nought))))) w (w6.setCell ⟨gR, t, none⟩ (.pointer (some ⟨b, 0, none⟩)))) := hide ((Own.logNone o8).cast (by rw [hvl]; unfold SideR; ac_rfl))
            have HV := hide hvd
            have HT1 : Hid ((upd tv t (.pointer none)) t = .pointer none) := hide (upd_at _ _ _)
            have HL1 : Hid ((upd tl t (.pointer (some ⟨m, 0, none⟩))) t = .pointer (some ⟨m, 0, none⟩)) := hide (upd_at _ _ _)
            have HLE : Hid (∃ pb, (upd tl t (.pointer (some ⟨m, 0, none⟩))) t = .pointer pb) := hide ⟨_, upd_at _ _ _⟩
            have HR1 : Hid (upd (refsV S) t (.pointer (some ⟨b, 0, none⟩)) t = .pointer (some ⟨b, 0, none⟩)) := hide (upd_at _ _ _)
            have HRS : Hid (∀ x : LS, x.ref = .pointer (some ⟨b, 0, none⟩) → upd (refsV S) t x.ref = upd (refsV S) t (.pointer (some ⟨b, 0, none⟩))) := hide (fun x hx => by rw [hx])
            have HRN : Hid (upd (upd (refsV S) t (.pointer (some ⟨b, 0, none⟩))) t (.pointer none) = upd (refsV S) t (.pointer none)) := hide (upd_upd _ _ _ _)
            have HOKS : Hid (∀ j, j < n → j ≠ t → (S j).ok i ((upd tv t (.pointer none)) j) ((upd tl t (.pointer (some ⟨m, 0, none⟩))) j)) := hide (fun j hj e => by rw [upd_ne _ _ e, upd_ne _ _ e]; exact HFIT.out j hj)
            clear o6 o6' o7 o8 l6 O5 hM l5 hmn hvl hvd hv
            go_upto_region 19 with fail
            clear y6 f6
            generalize w6.setCell ⟨gR, t, none⟩ (.pointer (some ⟨b, 0, none⟩)) = W at *
            have HRS0 := HRS
            generalize upd (refsV S) t (.pointer (some ⟨b, 0, none⟩)) = rv1 at *
            generalize (upd tv t (.pointer none)) = tv1 at *
            generalize (upd tl t (.pointer (some ⟨m, 0, none⟩))) = tl1 at *
            -- at the world W: OE, HT1 (the row's cell), HR1
            obtain ⟨s', hs'⟩ : ∃ s', s.put 2 0 = s' := ⟨_, rfl⟩
            have HW' : Hid (Wds n wl s') := hide (by rw [← hs']; exact HWD.out.put HWL.out.1)
            have HS' := hide hs'
            clear hs'
            have hZD := heap_alloc_at W (.cells #[.int .i64 0, .int .i64 0, .int .u64 0, .int .u64 0] 27)
            obtain ⟨bd, hbd⟩ : ∃ bd, W.heap.size = bd := ⟨_, rfl⟩
            rw [hbd] at hZD
            have lSide : Loc (SideR gT gL gR q p r a p' r' pg n s s rl tv1 tl1 rv1 S t (Sep (BO bs SO) Nought)) := Loc.ax.sep (Loc.mx.sep (Loc.bo.sep (Loc.bo.sep (Loc.bo.sep ((Loc.rest Loc.mach t n).sep lB)))))
            have o1 := Own.boNew (Loc.bo.sep (Loc.bo.sep (Loc.logR.sep lSide))) OE.out hZD (by rw [hbd]; exact Nat.le_refl _) (grown1 _ _)
            have gt1 : (W.alloc (.cells #[.int .i64 0, .int .i64 0, .int .u64 0, .int .u64 0] 27)).cell? ⟨gT, t, none⟩ = some (.pointer none) := (cell_of_heap (o1.has (m := gT) (o := .cells (rowN n tv1) 67 (0, 0)) (R := Sep (BO bd (.cells #[.int .i64 0, .int .i64 0, .int .u64 0, .int .u64 0] 27 (0, 0))) (Sep (BO m (leaveO (pg : Int) (n : Int) false)) (Sep (BO b (mObj (kLeave (pg : Int) (n : Int) t) v)) (Sep (LogR v.log []) (Sep (AX q (pg : Int) (n : Int) p r s pg [] 1 rl) (Sep (MX a (pg : Int) (n : Int) p' r' s pg [] 1 rl) (Sep (BO gL (.cells (rowN n tl1) 68 (0, 0))) (Sep (BO gR (.cells (rowN n rv1) 55 (0, 0))) (Sep (Many (upd (machR (pg : Int) (n : Int) S) t Nought) n) (Sep (BO bs SO) Nought)))))))))) (by unfold SideR; ac_rfl))).trans ((rowN_get _ htn).trans (congrArg some HT1.out))
            have O1 := hide o1
            clear o1 OE hZD
            go_upto_region 22 with fail
            try rw [hbd]
            clear gt1
            generalize W.alloc (.cells #[.int .i64 0, .int .i64 0, .int .u64 0, .int .u64 0] 27) = u1 at *
            have HBD := hide hbd
            clear hbd
            go_cut [19] from 117 to 157 (fun r19 wc => r19 = .bool true ∧ Hid (Own (Sep (BO bd (.cells #[.int .i64 s'.kind, .int .i64 s'.place, .int .u64 (s'.old : Int), .int .u64 (s'.new : Int)] 27 (0, 0))) (Sep (BO m (leaveO (pg : Int) (n : Int) true)) (Sep (BO b (mObj (kLeave (pg : Int) (n : Int) t) v)) (Sep (LogR v.log []) (SideR gT gL gR q p r a p' r' pg n s' s rl tv1 tl1 rv1 S t (Sep (BO bs SO) Nought)))))) w wc))
            case first =>
              have O2 := hide (O1.out.below (Loc.bo.sep (Loc.bo.sep (Loc.bo.sep (Loc.logR.sep lSide)))) ((Alike.drewN u1 1).below _))
              have GC : Hid (∀ (bo mo' : Obj) (s1 s2 : St) (u : World), Own (Sep (BO bd bo) (Sep (BO m mo') (Sep (BO b (mObj (kLeave (pg : Int) (n : Int) t) v)) (Sep (LogR v.log []) (SideR gT gL gR q p r a p' r' pg n s1 s2 rl tv1 tl1 rv1 S t (Sep (BO bs SO) Nought)))))) w u → Cel gL t (.pointer (some ⟨m, 0, none⟩)) u) := hide (fun bo mo' s1 s2 u h => (cell_of_heap (h.has (m := gL) (o := .cells (rowN n tl1) 68 (0, 0)) (R := Sep (BO bd bo) (Sep (BO m mo') (Sep (BO b (mObj (kLeave (pg : Int) (n : Int) t) v)) (Sep (LogR v.log []) (Sep (AX q (pg : Int) (n : Int) p r s1 pg [] 1 rl) (Sep (MX a (pg : Int) (n : Int) p' r' s2 pg [] 1 rl) (Sep (BO gT (.cells (rowN n tv1) 67 (0, 0))) (Sep (BO gR (.cells (rowN n rv1) 55 (0, 0))) (Sep (Many (upd (machR (pg : Int) (n : Int) S) t Nought) n) (Sep (BO bs SO) Nought)))))))))) (by unfold SideR; ac_rfl))).trans ((rowN_get _ htn).trans (congrArg some HL1.out)))
              have J2 : Hid (Cel gL t (.pointer (some ⟨m, 0, none⟩)) u1.drew) := hide (GC.out _ _ _ _ _ O2.out)
              have hne : Nonempty (Mem (Cel gL t (.pointer (some ⟨m, 0, none⟩)))) := ⟨⟨_, J2.out⟩⟩
              have UG : ∀ u : Mem (Cel gL t (.pointer (some ⟨m, 0, none⟩))), u.w'.cell? ⟨gL, t, none⟩ = some (.pointer (some ⟨m, 0, none⟩)) := fun u => u.h
              clear O1
              refine region_start (J := Cel gL t (.pointer (some ⟨m, 0, none⟩))) (by kernel_rfl) ?_
              refine stretch (fuel := 4) (by kernel_rfl) (fun _ _ _ _ _ h => h) J2.out [0, 1, 2, 3, 4, 6, 7, 8, 9] (by kernel_rfl) ?_
              simp only [List.filterMap_cons, List.filterMap_nil, List.getElem?_toArray, List.getElem?_cons_zero, List.getElem?_cons_succ]
              show wpQuiet _ _ _ _ [_, _, _, _, _, _, _, _, _] _
              repeat (go_big_quiet_step (fail))
              refine wpQuiet_nil ?_
              refine wpAnyJ_writer (i := 5) rfl (by kernel_rfl) (fun K' hK => ?_)
              go_simp
              have lA : Loc (Sep (BO bd (.cells #[.int .i64 0, .int .i64 0, .int .u64 0, .int .u64 0] 27 (0, 0))) (Sep (BO b (mObj (kLeave (pg : Int) (n : Int) t) v)) (Sep (LogR v.log []) (Sep (MX a (pg : Int) (n : Int) p' r' s pg [] 1 rl) (Sep (BO gT (.cells (rowN n tv1) 67 (0, 0))) (Sep (BO gL (.cells (rowN n tl1) 68 (0, 0))) (Sep (BO gR (.cells (rowN n rv1) 55 (0, 0))) (Sep (Many (upd (machR (pg : Int) (n : Int) S) t Nought) n) (Sep (BO bs SO) Nought))))))))) := Loc.bo.sep (Loc.bo.sep (Loc.logR.sep (Loc.mx.sep (Loc.bo.sep (Loc.bo.sep (Loc.bo.sep ((Loc.rest Loc.mach t n).sep lB)))))))
              refine (leaveStep lA (O2.out.cast (by unfold SideR; ac_rfl)) (by rw [HWD.out.len]; exact HWL.out.1) s' HS'.out).mono ?_
              rintro e u3 ⟨rfl, o3⟩
              have O3 := hide (o3.cast (R' := Sep (BO bd (.cells #[.int .i64 0, .int .i64 0, .int .u64 0, .int .u64 0] 27 (0, 0))) (Sep (BO m (leaveO (pg : Int) (n : Int) true)) (Sep (BO b (mObj (kLeave (pg : Int) (n : Int) t) v)) (Sep (LogR v.log []) (SideR gT gL gR q p r a p' r' pg n s' s rl tv1 tl1 rv1 S t (Sep (BO bs SO) Nought)))))) (by unfold SideR; ac_rfl))
              refine hK _ _ (GC.out _ _ _ _ _ O3.out) ?_
              clear hK K' o3 O2 J2 lA
              have lS' : Loc (Sep (BO m (leaveO (pg : Int) (n : Int) true)) (Sep (BO b (mObj (kLeave (pg : Int) (n : Int) t) v)) (Sep (LogR v.log []) (SideR gT gL gR q p r a p' r' pg n s' s rl tv1 tl1 rv1 S t (Sep (BO bs SO) Nought))))) := Loc.bo.sep (Loc.bo.sep (Loc.logR.sep (Loc.ax.sep (Loc.mx.sep (Loc.bo.sep (Loc.bo.sep (Loc.bo.sep ((Loc.rest Loc.mach t n).sep lB))))))))
              refine wpAnyJ_writer (i := 10) rfl (by kernel_rfl) (fun K' hK => ?_)
              go_simp
              refine (leaveDone _ m (pg : Int) (n : Int) true (O3.out.has (m := m) (o := leaveO (pg : Int) (n : Int) true) (R := Sep (BO bd (.cells #[.int .i64 0, .int .i64 0, .int .u64 0, .int .u64 0] 27 (0, 0))) (Sep (BO b (mObj (kLeave (pg : Int) (n : Int) t) v)) (Sep (LogR v.log []) (SideR gT gL gR q p r a p' r' pg n s' s rl tv1 tl1 rv1 S t (Sep (BO bs SO) Nought))))) (by ac_rfl))).mono ?_
              rintro e u4 ⟨rfl, rfl⟩
              refine hK _ _ (GC.out _ _ _ _ _ O3.out) ?_
              clear hK K'
              refine wpAnyJ_writer (i := 11) rfl (by kernel_rfl) (fun K' hK => ?_)
              have r0 : u4.cell? ⟨bd, 0, none⟩ = some (.int .i64 0) := cell_of_heap (Own.boAt O3.out)
              have r1 : u4.cell? ⟨bd, 1, none⟩ = some (.int .i64 0) := cell_of_heap (Own.boAt O3.out)
              have r2 : u4.cell? ⟨bd, 2, none⟩ = some (.int .u64 0) := cell_of_heap (Own.boAt O3.out)
              have r3 : u4.cell? ⟨bd, 3, none⟩ = some (.int .u64 0) := cell_of_heap (Own.boAt O3.out)
              have fr : ∀ o, u4.frozen? ⟨bd, o, none⟩ = false := fun o => frozen_of_heap (Own.boAt O3.out)
              have O5 : Hid (Own (Sep (BO bd (.cells #[.int .i64 s'.kind, .int .i64 s'.place, .int .u64 (s'.old : Int), .int .u64 (s'.new : Int)] 27 (0, 0))) (Sep (BO m (leaveO (pg : Int) (n : Int) true)) (Sep (BO b (mObj (kLeave (pg : Int) (n : Int) t) v)) (Sep (LogR v.log []) (SideR gT gL gR q p r a p' r' pg n s' s rl tv1 tl1 rv1 S t (Sep (BO bs SO) Nought)))))) w ((((u4.setCell ⟨bd, 0, none⟩ (.int .i64 s'.kind)).setCell ⟨bd, 1, none⟩ (.int .i64 s'.place)).setCell ⟨bd, 2, none⟩ (.int .u64 (s'.old : Int))).setCell ⟨bd, 3, none⟩ (.int .u64 (s'.new : Int)))) :=
                hide (Own.boSet lS' (Own.boSet lS' (Own.boSet lS' (Own.boSet lS' O3.out 0 (.int .i64 s'.kind)) 1 (.int .i64 s'.place)) 2 (.int .u64 (s'.old : Int))) 3 (.int .u64 (s'.new : Int)))
              unfold St.did
              go_simp
              refine hK _ _ (GC.out _ _ _ _ _ O5.out) ?_
              clear hK K' r0 r1 r2 r3 fr O3
              generalize (((u4.setCell ⟨bd, 0, none⟩ (.int .i64 s'.kind)).setCell ⟨bd, 1, none⟩ (.int .i64 s'.place)).setCell ⟨bd, 2, none⟩ (.int .u64 (s'.old : Int))).setCell ⟨bd, 3, none⟩ (.int .u64 (s'.new : Int)) = u5 at *
              refine stretch (fuel := 0) (by kernel_rfl) (fun _ _ _ _ _ h => h) (GC.out _ _ _ _ _ O5.out) [12] (by kernel_rfl) ?_
              simp only [List.filterMap_cons, List.filterMap_nil, List.getElem?_toArray, List.getElem?_cons_zero, List.getElem?_cons_succ]
              show wpQuiet _ _ _ _ [_] _
              repeat (go_big_quiet_step (fail))
              refine wpQuiet_nil ?_
              refine wpAnyJ_done (by kernel_rfl) ?_
              go_wp2
              go_meet
              exact ⟨rfl, O5.out⟩
            obtain ⟨hr19, O5⟩ := hcut
            subst hr19
            clear O1
            go_upto_region 23 with fail
            have lS' : Loc (Sep (BO m (leaveO (pg : Int) (n : Int) true)) (Sep (BO b (mObj (kLeave (pg : Int) (n : Int) t) v)) (Sep (LogR v.log []) (SideR gT gL gR q p r a p' r' pg n s' s rl tv1 tl1 rv1 S t (Sep (BO bs SO) Nought))))) := Loc.bo.sep (Loc.bo.sep (Loc.logR.sep (Loc.ax.sep (Loc.mx.sep (Loc.bo.sep (Loc.bo.sep (Loc.bo.sep ((Loc.rest Loc.mach t n).sep lB))))))))
            have O6 := hide (O5.out.below (Loc.bo.sep lS') ((Alike.drewN wc 1).below _))
            clear O5
            have RC : Hid (∀ (M1 : Obj) (v1 : MV) (l1 : List Nat) (s1 s2 : St) (u : World), Own (Sep (BO bd (.cells #[.int .i64 s'.kind, .int .i64 s'.place, .int .u64 (s'.old : Int), .int .u64 (s'.new : Int)] 27 (0, 0))) (Sep (BO m M1) (Sep (BO b (mObj (kLeave (pg : Int) (n : Int) t) v1)) (Sep (LogR v1.log l1) (SideR gT gL gR q p r a p' r' pg n s1 s2 rl tv1 tl1 rv1 S t (Sep (BO bs SO) Nought)))))) w u → BkAt bd (.cells #[.int .i64 s'.kind, .int .i64 s'.place, .int .u64 (s'.old : Int), .int .u64 (s'.new : Int)] 27 (0, 0)) u ∧ Cel gR t (.pointer (some ⟨b, 0, none⟩)) u) := hide (fun M1 v1 l1 s1 s2 u h => ⟨Own.boAt h, (cell_of_heap (h.has (m := gR) (o := .cells (rowN n rv1) 55 (0, 0)) (R := Sep (BO bd (.cells #[.int .i64 s'.kind, .int .i64 s'.place, .int .u64 (s'.old : Int), .int .u64 (s'.new : Int)] 27 (0, 0))) (Sep (BO m M1) (Sep (BO b (mObj (kLeave (pg : Int) (n : Int) t) v1)) (Sep (LogR v1.log l1) (Sep (AX q (pg : Int) (n : Int) p r s1 pg [] 1 rl) (Sep (MX a (pg : Int) (n : Int) p' r' s2 pg [] 1 rl) (Sep (BO gT (.cells (rowN n tv1) 67 (0, 0))) (Sep (BO gL (.cells (rowN n tl1) 68 (0, 0))) (Sep (Many (upd (machR (pg : Int) (n : Int) S) t Nought) n) (Sep (BO bs SO) Nought)))))))))) (by unfold SideR; ac_rfl))).trans ((rowN_get _ htn).trans (congrArg some HR1.out))⟩)
            have hne : Nonempty (Mem (fun u => BkAt bd (.cells #[.int .i64 s'.kind, .int .i64 s'.place, .int .u64 (s'.old : Int), .int .u64 (s'.new : Int)] 27 (0, 0)) u ∧ Cel gR t (.pointer (some ⟨b, 0, none⟩)) u)) := ⟨⟨_, RC.out _ _ _ _ _ _ O6.out⟩⟩
            have UD0 : ∀ u : Mem (fun u => BkAt bd (.cells #[.int .i64 s'.kind, .int .i64 s'.place, .int .u64 (s'.old : Int), .int .u64 (s'.new : Int)] 27 (0, 0)) u ∧ Cel gR t (.pointer (some ⟨b, 0, none⟩)) u), u.w'.cell? ⟨bd, 0, none⟩ = some (.int .i64 s'.kind) := fun u => cell_of_heap u.h.1
            have UD1 : ∀ u : Mem (fun u => BkAt bd (.cells #[.int .i64 s'.kind, .int .i64 s'.place, .int .u64 (s'.old : Int), .int .u64 (s'.new : Int)] 27 (0, 0)) u ∧ Cel gR t (.pointer (some ⟨b, 0, none⟩)) u), u.w'.cell? ⟨bd, 1, none⟩ = some (.int .i64 s'.place) := fun u => cell_of_heap u.h.1
            have UD2 : ∀ u : Mem (fun u => BkAt bd (.cells #[.int .i64 s'.kind, .int .i64 s'.place, .int .u64 (s'.old : Int), .int .u64 (s'.new : Int)] 27 (0, 0)) u ∧ Cel gR t (.pointer (some ⟨b, 0, none⟩)) u), u.w'.cell? ⟨bd, 2, none⟩ = some (.int .u64 (s'.old : Int)) := fun u => cell_of_heap u.h.1
            have UD3 : ∀ u : Mem (fun u => BkAt bd (.cells #[.int .i64 s'.kind, .int .i64 s'.place, .int .u64 (s'.old : Int), .int .u64 (s'.new : Int)] 27 (0, 0)) u ∧ Cel gR t (.pointer (some ⟨b, 0, none⟩)) u), u.w'.cell? ⟨bd, 3, none⟩ = some (.int .u64 (s'.new : Int)) := fun u => cell_of_heap u.h.1
            have UR : ∀ u : Mem (fun u => BkAt bd (.cells #[.int .i64 s'.kind, .int .i64 s'.place, .int .u64 (s'.old : Int), .int .u64 (s'.new : Int)] 27 (0, 0)) u ∧ Cel gR t (.pointer (some ⟨b, 0, none⟩)) u), u.w'.cell? ⟨gR, t, none⟩ = some (.pointer (some ⟨b, 0, none⟩)) := fun u => u.h.2
            refine region_start (J := fun u => BkAt bd (.cells #[.int .i64 s'.kind, .int .i64 s'.place, .int .u64 (s'.old : Int), .int .u64 (s'.new : Int)] 27 (0, 0)) u ∧ Cel gR t (.pointer (some ⟨b, 0, none⟩)) u) (by kernel_rfl) ?_
            refine stretch (fuel := 20) (by kernel_rfl) (fun _ _ _ _ _ h => h) (RC.out _ _ _ _ _ _ O6.out) [0, 1, 2, 3, 4, 5] (by kernel_rfl) ?_
            simp only [List.filterMap_cons, List.filterMap_nil, List.getElem?_toArray, List.getElem?_cons_zero, List.getElem?_cons_succ]
            show wpQuiet _ _ _ _ [_, _, _, _, _, _] _
            repeat (go_big_quiet_step (fail))
            refine wpQuiet_nil ?_
            refine wpAnyJ_writer (i := 6) rfl (by kernel_rfl) (fun K' hK => ?_)
            go_simp
            have lD : Loc (Sep (BO bd (.cells #[.int .i64 s'.kind, .int .i64 s'.place, .int .u64 (s'.old : Int), .int .u64 (s'.new : Int)] 27 (0, 0))) (Sep (BO m (leaveO (pg : Int) (n : Int) true)) (Sep (AX q (pg : Int) (n : Int) p r s' pg [] 1 rl) (Sep (BO gT (.cells (rowN n tv1) 67 (0, 0))) (Sep (BO gL (.cells (rowN n tl1) 68 (0, 0))) (Sep (BO gR (.cells (rowN n rv1) 55 (0, 0))) (Sep (Many (upd (machR (pg : Int) (n : Int) S) t Nought) n) (Sep (BO bs SO) Nought)))))))) := Loc.bo.sep (Loc.bo.sep (Loc.ax.sep (Loc.bo.sep (Loc.bo.sep (Loc.bo.sep ((Loc.rest Loc.mach t n).sep lB))))))
            refine (rstepLeave (k := kLeave (pg : Int) (n : Int) t) (l := []) lD rfl (O6.out.cast (by unfold SideR; ac_rfl)) HV.out rfl (by rw [HWD.out.len]; exact HWL.out.1)).mono ?_
            rintro e u7 ⟨rfl, v', l', hvd, o7⟩
            rw [HS'.out] at o7
            rw [HS'.out]
            have O7 := hide (o7.cast (R' := Sep (BO bd (.cells #[.int .i64 s'.kind, .int .i64 s'.place, .int .u64 (s'.old : Int), .int .u64 (s'.new : Int)] 27 (0, 0))) (Sep (BO m (leaveO (pg : Int) (n : Int) true)) (Sep (BO b (mObj (kLeave (pg : Int) (n : Int) t) v')) (Sep (LogR v'.log l') (SideR gT gL gR q p r a p' r' pg n s' s' rl tv1 tl1 rv1 S t (Sep (BO bs SO) Nought)))))) (by unfold SideR; ac_rfl))
            have HVD := hide hvd
            refine hK _ _ (RC.out _ _ _ _ _ _ O7.out) ?_
            clear hK K' o7 O6 lD hvd hne UD0 UD1 UD2 UD3 UR
            unfold St.did
            have DC : Hid (∀ u : World, Own (Sep (BO bd (.cells #[.int .i64 s'.kind, .int .i64 s'.place, .int .u64 (s'.old : Int), .int .u64 (s'.new : Int)] 27 (0, 0))) (Sep (BO m (leaveO (pg : Int) (n : Int) true)) (Sep (BO b (mObj (kLeave (pg : Int) (n : Int) t) v')) (Sep (LogR v'.log l') (SideR gT gL gR q p r a p' r' pg n s' s' rl tv1 tl1 rv1 S t (Sep (BO bs SO) Nought)))))) w u → (Cel gR t (.pointer (some ⟨b, 0, none⟩)) u ∧ Cel b 15 (.bool true) u)  ∧ BkAt bd (.cells #[.int .i64 s'.kind, .int .i64 s'.place, .int .u64 (s'.old : Int), .int .u64 (s'.new : Int)] 27 (0, 0)) u) := hide (fun u h => ⟨⟨(RC.out _ _ _ _ _ _ h).2, by
              have := cell_of_heap (o := 15) (h.has (m := b) (o := mObj (kLeave (pg : Int) (n : Int) t) v') (R := Sep (BO bd (.cells #[.int .i64 s'.kind, .int .i64 s'.place, .int .u64 (s'.old : Int), .int .u64 (s'.new : Int)] 27 (0, 0))) (Sep (BO m (leaveO (pg : Int) (n : Int) true)) (Sep (LogR v'.log l') (SideR gT gL gR q p r a p' r' pg n s' s' rl tv1 tl1 rv1 S t (Sep (BO bs SO) Nought))))) (by ac_rfl))
              refine this.trans ?_
              show some (Value.bool v'.done) = _
              rw [HVD.out]⟩, Own.boAt h⟩)
            refine wpAnyJ_class (I := fun u => (Cel gR t (.pointer (some ⟨b, 0, none⟩)) u ∧ Cel b 15 (.bool true) u) ∧ BkAt bd (.cells #[.int .i64 s'.kind, .int .i64 s'.place, .int .u64 (s'.old : Int), .int .u64 (s'.new : Int)] 27 (0, 0)) u) (fun _ h => ⟨h.2, h.1.1⟩) ?_
            have hne : Nonempty (Mem (fun u => (Cel gR t (.pointer (some ⟨b, 0, none⟩)) u ∧ Cel b 15 (.bool true) u) ∧ BkAt bd (.cells #[.int .i64 s'.kind, .int .i64 s'.place, .int .u64 (s'.old : Int), .int .u64 (s'.new : Int)] 27 (0, 0)) u)) := ⟨⟨_, DC.out _ O7.out⟩⟩
            have UR : ∀ u : Mem (fun u => (Cel gR t (.pointer (some ⟨b, 0, none⟩)) u ∧ Cel b 15 (.bool true) u) ∧ BkAt bd (.cells #[.int .i64 s'.kind, .int .i64 s'.place, .int .u64 (s'.old : Int), .int .u64 (s'.new : Int)] 27 (0, 0)) u), u.w'.cell? ⟨gR, t, none⟩ = some (.pointer (some ⟨b, 0, none⟩)) := fun u => u.h.1.1
            have UB : ∀ u : Mem (fun u => (Cel gR t (.pointer (some ⟨b, 0, none⟩)) u ∧ Cel b 15 (.bool true) u) ∧ BkAt bd (.cells #[.int .i64 s'.kind, .int .i64 s'.place, .int .u64 (s'.old : Int), .int .u64 (s'.new : Int)] 27 (0, 0)) u), u.w'.cell? ⟨b, 15, none⟩ = some (.bool true) := fun u => u.h.1.2
            refine stretch (fuel := 4) (by kernel_rfl) (fun _ _ _ _ _ h => h) (DC.out _ O7.out) [7, 8, 9, 10, 11, 12, 13, 14, 15, 16, 17, 18, 19, 20, 22] (by kernel_rfl) ?_
            simp only [List.filterMap_cons, List.filterMap_nil, List.getElem?_toArray, List.getElem?_cons_zero, List.getElem?_cons_succ]
            show wpQuiet _ _ _ _ [_, _, _, _, _, _, _, _, _, _, _, _, _, _, _] _
            repeat (go_big_quiet_step (fail))
            refine wpQuiet_nil ?_
            obtain ⟨hx, hhx⟩ : ∃ hx, s'.words.getD 2 0 = hx := ⟨_, rfl⟩
            obtain ⟨vv, hvv⟩ : ∃ vv, (hx : Int) - 1 = vv := ⟨_, rfl⟩
            have hxn : hx ≤ n := by rw [← hhx]; exact HW'.out.at_
            have hs2 : 2 < s'.words.length := by rw [HW'.out.len]; exact HWL.out.1
            have HHX := hide hhx
            have HVV := hide hvv
            have HS2 := hide hs2
            clear hhx hvv hs2
            refine wpAnyJ_writer (i := 21) rfl (by kernel_rfl) (fun K' hK => ?_)
            go_simp
            have lH : Loc (Sep (BO bd (.cells #[.int .i64 s'.kind, .int .i64 s'.place, .int .u64 (s'.old : Int), .int .u64 (s'.new : Int)] 27 (0, 0))) (Sep (BO m (leaveO (pg : Int) (n : Int) true)) (Sep (BO b (mObj (kLeave (pg : Int) (n : Int) t) v')) (Sep (LogR v'.log l') (Sep (MX a (pg : Int) (n : Int) p' r' s' pg [] 1 rl) (Sep (BO gT (.cells (rowN n tv1) 67 (0, 0))) (Sep (BO gL (.cells (rowN n tl1) 68 (0, 0))) (Sep (BO gR (.cells (rowN n rv1) 55 (0, 0))) (Sep (Many (upd (machR (pg : Int) (n : Int) S) t Nought) n) (Sep (BO bs SO) Nought)))))))))) := Loc.bo.sep (Loc.bo.sep (Loc.bo.sep (Loc.logR.sep (Loc.mx.sep (Loc.bo.sep (Loc.bo.sep (Loc.bo.sep ((Loc.rest Loc.mach t n).sep lB))))))))
            refine (heldW lH (O7.out.cast (by unfold SideR; ac_rfl)) HS2.out hx HHX.out (by omega) (by omega) vv HVV.out).mono ?_
            rintro e u8 ⟨rfl, o8⟩
            have O8 := hide (o8.cast (R' := Sep (BO bd (.cells #[.int .i64 s'.kind, .int .i64 s'.place, .int .u64 (s'.old : Int), .int .u64 (s'.new : Int)] 27 (0, 0))) (Sep (BO m (leaveO (pg : Int) (n : Int) true)) (Sep (BO b (mObj (kLeave (pg : Int) (n : Int) t) v')) (Sep (LogR v'.log l') (SideR gT gL gR q p r a p' r' pg n s' s' rl tv1 tl1 rv1 S t (Sep (BO bs SO) Nought)))))) (by unfold SideR; ac_rfl))
            refine hK _ _ (DC.out _ O8.out) ?_
            clear hK K' o8 O7 lH
            refine wpAnyJ_writer (i := 23) rfl (by kernel_rfl) (fun K' hK => ?_)
            go_simp
            refine (rHeld (O8.out.cast (R' := Sep (MX a (pg : Int) (n : Int) p' r' s' pg [] 1 rl) (Sep (BO bd (.cells #[.int .i64 s'.kind, .int .i64 s'.place, .int .u64 (s'.old : Int), .int .u64 (s'.new : Int)] 27 (0, 0))) (Sep (BO m (leaveO (pg : Int) (n : Int) true)) (Sep (BO b (mObj (kLeave (pg : Int) (n : Int) t) v')) (Sep (LogR v'.log l') (Sep (AX q (pg : Int) (n : Int) p r s' pg [] 1 rl) (Sep (BO gT (.cells (rowN n tv1) 67 (0, 0))) (Sep (BO gL (.cells (rowN n tl1) 68 (0, 0))) (Sep (BO gR (.cells (rowN n rv1) 55 (0, 0))) (Sep (Many (upd (machR (pg : Int) (n : Int) S) t Nought) n) (Sep (BO bs SO) Nought))))))))))) (by unfold SideR; ac_rfl)) HS2.out hx HHX.out (by omega) vv HVV.out).mono ?_
            rintro e u9 ⟨rfl, o9⟩
            have O9 := hide (o9.cast (R' := Sep (BO bd (.cells #[.int .i64 s'.kind, .int .i64 s'.place, .int .u64 (s'.old : Int), .int .u64 (s'.new : Int)] 27 (0, 0))) (Sep (BO m (leaveO (pg : Int) (n : Int) true)) (Sep (BO b (mObj (kLeave (pg : Int) (n : Int) t) v')) (Sep (LogR v'.log l') (SideR gT gL gR q p r a p' r' pg n s' s' rl tv1 tl1 rv1 S t (Sep (BO bs SO) Nought)))))) (by unfold SideR; ac_rfl))
            refine hK _ _ (DC.out _ O9.out) ?_
            clear hK K' o9 O8
            refine stretch (fuel := 0) (by kernel_rfl) (fun _ _ _ _ _ h => h) (DC.out _ O9.out) [24, 25] (by kernel_rfl) ?_
            simp only [List.filterMap_cons, List.filterMap_nil, List.getElem?_toArray, List.getElem?_cons_zero, List.getElem?_cons_succ]
            show wpQuiet _ _ _ _ [_, _] _
            repeat (go_big_quiet_step (fail))
            refine wpQuiet_nil ?_
            refine wpAnyJ_done (by kernel_rfl) ?_
            clear hne UR UB DC RC lS' lSide
            have o10 := O9.out.drop.drop.drop.drop.cast (R' := Sep (BO gR (.cells (rowN n rv1) 55 (0, 0))) (Sep (AX q (pg : Int) (n : Int) p r s' pg [] 1 rl) (Sep (MX a (pg : Int) (n : Int) p' r' s' pg [] 1 rl) (Sep (BO gT (.cells (rowN n tv1) 67 (0, 0))) (Sep (BO gL (.cells (rowN n tl1) 68 (0, 0))) (Sep (Many (upd (machR (pg : Int) (n : Int) S) t Nought) n) (Sep (BO bs SO) Nought))))))) (by unfold SideR; ac_rfl)
            have y10 : u9.cell? ⟨gR, t, none⟩ = some (.pointer (some ⟨b, 0, none⟩)) := (cell_of_heap (Own.boAt o10)).trans ((rowN_get _ htn).trans (congrArg some HR1.out))
            have f10 : ∀ o, u9.frozen? ⟨gR, o, none⟩ = false := fun o => frozen_of_heap (Own.boAt o10)
            have o11 := Own.boSet (Loc.ax.sep (Loc.mx.sep (Loc.bo.sep (Loc.bo.sep ((Loc.rest Loc.mach t n).sep lB))))) o10 t (.pointer none)
            rw [rowN_set] at o11
            try rw [HRN.out] at o11
            have O11 : Hid (Own (GameR gT gL gR q p r a p' r' pg n s' rl tv1 tl1 (upd S t .off) (Sep (BO bs SO) Nought)) w (u9.setCell ⟨gR, t, none⟩ (.pointer none))) := hide (o11.cast (by rw [← GameR.turn htn .off]; unfold SideR; show _ = Sep Nought _; rw [Sep.nought]; show Sep (BO gR (.cells (rowN n (upd (refsV S) t (.pointer none))) _ (0, 0))) _ = _; ac_rfl))
            clear o10 o11 O9
            go_wp2
            go_roundw
            case rel => exact ⟨i + 1, s', tv1, tl1, upd S t .off, by go_num, by omega, ⟨HW'.out, Fit.turn HOKS.out .off ⟨⟨_, HT1.out⟩, ⟨_, HL1.out⟩⟩, O11.out⟩⟩
            case measure => simp [intOf]; omega
        | take m b v l =>
          have hk0 := hfit t htn
          rw [hst] at hk0
          obtain ⟨hv1, hv2, hv3, hv4, hv6⟩ := hk0
          have HLE := hide hv6
          have HV : Hid (v.done = false ∧ (∀ x ∈ l, x ≠ 0) ∧ l.length ≤ i) := hide ⟨hv1, hv2, hv3⟩
          have HT1 := hide hv4
          have HR1 : Hid (refsV S t = .pointer (some ⟨b, 0, none⟩)) := hide (by unfold refsV; rw [hst]; rfl)
          have HRS : Hid (∀ x : LS, x.ref = .pointer (some ⟨b, 0, none⟩) → upd (refsV S) t x.ref = refsV S) := hide (fun x hx => by rw [hx, ← HR1.out]; exact upd_id _ _)
          have HRN : Hid (upd (refsV S) t (.pointer none) = upd (refsV S) t (.pointer none)) := hide rfl
          have HOKS : Hid (∀ j, j < n → j ≠ t → (S j).ok i (tv j) (tl j)) := hide (fun j hj _ => hfit j hj)
          have OE : Hid (Own (Sep (BO m (takeO (pg : Int) (n : Int) false (t : Int))) (Sep (BO b (mObj (kTake (pg : Int) (n : Int) t) v)) (Sep (LogR v.log l) (SideR gT gL gR q p r a p' r' pg n s s rl tv tl (refsV S) S t (Sep (BO bs SO) Nought))))) w wr) := hide (O.out.cast (by rw [GameR.out htn, hst]; show Sep (Sep _ (Sep _ _)) _ = _; ac_rfl))
          have gRt : wr.cell? ⟨gR, t, none⟩ = some (.pointer (some ⟨b, 0, none⟩)) := GRC.out.trans (congrArg some HR1.out)
          clear hfit hst hv1 hv2 hv3 hv4 hv6 O GRC
          go_upto_region 19 with fail
          clear gRt
          by_cases hz0 : s.words.getD 2 0 = 0
          · have HOK : Hid (decide (s.words.getD 2 0 = 0) = true) := hide (by rw [decide_eq_true hz0])
            clear hz0
            -- at the world wr: OE, HT1 (the row's cell), HR1
            obtain ⟨s', hs'⟩ : ∃ s', s.cas 2 0 (t + 1) = s' := ⟨_, rfl⟩
            have HW' : Hid (Wds n wl s') := hide (by rw [← hs']; exact HWD.out.cas HWL.out.1 htn)
            have HS' := hide hs'
            clear hs'
            have hZD := heap_alloc_at wr (.cells #[.int .i64 0, .int .i64 0, .int .u64 0, .int .u64 0] 27)
            obtain ⟨bd, hbd⟩ : ∃ bd, wr.heap.size = bd := ⟨_, rfl⟩
            rw [hbd] at hZD
            have lSide : Loc (SideR gT gL gR q p r a p' r' pg n s s rl tv tl (refsV S) S t (Sep (BO bs SO) Nought)) := Loc.ax.sep (Loc.mx.sep (Loc.bo.sep (Loc.bo.sep (Loc.bo.sep ((Loc.rest Loc.mach t n).sep lB)))))
            have o1 := Own.boNew (Loc.bo.sep (Loc.bo.sep (Loc.logR.sep lSide))) OE.out hZD (by rw [hbd]; exact Nat.le_refl _) (grown1 _ _)
            have gt1 : (wr.alloc (.cells #[.int .i64 0, .int .i64 0, .int .u64 0, .int .u64 0] 27)).cell? ⟨gT, t, none⟩ = some (.pointer (some ⟨m, 0, none⟩)) := (cell_of_heap (o1.has (m := gT) (o := .cells (rowN n tv) 67 (0, 0)) (R := Sep (BO bd (.cells #[.int .i64 0, .int .i64 0, .int .u64 0, .int .u64 0] 27 (0, 0))) (Sep (BO m (takeO (pg : Int) (n : Int) false (t : Int))) (Sep (BO b (mObj (kTake (pg : Int) (n : Int) t) v)) (Sep (LogR v.log l) (Sep (AX q (pg : Int) (n : Int) p r s pg [] 1 rl) (Sep (MX a (pg : Int) (n : Int) p' r' s pg [] 1 rl) (Sep (BO gL (.cells (rowN n tl) 68 (0, 0))) (Sep (BO gR (.cells (rowN n (refsV S)) 55 (0, 0))) (Sep (Many (upd (machR (pg : Int) (n : Int) S) t Nought) n) (Sep (BO bs SO) Nought)))))))))) (by unfold SideR; ac_rfl))).trans ((rowN_get _ htn).trans (congrArg some HT1.out))
            have O1 := hide o1
            clear o1 OE hZD
            go_upto_region 21 with fail
            try rw [hbd]
            clear gt1
            generalize wr.alloc (.cells #[.int .i64 0, .int .i64 0, .int .u64 0, .int .u64 0] 27) = u1 at *
            have HBD := hide hbd
            clear hbd
            go_cut [19] from 106 to 157 (fun r19 wc => r19 = .bool true ∧ Hid (Own (Sep (BO bd (.cells #[.int .i64 s'.kind, .int .i64 s'.place, .int .u64 (s'.old : Int), .int .u64 (s'.new : Int)] 27 (0, 0))) (Sep (BO m (takeO (pg : Int) (n : Int) true (t : Int))) (Sep (BO b (mObj (kTake (pg : Int) (n : Int) t) v)) (Sep (LogR v.log l) (SideR gT gL gR q p r a p' r' pg n s' s rl tv tl (refsV S) S t (Sep (BO bs SO) Nought)))))) w wc))
            case first =>
              have O2 := hide (O1.out.below (Loc.bo.sep (Loc.bo.sep (Loc.bo.sep (Loc.logR.sep lSide)))) ((Alike.drewN u1 1).below _))
              have GC : Hid (∀ (bo mo' : Obj) (s1 s2 : St) (u : World), Own (Sep (BO bd bo) (Sep (BO m mo') (Sep (BO b (mObj (kTake (pg : Int) (n : Int) t) v)) (Sep (LogR v.log l) (SideR gT gL gR q p r a p' r' pg n s1 s2 rl tv tl (refsV S) S t (Sep (BO bs SO) Nought)))))) w u → Cel gT t (.pointer (some ⟨m, 0, none⟩)) u) := hide (fun bo mo' s1 s2 u h => (cell_of_heap (h.has (m := gT) (o := .cells (rowN n tv) 67 (0, 0)) (R := Sep (BO bd bo) (Sep (BO m mo') (Sep (BO b (mObj (kTake (pg : Int) (n : Int) t) v)) (Sep (LogR v.log l) (Sep (AX q (pg : Int) (n : Int) p r s1 pg [] 1 rl) (Sep (MX a (pg : Int) (n : Int) p' r' s2 pg [] 1 rl) (Sep (BO gL (.cells (rowN n tl) 68 (0, 0))) (Sep (BO gR (.cells (rowN n (refsV S)) 55 (0, 0))) (Sep (Many (upd (machR (pg : Int) (n : Int) S) t Nought) n) (Sep (BO bs SO) Nought)))))))))) (by unfold SideR; ac_rfl))).trans ((rowN_get _ htn).trans (congrArg some HT1.out)))
              have J2 : Hid (Cel gT t (.pointer (some ⟨m, 0, none⟩)) u1.drew) := hide (GC.out _ _ _ _ _ O2.out)
              have hne : Nonempty (Mem (Cel gT t (.pointer (some ⟨m, 0, none⟩)))) := ⟨⟨_, J2.out⟩⟩
              have UG : ∀ u : Mem (Cel gT t (.pointer (some ⟨m, 0, none⟩))), u.w'.cell? ⟨gT, t, none⟩ = some (.pointer (some ⟨m, 0, none⟩)) := fun u => u.h
              clear O1
              refine region_start (J := Cel gT t (.pointer (some ⟨m, 0, none⟩))) (by kernel_rfl) ?_
              refine stretch (fuel := 4) (by kernel_rfl) (fun _ _ _ _ _ h => h) J2.out [0, 1, 2, 3, 4, 6, 7, 8, 9] (by kernel_rfl) ?_
              simp only [List.filterMap_cons, List.filterMap_nil, List.getElem?_toArray, List.getElem?_cons_zero, List.getElem?_cons_succ]
              show wpQuiet _ _ _ _ [_, _, _, _, _, _, _, _, _] _
              repeat (go_big_quiet_step (fail))
              refine wpQuiet_nil ?_
              refine wpAnyJ_writer (i := 5) rfl (by kernel_rfl) (fun K' hK => ?_)
              go_simp
              have lA : Loc (Sep (BO bd (.cells #[.int .i64 0, .int .i64 0, .int .u64 0, .int .u64 0] 27 (0, 0))) (Sep (BO b (mObj (kTake (pg : Int) (n : Int) t) v)) (Sep (LogR v.log l) (Sep (MX a (pg : Int) (n : Int) p' r' s pg [] 1 rl) (Sep (BO gT (.cells (rowN n tv) 67 (0, 0))) (Sep (BO gL (.cells (rowN n tl) 68 (0, 0))) (Sep (BO gR (.cells (rowN n (refsV S)) 55 (0, 0))) (Sep (Many (upd (machR (pg : Int) (n : Int) S) t Nought) n) (Sep (BO bs SO) Nought))))))))) := Loc.bo.sep (Loc.bo.sep (Loc.logR.sep (Loc.mx.sep (Loc.bo.sep (Loc.bo.sep (Loc.bo.sep ((Loc.rest Loc.mach t n).sep lB)))))))
              refine (takeStep lA t (by omega) (O2.out.cast (by unfold SideR; ac_rfl)) (by rw [HWD.out.len]; exact HWL.out.1) true HOK.out s' HS'.out).mono ?_
              rintro e u3 ⟨rfl, o3⟩
              have O3 := hide (o3.cast (R' := Sep (BO bd (.cells #[.int .i64 0, .int .i64 0, .int .u64 0, .int .u64 0] 27 (0, 0))) (Sep (BO m (takeO (pg : Int) (n : Int) true (t : Int))) (Sep (BO b (mObj (kTake (pg : Int) (n : Int) t) v)) (Sep (LogR v.log l) (SideR gT gL gR q p r a p' r' pg n s' s rl tv tl (refsV S) S t (Sep (BO bs SO) Nought)))))) (by unfold SideR; ac_rfl))
              refine hK _ _ (GC.out _ _ _ _ _ O3.out) ?_
              clear hK K' o3 O2 J2 lA
              have lS' : Loc (Sep (BO m (takeO (pg : Int) (n : Int) true (t : Int))) (Sep (BO b (mObj (kTake (pg : Int) (n : Int) t) v)) (Sep (LogR v.log l) (SideR gT gL gR q p r a p' r' pg n s' s rl tv tl (refsV S) S t (Sep (BO bs SO) Nought))))) := Loc.bo.sep (Loc.bo.sep (Loc.logR.sep (Loc.ax.sep (Loc.mx.sep (Loc.bo.sep (Loc.bo.sep (Loc.bo.sep ((Loc.rest Loc.mach t n).sep lB))))))))
              refine wpAnyJ_writer (i := 10) rfl (by kernel_rfl) (fun K' hK => ?_)
              go_simp
              refine (takeDone _ m (pg : Int) (n : Int) (t : Int) true (O3.out.has (m := m) (o := takeO (pg : Int) (n : Int) true (t : Int)) (R := Sep (BO bd (.cells #[.int .i64 0, .int .i64 0, .int .u64 0, .int .u64 0] 27 (0, 0))) (Sep (BO b (mObj (kTake (pg : Int) (n : Int) t) v)) (Sep (LogR v.log l) (SideR gT gL gR q p r a p' r' pg n s' s rl tv tl (refsV S) S t (Sep (BO bs SO) Nought))))) (by ac_rfl))).mono ?_
              rintro e u4 ⟨rfl, rfl⟩
              refine hK _ _ (GC.out _ _ _ _ _ O3.out) ?_
              clear hK K'
              refine wpAnyJ_writer (i := 11) rfl (by kernel_rfl) (fun K' hK => ?_)
              have r0 : u4.cell? ⟨bd, 0, none⟩ = some (.int .i64 0) := cell_of_heap (Own.boAt O3.out)
              have r1 : u4.cell? ⟨bd, 1, none⟩ = some (.int .i64 0) := cell_of_heap (Own.boAt O3.out)
              have r2 : u4.cell? ⟨bd, 2, none⟩ = some (.int .u64 0) := cell_of_heap (Own.boAt O3.out)
              have r3 : u4.cell? ⟨bd, 3, none⟩ = some (.int .u64 0) := cell_of_heap (Own.boAt O3.out)
              have fr : ∀ o, u4.frozen? ⟨bd, o, none⟩ = false := fun o => frozen_of_heap (Own.boAt O3.out)
              have O5 : Hid (Own (Sep (BO bd (.cells #[.int .i64 s'.kind, .int .i64 s'.place, .int .u64 (s'.old : Int), .int .u64 (s'.new : Int)] 27 (0, 0))) (Sep (BO m (takeO (pg : Int) (n : Int) true (t : Int))) (Sep (BO b (mObj (kTake (pg : Int) (n : Int) t) v)) (Sep (LogR v.log l) (SideR gT gL gR q p r a p' r' pg n s' s rl tv tl (refsV S) S t (Sep (BO bs SO) Nought)))))) w ((((u4.setCell ⟨bd, 0, none⟩ (.int .i64 s'.kind)).setCell ⟨bd, 1, none⟩ (.int .i64 s'.place)).setCell ⟨bd, 2, none⟩ (.int .u64 (s'.old : Int))).setCell ⟨bd, 3, none⟩ (.int .u64 (s'.new : Int)))) :=
                hide (Own.boSet lS' (Own.boSet lS' (Own.boSet lS' (Own.boSet lS' O3.out 0 (.int .i64 s'.kind)) 1 (.int .i64 s'.place)) 2 (.int .u64 (s'.old : Int))) 3 (.int .u64 (s'.new : Int)))
              unfold St.did
              go_simp
              refine hK _ _ (GC.out _ _ _ _ _ O5.out) ?_
              clear hK K' r0 r1 r2 r3 fr O3
              generalize (((u4.setCell ⟨bd, 0, none⟩ (.int .i64 s'.kind)).setCell ⟨bd, 1, none⟩ (.int .i64 s'.place)).setCell ⟨bd, 2, none⟩ (.int .u64 (s'.old : Int))).setCell ⟨bd, 3, none⟩ (.int .u64 (s'.new : Int)) = u5 at *
              refine stretch (fuel := 0) (by kernel_rfl) (fun _ _ _ _ _ h => h) (GC.out _ _ _ _ _ O5.out) [12] (by kernel_rfl) ?_
              simp only [List.filterMap_cons, List.filterMap_nil, List.getElem?_toArray, List.getElem?_cons_zero, List.getElem?_cons_succ]
              show wpQuiet _ _ _ _ [_] _
              repeat (go_big_quiet_step (fail))
              refine wpQuiet_nil ?_
              refine wpAnyJ_done (by kernel_rfl) ?_
              go_wp2
              go_meet
              exact ⟨rfl, O5.out⟩
            obtain ⟨hr19, O5⟩ := hcut
            subst hr19
            clear O1
            go_upto_region 23 with fail
            have lS' : Loc (Sep (BO m (takeO (pg : Int) (n : Int) true (t : Int))) (Sep (BO b (mObj (kTake (pg : Int) (n : Int) t) v)) (Sep (LogR v.log l) (SideR gT gL gR q p r a p' r' pg n s' s rl tv tl (refsV S) S t (Sep (BO bs SO) Nought))))) := Loc.bo.sep (Loc.bo.sep (Loc.logR.sep (Loc.ax.sep (Loc.mx.sep (Loc.bo.sep (Loc.bo.sep (Loc.bo.sep ((Loc.rest Loc.mach t n).sep lB))))))))
            have O6 := hide (O5.out.below (Loc.bo.sep lS') ((Alike.drewN wc 1).below _))
            clear O5
            have RC : Hid (∀ (M1 : Obj) (v1 : MV) (l1 : List Nat) (s1 s2 : St) (u : World), Own (Sep (BO bd (.cells #[.int .i64 s'.kind, .int .i64 s'.place, .int .u64 (s'.old : Int), .int .u64 (s'.new : Int)] 27 (0, 0))) (Sep (BO m M1) (Sep (BO b (mObj (kTake (pg : Int) (n : Int) t) v1)) (Sep (LogR v1.log l1) (SideR gT gL gR q p r a p' r' pg n s1 s2 rl tv tl (refsV S) S t (Sep (BO bs SO) Nought)))))) w u → BkAt bd (.cells #[.int .i64 s'.kind, .int .i64 s'.place, .int .u64 (s'.old : Int), .int .u64 (s'.new : Int)] 27 (0, 0)) u ∧ Cel gR t (.pointer (some ⟨b, 0, none⟩)) u) := hide (fun M1 v1 l1 s1 s2 u h => ⟨Own.boAt h, (cell_of_heap (h.has (m := gR) (o := .cells (rowN n (refsV S)) 55 (0, 0)) (R := Sep (BO bd (.cells #[.int .i64 s'.kind, .int .i64 s'.place, .int .u64 (s'.old : Int), .int .u64 (s'.new : Int)] 27 (0, 0))) (Sep (BO m M1) (Sep (BO b (mObj (kTake (pg : Int) (n : Int) t) v1)) (Sep (LogR v1.log l1) (Sep (AX q (pg : Int) (n : Int) p r s1 pg [] 1 rl) (Sep (MX a (pg : Int) (n : Int) p' r' s2 pg [] 1 rl) (Sep (BO gT (.cells (rowN n tv) 67 (0, 0))) (Sep (BO gL (.cells (rowN n tl) 68 (0, 0))) (Sep (Many (upd (machR (pg : Int) (n : Int) S) t Nought) n) (Sep (BO bs SO) Nought)))))))))) (by unfold SideR; ac_rfl))).trans ((rowN_get _ htn).trans (congrArg some HR1.out))⟩)
            have hne : Nonempty (Mem (fun u => BkAt bd (.cells #[.int .i64 s'.kind, .int .i64 s'.place, .int .u64 (s'.old : Int), .int .u64 (s'.new : Int)] 27 (0, 0)) u ∧ Cel gR t (.pointer (some ⟨b, 0, none⟩)) u)) := ⟨⟨_, RC.out _ _ _ _ _ _ O6.out⟩⟩
            have UD0 : ∀ u : Mem (fun u => BkAt bd (.cells #[.int .i64 s'.kind, .int .i64 s'.place, .int .u64 (s'.old : Int), .int .u64 (s'.new : Int)] 27 (0, 0)) u ∧ Cel gR t (.pointer (some ⟨b, 0, none⟩)) u), u.w'.cell? ⟨bd, 0, none⟩ = some (.int .i64 s'.kind) := fun u => cell_of_heap u.h.1
            have UD1 : ∀ u : Mem (fun u => BkAt bd (.cells #[.int .i64 s'.kind, .int .i64 s'.place, .int .u64 (s'.old : Int), .int .u64 (s'.new : Int)] 27 (0, 0)) u ∧ Cel gR t (.pointer (some ⟨b, 0, none⟩)) u), u.w'.cell? ⟨bd, 1, none⟩ = some (.int .i64 s'.place) := fun u => cell_of_heap u.h.1
            have UD2 : ∀ u : Mem (fun u => BkAt bd (.cells #[.int .i64 s'.kind, .int .i64 s'.place, .int .u64 (s'.old : Int), .int .u64 (s'.new : Int)] 27 (0, 0)) u ∧ Cel gR t (.pointer (some ⟨b, 0, none⟩)) u), u.w'.cell? ⟨bd, 2, none⟩ = some (.int .u64 (s'.old : Int)) := fun u => cell_of_heap u.h.1
            have UD3 : ∀ u : Mem (fun u => BkAt bd (.cells #[.int .i64 s'.kind, .int .i64 s'.place, .int .u64 (s'.old : Int), .int .u64 (s'.new : Int)] 27 (0, 0)) u ∧ Cel gR t (.pointer (some ⟨b, 0, none⟩)) u), u.w'.cell? ⟨bd, 3, none⟩ = some (.int .u64 (s'.new : Int)) := fun u => cell_of_heap u.h.1
            have UR : ∀ u : Mem (fun u => BkAt bd (.cells #[.int .i64 s'.kind, .int .i64 s'.place, .int .u64 (s'.old : Int), .int .u64 (s'.new : Int)] 27 (0, 0)) u ∧ Cel gR t (.pointer (some ⟨b, 0, none⟩)) u), u.w'.cell? ⟨gR, t, none⟩ = some (.pointer (some ⟨b, 0, none⟩)) := fun u => u.h.2
            refine region_start (J := fun u => BkAt bd (.cells #[.int .i64 s'.kind, .int .i64 s'.place, .int .u64 (s'.old : Int), .int .u64 (s'.new : Int)] 27 (0, 0)) u ∧ Cel gR t (.pointer (some ⟨b, 0, none⟩)) u) (by kernel_rfl) ?_
            refine stretch (fuel := 20) (by kernel_rfl) (fun _ _ _ _ _ h => h) (RC.out _ _ _ _ _ _ O6.out) [0, 1, 2, 3, 4, 5] (by kernel_rfl) ?_
            simp only [List.filterMap_cons, List.filterMap_nil, List.getElem?_toArray, List.getElem?_cons_zero, List.getElem?_cons_succ]
            show wpQuiet _ _ _ _ [_, _, _, _, _, _] _
            repeat (go_big_quiet_step (fail))
            refine wpQuiet_nil ?_
            refine wpAnyJ_writer (i := 6) rfl (by kernel_rfl) (fun K' hK => ?_)
            go_simp
            have lD : Loc (Sep (BO bd (.cells #[.int .i64 s'.kind, .int .i64 s'.place, .int .u64 (s'.old : Int), .int .u64 (s'.new : Int)] 27 (0, 0))) (Sep (BO m (takeO (pg : Int) (n : Int) true (t : Int))) (Sep (AX q (pg : Int) (n : Int) p r s' pg [] 1 rl) (Sep (BO gT (.cells (rowN n tv) 67 (0, 0))) (Sep (BO gL (.cells (rowN n tl) 68 (0, 0))) (Sep (BO gR (.cells (rowN n (refsV S)) 55 (0, 0))) (Sep (Many (upd (machR (pg : Int) (n : Int) S) t Nought) n) (Sep (BO bs SO) Nought)))))))) := Loc.bo.sep (Loc.bo.sep (Loc.ax.sep (Loc.bo.sep (Loc.bo.sep (Loc.bo.sep ((Loc.rest Loc.mach t n).sep lB))))))
            refine (rstepTake (k := kTake (pg : Int) (n : Int) t) lD t (by omega) rfl rfl (O6.out.cast (by unfold SideR; ac_rfl)) HV.out.1 HV.out.2.1 (by have := HV.out.2.2; omega) (by rw [HWD.out.len]; exact HWL.out.1) true HOK.out).mono ?_
            rintro e u7 ⟨rfl, v', l', hvd, hll, hlen, o7⟩
            rw [HS'.out] at o7
            rw [HS'.out]
            have O7 := hide (o7.cast (R' := Sep (BO bd (.cells #[.int .i64 s'.kind, .int .i64 s'.place, .int .u64 (s'.old : Int), .int .u64 (s'.new : Int)] 27 (0, 0))) (Sep (BO m (takeO (pg : Int) (n : Int) true (t : Int))) (Sep (BO b (mObj (kTake (pg : Int) (n : Int) t) v')) (Sep (LogR v'.log l') (SideR gT gL gR q p r a p' r' pg n s' s' rl tv tl (refsV S) S t (Sep (BO bs SO) Nought)))))) (by unfold SideR; ac_rfl))
            have HVD := hide hvd
            refine hK _ _ (RC.out _ _ _ _ _ _ O7.out) ?_
            clear hK K' o7 O6 lD hvd hll hlen hne UD0 UD1 UD2 UD3 UR
            unfold St.did
            have DC : Hid (∀ u : World, Own (Sep (BO bd (.cells #[.int .i64 s'.kind, .int .i64 s'.place, .int .u64 (s'.old : Int), .int .u64 (s'.new : Int)] 27 (0, 0))) (Sep (BO m (takeO (pg : Int) (n : Int) true (t : Int))) (Sep (BO b (mObj (kTake (pg : Int) (n : Int) t) v')) (Sep (LogR v'.log l') (SideR gT gL gR q p r a p' r' pg n s' s' rl tv tl (refsV S) S t (Sep (BO bs SO) Nought)))))) w u → (Cel gR t (.pointer (some ⟨b, 0, none⟩)) u ∧ Cel b 15 (.bool true) u)  ∧ BkAt bd (.cells #[.int .i64 s'.kind, .int .i64 s'.place, .int .u64 (s'.old : Int), .int .u64 (s'.new : Int)] 27 (0, 0)) u) := hide (fun u h => ⟨⟨(RC.out _ _ _ _ _ _ h).2, by
              have := cell_of_heap (o := 15) (h.has (m := b) (o := mObj (kTake (pg : Int) (n : Int) t) v') (R := Sep (BO bd (.cells #[.int .i64 s'.kind, .int .i64 s'.place, .int .u64 (s'.old : Int), .int .u64 (s'.new : Int)] 27 (0, 0))) (Sep (BO m (takeO (pg : Int) (n : Int) true (t : Int))) (Sep (LogR v'.log l') (SideR gT gL gR q p r a p' r' pg n s' s' rl tv tl (refsV S) S t (Sep (BO bs SO) Nought))))) (by ac_rfl))
              refine this.trans ?_
              show some (Value.bool v'.done) = _
              rw [HVD.out]⟩, Own.boAt h⟩)
            refine wpAnyJ_class (I := fun u => (Cel gR t (.pointer (some ⟨b, 0, none⟩)) u ∧ Cel b 15 (.bool true) u) ∧ BkAt bd (.cells #[.int .i64 s'.kind, .int .i64 s'.place, .int .u64 (s'.old : Int), .int .u64 (s'.new : Int)] 27 (0, 0)) u) (fun _ h => ⟨h.2, h.1.1⟩) ?_
            have hne : Nonempty (Mem (fun u => (Cel gR t (.pointer (some ⟨b, 0, none⟩)) u ∧ Cel b 15 (.bool true) u) ∧ BkAt bd (.cells #[.int .i64 s'.kind, .int .i64 s'.place, .int .u64 (s'.old : Int), .int .u64 (s'.new : Int)] 27 (0, 0)) u)) := ⟨⟨_, DC.out _ O7.out⟩⟩
            have UR : ∀ u : Mem (fun u => (Cel gR t (.pointer (some ⟨b, 0, none⟩)) u ∧ Cel b 15 (.bool true) u) ∧ BkAt bd (.cells #[.int .i64 s'.kind, .int .i64 s'.place, .int .u64 (s'.old : Int), .int .u64 (s'.new : Int)] 27 (0, 0)) u), u.w'.cell? ⟨gR, t, none⟩ = some (.pointer (some ⟨b, 0, none⟩)) := fun u => u.h.1.1
            have UB : ∀ u : Mem (fun u => (Cel gR t (.pointer (some ⟨b, 0, none⟩)) u ∧ Cel b 15 (.bool true) u) ∧ BkAt bd (.cells #[.int .i64 s'.kind, .int .i64 s'.place, .int .u64 (s'.old : Int), .int .u64 (s'.new : Int)] 27 (0, 0)) u), u.w'.cell? ⟨b, 15, none⟩ = some (.bool true) := fun u => u.h.1.2
            refine stretch (fuel := 4) (by kernel_rfl) (fun _ _ _ _ _ h => h) (DC.out _ O7.out) [7, 8, 9, 10, 11, 12, 13, 14, 15, 16, 17, 18, 19, 20, 22] (by kernel_rfl) ?_
            simp only [List.filterMap_cons, List.filterMap_nil, List.getElem?_toArray, List.getElem?_cons_zero, List.getElem?_cons_succ]
            show wpQuiet _ _ _ _ [_, _, _, _, _, _, _, _, _, _, _, _, _, _, _] _
            repeat (go_big_quiet_step (fail))
            refine wpQuiet_nil ?_
            obtain ⟨hx, hhx⟩ : ∃ hx, s'.words.getD 2 0 = hx := ⟨_, rfl⟩
            obtain ⟨vv, hvv⟩ : ∃ vv, (hx : Int) - 1 = vv := ⟨_, rfl⟩
            have hxn : hx ≤ n := by rw [← hhx]; exact HW'.out.at_
            have hs2 : 2 < s'.words.length := by rw [HW'.out.len]; exact HWL.out.1
            have HHX := hide hhx
            have HVV := hide hvv
            have HS2 := hide hs2
            clear hhx hvv hs2
            refine wpAnyJ_writer (i := 21) rfl (by kernel_rfl) (fun K' hK => ?_)
            go_simp
            have lH : Loc (Sep (BO bd (.cells #[.int .i64 s'.kind, .int .i64 s'.place, .int .u64 (s'.old : Int), .int .u64 (s'.new : Int)] 27 (0, 0))) (Sep (BO m (takeO (pg : Int) (n : Int) true (t : Int))) (Sep (BO b (mObj (kTake (pg : Int) (n : Int) t) v')) (Sep (LogR v'.log l') (Sep (MX a (pg : Int) (n : Int) p' r' s' pg [] 1 rl) (Sep (BO gT (.cells (rowN n tv) 67 (0, 0))) (Sep (BO gL (.cells (rowN n tl) 68 (0, 0))) (Sep (BO gR (.cells (rowN n (refsV S)) 55 (0, 0))) (Sep (Many (upd (machR (pg : Int) (n : Int) S) t Nought) n) (Sep (BO bs SO) Nought)))))))))) := Loc.bo.sep (Loc.bo.sep (Loc.bo.sep (Loc.logR.sep (Loc.mx.sep (Loc.bo.sep (Loc.bo.sep (Loc.bo.sep ((Loc.rest Loc.mach t n).sep lB))))))))
            refine (heldW lH (O7.out.cast (by unfold SideR; ac_rfl)) HS2.out hx HHX.out (by omega) (by omega) vv HVV.out).mono ?_
            rintro e u8 ⟨rfl, o8⟩
            have O8 := hide (o8.cast (R' := Sep (BO bd (.cells #[.int .i64 s'.kind, .int .i64 s'.place, .int .u64 (s'.old : Int), .int .u64 (s'.new : Int)] 27 (0, 0))) (Sep (BO m (takeO (pg : Int) (n : Int) true (t : Int))) (Sep (BO b (mObj (kTake (pg : Int) (n : Int) t) v')) (Sep (LogR v'.log l') (SideR gT gL gR q p r a p' r' pg n s' s' rl tv tl (refsV S) S t (Sep (BO bs SO) Nought)))))) (by unfold SideR; ac_rfl))
            refine hK _ _ (DC.out _ O8.out) ?_
            clear hK K' o8 O7 lH
            refine wpAnyJ_writer (i := 23) rfl (by kernel_rfl) (fun K' hK => ?_)
            go_simp
            refine (rHeld (O8.out.cast (R' := Sep (MX a (pg : Int) (n : Int) p' r' s' pg [] 1 rl) (Sep (BO bd (.cells #[.int .i64 s'.kind, .int .i64 s'.place, .int .u64 (s'.old : Int), .int .u64 (s'.new : Int)] 27 (0, 0))) (Sep (BO m (takeO (pg : Int) (n : Int) true (t : Int))) (Sep (BO b (mObj (kTake (pg : Int) (n : Int) t) v')) (Sep (LogR v'.log l') (Sep (AX q (pg : Int) (n : Int) p r s' pg [] 1 rl) (Sep (BO gT (.cells (rowN n tv) 67 (0, 0))) (Sep (BO gL (.cells (rowN n tl) 68 (0, 0))) (Sep (BO gR (.cells (rowN n (refsV S)) 55 (0, 0))) (Sep (Many (upd (machR (pg : Int) (n : Int) S) t Nought) n) (Sep (BO bs SO) Nought))))))))))) (by unfold SideR; ac_rfl)) HS2.out hx HHX.out (by omega) vv HVV.out).mono ?_
            rintro e u9 ⟨rfl, o9⟩
            have O9 := hide (o9.cast (R' := Sep (BO bd (.cells #[.int .i64 s'.kind, .int .i64 s'.place, .int .u64 (s'.old : Int), .int .u64 (s'.new : Int)] 27 (0, 0))) (Sep (BO m (takeO (pg : Int) (n : Int) true (t : Int))) (Sep (BO b (mObj (kTake (pg : Int) (n : Int) t) v')) (Sep (LogR v'.log l') (SideR gT gL gR q p r a p' r' pg n s' s' rl tv tl (refsV S) S t (Sep (BO bs SO) Nought)))))) (by unfold SideR; ac_rfl))
            refine hK _ _ (DC.out _ O9.out) ?_
            clear hK K' o9 O8
            refine stretch (fuel := 0) (by kernel_rfl) (fun _ _ _ _ _ h => h) (DC.out _ O9.out) [24, 25] (by kernel_rfl) ?_
            simp only [List.filterMap_cons, List.filterMap_nil, List.getElem?_toArray, List.getElem?_cons_zero, List.getElem?_cons_succ]
            show wpQuiet _ _ _ _ [_, _] _
            repeat (go_big_quiet_step (fail))
            refine wpQuiet_nil ?_
            refine wpAnyJ_done (by kernel_rfl) ?_
            clear hne UR UB DC RC lS' lSide
            have o10 := O9.out.drop.drop.drop.drop.cast (R' := Sep (BO gR (.cells (rowN n (refsV S)) 55 (0, 0))) (Sep (AX q (pg : Int) (n : Int) p r s' pg [] 1 rl) (Sep (MX a (pg : Int) (n : Int) p' r' s' pg [] 1 rl) (Sep (BO gT (.cells (rowN n tv) 67 (0, 0))) (Sep (BO gL (.cells (rowN n tl) 68 (0, 0))) (Sep (Many (upd (machR (pg : Int) (n : Int) S) t Nought) n) (Sep (BO bs SO) Nought))))))) (by unfold SideR; ac_rfl)
            have y10 : u9.cell? ⟨gR, t, none⟩ = some (.pointer (some ⟨b, 0, none⟩)) := (cell_of_heap (Own.boAt o10)).trans ((rowN_get _ htn).trans (congrArg some HR1.out))
            have f10 : ∀ o, u9.frozen? ⟨gR, o, none⟩ = false := fun o => frozen_of_heap (Own.boAt o10)
            have o11 := Own.boSet (Loc.ax.sep (Loc.mx.sep (Loc.bo.sep (Loc.bo.sep ((Loc.rest Loc.mach t n).sep lB))))) o10 t (.pointer none)
            rw [rowN_set] at o11
            try rw [HRN.out] at o11
            have O11 : Hid (Own (GameR gT gL gR q p r a p' r' pg n s' rl tv tl (upd S t .off) (Sep (BO bs SO) Nought)) w (u9.setCell ⟨gR, t, none⟩ (.pointer none))) := hide (o11.cast (by rw [← GameR.turn htn .off]; unfold SideR; show _ = Sep Nought _; rw [Sep.nought]; show Sep (BO gR (.cells (rowN n (upd (refsV S) t (.pointer none))) _ (0, 0))) _ = _; ac_rfl))
            clear o10 o11 O9
            go_wp2
            go_roundw
            case rel => exact ⟨i + 1, s', tv, tl, upd S t .off, by go_num, by omega, ⟨HW'.out, Fit.turn HOKS.out .off ⟨⟨_, HT1.out⟩, HLE.out⟩, O11.out⟩⟩
            case measure => simp [intOf]; omega
          · have HOK : Hid (decide (s.words.getD 2 0 = 0) = false) := hide (by rw [decide_eq_false hz0])
            clear hz0
            -- at the world wr: OE, HT1 (the row's cell), HR1
            obtain ⟨s', hs'⟩ : ∃ s', s.cas 2 0 (t + 1) = s' := ⟨_, rfl⟩
            have HW' : Hid (Wds n wl s') := hide (by rw [← hs']; exact HWD.out.cas HWL.out.1 htn)
            have HS' := hide hs'
            clear hs'
            have hZD := heap_alloc_at wr (.cells #[.int .i64 0, .int .i64 0, .int .u64 0, .int .u64 0] 27)
            obtain ⟨bd, hbd⟩ : ∃ bd, wr.heap.size = bd := ⟨_, rfl⟩
            rw [hbd] at hZD
            have lSide : Loc (SideR gT gL gR q p r a p' r' pg n s s rl tv tl (refsV S) S t (Sep (BO bs SO) Nought)) := Loc.ax.sep (Loc.mx.sep (Loc.bo.sep (Loc.bo.sep (Loc.bo.sep ((Loc.rest Loc.mach t n).sep lB)))))
            have o1 := Own.boNew (Loc.bo.sep (Loc.bo.sep (Loc.logR.sep lSide))) OE.out hZD (by rw [hbd]; exact Nat.le_refl _) (grown1 _ _)
            have gt1 : (wr.alloc (.cells #[.int .i64 0, .int .i64 0, .int .u64 0, .int .u64 0] 27)).cell? ⟨gT, t, none⟩ = some (.pointer (some ⟨m, 0, none⟩)) := (cell_of_heap (o1.has (m := gT) (o := .cells (rowN n tv) 67 (0, 0)) (R := Sep (BO bd (.cells #[.int .i64 0, .int .i64 0, .int .u64 0, .int .u64 0] 27 (0, 0))) (Sep (BO m (takeO (pg : Int) (n : Int) false (t : Int))) (Sep (BO b (mObj (kTake (pg : Int) (n : Int) t) v)) (Sep (LogR v.log l) (Sep (AX q (pg : Int) (n : Int) p r s pg [] 1 rl) (Sep (MX a (pg : Int) (n : Int) p' r' s pg [] 1 rl) (Sep (BO gL (.cells (rowN n tl) 68 (0, 0))) (Sep (BO gR (.cells (rowN n (refsV S)) 55 (0, 0))) (Sep (Many (upd (machR (pg : Int) (n : Int) S) t Nought) n) (Sep (BO bs SO) Nought)))))))))) (by unfold SideR; ac_rfl))).trans ((rowN_get _ htn).trans (congrArg some HT1.out))
            have O1 := hide o1
            clear o1 OE hZD
            go_upto_region 21 with fail
            try rw [hbd]
            clear gt1
            generalize wr.alloc (.cells #[.int .i64 0, .int .i64 0, .int .u64 0, .int .u64 0] 27) = u1 at *
            have HBD := hide hbd
            clear hbd
            go_cut [19] from 106 to 157 (fun r19 wc => r19 = .bool false ∧ Hid (Own (Sep (BO bd (.cells #[.int .i64 s'.kind, .int .i64 s'.place, .int .u64 (s'.old : Int), .int .u64 (s'.new : Int)] 27 (0, 0))) (Sep (BO m (takeO (pg : Int) (n : Int) false (t : Int))) (Sep (BO b (mObj (kTake (pg : Int) (n : Int) t) v)) (Sep (LogR v.log l) (SideR gT gL gR q p r a p' r' pg n s' s rl tv tl (refsV S) S t (Sep (BO bs SO) Nought)))))) w wc))
            case first =>
              have O2 := hide (O1.out.below (Loc.bo.sep (Loc.bo.sep (Loc.bo.sep (Loc.logR.sep lSide)))) ((Alike.drewN u1 1).below _))
              have GC : Hid (∀ (bo mo' : Obj) (s1 s2 : St) (u : World), Own (Sep (BO bd bo) (Sep (BO m mo') (Sep (BO b (mObj (kTake (pg : Int) (n : Int) t) v)) (Sep (LogR v.log l) (SideR gT gL gR q p r a p' r' pg n s1 s2 rl tv tl (refsV S) S t (Sep (BO bs SO) Nought)))))) w u → Cel gT t (.pointer (some ⟨m, 0, none⟩)) u) := hide (fun bo mo' s1 s2 u h => (cell_of_heap (h.has (m := gT) (o := .cells (rowN n tv) 67 (0, 0)) (R := Sep (BO bd bo) (Sep (BO m mo') (Sep (BO b (mObj (kTake (pg : Int) (n : Int) t) v)) (Sep (LogR v.log l) (Sep (AX q (pg : Int) (n : Int) p r s1 pg [] 1 rl) (Sep (MX a (pg : Int) (n : Int) p' r' s2 pg [] 1 rl) (Sep (BO gL (.cells (rowN n tl) 68 (0, 0))) (Sep (BO gR (.cells (rowN n (refsV S)) 55 (0, 0))) (Sep (Many (upd (machR (pg : Int) (n : Int) S) t Nought) n) (Sep (BO bs SO) Nought)))))))))) (by unfold SideR; ac_rfl))).trans ((rowN_get _ htn).trans (congrArg some HT1.out)))
              have J2 : Hid (Cel gT t (.pointer (some ⟨m, 0, none⟩)) u1.drew) := hide (GC.out _ _ _ _ _ O2.out)
              have hne : Nonempty (Mem (Cel gT t (.pointer (some ⟨m, 0, none⟩)))) := ⟨⟨_, J2.out⟩⟩
              have UG : ∀ u : Mem (Cel gT t (.pointer (some ⟨m, 0, none⟩))), u.w'.cell? ⟨gT, t, none⟩ = some (.pointer (some ⟨m, 0, none⟩)) := fun u => u.h
              clear O1
              refine region_start (J := Cel gT t (.pointer (some ⟨m, 0, none⟩))) (by kernel_rfl) ?_
              refine stretch (fuel := 4) (by kernel_rfl) (fun _ _ _ _ _ h => h) J2.out [0, 1, 2, 3, 4, 6, 7, 8, 9] (by kernel_rfl) ?_
              simp only [List.filterMap_cons, List.filterMap_nil, List.getElem?_toArray, List.getElem?_cons_zero, List.getElem?_cons_succ]
              show wpQuiet _ _ _ _ [_, _, _, _, _, _, _, _, _] _
              repeat (go_big_quiet_step (fail))
              refine wpQuiet_nil ?_
              refine wpAnyJ_writer (i := 5) rfl (by kernel_rfl) (fun K' hK => ?_)
              go_simp
              have lA : Loc (Sep (BO bd (.cells #[.int .i64 0, .int .i64 0, .int .u64 0, .int .u64 0] 27 (0, 0))) (Sep (BO b (mObj (kTake (pg : Int) (n : Int) t) v)) (Sep (LogR v.log l) (Sep (MX a (pg : Int) (n : Int) p' r' s pg [] 1 rl) (Sep (BO gT (.cells (rowN n tv) 67 (0, 0))) (Sep (BO gL (.cells (rowN n tl) 68 (0, 0))) (Sep (BO gR (.cells (rowN n (refsV S)) 55 (0, 0))) (Sep (Many (upd (machR (pg : Int) (n : Int) S) t Nought) n) (Sep (BO bs SO) Nought))))))))) := Loc.bo.sep (Loc.bo.sep (Loc.logR.sep (Loc.mx.sep (Loc.bo.sep (Loc.bo.sep (Loc.bo.sep ((Loc.rest Loc.mach t n).sep lB)))))))
              refine (takeStep lA t (by omega) (O2.out.cast (by unfold SideR; ac_rfl)) (by rw [HWD.out.len]; exact HWL.out.1) false HOK.out s' HS'.out).mono ?_
              rintro e u3 ⟨rfl, o3⟩
              have O3 := hide (o3.cast (R' := Sep (BO bd (.cells #[.int .i64 0, .int .i64 0, .int .u64 0, .int .u64 0] 27 (0, 0))) (Sep (BO m (takeO (pg : Int) (n : Int) false (t : Int))) (Sep (BO b (mObj (kTake (pg : Int) (n : Int) t) v)) (Sep (LogR v.log l) (SideR gT gL gR q p r a p' r' pg n s' s rl tv tl (refsV S) S t (Sep (BO bs SO) Nought)))))) (by unfold SideR; ac_rfl))
              refine hK _ _ (GC.out _ _ _ _ _ O3.out) ?_
              clear hK K' o3 O2 J2 lA
              have lS' : Loc (Sep (BO m (takeO (pg : Int) (n : Int) false (t : Int))) (Sep (BO b (mObj (kTake (pg : Int) (n : Int) t) v)) (Sep (LogR v.log l) (SideR gT gL gR q p r a p' r' pg n s' s rl tv tl (refsV S) S t (Sep (BO bs SO) Nought))))) := Loc.bo.sep (Loc.bo.sep (Loc.logR.sep (Loc.ax.sep (Loc.mx.sep (Loc.bo.sep (Loc.bo.sep (Loc.bo.sep ((Loc.rest Loc.mach t n).sep lB))))))))
              refine wpAnyJ_writer (i := 10) rfl (by kernel_rfl) (fun K' hK => ?_)
              go_simp
              refine (takeDone _ m (pg : Int) (n : Int) (t : Int) false (O3.out.has (m := m) (o := takeO (pg : Int) (n : Int) false (t : Int)) (R := Sep (BO bd (.cells #[.int .i64 0, .int .i64 0, .int .u64 0, .int .u64 0] 27 (0, 0))) (Sep (BO b (mObj (kTake (pg : Int) (n : Int) t) v)) (Sep (LogR v.log l) (SideR gT gL gR q p r a p' r' pg n s' s rl tv tl (refsV S) S t (Sep (BO bs SO) Nought))))) (by ac_rfl))).mono ?_
              rintro e u4 ⟨rfl, rfl⟩
              refine hK _ _ (GC.out _ _ _ _ _ O3.out) ?_
              clear hK K'
              refine wpAnyJ_writer (i := 11) rfl (by kernel_rfl) (fun K' hK => ?_)
              have r0 : u4.cell? ⟨bd, 0, none⟩ = some (.int .i64 0) := cell_of_heap (Own.boAt O3.out)
              have r1 : u4.cell? ⟨bd, 1, none⟩ = some (.int .i64 0) := cell_of_heap (Own.boAt O3.out)
              have r2 : u4.cell? ⟨bd, 2, none⟩ = some (.int .u64 0) := cell_of_heap (Own.boAt O3.out)
              have r3 : u4.cell? ⟨bd, 3, none⟩ = some (.int .u64 0) := cell_of_heap (Own.boAt O3.out)
              have fr : ∀ o, u4.frozen? ⟨bd, o, none⟩ = false := fun o => frozen_of_heap (Own.boAt O3.out)
              have O5 : Hid (Own (Sep (BO bd (.cells #[.int .i64 s'.kind, .int .i64 s'.place, .int .u64 (s'.old : Int), .int .u64 (s'.new : Int)] 27 (0, 0))) (Sep (BO m (takeO (pg : Int) (n : Int) false (t : Int))) (Sep (BO b (mObj (kTake (pg : Int) (n : Int) t) v)) (Sep (LogR v.log l) (SideR gT gL gR q p r a p' r' pg n s' s rl tv tl (refsV S) S t (Sep (BO bs SO) Nought)))))) w ((((u4.setCell ⟨bd, 0, none⟩ (.int .i64 s'.kind)).setCell ⟨bd, 1, none⟩ (.int .i64 s'.place)).setCell ⟨bd, 2, none⟩ (.int .u64 (s'.old : Int))).setCell ⟨bd, 3, none⟩ (.int .u64 (s'.new : Int)))) :=
                hide (Own.boSet lS' (Own.boSet lS' (Own.boSet lS' (Own.boSet lS' O3.out 0 (.int .i64 s'.kind)) 1 (.int .i64 s'.place)) 2 (.int .u64 (s'.old : Int))) 3 (.int .u64 (s'.new : Int)))
              unfold St.did
              go_simp
              refine hK _ _ (GC.out _ _ _ _ _ O5.out) ?_
              clear hK K' r0 r1 r2 r3 fr O3
              generalize (((u4.setCell ⟨bd, 0, none⟩ (.int .i64 s'.kind)).setCell ⟨bd, 1, none⟩ (.int .i64 s'.place)).setCell ⟨bd, 2, none⟩ (.int .u64 (s'.old : Int))).setCell ⟨bd, 3, none⟩ (.int .u64 (s'.new : Int)) = u5 at *
              refine stretch (fuel := 0) (by kernel_rfl) (fun _ _ _ _ _ h => h) (GC.out _ _ _ _ _ O5.out) [12] (by kernel_rfl) ?_
              simp only [List.filterMap_cons, List.filterMap_nil, List.getElem?_toArray, List.getElem?_cons_zero, List.getElem?_cons_succ]
              show wpQuiet _ _ _ _ [_] _
              repeat (go_big_quiet_step (fail))
              refine wpQuiet_nil ?_
              refine wpAnyJ_done (by kernel_rfl) ?_
              go_wp2
              go_meet
              exact ⟨rfl, O5.out⟩
            obtain ⟨hr19, O5⟩ := hcut
            subst hr19
            clear O1
            go_upto_region 23 with fail
            have lS' : Loc (Sep (BO m (takeO (pg : Int) (n : Int) false (t : Int))) (Sep (BO b (mObj (kTake (pg : Int) (n : Int) t) v)) (Sep (LogR v.log l) (SideR gT gL gR q p r a p' r' pg n s' s rl tv tl (refsV S) S t (Sep (BO bs SO) Nought))))) := Loc.bo.sep (Loc.bo.sep (Loc.logR.sep (Loc.ax.sep (Loc.mx.sep (Loc.bo.sep (Loc.bo.sep (Loc.bo.sep ((Loc.rest Loc.mach t n).sep lB))))))))
            have O6 := hide (O5.out.below (Loc.bo.sep lS') ((Alike.drewN wc 1).below _))
            clear O5
            have RC : Hid (∀ (M1 : Obj) (v1 : MV) (l1 : List Nat) (s1 s2 : St) (u : World), Own (Sep (BO bd (.cells #[.int .i64 s'.kind, .int .i64 s'.place, .int .u64 (s'.old : Int), .int .u64 (s'.new : Int)] 27 (0, 0))) (Sep (BO m M1) (Sep (BO b (mObj (kTake (pg : Int) (n : Int) t) v1)) (Sep (LogR v1.log l1) (SideR gT gL gR q p r a p' r' pg n s1 s2 rl tv tl (refsV S) S t (Sep (BO bs SO) Nought)))))) w u → BkAt bd (.cells #[.int .i64 s'.kind, .int .i64 s'.place, .int .u64 (s'.old : Int), .int .u64 (s'.new : Int)] 27 (0, 0)) u ∧ Cel gR t (.pointer (some ⟨b, 0, none⟩)) u) := hide (fun M1 v1 l1 s1 s2 u h => ⟨Own.boAt h, (cell_of_heap (h.has (m := gR) (o := .cells (rowN n (refsV S)) 55 (0, 0)) (R := Sep (BO bd (.cells #[.int .i64 s'.kind, .int .i64 s'.place, .int .u64 (s'.old : Int), .int .u64 (s'.new : Int)] 27 (0, 0))) (Sep (BO m M1) (Sep (BO b (mObj (kTake (pg : Int) (n : Int) t) v1)) (Sep (LogR v1.log l1) (Sep (AX q (pg : Int) (n : Int) p r s1 pg [] 1 rl) (Sep (MX a (pg : Int) (n : Int) p' r' s2 pg [] 1 rl) (Sep (BO gT (.cells (rowN n tv) 67 (0, 0))) (Sep (BO gL (.cells (rowN n tl) 68 (0, 0))) (Sep (Many (upd (machR (pg : Int) (n : Int) S) t Nought) n) (Sep (BO bs SO) Nought)))))))))) (by unfold SideR; ac_rfl))).trans ((rowN_get _ htn).trans (congrArg some HR1.out))⟩)
            have hne : Nonempty (Mem (fun u => BkAt bd (.cells #[.int .i64 s'.kind, .int .i64 s'.place, .int .u64 (s'.old : Int), .int .u64 (s'.new : Int)] 27 (0, 0)) u ∧ Cel gR t (.pointer (some ⟨b, 0, none⟩)) u)) := ⟨⟨_, RC.out _ _ _ _ _ _ O6.out⟩⟩
            have UD0 : ∀ u : Mem (fun u => BkAt bd (.cells #[.int .i64 s'.kind, .int .i64 s'.place, .int .u64 (s'.old : Int), .int .u64 (s'.new : Int)] 27 (0, 0)) u ∧ Cel gR t (.pointer (some ⟨b, 0, none⟩)) u), u.w'.cell? ⟨bd, 0, none⟩ = some (.int .i64 s'.kind) := fun u => cell_of_heap u.h.1
            have UD1 : ∀ u : Mem (fun u => BkAt bd (.cells #[.int .i64 s'.kind, .int .i64 s'.place, .int .u64 (s'.old : Int), .int .u64 (s'.new : Int)] 27 (0, 0)) u ∧ Cel gR t (.pointer (some ⟨b, 0, none⟩)) u), u.w'.cell? ⟨bd, 1, none⟩ = some (.int .i64 s'.place) := fun u => cell_of_heap u.h.1
            have UD2 : ∀ u : Mem (fun u => BkAt bd (.cells #[.int .i64 s'.kind, .int .i64 s'.place, .int .u64 (s'.old : Int), .int .u64 (s'.new : Int)] 27 (0, 0)) u ∧ Cel gR t (.pointer (some ⟨b, 0, none⟩)) u), u.w'.cell? ⟨bd, 2, none⟩ = some (.int .u64 (s'.old : Int)) := fun u => cell_of_heap u.h.1
            have UD3 : ∀ u : Mem (fun u => BkAt bd (.cells #[.int .i64 s'.kind, .int .i64 s'.place, .int .u64 (s'.old : Int), .int .u64 (s'.new : Int)] 27 (0, 0)) u ∧ Cel gR t (.pointer (some ⟨b, 0, none⟩)) u), u.w'.cell? ⟨bd, 3, none⟩ = some (.int .u64 (s'.new : Int)) := fun u => cell_of_heap u.h.1
            have UR : ∀ u : Mem (fun u => BkAt bd (.cells #[.int .i64 s'.kind, .int .i64 s'.place, .int .u64 (s'.old : Int), .int .u64 (s'.new : Int)] 27 (0, 0)) u ∧ Cel gR t (.pointer (some ⟨b, 0, none⟩)) u), u.w'.cell? ⟨gR, t, none⟩ = some (.pointer (some ⟨b, 0, none⟩)) := fun u => u.h.2
            refine region_start (J := fun u => BkAt bd (.cells #[.int .i64 s'.kind, .int .i64 s'.place, .int .u64 (s'.old : Int), .int .u64 (s'.new : Int)] 27 (0, 0)) u ∧ Cel gR t (.pointer (some ⟨b, 0, none⟩)) u) (by kernel_rfl) ?_
            refine stretch (fuel := 20) (by kernel_rfl) (fun _ _ _ _ _ h => h) (RC.out _ _ _ _ _ _ O6.out) [0, 1, 2, 3, 4, 5] (by kernel_rfl) ?_
            simp only [List.filterMap_cons, List.filterMap_nil, List.getElem?_toArray, List.getElem?_cons_zero, List.getElem?_cons_succ]
            show wpQuiet _ _ _ _ [_, _, _, _, _, _] _
            repeat (go_big_quiet_step (fail))
            refine wpQuiet_nil ?_
            refine wpAnyJ_writer (i := 6) rfl (by kernel_rfl) (fun K' hK => ?_)
            go_simp
            have lD : Loc (Sep (BO bd (.cells #[.int .i64 s'.kind, .int .i64 s'.place, .int .u64 (s'.old : Int), .int .u64 (s'.new : Int)] 27 (0, 0))) (Sep (BO m (takeO (pg : Int) (n : Int) false (t : Int))) (Sep (AX q (pg : Int) (n : Int) p r s' pg [] 1 rl) (Sep (BO gT (.cells (rowN n tv) 67 (0, 0))) (Sep (BO gL (.cells (rowN n tl) 68 (0, 0))) (Sep (BO gR (.cells (rowN n (refsV S)) 55 (0, 0))) (Sep (Many (upd (machR (pg : Int) (n : Int) S) t Nought) n) (Sep (BO bs SO) Nought)))))))) := Loc.bo.sep (Loc.bo.sep (Loc.ax.sep (Loc.bo.sep (Loc.bo.sep (Loc.bo.sep ((Loc.rest Loc.mach t n).sep lB))))))
            refine (rstepTake (k := kTake (pg : Int) (n : Int) t) lD t (by omega) rfl rfl (O6.out.cast (by unfold SideR; ac_rfl)) HV.out.1 HV.out.2.1 (by have := HV.out.2.2; omega) (by rw [HWD.out.len]; exact HWL.out.1) false HOK.out).mono ?_
            rintro e u7 ⟨rfl, v', l', hvd, hll, hlen, o7⟩
            rw [HS'.out] at o7
            rw [HS'.out]
            have O7 := hide (o7.cast (R' := Sep (BO bd (.cells #[.int .i64 s'.kind, .int .i64 s'.place, .int .u64 (s'.old : Int), .int .u64 (s'.new : Int)] 27 (0, 0))) (Sep (BO m (takeO (pg : Int) (n : Int) false (t : Int))) (Sep (BO b (mObj (kTake (pg : Int) (n : Int) t) v')) (Sep (LogR v'.log l') (SideR gT gL gR q p r a p' r' pg n s' s' rl tv tl (refsV S) S t (Sep (BO bs SO) Nought)))))) (by unfold SideR; ac_rfl))
            have HVD := hide hvd
            have HLL : Hid ((∀ x ∈ l', x ≠ 0) ∧ l'.length ≤ i + 1) := hide ⟨hll rfl, by have := HV.out.2.2; omega⟩
            refine hK _ _ (RC.out _ _ _ _ _ _ O7.out) ?_
            clear hK K' o7 O6 lD hvd hll hlen hne UD0 UD1 UD2 UD3 UR
            unfold St.did
            have DC : Hid (∀ u : World, Own (Sep (BO bd (.cells #[.int .i64 s'.kind, .int .i64 s'.place, .int .u64 (s'.old : Int), .int .u64 (s'.new : Int)] 27 (0, 0))) (Sep (BO m (takeO (pg : Int) (n : Int) false (t : Int))) (Sep (BO b (mObj (kTake (pg : Int) (n : Int) t) v')) (Sep (LogR v'.log l') (SideR gT gL gR q p r a p' r' pg n s' s' rl tv tl (refsV S) S t (Sep (BO bs SO) Nought)))))) w u → (Cel gR t (.pointer (some ⟨b, 0, none⟩)) u ∧ Cel b 15 (.bool false) u)  ∧ BkAt bd (.cells #[.int .i64 s'.kind, .int .i64 s'.place, .int .u64 (s'.old : Int), .int .u64 (s'.new : Int)] 27 (0, 0)) u) := hide (fun u h => ⟨⟨(RC.out _ _ _ _ _ _ h).2, by
              have := cell_of_heap (o := 15) (h.has (m := b) (o := mObj (kTake (pg : Int) (n : Int) t) v') (R := Sep (BO bd (.cells #[.int .i64 s'.kind, .int .i64 s'.place, .int .u64 (s'.old : Int), .int .u64 (s'.new : Int)] 27 (0, 0))) (Sep (BO m (takeO (pg : Int) (n : Int) false (t : Int))) (Sep (LogR v'.log l') (SideR gT gL gR q p r a p' r' pg n s' s' rl tv tl (refsV S) S t (Sep (BO bs SO) Nought))))) (by ac_rfl))
              refine this.trans ?_
              show some (Value.bool v'.done) = _
              rw [HVD.out]⟩, Own.boAt h⟩)
            refine wpAnyJ_class (I := fun u => (Cel gR t (.pointer (some ⟨b, 0, none⟩)) u ∧ Cel b 15 (.bool false) u) ∧ BkAt bd (.cells #[.int .i64 s'.kind, .int .i64 s'.place, .int .u64 (s'.old : Int), .int .u64 (s'.new : Int)] 27 (0, 0)) u) (fun _ h => ⟨h.2, h.1.1⟩) ?_
            have hne : Nonempty (Mem (fun u => (Cel gR t (.pointer (some ⟨b, 0, none⟩)) u ∧ Cel b 15 (.bool false) u) ∧ BkAt bd (.cells #[.int .i64 s'.kind, .int .i64 s'.place, .int .u64 (s'.old : Int), .int .u64 (s'.new : Int)] 27 (0, 0)) u)) := ⟨⟨_, DC.out _ O7.out⟩⟩
            have UR : ∀ u : Mem (fun u => (Cel gR t (.pointer (some ⟨b, 0, none⟩)) u ∧ Cel b 15 (.bool false) u) ∧ BkAt bd (.cells #[.int .i64 s'.kind, .int .i64 s'.place, .int .u64 (s'.old : Int), .int .u64 (s'.new : Int)] 27 (0, 0)) u), u.w'.cell? ⟨gR, t, none⟩ = some (.pointer (some ⟨b, 0, none⟩)) := fun u => u.h.1.1
            have UB : ∀ u : Mem (fun u => (Cel gR t (.pointer (some ⟨b, 0, none⟩)) u ∧ Cel b 15 (.bool false) u) ∧ BkAt bd (.cells #[.int .i64 s'.kind, .int .i64 s'.place, .int .u64 (s'.old : Int), .int .u64 (s'.new : Int)] 27 (0, 0)) u), u.w'.cell? ⟨b, 15, none⟩ = some (.bool false) := fun u => u.h.1.2
            refine stretch (fuel := 4) (by kernel_rfl) (fun _ _ _ _ _ h => h) (DC.out _ O7.out) [7, 8, 9, 10, 11, 12, 13, 14, 15, 16, 17, 18, 19, 20, 22] (by kernel_rfl) ?_
            simp only [List.filterMap_cons, List.filterMap_nil, List.getElem?_toArray, List.getElem?_cons_zero, List.getElem?_cons_succ]
            show wpQuiet _ _ _ _ [_, _, _, _, _, _, _, _, _, _, _, _, _, _, _] _
            repeat (go_big_quiet_step (fail))
            refine wpQuiet_nil ?_
            obtain ⟨hx, hhx⟩ : ∃ hx, s'.words.getD 2 0 = hx := ⟨_, rfl⟩
            obtain ⟨vv, hvv⟩ : ∃ vv, (hx : Int) - 1 = vv := ⟨_, rfl⟩
            have hxn : hx ≤ n := by rw [← hhx]; exact HW'.out.at_
            have hs2 : 2 < s'.words.length := by rw [HW'.out.len]; exact HWL.out.1
            have HHX := hide hhx
            have HVV := hide hvv
            have HS2 := hide hs2
            clear hhx hvv hs2
            refine wpAnyJ_writer (i := 21) rfl (by kernel_rfl) (fun K' hK => ?_)
            go_simp
            have lH : Loc (Sep (BO bd (.cells #[.int .i64 s'.kind, .int .i64 s'.place, .int .u64 (s'.old : Int), .int .u64 (s'.new : Int)] 27 (0, 0))) (Sep (BO m (takeO (pg : Int) (n : Int) false (t : Int))) (Sep (BO b (mObj (kTake (pg : Int) (n : Int) t) v')) (Sep (LogR v'.log l') (Sep (MX a (pg : Int) (n : Int) p' r' s' pg [] 1 rl) (Sep (BO gT (.cells (rowN n tv) 67 (0, 0))) (Sep (BO gL (.cells (rowN n tl) 68 (0, 0))) (Sep (BO gR (.cells (rowN n (refsV S)) 55 (0, 0))) (Sep (Many (upd (machR (pg : Int) (n : Int) S) t Nought) n) (Sep (BO bs SO) Nought)))))))))) := Loc.bo.sep (Loc.bo.sep (Loc.bo.sep (Loc.logR.sep (Loc.mx.sep (Loc.bo.sep (Loc.bo.sep (Loc.bo.sep ((Loc.rest Loc.mach t n).sep lB))))))))
            refine (heldW lH (O7.out.cast (by unfold SideR; ac_rfl)) HS2.out hx HHX.out (by omega) (by omega) vv HVV.out).mono ?_
            rintro e u8 ⟨rfl, o8⟩
            have O8 := hide (o8.cast (R' := Sep (BO bd (.cells #[.int .i64 s'.kind, .int .i64 s'.place, .int .u64 (s'.old : Int), .int .u64 (s'.new : Int)] 27 (0, 0))) (Sep (BO m (takeO (pg : Int) (n : Int) false (t : Int))) (Sep (BO b (mObj (kTake (pg : Int) (n : Int) t) v')) (Sep (LogR v'.log l') (SideR gT gL gR q p r a p' r' pg n s' s' rl tv tl (refsV S) S t (Sep (BO bs SO) Nought)))))) (by unfold SideR; ac_rfl))
            refine hK _ _ (DC.out _ O8.out) ?_
            clear hK K' o8 O7 lH
            refine wpAnyJ_writer (i := 23) rfl (by kernel_rfl) (fun K' hK => ?_)
            go_simp
            refine (rHeld (O8.out.cast (R' := Sep (MX a (pg : Int) (n : Int) p' r' s' pg [] 1 rl) (Sep (BO bd (.cells #[.int .i64 s'.kind, .int .i64 s'.place, .int .u64 (s'.old : Int), .int .u64 (s'.new : Int)] 27 (0, 0))) (Sep (BO m (takeO (pg : Int) (n : Int) false (t : Int))) (Sep (BO b (mObj (kTake (pg : Int) (n : Int) t) v')) (Sep (LogR v'.log l') (Sep (AX q (pg : Int) (n : Int) p r s' pg [] 1 rl) (Sep (BO gT (.cells (rowN n tv) 67 (0, 0))) (Sep (BO gL (.cells (rowN n tl) 68 (0, 0))) (Sep (BO gR (.cells (rowN n (refsV S)) 55 (0, 0))) (Sep (Many (upd (machR (pg : Int) (n : Int) S) t Nought) n) (Sep (BO bs SO) Nought))))))))))) (by unfold SideR; ac_rfl)) HS2.out hx HHX.out (by omega) vv HVV.out).mono ?_
            rintro e u9 ⟨rfl, o9⟩
            have O9 := hide (o9.cast (R' := Sep (BO bd (.cells #[.int .i64 s'.kind, .int .i64 s'.place, .int .u64 (s'.old : Int), .int .u64 (s'.new : Int)] 27 (0, 0))) (Sep (BO m (takeO (pg : Int) (n : Int) false (t : Int))) (Sep (BO b (mObj (kTake (pg : Int) (n : Int) t) v')) (Sep (LogR v'.log l') (SideR gT gL gR q p r a p' r' pg n s' s' rl tv tl (refsV S) S t (Sep (BO bs SO) Nought)))))) (by unfold SideR; ac_rfl))
            refine hK _ _ (DC.out _ O9.out) ?_
            clear hK K' o9 O8
            refine stretch (fuel := 0) (by kernel_rfl) (fun _ _ _ _ _ h => h) (DC.out _ O9.out) [24, 25] (by kernel_rfl) ?_
            simp only [List.filterMap_cons, List.filterMap_nil, List.getElem?_toArray, List.getElem?_cons_zero, List.getElem?_cons_succ]
            show wpQuiet _ _ _ _ [_, _] _
            repeat (go_big_quiet_step (fail))
            refine wpQuiet_nil ?_
            refine wpAnyJ_done (by kernel_rfl) ?_
            clear hne UR UB DC RC lS' lSide
            have O11 : Hid (Own (GameR gT gL gR q p r a p' r' pg n s' rl tv tl (upd S t (.take m b v' l')) (Sep (BO bs SO) Nought)) w u9) := hide (O9.out.drop.cast (by
              rw [← GameR.turn htn (.take m b v' l'), HRS.out (.take m b v' l') rfl]
              show _ = Sep (Sep (BO m (takeO (pg : Int) (n : Int) false (t : Int))) (Sep (BO b (mObj (kTake (pg : Int) (n : Int) t) v')) (LogR v'.log l'))) _
              ac_rfl))
            clear O9
            go_wp2
            go_roundw
            case rel => exact ⟨i + 1, s', tv, tl, upd S t (.take m b v' l'), by go_num, by omega, ⟨HW'.out, Fit.turn HOKS.out _ ⟨HVD.out, HLL.out.1, HLL.out.2, HT1.out, HLE.out⟩, O11.out⟩⟩
            case measure => simp [intOf]; omega
        | leave m b v =>
          have hk0 := hfit t htn
          rw [hst] at hk0
          obtain ⟨hv1, hv4, hv5⟩ := hk0
          have HV := hide hv1
          have HT1 := hide hv4
          have HL1 := hide hv5
          have HR1 : Hid (refsV S t = .pointer (some ⟨b, 0, none⟩)) := hide (by unfold refsV; rw [hst]; rfl)
          have HRN : Hid (upd (refsV S) t (.pointer none) = upd (refsV S) t (.pointer none)) := hide rfl
          have HOKS : Hid (∀ j, j < n → j ≠ t → (S j).ok i (tv j) (tl j)) := hide (fun j hj _ => hfit j hj)
          have OE : Hid (Own (Sep (BO m (leaveO (pg : Int) (n : Int) false)) (Sep (BO b (mObj (kLeave (pg : Int) (n : Int) t) v)) (Sep (LogR v.log []) (SideR gT gL gR q p r a p' r' pg n s s rl tv tl (refsV S) S t (Sep (BO bs SO) Nought))))) w wr) := hide (O.out.cast (by rw [GameR.out htn, hst]; show Sep (Sep _ (Sep _ _)) _ = _; ac_rfl))
          have gRt : wr.cell? ⟨gR, t, none⟩ = some (.pointer (some ⟨b, 0, none⟩)) := GRC.out.trans (congrArg some HR1.out)
          clear hfit hst hv1 hv4 hv5 O GRC
          go_upto_region 19 with fail
          clear gRt
          -- at the world wr: OE, HT1 (the row's cell), HR1
          obtain ⟨s', hs'⟩ : ∃ s', s.put 2 0 = s' := ⟨_, rfl⟩
          have HW' : Hid (Wds n wl s') := hide (by rw [← hs']; exact HWD.out.put HWL.out.1)
          have HS' := hide hs'
          clear hs'
          have hZD := heap_alloc_at wr (.cells #[.int .i64 0, .int .i64 0, .int .u64 0, .int .u64 0] 27)
          obtain ⟨bd, hbd⟩ : ∃ bd, wr.heap.size = bd := ⟨_, rfl⟩
          rw [hbd] at hZD
          have lSide : Loc (SideR gT gL gR q p r a p' r' pg n s s rl tv tl (refsV S) S t (Sep (BO bs SO) Nought)) := Loc.ax.sep (Loc.mx.sep (Loc.bo.sep (Loc.bo.sep (Loc.bo.sep ((Loc.rest Loc.mach t n).sep lB)))))
          have o1 := Own.boNew (Loc.bo.sep (Loc.bo.sep (Loc.logR.sep lSide))) OE.out hZD (by rw [hbd]; exact Nat.le_refl _) (grown1 _ _)
          have gt1 : (wr.alloc (.cells #[.int .i64 0, .int .i64 0, .int .u64 0, .int .u64 0] 27)).cell? ⟨gT, t, none⟩ = some (.pointer none) := (cell_of_heap (o1.has (m := gT) (o := .cells (rowN n tv) 67 (0, 0)) (R := Sep (BO bd (.cells #[.int .i64 0, .int .i64 0, .int .u64 0, .int .u64 0] 27 (0, 0))) (Sep (BO m (leaveO (pg : Int) (n : Int) false)) (Sep (BO b (mObj (kLeave (pg : Int) (n : Int) t) v)) (Sep (LogR v.log []) (Sep (AX q (pg : Int) (n : Int) p r s pg [] 1 rl) (Sep (MX a (pg : Int) (n : Int) p' r' s pg [] 1 rl) (Sep (BO gL (.cells (rowN n tl) 68 (0, 0))) (Sep (BO gR (.cells (rowN n (refsV S)) 55 (0, 0))) (Sep (Many (upd (machR (pg : Int) (n : Int) S) t Nought) n) (Sep (BO bs SO) Nought)))))))))) (by unfold SideR; ac_rfl))).trans ((rowN_get _ htn).trans (congrArg some HT1.out))
          have O1 := hide o1
          clear o1 OE hZD
          go_upto_region 22 with fail
          try rw [hbd]
          clear gt1
          generalize wr.alloc (.cells #[.int .i64 0, .int .i64 0, .int .u64 0, .int .u64 0] 27) = u1 at *
          have HBD := hide hbd
          clear hbd
          go_cut [19] from 117 to 157 (fun r19 wc => r19 = .bool true ∧ Hid (Own (Sep (BO bd (.cells #[.int .i64 s'.kind, .int .i64 s'.place, .int .u64 (s'.old : Int), .int .u64 (s'.new : Int)] 27 (0, 0))) (Sep (BO m (leaveO (pg : Int) (n : Int) true)) (Sep (BO b (mObj (kLeave (pg : Int) (n : Int) t) v)) (Sep (LogR v.log []) (SideR gT gL gR q p r a p' r' pg n s' s rl tv tl (refsV S) S t (Sep (BO bs SO) Nought)))))) w wc))
          case first =>
            have O2 := hide (O1.out.below (Loc.bo.sep (Loc.bo.sep (Loc.bo.sep (Loc.logR.sep lSide)))) ((Alike.drewN u1 1).below _))
            have GC : Hid (∀ (bo mo' : Obj) (s1 s2 : St) (u : World), Own (Sep (BO bd bo) (Sep (BO m mo') (Sep (BO b (mObj (kLeave (pg : Int) (n : Int) t) v)) (Sep (LogR v.log []) (SideR gT gL gR q p r a p' r' pg n s1 s2 rl tv tl (refsV S) S t (Sep (BO bs SO) Nought)))))) w u → Cel gL t (.pointer (some ⟨m, 0, none⟩)) u) := hide (fun bo mo' s1 s2 u h => (cell_of_heap (h.has (m := gL) (o := .cells (rowN n tl) 68 (0, 0)) (R := Sep (BO bd bo) (Sep (BO m mo') (Sep (BO b (mObj (kLeave (pg : Int) (n : Int) t) v)) (Sep (LogR v.log []) (Sep (AX q (pg : Int) (n : Int) p r s1 pg [] 1 rl) (Sep (MX a (pg : Int) (n : Int) p' r' s2 pg [] 1 rl) (Sep (BO gT (.cells (rowN n tv) 67 (0, 0))) (Sep (BO gR (.cells (rowN n (refsV S)) 55 (0, 0))) (Sep (Many (upd (machR (pg : Int) (n : Int) S) t Nought) n) (Sep (BO bs SO) Nought)))))))))) (by unfold SideR; ac_rfl))).trans ((rowN_get _ htn).trans (congrArg some HL1.out)))
            have J2 : Hid (Cel gL t (.pointer (some ⟨m, 0, none⟩)) u1.drew) := hide (GC.out _ _ _ _ _ O2.out)
            have hne : Nonempty (Mem (Cel gL t (.pointer (some ⟨m, 0, none⟩)))) := ⟨⟨_, J2.out⟩⟩
            have UG : ∀ u : Mem (Cel gL t (.pointer (some ⟨m, 0, none⟩))), u.w'.cell? ⟨gL, t, none⟩ = some (.pointer (some ⟨m, 0, none⟩)) := fun u => u.h
            clear O1
            refine region_start (J := Cel gL t (.pointer (some ⟨m, 0, none⟩))) (by kernel_rfl) ?_
            refine stretch (fuel := 4) (by kernel_rfl) (fun _ _ _ _ _ h => h) J2.out [0, 1, 2, 3, 4, 6, 7, 8, 9] (by kernel_rfl) ?_
            simp only [List.filterMap_cons, List.filterMap_nil, List.getElem?_toArray, List.getElem?_cons_zero, List.getElem?_cons_succ]
            show wpQuiet _ _ _ _ [_, _, _, _, _, _, _, _, _] _
            repeat (go_big_quiet_step (fail))
            refine wpQuiet_nil ?_
            refine wpAnyJ_writer (i := 5) rfl (by kernel_rfl) (fun K' hK => ?_)
            go_simp
            have lA : Loc (Sep (BO bd (.cells #[.int .i64 0, .int .i64 0, .int .u64 0, .int .u64 0] 27 (0, 0))) (Sep (BO b (mObj (kLeave (pg : Int) (n : Int) t) v)) (Sep (LogR v.log []) (Sep (MX a (pg : Int) (n : Int) p' r' s pg [] 1 rl) (Sep (BO gT (.cells (rowN n tv) 67 (0, 0))) (Sep (BO gL (.cells (rowN n tl) 68 (0, 0))) (Sep (BO gR (.cells (rowN n (refsV S)) 55 (0, 0))) (Sep (Many (upd (machR (pg : Int) (n : Int) S) t Nought) n) (Sep (BO bs SO) Nought))))))))) := Loc.bo.sep (Loc.bo.sep (Loc.logR.sep (Loc.mx.sep (Loc.bo.sep (Loc.bo.sep (Loc.bo.sep ((Loc.rest Loc.mach t n).sep lB)))))))
            refine (leaveStep lA (O2.out.cast (by unfold SideR; ac_rfl)) (by rw [HWD.out.len]; exact HWL.out.1) s' HS'.out).mono ?_
            rintro e u3 ⟨rfl, o3⟩
            have O3 := hide (o3.cast (R' := Sep (BO bd (.cells #[.int .i64 0, .int .i64 0, .int .u64 0, .int .u64 0] 27 (0, 0))) (Sep (BO m (leaveO (pg : Int) (n : Int) true)) (Sep (BO b (mObj (kLeave (pg : Int) (n : Int) t) v)) (Sep (LogR v.log []) (SideR gT gL gR q p r a p' r' pg n s' s rl tv tl (refsV S) S t (Sep (BO bs SO) Nought)))))) (by unfold SideR; ac_rfl))
            refine hK _ _ (GC.out _ _ _ _ _ O3.out) ?_
            clear hK K' o3 O2 J2 lA
            have lS' : Loc (Sep (BO m (leaveO (pg : Int) (n : Int) true)) (Sep (BO b (mObj (kLeave (pg : Int) (n : Int) t) v)) (Sep (LogR v.log []) (SideR gT gL gR q p r a p' r' pg n s' s rl tv tl (refsV S) S t (Sep (BO bs SO) Nought))))) := Loc.bo.sep (Loc.bo.sep (Loc.logR.sep (Loc.ax.sep (Loc.mx.sep (Loc.bo.sep (Loc.bo.sep (Loc.bo.sep ((Loc.rest Loc.mach t n).sep lB))))))))
            refine wpAnyJ_writer (i := 10) rfl (by kernel_rfl) (fun K' hK => ?_)
            go_simp
            refine (leaveDone _ m (pg : Int) (n : Int) true (O3.out.has (m := m) (o := leaveO (pg : Int) (n : Int) true) (R := Sep (BO bd (.cells #[.int .i64 0, .int .i64 0, .int .u64 0, .int .u64 0] 27 (0, 0))) (Sep (BO b (mObj (kLeave (pg : Int) (n : Int) t) v)) (Sep (LogR v.log []) (SideR gT gL gR q p r a p' r' pg n s' s rl tv tl (refsV S) S t (Sep (BO bs SO) Nought))))) (by ac_rfl))).mono ?_
            rintro e u4 ⟨rfl, rfl⟩
            refine hK _ _ (GC.out _ _ _ _ _ O3.out) ?_
            clear hK K'
            refine wpAnyJ_writer (i := 11) rfl (by kernel_rfl) (fun K' hK => ?_)
            have r0 : u4.cell? ⟨bd, 0, none⟩ = some (.int .i64 0) := cell_of_heap (Own.boAt O3.out)
            have r1 : u4.cell? ⟨bd, 1, none⟩ = some (.int .i64 0) := cell_of_heap (Own.boAt O3.out)
            have r2 : u4.cell? ⟨bd, 2, none⟩ = some (.int .u64 0) := cell_of_heap (Own.boAt O3.out)
            have r3 : u4.cell? ⟨bd, 3, none⟩ = some (.int .u64 0) := cell_of_heap (Own.boAt O3.out)
            have fr : ∀ o, u4.frozen? ⟨bd, o, none⟩ = false := fun o => frozen_of_heap (Own.boAt O3.out)
            have O5 : Hid (Own (Sep (BO bd (.cells #[.int .i64 s'.kind, .int .i64 s'.place, .int .u64 (s'.old : Int), .int .u64 (s'.new : Int)] 27 (0, 0))) (Sep (BO m (leaveO (pg : Int) (n : Int) true)) (Sep (BO b (mObj (kLeave (pg : Int) (n : Int) t) v)) (Sep (LogR v.log []) (SideR gT gL gR q p r a p' r' pg n s' s rl tv tl (refsV S) S t (Sep (BO bs SO) Nought)))))) w ((((u4.setCell ⟨bd, 0, none⟩ (.int .i64 s'.kind)).setCell ⟨bd, 1, none⟩ (.int .i64 s'.place)).setCell ⟨bd, 2, none⟩ (.int .u64 (s'.old : Int))).setCell ⟨bd, 3, none⟩ (.int .u64 (s'.new : Int)))) :=
              hide (Own.boSet lS' (Own.boSet lS' (Own.boSet lS' (Own.boSet lS' O3.out 0 (.int .i64 s'.kind)) 1 (.int .i64 s'.place)) 2 (.int .u64 (s'.old : Int))) 3 (.int .u64 (s'.new : Int)))
            unfold St.did
            go_simp
            refine hK _ _ (GC.out _ _ _ _ _ O5.out) ?_
            clear hK K' r0 r1 r2 r3 fr O3
            generalize (((u4.setCell ⟨bd, 0, none⟩ (.int .i64 s'.kind)).setCell ⟨bd, 1, none⟩ (.int .i64 s'.place)).setCell ⟨bd, 2, none⟩ (.int .u64 (s'.old : Int))).setCell ⟨bd, 3, none⟩ (.int .u64 (s'.new : Int)) = u5 at *
            refine stretch (fuel := 0) (by kernel_rfl) (fun _ _ _ _ _ h => h) (GC.out _ _ _ _ _ O5.out) [12] (by kernel_rfl) ?_
            simp only [List.filterMap_cons, List.filterMap_nil, List.getElem?_toArray, List.getElem?_cons_zero, List.getElem?_cons_succ]
            show wpQuiet _ _ _ _ [_] _
            repeat (go_big_quiet_step (fail))
            refine wpQuiet_nil ?_
            refine wpAnyJ_done (by kernel_rfl) ?_
            go_wp2
            go_meet
            exact ⟨rfl, O5.out⟩
          obtain ⟨hr19, O5⟩ := hcut
          subst hr19
          clear O1
          go_upto_region 23 with fail
          have lS' : Loc (Sep (BO m (leaveO (pg : Int) (n : Int) true)) (Sep (BO b (mObj (kLeave (pg : Int) (n : Int) t) v)) (Sep (LogR v.log []) (SideR gT gL gR q p r a p' r' pg n s' s rl tv tl (refsV S) S t (Sep (BO bs SO) Nought))))) := Loc.bo.sep (Loc.bo.sep (Loc.logR.sep (Loc.ax.sep (Loc.mx.sep (Loc.bo.sep (Loc.bo.sep (Loc.bo.sep ((Loc.rest Loc.mach t n).sep lB))))))))
          have O6 := hide (O5.out.below (Loc.bo.sep lS') ((Alike.drewN wc 1).below _))
          clear O5
          have RC : Hid (∀ (M1 : Obj) (v1 : MV) (l1 : List Nat) (s1 s2 : St) (u : World), Own (Sep (BO bd (.cells #[.int .i64 s'.kind, .int .i64 s'.place, .int .u64 (s'.old : Int), .int .u64 (s'.new : Int)] 27 (0, 0))) (Sep (BO m M1) (Sep (BO b (mObj (kLeave (pg : Int) (n : Int) t) v1)) (Sep (LogR v1.log l1) (SideR gT gL gR q p r a p' r' pg n s1 s2 rl tv tl (refsV S) S t (Sep (BO bs SO) Nought)))))) w u → BkAt bd (.cells #[.int .i64 s'.kind, .int .i64 s'.place, .int .u64 (s'.old : Int), .int .u64 (s'.new : Int)] 27 (0, 0)) u ∧ Cel gR t (.pointer (some ⟨b, 0, none⟩)) u) := hide (fun M1 v1 l1 s1 s2 u h => ⟨Own.boAt h, (cell_of_heap (h.has (m := gR) (o := .cells (rowN n (refsV S)) 55 (0, 0)) (R := Sep (BO bd (.cells #[.int .i64 s'.kind, .int .i64 s'.place, .int .u64 (s'.old : Int), .int .u64 (s'.new : Int)] 27 (0, 0))) (Sep (BO m M1) (Sep (BO b (mObj (kLeave (pg : Int) (n : Int) t) v1)) (Sep (LogR v1.log l1) (Sep (AX q (pg : Int) (n : Int) p r s1 pg [] 1 rl) (Sep (MX a (pg : Int) (n : Int) p' r' s2 pg [] 1 rl) (Sep (BO gT (.cells (rowN n tv) 67 (0, 0))) (Sep (BO gL (.cells (rowN n tl) 68 (0, 0))) (Sep (Many (upd (machR (pg : Int) (n : Int) S) t Nought) n) (Sep (BO bs SO) Nought)))))))))) (by unfold SideR; ac_rfl))).trans ((rowN_get _ htn).trans (congrArg some HR1.out))⟩)
          have hne : Nonempty (Mem (fun u => BkAt bd (.cells #[.int .i64 s'.kind, .int .i64 s'.place, .int .u64 (s'.old : Int), .int .u64 (s'.new : Int)] 27 (0, 0)) u ∧ Cel gR t (.pointer (some ⟨b, 0, none⟩)) u)) := ⟨⟨_, RC.out _ _ _ _ _ _ O6.out⟩⟩
          have UD0 : ∀ u : Mem (fun u => BkAt bd (.cells #[.int .i64 s'.kind, .int .i64 s'.place, .int .u64 (s'.old : Int), .int .u64 (s'.new : Int)] 27 (0, 0)) u ∧ Cel gR t (.pointer (some ⟨b, 0, none⟩)) u), u.w'.cell? ⟨bd, 0, none⟩ = some (.int .i64 s'.kind) := fun u => cell_of_heap u.h.1
          have UD1 : ∀ u : Mem (fun u => BkAt bd (.cells #[.int .i64 s'.kind, .int .i64 s'.place, .int .u64 (s'.old : Int), .int .u64 (s'.new : Int)] 27 (0, 0)) u ∧ Cel gR t (.pointer (some ⟨b, 0, none⟩)) u), u.w'.cell? ⟨bd, 1, none⟩ = some (.int .i64 s'.place) := fun u => cell_of_heap u.h.1
          have UD2 : ∀ u : Mem (fun u => BkAt bd (.cells #[.int .i64 s'.kind, .int .i64 s'.place, .int .u64 (s'.old : Int), .int .u64 (s'.new : Int)] 27 (0, 0)) u ∧ Cel gR t (.pointer (some ⟨b, 0, none⟩)) u), u.w'.cell? ⟨bd, 2, none⟩ = some (.int .u64 (s'.old : Int)) := fun u => cell_of_heap u.h.1
          have UD3 : ∀ u : Mem (fun u => BkAt bd (.cells #[.int .i64 s'.kind, .int .i64 s'.place, .int .u64 (s'.old : Int), .int .u64 (s'.new : Int)] 27 (0, 0)) u ∧ Cel gR t (.pointer (some ⟨b, 0, none⟩)) u), u.w'.cell? ⟨bd, 3, none⟩ = some (.int .u64 (s'.new : Int)) := fun u => cell_of_heap u.h.1
          have UR : ∀ u : Mem (fun u => BkAt bd (.cells #[.int .i64 s'.kind, .int .i64 s'.place, .int .u64 (s'.old : Int), .int .u64 (s'.new : Int)] 27 (0, 0)) u ∧ Cel gR t (.pointer (some ⟨b, 0, none⟩)) u), u.w'.cell? ⟨gR, t, none⟩ = some (.pointer (some ⟨b, 0, none⟩)) := fun u => u.h.2
          refine region_start (J := fun u => BkAt bd (.cells #[.int .i64 s'.kind, .int .i64 s'.place, .int .u64 (s'.old : Int), .int .u64 (s'.new : Int)] 27 (0, 0)) u ∧ Cel gR t (.pointer (some ⟨b, 0, none⟩)) u) (by kernel_rfl) ?_
          refine stretch (fuel := 20) (by kernel_rfl) (fun _ _ _ _ _ h => h) (RC.out _ _ _ _ _ _ O6.out) [0, 1, 2, 3, 4, 5] (by kernel_rfl) ?_
          simp only [List.filterMap_cons, List.filterMap_nil, List.getElem?_toArray, List.getElem?_cons_zero, List.getElem?_cons_succ]
          show wpQuiet _ _ _ _ [_, _, _, _, _, _] _
          repeat (go_big_quiet_step (fail))
          refine wpQuiet_nil ?_
          refine wpAnyJ_writer (i := 6) rfl (by kernel_rfl) (fun K' hK => ?_)
          go_simp
          have lD : Loc (Sep (BO bd (.cells #[.int .i64 s'.kind, .int .i64 s'.place, .int .u64 (s'.old : Int), .int .u64 (s'.new : Int)] 27 (0, 0))) (Sep (BO m (leaveO (pg : Int) (n : Int) true)) (Sep (AX q (pg : Int) (n : Int) p r s' pg [] 1 rl) (Sep (BO gT (.cells (rowN n tv) 67 (0, 0))) (Sep (BO gL (.cells (rowN n tl) 68 (0, 0))) (Sep (BO gR (.cells (rowN n (refsV S)) 55 (0, 0))) (Sep (Many (upd (machR (pg : Int) (n : Int) S) t Nought) n) (Sep (BO bs SO) Nought)))))))) := Loc.bo.sep (Loc.bo.sep (Loc.ax.sep (Loc.bo.sep (Loc.bo.sep (Loc.bo.sep ((Loc.rest Loc.mach t n).sep lB))))))
          refine (rstepLeave (k := kLeave (pg : Int) (n : Int) t) (l := []) lD rfl (O6.out.cast (by unfold SideR; ac_rfl)) HV.out rfl (by rw [HWD.out.len]; exact HWL.out.1)).mono ?_
          rintro e u7 ⟨rfl, v', l', hvd, o7⟩
          rw [HS'.out] at o7
          rw [HS'.out]
          have O7 := hide (o7.cast (R' := Sep (BO bd (.cells #[.int .i64 s'.kind, .int .i64 s'.place, .int .u64 (s'.old : Int), .int .u64 (s'.new : Int)] 27 (0, 0))) (Sep (BO m (leaveO (pg : Int) (n : Int) true)) (Sep (BO b (mObj (kLeave (pg : Int) (n : Int) t) v')) (Sep (LogR v'.log l') (SideR gT gL gR q p r a p' r' pg n s' s' rl tv tl (refsV S) S t (Sep (BO bs SO) Nought)))))) (by unfold SideR; ac_rfl))
          have HVD := hide hvd
          refine hK _ _ (RC.out _ _ _ _ _ _ O7.out) ?_
          clear hK K' o7 O6 lD hvd hne UD0 UD1 UD2 UD3 UR
          unfold St.did
          have DC : Hid (∀ u : World, Own (Sep (BO bd (.cells #[.int .i64 s'.kind, .int .i64 s'.place, .int .u64 (s'.old : Int), .int .u64 (s'.new : Int)] 27 (0, 0))) (Sep (BO m (leaveO (pg : Int) (n : Int) true)) (Sep (BO b (mObj (kLeave (pg : Int) (n : Int) t) v')) (Sep (LogR v'.log l') (SideR gT gL gR q p r a p' r' pg n s' s' rl tv tl (refsV S) S t (Sep (BO bs SO) Nought)))))) w u → (Cel gR t (.pointer (some ⟨b, 0, none⟩)) u ∧ Cel b 15 (.bool true) u)  ∧ BkAt bd (.cells #[.int .i64 s'.kind, .int .i64 s'.place, .int .u64 (s'.old : Int), .int .u64 (s'.new : Int)] 27 (0, 0)) u) := hide (fun u h => ⟨⟨(RC.out _ _ _ _ _ _ h).2, by
            have := cell_of_heap (o := 15) (h.has (m := b) (o := mObj (kLeave (pg : Int) (n : Int) t) v') (R := Sep (BO bd (.cells #[.int .i64 s'.kind, .int .i64 s'.place, .int .u64 (s'.old : Int), .int .u64 (s'.new : Int)] 27 (0, 0))) (Sep (BO m (leaveO (pg : Int) (n : Int) true)) (Sep (LogR v'.log l') (SideR gT gL gR q p r a p' r' pg n s' s' rl tv tl (refsV S) S t (Sep (BO bs SO) Nought))))) (by ac_rfl))
            refine this.trans ?_
            show some (Value.bool v'.done) = _
            rw [HVD.out]⟩, Own.boAt h⟩)
          refine wpAnyJ_class (I := fun u => (Cel gR t (.pointer (some ⟨b, 0, none⟩)) u ∧ Cel b 15 (.bool true) u) ∧ BkAt bd (.cells #[.int .i64 s'.kind, .int .i64 s'.place, .int .u64 (s'.old : Int), .int .u64 (s'.new : Int)] 27 (0, 0)) u) (fun _ h => ⟨h.2, h.1.1⟩) ?_
          have hne : Nonempty (Mem (fun u => (Cel gR t (.pointer (some ⟨b, 0, none⟩)) u ∧ Cel b 15 (.bool true) u) ∧ BkAt bd (.cells #[.int .i64 s'.kind, .int .i64 s'.place, .int .u64 (s'.old : Int), .int .u64 (s'.new : Int)] 27 (0, 0)) u)) := ⟨⟨_, DC.out _ O7.out⟩⟩
          have UR : ∀ u : Mem (fun u => (Cel gR t (.pointer (some ⟨b, 0, none⟩)) u ∧ Cel b 15 (.bool true) u) ∧ BkAt bd (.cells #[.int .i64 s'.kind, .int .i64 s'.place, .int .u64 (s'.old : Int), .int .u64 (s'.new : Int)] 27 (0, 0)) u), u.w'.cell? ⟨gR, t, none⟩ = some (.pointer (some ⟨b, 0, none⟩)) := fun u => u.h.1.1
          have UB : ∀ u : Mem (fun u => (Cel gR t (.pointer (some ⟨b, 0, none⟩)) u ∧ Cel b 15 (.bool true) u) ∧ BkAt bd (.cells #[.int .i64 s'.kind, .int .i64 s'.place, .int .u64 (s'.old : Int), .int .u64 (s'.new : Int)] 27 (0, 0)) u), u.w'.cell? ⟨b, 15, none⟩ = some (.bool true) := fun u => u.h.1.2
          refine stretch (fuel := 4) (by kernel_rfl) (fun _ _ _ _ _ h => h) (DC.out _ O7.out) [7, 8, 9, 10, 11, 12, 13, 14, 15, 16, 17, 18, 19, 20, 22] (by kernel_rfl) ?_
          simp only [List.filterMap_cons, List.filterMap_nil, List.getElem?_toArray, List.getElem?_cons_zero, List.getElem?_cons_succ]
          show wpQuiet _ _ _ _ [_, _, _, _, _, _, _, _, _, _, _, _, _, _, _] _
          repeat (go_big_quiet_step (fail))
          refine wpQuiet_nil ?_
          obtain ⟨hx, hhx⟩ : ∃ hx, s'.words.getD 2 0 = hx := ⟨_, rfl⟩
          obtain ⟨vv, hvv⟩ : ∃ vv, (hx : Int) - 1 = vv := ⟨_, rfl⟩
          have hxn : hx ≤ n := by rw [← hhx]; exact HW'.out.at_
          have hs2 : 2 < s'.words.length := by rw [HW'.out.len]; exact HWL.out.1
          have HHX := hide hhx
          have HVV := hide hvv
          have HS2 := hide hs2
          clear hhx hvv hs2
          refine wpAnyJ_writer (i := 21) rfl (by kernel_rfl) (fun K' hK => ?_)
          go_simp
          have lH : Loc (Sep (BO bd (.cells #[.int .i64 s'.kind, .int .i64 s'.place, .int .u64 (s'.old : Int), .int .u64 (s'.new : Int)] 27 (0, 0))) (Sep (BO m (leaveO (pg : Int) (n : Int) true)) (Sep (BO b (mObj (kLeave (pg : Int) (n : Int) t) v')) (Sep (LogR v'.log l') (Sep (MX a (pg : Int) (n : Int) p' r' s' pg [] 1 rl) (Sep (BO gT (.cells (rowN n tv) 67 (0, 0))) (Sep (BO gL (.cells (rowN n tl) 68 (0, 0))) (Sep (BO gR (.cells (rowN n (refsV S)) 55 (0, 0))) (Sep (Many (upd (machR (pg : Int) (n : Int) S) t Nought) n) (Sep (BO bs SO) Nought)))))))))) := Loc.bo.sep (Loc.bo.sep (Loc.bo.sep (Loc.logR.sep (Loc.mx.sep (Loc.bo.sep (Loc.bo.sep (Loc.bo.sep ((Loc.rest Loc.mach t n).sep lB))))))))
          refine (heldW lH (O7.out.cast (by unfold SideR; ac_rfl)) HS2.out hx HHX.out (by omega) (by omega) vv HVV.out).mono ?_
          rintro e u8 ⟨rfl, o8⟩
          have O8 := hide (o8.cast (R' := Sep (BO bd (.cells #[.int .i64 s'.kind, .int .i64 s'.place, .int .u64 (s'.old : Int), .int .u64 (s'.new : Int)] 27 (0, 0))) (Sep (BO m (leaveO (pg : Int) (n : Int) true)) (Sep (BO b (mObj (kLeave (pg : Int) (n : Int) t) v')) (Sep (LogR v'.log l') (SideR gT gL gR q p r a p' r' pg n s' s' rl tv tl (refsV S) S t (Sep (BO bs SO) Nought)))))) (by unfold SideR; ac_rfl))
          refine hK _ _ (DC.out _ O8.out) ?_
          clear hK K' o8 O7 lH
          refine wpAnyJ_writer (i := 23) rfl (by kernel_rfl) (fun K' hK => ?_)
          go_simp
          refine (rHeld (O8.out.cast (R' := Sep (MX a (pg : Int) (n : Int) p' r' s' pg [] 1 rl) (Sep (BO bd (.cells #[.int .i64 s'.kind, .int .i64 s'.place, .int .u64 (s'.old : Int), .int .u64 (s'.new : Int)] 27 (0, 0))) (Sep (BO m (leaveO (pg : Int) (n : Int) true)) (Sep (BO b (mObj (kLeave (pg : Int) (n : Int) t) v')) (Sep (LogR v'.log l') (Sep (AX q (pg : Int) (n : Int) p r s' pg [] 1 rl) (Sep (BO gT (.cells (rowN n tv) 67 (0, 0))) (Sep (BO gL (.cells (rowN n tl) 68 (0, 0))) (Sep (BO gR (.cells (rowN n (refsV S)) 55 (0, 0))) (Sep (Many (upd (machR (pg : Int) (n : Int) S) t Nought) n) (Sep (BO bs SO) Nought))))))))))) (by unfold SideR; ac_rfl)) HS2.out hx HHX.out (by omega) vv HVV.out).mono ?_
          rintro e u9 ⟨rfl, o9⟩
          have O9 := hide (o9.cast (R' := Sep (BO bd (.cells #[.int .i64 s'.kind, .int .i64 s'.place, .int .u64 (s'.old : Int), .int .u64 (s'.new : Int)] 27 (0, 0))) (Sep (BO m (leaveO (pg : Int) (n : Int) true)) (Sep (BO b (mObj (kLeave (pg : Int) (n : Int) t) v')) (Sep (LogR v'.log l') (SideR gT gL gR q p r a p' r' pg n s' s' rl tv tl (refsV S) S t (Sep (BO bs SO) Nought)))))) (by unfold SideR; ac_rfl))
          refine hK _ _ (DC.out _ O9.out) ?_
          clear hK K' o9 O8
          refine stretch (fuel := 0) (by kernel_rfl) (fun _ _ _ _ _ h => h) (DC.out _ O9.out) [24, 25] (by kernel_rfl) ?_
          simp only [List.filterMap_cons, List.filterMap_nil, List.getElem?_toArray, List.getElem?_cons_zero, List.getElem?_cons_succ]
          show wpQuiet _ _ _ _ [_, _] _
          repeat (go_big_quiet_step (fail))
          refine wpQuiet_nil ?_
          refine wpAnyJ_done (by kernel_rfl) ?_
          clear hne UR UB DC RC lS' lSide
          have o10 := O9.out.drop.drop.drop.drop.cast (R' := Sep (BO gR (.cells (rowN n (refsV S)) 55 (0, 0))) (Sep (AX q (pg : Int) (n : Int) p r s' pg [] 1 rl) (Sep (MX a (pg : Int) (n : Int) p' r' s' pg [] 1 rl) (Sep (BO gT (.cells (rowN n tv) 67 (0, 0))) (Sep (BO gL (.cells (rowN n tl) 68 (0, 0))) (Sep (Many (upd (machR (pg : Int) (n : Int) S) t Nought) n) (Sep (BO bs SO) Nought))))))) (by unfold SideR; ac_rfl)
          have y10 : u9.cell? ⟨gR, t, none⟩ = some (.pointer (some ⟨b, 0, none⟩)) := (cell_of_heap (Own.boAt o10)).trans ((rowN_get _ htn).trans (congrArg some HR1.out))
          have f10 : ∀ o, u9.frozen? ⟨gR, o, none⟩ = false := fun o => frozen_of_heap (Own.boAt o10)
          have o11 := Own.boSet (Loc.ax.sep (Loc.mx.sep (Loc.bo.sep (Loc.bo.sep ((Loc.rest Loc.mach t n).sep lB))))) o10 t (.pointer none)
          rw [rowN_set] at o11
          try rw [HRN.out] at o11
          have O11 : Hid (Own (GameR gT gL gR q p r a p' r' pg n s' rl tv tl (upd S t .off) (Sep (BO bs SO) Nought)) w (u9.setCell ⟨gR, t, none⟩ (.pointer none))) := hide (o11.cast (by rw [← GameR.turn htn .off]; unfold SideR; show _ = Sep Nought _; rw [Sep.nought]; show Sep (BO gR (.cells (rowN n (upd (refsV S) t (.pointer none))) _ (0, 0))) _ = _; ac_rfl))
          clear o10 o11 O9
          go_wp2
          go_roundw
          case rel => exact ⟨i + 1, s', tv, tl, upd S t .off, by go_num, by omega, ⟨HW'.out, Fit.turn HOKS.out .off ⟨⟨_, HT1.out⟩, ⟨_, HL1.out⟩⟩, O11.out⟩⟩
          case measure => simp [intOf]; omega
      · clear hfit
        have HWW := HWD.out
        have O8 := hide (O.out.cast (R' := Sep (AX q (pg : Int) (n : Int) p r s pg [] 1 rl) (Sep (MX a (pg : Int) (n : Int) p' r' s pg [] 1 rl) (Sep (BO gT (.cells (rowN n tv) 67 (0, 0))) (Sep (BO gL (.cells (rowN n tl) 68 (0, 0))) (Sep (BO gR (.cells (rowN n (refsV S)) 55 (0, 0))) (Sep (Many (machR (pg : Int) (n : Int) S) n) (Sep (BO bs SO) Nought))))))) (by unfold GameR; ac_rfl))
        have l8 : Loc (Sep (BO gT (.cells (rowN n tv) 67 (0, 0))) (Sep (BO gL (.cells (rowN n tl) 68 (0, 0))) (Sep (BO gR (.cells (rowN n (refsV S)) 55 (0, 0))) (Sep (Many (machR (pg : Int) (n : Int) S) n) (Sep (BO bs SO) Nought))))) := Loc.bo.sep (Loc.bo.sep (Loc.bo.sep ((Loc.many Loc.mach n).sep lB)))
        have PSM := hide (plSame l8 O8.out HF.out (by rw [HWW.len]; exact HWL.out.2))
        clear O O8 HWW
        by_cases hl1 : i < len
        · have hl2 : ¬ i < 300 := fun h => hlt ⟨hl1, h⟩
          clear hlt
          go_wp2_with fail
          refine PSM.out.mono ?_
          rintro e w10 ⟨rfl, o10⟩
          have HB10 := hide o10.back
          clear o10 PSM
          go_wp2_with fail
          refine (HAW.out _).mono ?_
          rintro e w11 ⟨rfl, b11⟩
          have HB11 := hide (HB10.out.trans (b11.mono HB10.out.size))
          go_wp2
          go_ret
          exact ⟨rfl, HB11.out⟩
        · clear hlt
          go_wp2_with fail
          refine PSM.out.mono ?_
          rintro e w10 ⟨rfl, o10⟩
          have HB10 := hide o10.back
          clear o10 PSM
          go_wp2_with fail
          refine (HAW.out _).mono ?_
          rintro e w11 ⟨rfl, b11⟩
          have HB11 := hide (HB10.out.trans (b11.mono HB10.out.size))
          go_wp2
          go_ret
          exact ⟨rfl, HB11.out⟩

theorem walk (x0 : Nat) (hx0 : x0 < 256) (y0 : Nat) (hy0 : y0 < 256) (ao : Option Addr) (len cap : Nat) (_hlc : len ≤ cap) (_hcm : cap ≤ maxLen) (ao2 : Option Addr) (len2 cap2 : Nat) (_hlc2 : len2 ≤ cap2) (_hcm2 : cap2 ≤ maxLen) (w : World) (hB : BytesIn w ao len) (hB2 : BytesIn w ao2 len2) :
    Calls Tryz.prog 4 #[.int .u8 (x0 : Int), .int .u8 (y0 : Int), .slice ao len cap, .slice ao2 len2 cap2] w fun e w' => e = .returned (.bool true) ∧ Below w.heap.size w w' :=
  main x0 y0 _ _ hx0 hy0 rfl rfl ao len cap ao2 len2 cap2 w hB hB2

set_option maxRecDepth 100000 in
theorem lifted (os : Os) (started : os.Started) (H : Type) (enc : TypeId × Value → H) :
    ReturnsInHanded {} Tryz.checked os 4 .any (Rows.lockRunsSpec.pre6 enc Tryz.prog Tryz.f4 Rows.lockRunsRow.domain false) (Rows.lockRunsSpec.post enc Tryz.prog Tryz.f4 false true false false) := by
  refine returnsInHanded_of_change (C := Tryz.checked) own started (by kernel_rfl) Tryz.func4
    (ChangeSpec.witness6 (enc := enc) (C := Tryz.checked) false ⟨#[], #[.int .u8 0, .int .u8 0, .slice none 0 0, .slice none 0 0], []⟩ 8 (by kernel_rfl) (by kernel_rfl) (by kernel_rfl) (by kernel_rfl)) ?_
  intro W base args ds gs before hval0 hW _ _
  have hval : ∀ (j : Nat) t v, Tryz.f4.params[j]? = some t → args[j]? = some v → Value.okWide Tryz.prog W .any base t v := hval0
  have hW' := hW
  obtain ⟨p, q, hA0, hV, rfl, hfz, hnd⟩ := hW
  have hA : DataW.TrodAll enc Tryz.prog W 0 (fun _ => true) true Tryz.f4.params.toList args.toList ds p := hA0
  rw [Tryz.params4] at hA hval
  obtain ⟨v0, vs0, d0, ds0, p0, q0, hargs, rfl, rfl, h0, r0⟩ := trodAll_cons hA
  obtain ⟨v1, vs1, d1, ds1, p1, q1, rfl, rfl, rfl, h1, r1⟩ := trodAll_cons r0
  obtain ⟨v2, vs2, d2, ds2, p2, q2, rfl, rfl, rfl, h2, r2⟩ := trodAll_cons r1
  obtain ⟨v3, vs3, d3, ds3, p3, q3, rfl, rfl, rfl, h3, r3⟩ := trodAll_cons r2
  obtain ⟨rfl, rfl, rfl⟩ := trodAll_nil r3
  obtain rfl : args = #[v0, v1, v2, v3] := by cases args; simp_all
  obtain ⟨rfl, rfl⟩ := trodVars_none hV
  obtain ⟨a0, rfl, rfl, rfl, w0⟩ := open_int Tryz.underlying5 (hval 0 5 v0 rfl rfl) h0
  obtain ⟨a1, rfl, rfl, rfl, w1⟩ := open_int Tryz.underlying5 (hval 1 5 v1 rfl rfl) h1
  have h2k := h2
  have lt2 : ∀ x ∈ p2, x.block < W.heap.size := fun x hx => hW'.lt x (by simp [hx])
  obtain ⟨l2_0, l2_1, l2_2, rfl, f2_0, f2_1, f2_2⟩ := open_bytes (hval 2 22 v2 rfl rfl) h2
  have h3k := h3
  have lt3 : ∀ x ∈ p3, x.block < W.heap.size := fun x hx => hW'.lt x (by simp [hx])
  obtain ⟨l3_0, l3_1, l3_2, rfl, f3_0, f3_1, f3_2⟩ := open_bytes (hval 3 22 v3 rfl rfl) h3
  clear hA0 hval0
  obtain ⟨x0, hx0, rfl⟩ := u8_nat w0
  obtain ⟨x1, hx1, rfl⟩ := u8_nat w1
  refine (walk x0 hx0 x1 hx1 l2_0 l2_1 l2_2 f2_0 f2_1 l3_0 l3_1 l3_2 f3_0 f3_1 W f2_2 f3_2).mono fun e W' ⟨he, bel⟩ => ?_
  subst he
  exact ⟨_, rfl, _, _, _, [], _, [], hW', trodAll_mk1 (shut_bool Tryz.underlying4 _), (trodAll_cons_mk (shut_int Tryz.underlying5 w0) (trodAll_cons_mk (shut_int Tryz.underlying5 w1) (trodAll_cons_mk (Below.trod laidOut (by kernel_rfl) (of_decide_eq_true (by kernel_rfl)) h2k bel lt2) (trodAll_cons_mk (Below.trod laidOut (by kernel_rfl) (of_decide_eq_true (by kernel_rfl)) h3k bel lt3) trodAll_mk0)))), rfl, bel.frame _, fun h => by cases h⟩

end Go.Proofs.YtgenkjmcddjaoaaGreat.lockRuns
namespace Go.Proofs.YtgenkjmcddjaoaaGreat

theorem lockRuns_holds : Rows.LockRunsSaid :=
  OpenClaim.holds_of_wide 4 Tryz.f4 rfl rfl rfl rfl rfl rfl rfl ⟨rfl, rfl, rfl, rfl, rfl⟩ rfl rfl rfl rfl rfl (by kernel_rfl) Tryz.func4 (by kernel_rfl)
    (of_decide_eq_true (by kernel_rfl)) (by unfold Func.isWrapper; first | (rw [if_pos (by decide +kernel)]; kernel_rfl) | (rw [if_neg (by decide +kernel)]; exact ⟨rfl, rfl⟩))
    (fun os started H enc _ => lockRuns.lifted os started H enc)
end Go.Proofs.YtgenkjmcddjaoaaGreat
