/- Whoever steps next, when all are done each page is in one hand, or lies once in one stack, and a head's tag says how often it was turned: the law StackOnce answers true at every input, and its arguments read behind the call as they read before. -/
import Derived.Test.YtafamfjgehnddaaPQ
namespace Go.Proofs.Ytafamfjgehnddaa.stackOnce
open Go.ChangeShapes Go.WideShapes Go.ChangeAt Go.RowKit

theorem bytesKept {w w' : World} {ao : Option Addr} {len : Nat} (h : BytesIn w ao len) (b : Below w.heap.size w w') : BytesIn w' ao len := fun k hk => by
  obtain ⟨c, o, x, e, hc⟩ := h k hk
  exact ⟨c, o, x, e, hc.kept b hc.lt⟩

set_option maxRecDepth 100000 in
set_option maxHeartbeats 64000000 in
theorem main (x0 y0 pg n : Nat) (hx0 : x0 < 256) (hy0 : y0 < 256) (hpg : x0 % 60 + 1 = pg) (hn : y0 % 6 + 1 = n) (ao : Option Addr) (len cap : Nat) (ao2 : Option Addr) (len2 cap2 : Nat) (w : World) (hB : BytesIn w ao len) (hB2 : BytesIn w ao2 len2) :
    Calls Try.prog 3 #[.int .u8 (x0 : Int), .int .u8 (y0 : Int), .slice ao len cap, .slice ao2 len2 cap2] w fun e w' => e = .returned (.bool true) ∧ Below w.heap.size w w' := by
  have p1 : 1 ≤ pg ∧ pg ≤ 60 := by omega
  have n1 : 1 ≤ n ∧ n ≤ 6 := by omega
  have hm : Lay.may (pg : Int) (n : Int) = true := Lay.may_iff.2 (by omega)
  have NG := newGame Loc.nought (Own.start w) x0 y0 pg n hx0 hy0 hpg hn
  have hok := start_ok (n := n) (P := pg) (T := (n : Int)) (by omega) hm
  have hwl := Lay.words_bd hm
  generalize St.first (Lay.words (pg : Int) (n : Int)).toNat = s0 at *
  generalize ([(kOf 0 pg, ([] : List Nat).getD 0 0, ())] : RL) = rl at *
  have HNG := hide NG
  have HOK := hide hok
  have HM := hide hm
  have HKB := hide hB
  have HPB := hide hB2
  have HAW := hide (fun (u : World) => awake12 u)
  clear NG hok hm hB hB2 hx0 hy0 hpg hn
  go_enter Try.func3, Try.ntmps3
  go_wp2_with fail
  refine HNG.out.mono ?_
  rintro e w1 ⟨gb, q, p, r, a, p', r', gH, gM, gO, gP, hv, rfl, o1⟩
  have o2 := o1.cast (GameB.start (gb := gb) (q := q) (p := p) (r := r) (a := a) (p' := p') (r' := r') (gH := gH) (gM := gM) (gO := gO) (gP := gP) (pg := pg) (n := n) (s := s0) (s2 := s0) (rl := rl) (hv := hv) (mv := fun _ => .pointer none) (ov := fun _ => .bool false) (pv := fun _ => .bool false) (L := dealt n pg) (R := Nought)).symm
  have h3 := heap_alloc_at w1 (.cells #[.int .u32 0, .int .u32 0, .int .u32 0] 39)
  have o3 := Own.boNew (Loc.gameB Loc.nought) o2 h3 (Nat.le_refl _) (grown1 w1 (.cells #[.int .u32 0, .int .u32 0, .int .u32 0] 39))
  obtain ⟨G0, hG0⟩ : ∃ G0 : GS, G0 = ⟨dealt n pg, fun _ => .off, fun _ => [], fun _ => 0, s0.words⟩ := ⟨_, rfl⟩
  have hON : On12 n pg G0 s0 (fun _ => .pointer none) (fun _ => .bool false) (fun _ => .bool false) (fun _ => .off) := by
    rw [hG0]
    exact ⟨HOK.out, rfl, fun _ _ => rfl, fun _ _ => ⟨none, none, none, rfl, rfl, rfl⟩, fun _ _ => rfl, fun _ _ => ⟨false, rfl⟩⟩
  have O3 : Hid (Own (GameB gb q p r a p' r' gH gM gO gP pg n s0 s0 rl hv (fun _ => .pointer none) (fun _ => .bool false) (fun _ => .bool false) G0.hv (fun _ => .off) (Sep (BO w1.heap.size (.cells (rowN 3 (tnV G0.tn)) 39 (0, 0))) Nought)) w (w1.alloc (.cells #[.int .u32 0, .int .u32 0, .int .u32 0] 39))) := hide (o3.cast (by rw [hG0]; unfold GameB; show Sep (BO w1.heap.size (.cells (rowN 3 (tnV fun _ => 0)) _ (0, 0))) _ = _; ac_rfl))
  have htn0 : ∀ h, h < 3 → G0.tn h ≤ 0 := by rw [hG0]; intro h _; exact Nat.le_refl _
  have HON := hide hON
  have HTN0 := hide htn0
  have q1 : w1.cell? ⟨gb, 1, none⟩ = some (.pointer (some ⟨a, 0, none⟩)) := cell_of_heap o2.gHead
  have hq := o2.mhead (m := a) (p := p') (r := r') (P := (pg : Int)) (T := (n : Int)) GameB.mxOut
  have q2 : w1.cell? ⟨a, 2, none⟩ = some (.int .i64 (pg : Int)) := cell_of_heap hq
  clear o1 o2 o3 h3 hG0 hON htn0 hq HNG HOK
  obtain ⟨drawn, hdr⟩ : ∃ drawn, min len 300 = drawn := ⟨_, rfl⟩
  have hd3 : drawn ≤ 300 := by omega
  have hdl : drawn ≤ len := by omega
  have edr : min (len : Int) 300 = (drawn : Int) := by omega
  clear hdr
  go_upto_region 7 with fail
  generalize w1.alloc (.cells #[.int .u32 0, .int .u32 0, .int .u32 0] 39) = w2 at *
  obtain ⟨gt, hgt⟩ : ∃ gt, w1.heap.size = gt := ⟨_, rfl⟩
  rw [hgt] at O3
  rw [hgt]
  clear hgt q1 q2
  have lRB : ∀ tn : Nat → Nat, Loc (Sep (BO gt (.cells (rowN 3 (tnV tn)) 39 (0, 0))) Nought) := fun _ => Loc.bo.sep Loc.nought
  go_wp2
  go_loopw [13] (fun v wr => ∃ (i : Nat) (G : GS) (s : St) (hv mv ov pv : Nat → Value) (S : Nat → MS), v = .int .i64 (i : Int) ∧ i ≤ drawn + 3000 ∧ Hid (On12 n pg G s mv ov pv S ∧ (∀ h, h < 3 → G.tn h ≤ i) ∧ Pot n drawn i (G.left n) (fun j => (S j).on) ∧ Own (GameB gb q p r a p' r' gH gM gO gP pg n s s0 rl hv mv ov pv G.hv S (Sep (BO gt (.cells (rowN 3 (tnV G.tn)) 39 (0, 0))) Nought)) w wr)) (fun v _ => drawn + 3000 - (intOf v).toNat)
  case atStart => exact ⟨0, G0, s0, hv, fun _ => .pointer none, fun _ => .bool false, fun _ => .bool false, fun _ => .off, rfl, by omega, ⟨HON.out, HTN0.out, fun h => absurd h (by omega), O3.out⟩⟩
  case round =>
    clear O3 HON HTN0 hv
    obtain ⟨i, G, s, hv, mv, ov, pv, S, rfl, hi0, hH⟩ := hrel
    obtain ⟨hON, htn, hpot, ho⟩ := hH.out
    have hlt := Pot.end n1.2 hpot
    have HON := hide hON
    have HTN := hide htn
    have HPOT := hide hpot
    have O := hide ho
    have HPW := hide (bytesKept HPB.out ho.back)
    have HKW := hide (bytesKept HKB.out ho.back)
    have q3 : wr.cell? ⟨gb, 3, none⟩ = some (.slice (some ⟨gM, 0, none⟩) n n) := cell_of_heap ho.gHead
    have q4 : wr.cell? ⟨gb, 4, none⟩ = some (.slice (some ⟨gO, 0, none⟩) n n) := cell_of_heap ho.gHead
    obtain ⟨t0, ht0⟩ : ∃ t0 : Nat, i % n = t0 := ⟨_, rfl⟩
    have e1 : (i : Int) % (n : Int) = (t0 : Int) := by omega
    have ht0n : t0 < n := by rw [← ht0]; exact Nat.mod_lt _ (by omega)
    clear hH hON htn hpot ho
    go_upto_if 57 with fail
    go_cut [14] from 42 to 187 (fun r14 wc => ∃ t : Nat, r14 = .int .i64 (t : Int) ∧ t < n ∧ (drawn ≤ i → t = t0) ∧ wr = wc)
    case first =>
      by_cases hd : i < drawn
      · go_wp2_with fail
        refine (plWho wr ao2 len2 cap2 HPW.out i n (by omega) (by omega) (by omega)).mono ?_
        rintro e w3 ⟨⟨t, htn, rfl⟩, rfl⟩
        go_wp2
        go_meet
        exact ⟨t, rfl, htn, fun h => absurd h (by omega), rfl⟩
      · go_wp2
        go_meet
        exact ⟨t0, congrArg (Value.int IntKind.i64) e1, ht0n, fun _ => rfl, rfl⟩
    case rest =>
      obtain ⟨t, rfl, htn, htd, hwc⟩ := hcut
      subst hwc
      have HTD := hide htd
      clear e1 htd
      obtain ⟨ot, hot⟩ : ∃ ot, (S t).on = ot := ⟨_, rfl⟩
      have qo : wr.cell? ⟨gO, t, none⟩ = some (.bool ot) := by rw [← hot, ← HON.out.on t htn]; exact O.out.gOn htn
      have HOT := hide hot
      clear hot
      go_upto_region 13 with fail
      go_cut [78] from 42 to 187 (fun r78 wc => r78 = .bool (decide (drawn ≤ i ∧ ot = false)) ∧ wr = wc)
      case first =>
        by_cases hd : i < drawn
        · go_wp2
          go_meet
          exact ⟨congrArg Value.bool (decide_eq_false (by omega)).symm, rfl⟩
        · cases ot
          · go_wp2
            go_meet
            exact ⟨congrArg Value.bool (decide_eq_true ⟨by omega, by trivial⟩).symm, rfl⟩
          · go_wp2
            go_meet
            exact ⟨congrArg Value.bool (decide_eq_false (fun h => by cases h.2)).symm, rfl⟩
      case rest =>
        obtain ⟨rfl, hwc⟩ := hcut
        subst hwc
        by_cases hgo : drawn ≤ i ∧ ot = false
        · rw [decide_eq_true hgo]
          obtain ⟨hdi, rfl⟩ := hgo
          obtain rfl : t = t0 := HTD.out hdi
          by_cases hall : ∀ j, j < n → (S j).on = false
          · have HR := hide (lawRest wr gb q a gH gM gO gP n (fun j => (S j).on) n1.2 O.out.gHead (fun j hj => by rw [← HON.out.on j hj]; exact O.out.gOn hj) true ⟨fun _ => rfl, fun _ => hall⟩)
            have HALL := hide hall
            clear qo q3 q4 hall
            go_wp2_with fail
            refine HR.out.mono ?_
            rintro e w4 ⟨rfl, rfl⟩
            as_aux_lemma =>
              clear HR HPOT HKW HPW HTD HOT
              obtain ⟨i1, hi1, hx0', hx1, hx2⟩ := info_parts infoIntG
              go_wp2_with (at_make; refine wpList_make_full _ rfl _ _ 54 rfl w4.heap.size 3 i1 (.int .i64 0) 1 Try.underlying54 hi1 hx0' hx1 .i64 .i64 _ _ pg rfl rfl rfl rfl (by rw [hx2]; omega) (by unfold maxLen; omega) (Nat.le_refl _) ?_; intro w5 hown hgrow; have O5 := hide (Own.rowMade (Loc.gameB (lRB _)) O.out rfl hown hgrow); clear hown hgrow O; generalize w4.heap.size = gs at *)
              have O6 : Hid (Own (TailR gs gb q p r a p' r' gH gM gO gP pg n s s0 rl hv mv ov pv G.hv S (Sep (BO gt (.cells (rowN 3 (tnV G.tn)) 39 (0, 0))) Nought) (cntT (lstK n G) (0))) w w5) := hide O5.out
              clear O5
              have g5 := O6.out.tGame
              refine (lawRest w5 gb q a gH gM gO gP n (fun j => (S j).on) n1.2 g5.gHead (fun j hj => by rw [← HON.out.on j hj]; exact g5.gOn hj) true ⟨fun _ => rfl, fun _ => HALL.out⟩).mono ?_
              rintro e w6 ⟨rfl, rfl⟩
              clear g5
              go_wp2
              go_loopw [22, 23] (fun v22 v23 wx => ∃ k : Nat, v22 = .bool true ∧ v23 = .int .i64 (k : Int) ∧ k ≤ n ∧ Hid (Own (TailR gs gb q p r a p' r' gH gM gO gP pg n s s0 rl hv mv ov pv G.hv S (Sep (BO gt (.cells (rowN 3 (tnV G.tn)) 39 (0, 0))) Nought) (cntT (lstK n G) (k))) w wx)) (fun _ v23 _ => n - (intOf v23).toNat)
              case atStart => exact ⟨0, rfl, rfl, Nat.zero_le _, O6⟩
              case round =>
                clear O6
                obtain ⟨k, rfl, rfl, hk, OK⟩ := hrel
                have x2 : wr.cell? ⟨gb, 2, none⟩ = some (.slice (some ⟨gH, 0, none⟩) n n) := cell_of_heap OK.out.tGame.gHead
                by_cases hlt2 : k < n
                · have xh : wr.cell? ⟨gH, k, none⟩ = some (hv k) := OK.out.tGame.gHave hlt2
                  have HC := hide (tailCount (lRB _) OK.out hlt2 (fun x hx => On12.mem HON.out (k := k) (by omega) x (by rw [lstK_hv hlt2]; exact hx)) (On12.bdC HON.out HALL.out (by omega)) (by have := On12.lenK HON.out (k := k) (by omega); rw [lstK_hv hlt2] at this; omega))
                  go_wp2_with fail
                  refine HC.out.mono ?_
                  rintro e w7 ⟨rfl, o7⟩
                  have O7 : Hid (Own (TailR gs gb q p r a p' r' gH gM gO gP pg n s s0 rl hv mv ov pv G.hv S (Sep (BO gt (.cells (rowN 3 (tnV G.tn)) 39 (0, 0))) Nought) (cntT (lstK n G) (k + 1))) w w7) := hide (by rw [← cntT_succ, lstK_hv hlt2]; exact o7)
                  clear o7 HC OK x2 xh
                  go_wp2
                  go_roundw
                  case rel => exact ⟨k + 1, rfl, by go_num, by omega, O7⟩
                  case measure => simp [intOf]; omega
                · have O8 : Hid (Own (TailR gs gb q p r a p' r' gH gM gO gP pg n s s0 rl hv mv ov pv G.hv S (Sep (BO gt (.cells (rowN 3 (tnV G.tn)) 39 (0, 0))) Nought) (cntT (lstK n G) (n + 0))) w wr) := hide (by
                    have e : k = n := by omega
                    have o := OK.out
                    rw [e] at o
                    exact o)
                  clear OK
                  go_wp2
                  clear x2
                  generalize wr = V8 at *
                  go_loopw [22, 24] (fun v22 v24 wx => ∃ h : Nat, v22 = .bool true ∧ v24 = .int .i64 (h : Int) ∧ h ≤ 3 ∧ Hid (Own (TailR gs gb q p r a p' r' gH gM gO gP pg n s s0 rl hv mv ov pv G.hv S (Sep (BO gt (.cells (rowN 3 (tnV G.tn)) 39 (0, 0))) Nought) (cntT (lstK n G) (n + h))) w wx)) (fun _ v24 _ => 3 - (intOf v24).toNat)
                  case atStart => exact ⟨0, rfl, rfl, by omega, O8⟩
                  case round =>
                    clear O8
                    obtain ⟨h, rfl, rfl, hh, OH⟩ := hrel
                    by_cases hh3 : h < 3
                    · have HJ : Hid (∀ (k : Nat) (u : World), Own (TailR gs gb q p r a p' r' gH gM gO gP pg n s s0 rl hv mv ov pv G.hv S (Sep (BO gt (.cells (rowN 3 (tnV G.tn)) 39 (0, 0))) Nought) (cntT (lstK n G) (k))) w u → (fun u => Cel gb 0 (.pointer (some ⟨q, 0, none⟩)) u ∧ Cel gt h (.int .u32 (G.tn h : Int)) u) u) := hide (fun k u hu => ⟨cell_of_heap hu.tGame.gHead, (cell_of_heap (Own.boAt (hu.tGame.cast GameB.beside))).trans (rowN_get _ hh3)⟩)
                      go_upto_region 43 with fail
                      have O1 := hide (Own.below (Loc.tailR (lRB _)) OH.out ((Alike.drewN wr 1).below _))
                      have J1 : Hid ((fun u => Cel gb 0 (.pointer (some ⟨q, 0, none⟩)) u ∧ Cel gt h (.int .u32 (G.tn h : Int)) u) wr.drew) := hide (HJ.out _ _ O1.out)
                      have hne : Nonempty (Mem (fun u => Cel gb 0 (.pointer (some ⟨q, 0, none⟩)) u ∧ Cel gt h (.int .u32 (G.tn h : Int)) u)) := ⟨⟨_, J1.out⟩⟩
                      have U0 : ∀ u : Mem (fun u => Cel gb 0 (.pointer (some ⟨q, 0, none⟩)) u ∧ Cel gt h (.int .u32 (G.tn h : Int)) u), u.w'.cell? ⟨gb, 0, none⟩ = some (.pointer (some ⟨q, 0, none⟩)) := fun u => u.h.1
                      have U1 : ∀ u : Mem (fun u => Cel gb 0 (.pointer (some ⟨q, 0, none⟩)) u ∧ Cel gt h (.int .u32 (G.tn h : Int)) u), u.w'.cell? ⟨gt, h, none⟩ = some (.int .u32 (G.tn h : Int)) := fun u => u.h.2
                      clear OH
                      refine region_start (J := (fun u => Cel gb 0 (.pointer (some ⟨q, 0, none⟩)) u ∧ Cel gt h (.int .u32 (G.tn h : Int)) u)) (by kernel_rfl) ?_
                      refine stretch (fuel := 7) (by kernel_rfl) (fun _ _ _ _ _ h => h) J1.out [0, 1, 2, 3, 4, 5, 6] (by kernel_rfl) ?_
                      simp only [List.filterMap_cons, List.filterMap_nil, List.getElem?_toArray, List.getElem?_cons_zero, List.getElem?_cons_succ]
                      show wpQuiet _ _ _ _ [_, _, _, _, _, _, _] _
                      repeat (go_big_quiet_step (fail))
                      refine wpQuiet_nil ?_
                      refine wpAnyJ_writer (i := 7) rfl (by kernel_rfl) (fun K' hK => ?_)
                      go_simp
                      refine (headN _ h hh3 (by omega) _).mono ?_
                      rintro e u1 ⟨rfl, rfl⟩
                      refine hK _ _ J1.out ?_
                      clear hK K'
                      refine wpAnyJ_writer (i := 8) rfl (by kernel_rfl) (fun K' hK => ?_)
                      go_simp
                      refine (tailList (lRB _) O1.out HON.out.ok HON.out.ws hh3).mono ?_
                      rintro e u2 ⟨v, rfl, o2⟩
                      have O2 := hide o2
                      refine hK _ _ (HJ.out _ _ (Own.drop o2)) ?_
                      clear hK K' o2 O1 J1
                      refine wpAnyJ_writer (i := 9) rfl (by kernel_rfl) (fun K' hK => ?_)
                      go_simp
                      refine (tailSeen (lRB _) O2.out (fun x hx => On12.mem HON.out (k := n + h) (by omega) x (by rw [lstK_st]; exact hx)) (On12.bdC HON.out HALL.out (by omega)) (by have := On12.lenK HON.out (k := n + h) (by omega); rw [lstK_st] at this; omega)).mono ?_
                      rintro e u3 ⟨rfl, o3⟩
                      have O3 : Hid (Own (TailR gs gb q p r a p' r' gH gM gO gP pg n s s0 rl hv mv ov pv G.hv S (Sep (BO gt (.cells (rowN 3 (tnV G.tn)) 39 (0, 0))) Nought) (cntT (lstK n G) (n + (h + 1)))) w u3) := hide (by rw [← Nat.add_assoc, ← cntT_succ, lstK_st]; exact o3)
                      refine hK _ _ (HJ.out _ _ O3.out) ?_
                      clear hK K' o3 O2
                      refine stretch (fuel := 0) (by kernel_rfl) (fun _ _ _ _ _ h => h) (HJ.out _ _ O3.out) [10, 11, 12, 13] (by kernel_rfl) ?_
                      simp only [List.filterMap_cons, List.filterMap_nil, List.getElem?_toArray, List.getElem?_cons_zero, List.getElem?_cons_succ]
                      show wpQuiet _ _ _ _ [_, _, _, _] _
                      repeat (go_big_quiet_step (fail))
                      refine wpQuiet_nil ?_
                      refine wpAnyJ_done (by kernel_rfl) ?_
                      clear U0 U1 hne
                      go_upto_region 44 with fail
                      have O1 := hide (Own.below (Loc.tailR (lRB _)) O3.out ((Alike.drewN u3 1).below _))
                      have J1 : Hid ((fun u => Cel gb 0 (.pointer (some ⟨q, 0, none⟩)) u ∧ Cel gt h (.int .u32 (G.tn h : Int)) u) u3.drew) := hide (HJ.out _ _ O1.out)
                      have hne : Nonempty (Mem (fun u => Cel gb 0 (.pointer (some ⟨q, 0, none⟩)) u ∧ Cel gt h (.int .u32 (G.tn h : Int)) u)) := ⟨⟨_, J1.out⟩⟩
                      have U0 : ∀ u : Mem (fun u => Cel gb 0 (.pointer (some ⟨q, 0, none⟩)) u ∧ Cel gt h (.int .u32 (G.tn h : Int)) u), u.w'.cell? ⟨gb, 0, none⟩ = some (.pointer (some ⟨q, 0, none⟩)) := fun u => u.h.1
                      have U1 : ∀ u : Mem (fun u => Cel gb 0 (.pointer (some ⟨q, 0, none⟩)) u ∧ Cel gt h (.int .u32 (G.tn h : Int)) u), u.w'.cell? ⟨gt, h, none⟩ = some (.int .u32 (G.tn h : Int)) := fun u => u.h.2
                      clear O3
                      refine region_start (J := (fun u => Cel gb 0 (.pointer (some ⟨q, 0, none⟩)) u ∧ Cel gt h (.int .u32 (G.tn h : Int)) u)) (by kernel_rfl) ?_
                      refine stretch (fuel := 6) (by kernel_rfl) (fun _ _ _ _ _ h => h) J1.out [0, 1, 2, 3, 4, 5, 6, 7, 11, 12, 13] (by kernel_rfl) ?_
                      simp only [List.filterMap_cons, List.filterMap_nil, List.getElem?_toArray, List.getElem?_cons_zero, List.getElem?_cons_succ]
                      show wpQuiet _ _ _ _ [_, _, _, _, _, _, _, _, _, _, _] _
                      repeat (go_big_quiet_step (fail))
                      refine wpQuiet_nil ?_
                      refine wpAnyJ_writer (i := 8) rfl (by kernel_rfl) (fun K' hK => ?_)
                      go_simp
                      refine (headN _ h hh3 (by omega) _).mono ?_
                      rintro e v1 ⟨rfl, rfl⟩
                      refine hK _ _ J1.out ?_
                      clear hK K'
                      refine wpAnyJ_writer (i := 9) rfl (by kernel_rfl) (fun K' hK => ?_)
                      go_simp
                      refine (tailRead (lRB _) O1.out HON.out.ok HON.out.ws hh3).mono ?_
                      rintro e v2 ⟨rfl, o4⟩
                      have O4 := hide o4
                      refine hK _ _ (HJ.out _ _ o4) ?_
                      clear hK K' o4 O1 J1
                      refine wpAnyJ_writer (i := 10) rfl (by kernel_rfl) (fun K' hK => ?_)
                      go_simp
                      refine (tailTag (lRB _) O4.out HON.out.ok hh3).mono ?_
                      rintro e v3 ⟨rfl, o5⟩
                      have O5 := hide o5
                      refine hK _ _ (HJ.out _ _ o5) ?_
                      clear hK K' o5 O4
                      refine stretch (fuel := 0) (by kernel_rfl) (fun _ _ _ _ _ h => h) (HJ.out _ _ O5.out) [14, 15, 16] (by kernel_rfl) ?_
                      simp only [List.filterMap_cons, List.filterMap_nil, List.getElem?_toArray, List.getElem?_cons_zero, List.getElem?_cons_succ]
                      show wpQuiet _ _ _ _ [_, _, _] _
                      repeat (go_big_quiet_step (fail))
                      refine wpQuiet_nil ?_
                      refine wpAnyJ_done (by kernel_rfl) ?_
                      clear U0 U1 hne
                      go_wp2
                      go_roundw
                      case rel => exact ⟨h + 1, rfl, by go_num, by omega, O5⟩
                      case measure => simp [intOf]; omega
                    · have O9 : Hid (Own (TailR gs gb q p r a p' r' gH gM gO gP pg n s s0 rl hv mv ov pv G.hv S (Sep (BO gt (.cells (rowN 3 (tnV G.tn)) 39 (0, 0))) Nought) (cntT (lstK n G) (n + 3))) w wr) := hide (by
                        have e : h = 3 := by omega
                        have o := OH.out
                        rw [e] at o
                        exact o)
                      clear OH
                      go_wp2
                      generalize wr = V9 at *
                      go_loopw [22, 25] (fun v22 v25 wx => ∃ j : Nat, v22 = .bool true ∧ v25 = .int .i64 (j : Int) ∧ j ≤ pg ∧ Hid (Own (TailR gs gb q p r a p' r' gH gM gO gP pg n s s0 rl hv mv ov pv G.hv S (Sep (BO gt (.cells (rowN 3 (tnV G.tn)) 39 (0, 0))) Nought) (cntT (lstK n G) (n + 3))) w wx)) (fun _ v25 _ => pg - (intOf v25).toNat)
                      case atStart => exact ⟨0, rfl, rfl, Nat.zero_le _, O9⟩
                      case round =>
                        clear O9
                        obtain ⟨j, rfl, rfl, hj, OJ⟩ := hrel
                        by_cases hjp : j < pg
                        · have y1 : wr.cell? ⟨gs, j, none⟩ = some (.int .i64 1) := by
                            have := OJ.out.tSeen hjp
                            rw [On12.cnt HON.out HALL.out, if_pos hjp] at this
                            exact this
                          go_wp2
                          go_roundw
                          case rel => exact ⟨j + 1, rfl, by go_num, by omega, OJ⟩
                          case measure => simp [intOf]; omega
                        · have HB := hide OJ.out.back
                          clear OJ
                          go_wp2_with fail
                          refine (HAW.out _).mono ?_
                          rintro e w9 ⟨rfl, b9⟩
                          have HB9 := hide b9
                          clear b9
                          go_wp2
                          go_ret
                          exact ⟨rfl, HB.out.trans (HB9.out.mono HB.out.size)⟩
          · have HR := hide (lawRest wr gb q a gH gM gO gP n (fun j => (S j).on) n1.2 O.out.gHead (fun j hj => by rw [← HON.out.on j hj]; exact O.out.gOn hj) false ⟨fun h => absurd h hall, fun h => by cases h⟩)
            have HPS := hide (Pot.pass (by omega) HPOT.out hdi (left_bd n1.2 G) (by rw [ht0]; exact HOT.out) hall)
            clear qo q3 q4 hall
            go_wp2_with fail
            refine HR.out.mono ?_
            rintro e w4 ⟨rfl, rfl⟩
            go_wp2
            go_roundw
            case rel => exact ⟨i + 1, G, s, hv, mv, ov, pv, S, by go_num, by omega, ⟨HON.out, fun h hh => by have := HTN.out h hh; omega, HPS.out, O.out⟩⟩
            case measure => simp [intOf]; omega
        · rw [decide_eq_false hgo]
          have HGO : Hid (i < drawn ∨ ot = true) := hide (by
            by_cases h : drawn ≤ i
            · right; cases ot
              · exact absurd ⟨h, rfl⟩ hgo
              · rfl
            · left; omega)
          clear hgo q3 HTD ht0 ht0n
          go_upto_if 84 with fail
          go_cut [15] from 42 to 187 (fun r15 wc => ∃ k : Nat, r15 = .int .i64 (k : Int) ∧ k < 256 ∧ wr = wc)
          case first =>
            by_cases hl : i < len
            · obtain ⟨kb, ko, y, rfl, hkc⟩ := HKW.out i hl
              have hy := hkc.hx
              have hkcell := hkc.cell
              clear hkc
              go_wp2
              go_meet
              exact ⟨y, rfl, hy, rfl⟩
            · go_wp2
              go_meet
              exact ⟨0, rfl, by omega, rfl⟩
          case rest =>
            obtain ⟨k, rfl, hk, hwc⟩ := hcut
            subst hwc
            go_upto_region 18 with fail
            go_cut [104] from 42 to 187 (fun r104 wc => r104 = .bool false ∧ ∃ (G1 : GS) (hv1 mv1 ov1 pv1 : Nat → Value) (S1 : Nat → MS), Hid (On12 n pg G1 s mv1 ov1 pv1 S1 ∧ (S1 t).on = true ∧ G1.tn = G.tn ∧ (drawn ≤ i → G1.left n = G.left n ∧ (fun j => (S1 j).on) = (fun j => (S j).on)) ∧ Own (GameB gb q p r a p' r' gH gM gO gP pg n s s0 rl hv1 mv1 ov1 pv1 G1.hv S1 (Sep (BO gt (.cells (rowN 3 (tnV G.tn)) 39 (0, 0))) Nought)) w wc))
            case first =>
              cases ot with
              | true =>
                go_wp2
                go_meet
                exact ⟨rfl, G, hv, mv, ov, pv, S, HON.out, HOT.out, rfl, fun _ => ⟨rfl, rfl⟩, O.out⟩
              | false =>
                have hdi : i < drawn := by rcases HGO.out with h | h; exact h; cases h
                have hoff := MS.on_off HOT.out
                have hmc : G.m t = .off := by rw [HON.out.mc t htn, hoff]; rfl
                have hvl := hv_len HON.out.ok htn
                obtain ⟨pb, hpb⟩ := HON.out.pv t htn
                have hov : ov t = .bool false := by rw [HON.out.on t htn, HOT.out]
                have h3 : k / 2 % 3 < 3 := Nat.mod_lt _ (by omega)
                have hH : Lay.isHead (pg : Int) (n : Int) ((hdw (k / 2 % 3) : Nat) : Int) = true := Lay.isHead_iff.2 ⟨HM.out, by have := hdw_lt h3; omega, by have := hdw_lt h3; omega⟩
                by_cases hb : k % 2 = 1 ∨ (G.hv t).length = 0
                · have HB := hide (beginMiss (lRB _) O.out htn n1.2 hoff (HON.out.at_ t htn) k hk hb _ rfl (by omega) hov hpb hH)
                  have HG := hide (begin_pop HON.out.ok htn hmc h3)
                  clear hvl hpb hov hH hb hmc hoff
                  go_wp2_with fail
                  refine HB.out.mono ?_
                  rintro e w4 ⟨rfl, hX⟩
                  obtain ⟨m, b, v, l, _, _, o4⟩ := hX.out
                  have O4 := hide o4
                  clear hX o4 HB qo
                  go_wp2
                  go_meet
                  exact ⟨rfl, G.setM t (.pop (k / 2 % 3) ⟨0, 0, 0, 0⟩), hv, _, _, _, _, On12.come (t := t) (x' := .pop m b v l (k / 2 % 3) ⟨0, 0, 0, 0⟩) (a := .pointer (some ⟨m, 0, none⟩)) (b := .pointer none) (c := .pointer (some ⟨b, 0, none⟩)) HON.out false HG.out rfl rfl ⟨upd3_0 _ _ _ _ _, upd3_1 _ _ _ _ _, upd3_2 _ _ _ _ _⟩ rfl, by rw [upd_at]; rfl, rfl, fun h => absurd h (by omega), O4.out⟩
                · have hne : G.hv t ≠ [] := fun e => hb (.inr (by rw [e]; rfl))
                  obtain ⟨l0, x, hL⟩ : ∃ l0 x, G.hv t = l0 ++ [x] := ⟨(G.hv t).dropLast, (G.hv t).getLast hne, (List.dropLast_concat_getLast hne).symm⟩
                  obtain ⟨hg, x0', x1⟩ := begin_push HON.out.ok htn hmc h3 hL
                  have HB := hide (beginHit (lRB _) O.out htn n1.2 hoff (HON.out.at_ t htn) k hk (by omega) l0 x hL _ rfl (by rw [hL] at hvl; simp at hvl; omega) hov hpb hH (by rw [next_in HM.out x0' x1]))
                  have HG := hide hg
                  clear hvl hpb hov hH hb hmc hoff hne hL hg x0' x1
                  go_wp2_with fail
                  refine HB.out.mono ?_
                  rintro e w4 ⟨rfl, hX⟩
                  obtain ⟨m, b, v, l, _, _, v', o4⟩ := hX.out
                  have O4 := hide o4
                  clear hX o4 HB qo
                  go_wp2
                  go_meet
                  exact ⟨rfl, { G with hv := upd G.hv t l0, m := upd G.m t (.push (k / 2 % 3) ⟨0, 0, x⟩) }, upd hv t v', _, _, _, _, On12.come (t := t) (x' := .push m b v l (k / 2 % 3) ⟨0, 0, x⟩) (a := .pointer none) (b := .pointer (some ⟨m, 0, none⟩)) (c := .pointer (some ⟨b, 0, none⟩)) HON.out true HG.out rfl rfl ⟨upd3_0 _ _ _ _ _, upd3_1 _ _ _ _ _, upd3_2 _ _ _ _ _⟩ rfl, by rw [upd_at]; rfl, rfl, fun h => absurd h (by omega), O4.out⟩
            case rest =>
              obtain ⟨rfl, G1, hv1, mv1, ov1, pv1, S1, hX⟩ := hcut
              obtain ⟨hON1, hon1, htn1, hl1, o1⟩ := hX.out
              have HON1 := hide hON1
              have HL1 := hide hl1
              have HT1 := hide htn1
              have O1 := hide o1
              clear hX hON1 htn1 hl1 o1 qo q4 HOT HON O HKW HPW
              as_aux_lemma =>
                obtain ⟨pa, pb, pc, h0, h1, h2⟩ : MS.off.at mv1 t := MS.at_off (HON1.out.at_ t htn)
                have htnb : ∀ h, h < 3 → G1.tn h + 1 < 4294967296 := fun h hh => by rw [HT1.out]; have := HTN.out h hh; omega
                have HTNB := hide htnb
                have o1 : Own (GameB gb q p r a p' r' gH gM gO gP pg n s s0 rl hv1 mv1 ov1 pv1 G1.hv S1 (Sep (BO gt (.cells (rowN 3 (tnV G1.tn)) 39 (0, 0))) Nought)) w wc := by rw [HT1.out]; exact O1.out
                have q3 : wc.cell? ⟨gb, 3, none⟩ = some (.slice (some ⟨gM, 0, none⟩) n n) := cell_of_heap o1.gHead
                have k0 : wc.cell? ⟨gM, t * 3, none⟩ = some (.pointer pa) := by rw [← h0]; exact o1.gMach (by omega)
                have k1 : wc.cell? ⟨gM, t * 3 + 1, none⟩ = some (.pointer pb) := by rw [← h1]; exact o1.gMach (by omega)
                have k2 : wc.cell? ⟨gM, t * 3 + 2, none⟩ = some (.pointer pc) := by rw [← h2]; exact o1.gMach (by omega)
                have HAB : Hid (mv1 (t * 3) = .pointer pa ∧ mv1 (t * 3 + 1) = .pointer pb ∧ mv1 (t * 3 + 2) = .pointer pc) := hide ⟨h0, h1, h2⟩
                have o2 := Own.boNew (Loc.gameB (lRB _)) o1 (heap_alloc_at wc (.cells #[.pointer pa, .pointer pb, .pointer pc] 47)) (Nat.le_refl _) (grown1 wc _)
                have o3 := Own.boNew (Loc.bo.sep (Loc.gameB (lRB _))) o2 (heap_alloc_at (wc.alloc (.cells #[.pointer pa, .pointer pb, .pointer pc] 47)) (.cells #[.int .i64 0, .int .i64 0, .int .u64 0, .int .u64 0] 50)) (Nat.le_refl _) (grown1 _ _)
                have hz : (wc.alloc (.cells #[.pointer pa, .pointer pb, .pointer pc] 47)).heap.size = wc.heap.size + 1 := by simp
                rw [hz] at o3
                have O3 : Hid (Own (Sep (BO (wc.heap.size + 1) (.cells #[.int .i64 0, .int .i64 0, .int .u64 0, .int .u64 0] 50 (0, 0))) (Sep (BO wc.heap.size (.cells #[.pointer pa, .pointer pb, .pointer pc] 47 (0, 0))) (GameB gb q p r a p' r' gH gM gO gP pg n s s0 rl hv1 mv1 ov1 pv1 G1.hv S1 (Sep (BO gt (.cells (rowN 3 (tnV G1.tn)) 39 (0, 0))) Nought)))) w ((wc.alloc (.cells #[.pointer pa, .pointer pb, .pointer pc] 47)).alloc (.cells #[.int .i64 0, .int .i64 0, .int .u64 0, .int .u64 0] 50))) := hide o3
                clear h0 h1 h2 htnb o1 o2 o3 hz O1
                go_upto_if 115 with fail
                clear q3 k0 k1 k2
                generalize (wc.alloc (.cells #[.pointer pa, .pointer pb, .pointer pc] 47)).alloc (.cells #[.int .i64 0, .int .i64 0, .int .u64 0, .int .u64 0] 50) = w5 at *
                generalize wc.heap.size = b16 at *
                obtain ⟨b17, hb17⟩ : ∃ b17, b16 + 1 = b17 := ⟨_, rfl⟩
                rw [hb17] at O3
                rw [hb17]
                clear hb17
                obtain ⟨MO, hMO⟩ : ∃ MO : Obj, MO = .cells #[.pointer pa, .pointer pb, .pointer pc] 47 (0, 0) := ⟨_, rfl⟩
                rw [← hMO] at O3
                have HMO := hide hMO
                clear hMO
                go_cut [18, 19] from 42 to 187 (fun r18 r19 wd => ∃ (G2 : GS) (s2 : St) (x2 : MS) (dn : Bool) (pp : Int) (hh : Nat) (m2 : Mc) (hvt : List Int), r18 = .bool dn ∧ r19 = .int .i64 pp ∧ Hid (Stepped n (pg : Int) (n : Int) G1 G2 t hh s2 m2 hvt ∧ hh < 3 ∧ ((dn = false ∧ pp = -1 ∧ m2 = x2.mc ∧ hvt = G1.hv t) ∨ (dn = true ∧ pp = -1 ∧ m2 = .off ∧ hvt = G1.hv t) ∨ (dn = true ∧ 0 ≤ pp ∧ m2 = .off ∧ hvt = G1.hv t ++ [pp])) ∧ x2.at mv1 t ∧ x2.on = true ∧ Own (Sep (BO b17 (.cells #[.int .i64 s2.kind, .int .i64 s2.place, .int .u64 (s2.old : Int), .int .u64 (s2.new : Int)] 50 (0, 0))) (GameB gb q p r a p' r' gH gM gO gP pg n s2 s0 rl hv1 mv1 ov1 pv1 G1.hv (upd S1 t x2) (Sep (BO gt (.cells (rowN 3 (tnV G1.tn)) 39 (0, 0))) Nought))) w wd))
                case first =>
                  have JJ : Hid (∀ (bo : Obj) (s1 : St) (S9 : Nat → MS) (u : World), Own (Sep (BO b17 bo) (Sep (BO b16 MO) (GameB gb q p r a p' r' gH gM gO gP pg n s1 s0 rl hv1 mv1 ov1 pv1 G1.hv S9 (Sep (BO gt (.cells (rowN 3 (tnV G1.tn)) 39 (0, 0))) Nought)))) w u → BkAt b16 MO u ∧ Cel gb 0 (.pointer (some ⟨q, 0, none⟩)) u) := hide (fun bo s1 S9 u h => ⟨Own.boAt h.drop, cell_of_heap h.drop.drop.gHead⟩)
                  cases hS1 : S1 t with
                  | off => rw [hS1] at hon1; cases hon1
                  | pop m b v l h M =>
                    as_aux_lemma =>
                      have hat := HON1.out.at_ t htn
                      rw [hS1] at hat
                      obtain ⟨a0, a1, a2⟩ := hat
                      have f0 := HAB.out.1.symm.trans a0
                      have f1 := HAB.out.2.1.symm.trans a1
                      simp only [Value.pointer.injEq] at f0 f1
                      subst f0
                      subst f1
                      have HAT : Hid (MS.at mv1 t (.pop m b v l h M)) := hide ⟨a0, a1, a2⟩
                      have hmc : G1.m t = .pop h M := by rw [HON1.out.mc t htn, hS1]; rfl
                      have hin := HON1.out.ok.mc t htn
                      rw [hmc] at hin
                      have h3 : h < 3 := hin.1
                      obtain ⟨G2, M', s2, hpn, hcases⟩ := pop_any n1.2 HON1.out.ok htn hmc HON1.out.ws (HTNB.out h h3)
                      have hlen : s.words.length = (Lay.words (pg : Int) (n : Int)).toNat := HON1.out.len
                      have hdl' : hdw h < s.words.length := by rw [hlen]; have := hdw_lt h3; omega
                      obtain ⟨dn, pp, m2, hvt, hdn, hpp, hstp, h3w⟩ : ∃ (dn : Bool) (pp : Int) (m2 : Mc) (hvt : List Int), (M'.g == 3) = dn ∧ ((M'.g ≠ 3 ∧ pp = -1) ∨ (M'.g = 3 ∧ pp = M'.page)) ∧ Stepped n (pg : Int) (n : Int) G1 G2 t h s2 m2 hvt ∧ ((dn = false ∧ pp = -1 ∧ m2 = .pop h M' ∧ hvt = G1.hv t) ∨ (dn = true ∧ pp = -1 ∧ m2 = .off ∧ hvt = G1.hv t) ∨ (dn = true ∧ 0 ≤ pp ∧ m2 = .off ∧ hvt = G1.hv t ++ [pp])) := by
                        rcases hcases with ⟨g, hs9⟩ | ⟨g, pg9, hs9⟩ | ⟨g, pg9, hs9⟩
                        · exact ⟨false, -1, _, _, by rw [beq_eq_false_iff_ne]; exact g, .inl ⟨g, rfl⟩, hs9, .inl ⟨rfl, rfl, rfl, rfl⟩⟩
                        · exact ⟨true, -1, _, _, by rw [g]; rfl, .inr ⟨g, pg9.symm⟩, hs9, .inr (.inl ⟨rfl, rfl, rfl, rfl⟩)⟩
                        · exact ⟨true, M'.page, _, _, by rw [g]; rfl, .inr ⟨g, rfl⟩, hs9, .inr (.inr ⟨rfl, pg9, rfl, rfl⟩)⟩
                      have HPN := hide hpn
                      have HDN := hide hdn
                      have HPP := hide hpp
                      have HSTP := hide hstp
                      have H3W := hide h3w
                      have HS1 := hide hS1
                      have lX : Loc (Sep (Sep (BO b (mObj (kPop (pg : Int) (n : Int) ((hdw h : Nat) : Int) 0) v)) (LogR v.log l)) (Sep (BO b17 (.cells #[.int .i64 0, .int .i64 0, .int .u64 0, .int .u64 0] 50 (0, 0))) (Sep (BO b16 MO) (SideB gb q a p' r' gH gM gO gP pg n s0 rl hv1 mv1 ov1 pv1 G1.hv S1 t (Sep (BO gt (.cells (rowN 3 (tnV G1.tn)) 39 (0, 0))) Nought))))) := (Loc.bo.sep Loc.logR).sep (Loc.bo.sep (Loc.bo.sep (Loc.sideB (lRB _))))
                      have hH1 : M.g = 1 → (Lay.page (pg : Int) (n : Int) 11 M.page).2 = true := (fun g1 => by obtain ⟨_, _, hc⟩ := hin; rcases hc with g | ⟨_, _, _, z0, z1⟩ | ⟨g, _⟩; exact absurd (g1.symm.trans g) (by decide); rw [next_in HM.out z0 z1]; exact absurd (g1.symm.trans g) (by decide))
                      have hwas : M.was < 18446744073709551616 := hin.2.1
                      have hMg : M.g = 0 ∨ M.g = 1 ∨ M.g = 2 := PopIn.g hin
                      have HSTEP : Hid (∀ u : World, Own (Sep (BO m (popO (pg : Int) (n : Int) ((hdw h : Nat) : Int) M.g M.was M.page M.below)) (Sep (AX q (pg : Int) (n : Int) p r s pg [] 1 rl) (Sep (Sep (BO b (mObj (kPop (pg : Int) (n : Int) ((hdw h : Nat) : Int) 0) v)) (LogR v.log l)) (Sep (BO b17 (.cells #[.int .i64 0, .int .i64 0, .int .u64 0, .int .u64 0] 50 (0, 0))) (Sep (BO b16 MO) (SideB gb q a p' r' gH gM gO gP pg n s0 rl hv1 mv1 ov1 pv1 G1.hv S1 t (Sep (BO gt (.cells (rowN 3 (tnV G1.tn)) 39 (0, 0))) Nought))))))) w u → Calls Try.prog 12 #[.pointer (some ⟨m, 0, none⟩), .pointer (some ⟨q, 0, none⟩)] u fun e w' => e = .returned s2.did ∧ Own (Sep (BO m (popO (pg : Int) (n : Int) ((hdw h : Nat) : Int) M'.g M'.was M'.page M'.below)) (Sep (AX q (pg : Int) (n : Int) p r s2 pg [] 1 rl) (Sep (Sep (BO b (mObj (kPop (pg : Int) (n : Int) ((hdw h : Nat) : Int) 0) v)) (LogR v.log l)) (Sep (BO b17 (.cells #[.int .i64 0, .int .i64 0, .int .u64 0, .int .u64 0] 50 (0, 0))) (Sep (BO b16 MO) (SideB gb q a p' r' gH gM gO gP pg n s0 rl hv1 mv1 ov1 pv1 G1.hv S1 t (Sep (BO gt (.cells (rowN 3 (tnV G1.tn)) 39 (0, 0))) Nought))))))) w w') := hide (fun u o => by
                        have := popStep lX M (hdw h) o hdl' hwas hMg hH1 hlen
                        rw [hpn] at this
                        exact this)
                      clear a0 a1 a2 hmc hpn hcases hdn hpp hstp h3w hS1 hH1 hwas hMg hin
                      go_upto_region 25 with fail
                      have O4 := hide (O3.out.below (Loc.bo.sep (Loc.bo.sep (Loc.gameB (lRB _)))) ((Alike.drewN w5 1).below _))
                      have J4 : Hid (BkAt b16 MO w5.drew ∧ Cel gb 0 (.pointer (some ⟨q, 0, none⟩)) w5.drew) := hide (JJ.out _ _ _ _ O4.out)
                      have hne : Nonempty (Mem (fun u => BkAt b16 MO u ∧ Cel gb 0 (.pointer (some ⟨q, 0, none⟩)) u)) := ⟨⟨_, J4.out⟩⟩
                      have U0 : ∀ u : Mem (fun u => BkAt b16 MO u ∧ Cel gb 0 (.pointer (some ⟨q, 0, none⟩)) u), u.w'.cell? ⟨b16, 0, none⟩ = some (.pointer (some ⟨m, 0, none⟩)) := fun u => cell_of_heap (by rw [← HMO.out]; exact u.h.1)
                      have UQ : ∀ u : Mem (fun u => BkAt b16 MO u ∧ Cel gb 0 (.pointer (some ⟨q, 0, none⟩)) u), u.w'.cell? ⟨gb, 0, none⟩ = some (.pointer (some ⟨q, 0, none⟩)) := fun u => u.h.2
                      clear O3
                      refine region_start (J := fun u => BkAt b16 MO u ∧ Cel gb 0 (.pointer (some ⟨q, 0, none⟩)) u) (by kernel_rfl) ?_
                      refine stretch (fuel := 2) (by kernel_rfl) (fun _ _ _ _ _ h => h) J4.out [0, 1, 2, 3, 4, 5] (by kernel_rfl) ?_
                      simp only [List.filterMap_cons, List.filterMap_nil, List.getElem?_toArray, List.getElem?_cons_zero, List.getElem?_cons_succ]
                      show wpQuiet _ _ _ _ [_, _, _, _, _, _] _
                      repeat (go_big_quiet_step (fail))
                      refine wpQuiet_nil ?_
                      refine wpAnyJ_writer (i := 6) rfl (by kernel_rfl) (fun K' hK => ?_)
                      go_simp
                      refine (HSTEP.out _ (O4.out.cast (by rw [GameB.popOut htn HS1.out]; ac_rfl))).mono ?_
                      rintro e w6 ⟨rfl, o6⟩
                      have O6 := hide (o6.cast (R' := Sep (BO b17 (.cells #[.int .i64 0, .int .i64 0, .int .u64 0, .int .u64 0] 50 (0, 0))) (Sep (BO b16 MO) (GameB gb q p r a p' r' gH gM gO gP pg n s2 s0 rl hv1 mv1 ov1 pv1 G1.hv (upd S1 t (.pop m b v l h M')) (Sep (BO gt (.cells (rowN 3 (tnV G1.tn)) 39 (0, 0))) Nought)))) (by rw [← GameB.popBack htn m b h v l M']; ac_rfl))
                      refine hK _ _ (JJ.out _ _ _ _ O6.out) ?_
                      clear hK K' o6 O4 J4 HSTEP lX
                      have r0 : w6.cell? ⟨b17, 0, none⟩ = some (.int .i64 0) := cell_of_heap (Own.boAt O6.out)
                      have r1 : w6.cell? ⟨b17, 1, none⟩ = some (.int .i64 0) := cell_of_heap (Own.boAt O6.out)
                      have r2 : w6.cell? ⟨b17, 2, none⟩ = some (.int .u64 0) := cell_of_heap (Own.boAt O6.out)
                      have r3 : w6.cell? ⟨b17, 3, none⟩ = some (.int .u64 0) := cell_of_heap (Own.boAt O6.out)
                      have fr : ∀ o, w6.frozen? ⟨b17, o, none⟩ = false := fun o => frozen_of_heap (Own.boAt O6.out)
                      have lS' : Loc (Sep (BO b16 MO) (GameB gb q p r a p' r' gH gM gO gP pg n s2 s0 rl hv1 mv1 ov1 pv1 G1.hv (upd S1 t (.pop m b v l h M')) (Sep (BO gt (.cells (rowN 3 (tnV G1.tn)) 39 (0, 0))) Nought))) := Loc.bo.sep (Loc.gameB (lRB _))
                      have O7 : Hid (Own (Sep (BO b17 (.cells #[.int .i64 s2.kind, .int .i64 s2.place, .int .u64 (s2.old : Int), .int .u64 (s2.new : Int)] 50 (0, 0))) (Sep (BO b16 MO) (GameB gb q p r a p' r' gH gM gO gP pg n s2 s0 rl hv1 mv1 ov1 pv1 G1.hv (upd S1 t (.pop m b v l h M')) (Sep (BO gt (.cells (rowN 3 (tnV G1.tn)) 39 (0, 0))) Nought)))) w ((((w6.setCell ⟨b17, 0, none⟩ (.int .i64 s2.kind)).setCell ⟨b17, 1, none⟩ (.int .i64 s2.place)).setCell ⟨b17, 2, none⟩ (.int .u64 (s2.old : Int))).setCell ⟨b17, 3, none⟩ (.int .u64 (s2.new : Int)))) :=
                        hide (Own.boSet lS' (Own.boSet lS' (Own.boSet lS' (Own.boSet lS' O6.out 0 (.int .i64 s2.kind)) 1 (.int .i64 s2.place)) 2 (.int .u64 (s2.old : Int))) 3 (.int .u64 (s2.new : Int)))
                      refine wpAnyJ_writer (i := 7) rfl (by kernel_rfl) (fun K' hK => ?_)
                      unfold St.did
                      go_simp
                      refine hK _ _ (JJ.out _ _ _ _ O7.out) ?_
                      clear hK K' r0 r1 r2 r3 fr O6 lS'
                      generalize (((w6.setCell ⟨b17, 0, none⟩ (.int .i64 s2.kind)).setCell ⟨b17, 1, none⟩ (.int .i64 s2.place)).setCell ⟨b17, 2, none⟩ (.int .u64 (s2.old : Int))).setCell ⟨b17, 3, none⟩ (.int .u64 (s2.new : Int)) = w7 at *
                      refine wpAnyJ_done (by kernel_rfl) ?_
                      clear hne U0 UQ
                      have hm7 : w7.heap[m]? = some (popO (pg : Int) (n : Int) ((hdw h : Nat) : Int) M'.g M'.was M'.page M'.below) := Own.boAt (O7.out.drop.drop.cast (GameB.popOut htn (upd_at S1 t (.pop m b v l h M'))))
                      have VD := fun (u : World) (hu : Below w7.heap.size w7 u) => popDone u m _ _ _ _ _ _ _ ((hu.block _ (lt_of_heap hm7)).trans hm7) dn HDN.out
                      have VPA : ∀ (u : World), Below w7.heap.size w7 u → Calls Try.prog 14 #[.pointer (some ⟨m, 0, none⟩)] u fun e w' => e = .returned (.int .i64 pp) ∧ w' = u := fun u hu => by
                        have hmu := (hu.block _ (lt_of_heap hm7)).trans hm7
                        rcases HPP.out with ⟨g, rfl⟩ | ⟨g, rfl⟩
                        · exact popPageNo u m _ _ _ _ _ _ _ hmu g
                        · rw [g] at hmu; exact popPage u m _ _ _ _ _ _ hmu
                      have HVD := hide VD
                      have HVP := hide VPA
                      have h16 : w7.heap[b16]? = some (.cells #[.pointer (some ⟨m, 0, none⟩), .pointer none, .pointer pc] 47 (0, 0)) := by rw [← HMO.out]; exact Own.boAt O7.out.drop
                      have H16 := hide h16
                      clear VD VPA hm7 h16
                      go_upto_region 26 with fail
                      have hne : Nonempty (Over w7) := ⟨⟨_, Below.refl _ _⟩⟩
                      have v0 := fun u => over_cell (show w7.cell? ⟨b16, 0, none⟩ = some (.pointer (some ⟨m, 0, none⟩)) from cell_of_heap H16.out) u
                      have CD := fun u : Over w7 => hide (show Calls Try.prog 13 #[.pointer (some ⟨m, 0, none⟩)] u.w' fun e w' => e = .returned (.bool dn) ∧ Below u.w'.heap.size u.w' w' from (HVD.out u.w' u.h).mono fun _ _ ⟨z1, z2⟩ => ⟨z1, by rw [z2]; exact Below.refl _ _⟩)
                      have CP := fun u : Over w7 => hide (show Calls Try.prog 14 #[.pointer (some ⟨m, 0, none⟩)] u.w' fun e w' => e = .returned (.int .i64 pp) ∧ Below u.w'.heap.size u.w' w' from (HVP.out u.w' u.h).mono fun _ _ ⟨z1, z2⟩ => ⟨z1, by rw [z2]; exact Below.refl _ _⟩)
                      refine over_region (by kernel_rfl) (by kernel_rfl) ?_
                      repeat (go_big_quiet_step (first | (go_at_call 13; exact over_call _ (CD _).out) | (go_at_call 14; exact over_call _ (CP _).out)))
                      refine wpQuiet_nil ?_
                      rintro _ ⟨u8, rfl⟩
                      have O8 := hide (O7.out.below (Loc.bo.sep (Loc.bo.sep (Loc.gameB (lRB _)))) u8.h)
                      clear hne v0 CD CP O7 HVD HVP H16
                      generalize u8.w' = w8 at *
                      clear u8
                      go_wp2
                      go_meet
                      exact ⟨G2, s2, .pop m b v l h M', dn, pp, h, m2, hvt, rfl, rfl, HSTP.out, h3, H3W.out, HAT.out, rfl, (O8.out.cast (by ac_rfl : _ = Sep (BO b16 MO) (Sep (BO b17 (.cells #[.int .i64 s2.kind, .int .i64 s2.place, .int .u64 (s2.old : Int), .int .u64 (s2.new : Int)] 50 (0, 0))) (GameB gb q p r a p' r' gH gM gO gP pg n s2 s0 rl hv1 mv1 ov1 pv1 G1.hv (upd S1 t (.pop m b v l h M')) (Sep (BO gt (.cells (rowN 3 (tnV G1.tn)) 39 (0, 0))) Nought))))).drop⟩
                  | push m b v l h M =>
                    as_aux_lemma =>
                      have hat := HON1.out.at_ t htn
                      rw [hS1] at hat
                      obtain ⟨a0, a1, a2⟩ := hat
                      have f0 := HAB.out.1.symm.trans a0
                      have f1 := HAB.out.2.1.symm.trans a1
                      simp only [Value.pointer.injEq] at f0 f1
                      subst f0
                      subst f1
                      have HAT : Hid (MS.at mv1 t (.push m b v l h M)) := hide ⟨a0, a1, a2⟩
                      have hmc : G1.m t = .push h M := by rw [HON1.out.mc t htn, hS1]; rfl
                      have hin := HON1.out.ok.mc t htn
                      rw [hmc] at hin
                      have h3 : h < 3 := hin.1
                      obtain ⟨G2, M', s2, hpn, hcases⟩ := push_any n1.2 HON1.out.ok htn hmc HON1.out.ws (HTNB.out h h3)
                      have hlen : s.words.length = (Lay.words (pg : Int) (n : Int)).toNat := HON1.out.len
                      have hdl' : hdw h < s.words.length := by rw [hlen]; have := hdw_lt h3; omega
                      obtain ⟨dn, pp, m2, hvt, hdn, hpp, hstp, h3w⟩ : ∃ (dn : Bool) (pp : Int) (m2 : Mc) (hvt : List Int), (M'.g == 3) = dn ∧ pp = -1 ∧ Stepped n (pg : Int) (n : Int) G1 G2 t h s2 m2 hvt ∧ ((dn = false ∧ pp = -1 ∧ m2 = .push h M' ∧ hvt = G1.hv t) ∨ (dn = true ∧ pp = -1 ∧ m2 = .off ∧ hvt = G1.hv t) ∨ (dn = true ∧ 0 ≤ pp ∧ m2 = .off ∧ hvt = G1.hv t ++ [pp])) := by
                        rcases hcases with ⟨g, hs9⟩ | ⟨g, hs9⟩
                        · exact ⟨false, -1, _, _, by rw [beq_eq_false_iff_ne]; exact g, rfl, hs9, .inl ⟨rfl, rfl, rfl, rfl⟩⟩
                        · exact ⟨true, -1, _, _, by rw [g]; rfl, rfl, hs9, .inr (.inl ⟨rfl, rfl, rfl, rfl⟩)⟩
                      have HPG : Hid (M'.page = M.page) := hide (by have := pushN_page (pg : Int) (n : Int) (hdw h) M s; rw [hpn] at this; exact this)
                      have HPN := hide hpn
                      have HDN := hide hdn
                      have HPP := hide hpp
                      have HSTP := hide hstp
                      have H3W := hide h3w
                      have HS1 := hide hS1
                      have lX : Loc (Sep (Sep (BO b (mObj (kPush (pg : Int) (n : Int) ((hdw h : Nat) : Int) M.page) v)) (LogR v.log l)) (Sep (BO b17 (.cells #[.int .i64 0, .int .i64 0, .int .u64 0, .int .u64 0] 50 (0, 0))) (Sep (BO b16 MO) (SideB gb q a p' r' gH gM gO gP pg n s0 rl hv1 mv1 ov1 pv1 G1.hv S1 t (Sep (BO gt (.cells (rowN 3 (tnV G1.tn)) 39 (0, 0))) Nought))))) := (Loc.bo.sep Loc.logR).sep (Loc.bo.sep (Loc.bo.sep (Loc.sideB (lRB _))))
                      have hH1 : (Lay.page (pg : Int) (n : Int) 11 M.page).2 = true := (by obtain ⟨_, _, z0, z1, _⟩ := hin; rw [next_in HM.out z0 z1])
                      have hwas : M.was < 18446744073709551616 := hin.2.1
                      have hMg : M.g = 0 ∨ M.g = 1 ∨ M.g = 2 := PushIn.g hin
                      have HSTEP : Hid (∀ u : World, Own (Sep (BO m (pushO (pg : Int) (n : Int) ((hdw h : Nat) : Int) M.g M.was M.page)) (Sep (AX q (pg : Int) (n : Int) p r s pg [] 1 rl) (Sep (Sep (BO b (mObj (kPush (pg : Int) (n : Int) ((hdw h : Nat) : Int) M.page) v)) (LogR v.log l)) (Sep (BO b17 (.cells #[.int .i64 0, .int .i64 0, .int .u64 0, .int .u64 0] 50 (0, 0))) (Sep (BO b16 MO) (SideB gb q a p' r' gH gM gO gP pg n s0 rl hv1 mv1 ov1 pv1 G1.hv S1 t (Sep (BO gt (.cells (rowN 3 (tnV G1.tn)) 39 (0, 0))) Nought))))))) w u → Calls Try.prog 10 #[.pointer (some ⟨m, 0, none⟩), .pointer (some ⟨q, 0, none⟩)] u fun e w' => e = .returned s2.did ∧ Own (Sep (BO m (pushO (pg : Int) (n : Int) ((hdw h : Nat) : Int) M'.g M'.was M'.page)) (Sep (AX q (pg : Int) (n : Int) p r s2 pg [] 1 rl) (Sep (Sep (BO b (mObj (kPush (pg : Int) (n : Int) ((hdw h : Nat) : Int) M.page) v)) (LogR v.log l)) (Sep (BO b17 (.cells #[.int .i64 0, .int .i64 0, .int .u64 0, .int .u64 0] 50 (0, 0))) (Sep (BO b16 MO) (SideB gb q a p' r' gH gM gO gP pg n s0 rl hv1 mv1 ov1 pv1 G1.hv S1 t (Sep (BO gt (.cells (rowN 3 (tnV G1.tn)) 39 (0, 0))) Nought))))))) w w') := hide (fun u o => by
                        have := pushStep lX M (hdw h) o hdl' hwas hMg hH1 hlen
                        rw [hpn] at this
                        exact this)
                      clear a0 a1 a2 hmc hpn hcases hdn hpp hstp h3w hS1 hH1 hwas hMg hin
                      go_upto_region 23 with fail
                      have O4 := hide (O3.out.below (Loc.bo.sep (Loc.bo.sep (Loc.gameB (lRB _)))) ((Alike.drewN w5 1).below _))
                      have J4 : Hid (BkAt b16 MO w5.drew ∧ Cel gb 0 (.pointer (some ⟨q, 0, none⟩)) w5.drew) := hide (JJ.out _ _ _ _ O4.out)
                      have hne : Nonempty (Mem (fun u => BkAt b16 MO u ∧ Cel gb 0 (.pointer (some ⟨q, 0, none⟩)) u)) := ⟨⟨_, J4.out⟩⟩
                      have U0 : ∀ u : Mem (fun u => BkAt b16 MO u ∧ Cel gb 0 (.pointer (some ⟨q, 0, none⟩)) u), u.w'.cell? ⟨b16, 1, none⟩ = some (.pointer (some ⟨m, 0, none⟩)) := fun u => cell_of_heap (by rw [← HMO.out]; exact u.h.1)
                      have UQ : ∀ u : Mem (fun u => BkAt b16 MO u ∧ Cel gb 0 (.pointer (some ⟨q, 0, none⟩)) u), u.w'.cell? ⟨gb, 0, none⟩ = some (.pointer (some ⟨q, 0, none⟩)) := fun u => u.h.2
                      clear O3
                      refine region_start (J := fun u => BkAt b16 MO u ∧ Cel gb 0 (.pointer (some ⟨q, 0, none⟩)) u) (by kernel_rfl) ?_
                      refine stretch (fuel := 2) (by kernel_rfl) (fun _ _ _ _ _ h => h) J4.out [0, 1, 2, 3, 4, 5] (by kernel_rfl) ?_
                      simp only [List.filterMap_cons, List.filterMap_nil, List.getElem?_toArray, List.getElem?_cons_zero, List.getElem?_cons_succ]
                      show wpQuiet _ _ _ _ [_, _, _, _, _, _] _
                      repeat (go_big_quiet_step (fail))
                      refine wpQuiet_nil ?_
                      refine wpAnyJ_writer (i := 6) rfl (by kernel_rfl) (fun K' hK => ?_)
                      go_simp
                      refine (HSTEP.out _ (O4.out.cast (by rw [GameB.pushTake htn HS1.out]; ac_rfl))).mono ?_
                      rintro e w6 ⟨rfl, o6⟩
                      have O6 := hide (o6.cast (R' := Sep (BO b17 (.cells #[.int .i64 0, .int .i64 0, .int .u64 0, .int .u64 0] 50 (0, 0))) (Sep (BO b16 MO) (GameB gb q p r a p' r' gH gM gO gP pg n s2 s0 rl hv1 mv1 ov1 pv1 G1.hv (upd S1 t (.push m b v l h M')) (Sep (BO gt (.cells (rowN 3 (tnV G1.tn)) 39 (0, 0))) Nought)))) (by rw [← GameB.pushBack htn m b h v l M', HPG.out]; ac_rfl))
                      refine hK _ _ (JJ.out _ _ _ _ O6.out) ?_
                      clear hK K' o6 O4 J4 HSTEP lX
                      have r0 : w6.cell? ⟨b17, 0, none⟩ = some (.int .i64 0) := cell_of_heap (Own.boAt O6.out)
                      have r1 : w6.cell? ⟨b17, 1, none⟩ = some (.int .i64 0) := cell_of_heap (Own.boAt O6.out)
                      have r2 : w6.cell? ⟨b17, 2, none⟩ = some (.int .u64 0) := cell_of_heap (Own.boAt O6.out)
                      have r3 : w6.cell? ⟨b17, 3, none⟩ = some (.int .u64 0) := cell_of_heap (Own.boAt O6.out)
                      have fr : ∀ o, w6.frozen? ⟨b17, o, none⟩ = false := fun o => frozen_of_heap (Own.boAt O6.out)
                      have lS' : Loc (Sep (BO b16 MO) (GameB gb q p r a p' r' gH gM gO gP pg n s2 s0 rl hv1 mv1 ov1 pv1 G1.hv (upd S1 t (.push m b v l h M')) (Sep (BO gt (.cells (rowN 3 (tnV G1.tn)) 39 (0, 0))) Nought))) := Loc.bo.sep (Loc.gameB (lRB _))
                      have O7 : Hid (Own (Sep (BO b17 (.cells #[.int .i64 s2.kind, .int .i64 s2.place, .int .u64 (s2.old : Int), .int .u64 (s2.new : Int)] 50 (0, 0))) (Sep (BO b16 MO) (GameB gb q p r a p' r' gH gM gO gP pg n s2 s0 rl hv1 mv1 ov1 pv1 G1.hv (upd S1 t (.push m b v l h M')) (Sep (BO gt (.cells (rowN 3 (tnV G1.tn)) 39 (0, 0))) Nought)))) w ((((w6.setCell ⟨b17, 0, none⟩ (.int .i64 s2.kind)).setCell ⟨b17, 1, none⟩ (.int .i64 s2.place)).setCell ⟨b17, 2, none⟩ (.int .u64 (s2.old : Int))).setCell ⟨b17, 3, none⟩ (.int .u64 (s2.new : Int)))) :=
                        hide (Own.boSet lS' (Own.boSet lS' (Own.boSet lS' (Own.boSet lS' O6.out 0 (.int .i64 s2.kind)) 1 (.int .i64 s2.place)) 2 (.int .u64 (s2.old : Int))) 3 (.int .u64 (s2.new : Int)))
                      refine wpAnyJ_writer (i := 7) rfl (by kernel_rfl) (fun K' hK => ?_)
                      unfold St.did
                      go_simp
                      refine hK _ _ (JJ.out _ _ _ _ O7.out) ?_
                      clear hK K' r0 r1 r2 r3 fr O6 lS'
                      generalize (((w6.setCell ⟨b17, 0, none⟩ (.int .i64 s2.kind)).setCell ⟨b17, 1, none⟩ (.int .i64 s2.place)).setCell ⟨b17, 2, none⟩ (.int .u64 (s2.old : Int))).setCell ⟨b17, 3, none⟩ (.int .u64 (s2.new : Int)) = w7 at *
                      refine wpAnyJ_done (by kernel_rfl) ?_
                      clear hne U0 UQ
                      have hm7 : w7.heap[m]? = some (pushO (pg : Int) (n : Int) ((hdw h : Nat) : Int) M'.g M'.was M'.page) := Own.boAt (O7.out.drop.drop.cast (GameB.pushTake htn (upd_at S1 t (.push m b v l h M'))))
                      have h16 : w7.heap[b16]? = some (.cells #[.pointer none, .pointer (some ⟨m, 0, none⟩), .pointer pc] 47 (0, 0)) := by rw [← HMO.out]; exact Own.boAt O7.out.drop
                      have v1 : w7.cell? ⟨b16, 1, none⟩ = some (.pointer (some ⟨m, 0, none⟩)) := cell_of_heap h16
                      have HVD := hide (pushDone w7 m _ _ _ _ _ _ hm7 dn HDN.out)
                      clear hm7 h16
                      go_wp2_with fail
                      refine HVD.out.mono ?_
                      rintro e w8 ⟨rfl, rfl⟩
                      go_wp2
                      go_meet
                      exact ⟨G2, s2, .push m b v l h M', dn, -1, h, m2, hvt, rfl, rfl, HSTP.out, h3, by have := H3W.out; rw [HPP.out] at this; exact this, HAT.out, rfl, (O7.out.cast (by ac_rfl : _ = Sep (BO b16 MO) (Sep (BO b17 (.cells #[.int .i64 s2.kind, .int .i64 s2.place, .int .u64 (s2.old : Int), .int .u64 (s2.new : Int)] 50 (0, 0))) (GameB gb q p r a p' r' gH gM gO gP pg n s2 s0 rl hv1 mv1 ov1 pv1 G1.hv (upd S1 t (.push m b v l h M')) (Sep (BO gt (.cells (rowN 3 (tnV G1.tn)) 39 (0, 0))) Nought))))).drop⟩
                case rest =>
                  obtain ⟨G2, s2, x2, dn, pp, hh, m2, hvt, rfl, rfl, hX⟩ := hcut
                  clear O3 HMO
                  as_aux_lemma =>
                    obtain ⟨hst, hh3, h3w, hx2, hon2, o5⟩ := hX.out
                    have O5 := hide o5
                    have HSTP := hide hst
                    have H3W := hide h3w
                    have HX2 := hide hx2
                    have HON2 := hide hon2
                    have d0 : wc.cell? ⟨b17, 0, none⟩ = some (.int .i64 s2.kind) := cell_of_heap (Own.boAt o5)
                    have d1 : wc.cell? ⟨b17, 1, none⟩ = some (.int .i64 s2.place) := cell_of_heap (Own.boAt o5)
                    clear hX hst h3w hx2 hon2 o5
                    go_upto_region 28 with fail
                    obtain ⟨tb, htb⟩ : ∃ tb : Bool, (tb = true ∧ s2.kind = 3 ∧ s2.place = ((hdw hh : Nat) : Int) ∧ G2.tn = upd G1.tn hh (G1.tn hh + 1)) ∨ (tb = false ∧ s2.kind ≠ 3 ∧ G2.tn = G1.tn) := by
                      rcases HSTP.out.turned with ⟨z1, z2, z3⟩ | ⟨z1, z2⟩
                      · exact ⟨true, .inl ⟨rfl, z1, z2, z3⟩⟩
                      · exact ⟨false, .inr ⟨rfl, z1, z2⟩⟩
                    have HTB := hide htb
                    clear htb
                    generalize hv20 : wrap64 ((wrap64 (s2.place - 8)).tdiv 7) = v20
                    have HV20 := hide hv20
                    clear hv20
                    go_cut [155] from 42 to 187 (fun r155 wd => r155 = .bool tb ∧ Hid (Own (Sep (BO b17 (.cells #[.int .i64 s2.kind, .int .i64 s2.place, .int .u64 (s2.old : Int), .int .u64 (s2.new : Int)] 50 (0, 0))) (GameB gb q p r a p' r' gH gM gO gP pg n s2 s0 rl hv1 mv1 ov1 pv1 G1.hv (upd S1 t x2) (Sep (BO gt (.cells (rowN 3 (tnV G1.tn)) 39 (0, 0))) Nought))) w wd))
                    case first =>
                      rcases HTB.out with ⟨rfl, hk, hp, _⟩ | ⟨rfl, hk, _⟩
                      · have i1 := hdw_lt hh3
                        rw [hk] at d0
                        rw [hp] at d1
                        have i2 : (8 : Int) ≤ ((hdw hh : Nat) : Int) := by omega
                        have i3 : ((hdw hh : Nat) : Int) ≤ 22 := by omega
                        clear hk hp
                        go_wp2
                        go_meet
                        exact ⟨rfl, O5.out⟩
                      · have hkb : (s2.kind == 3) = false := by rw [beq_eq_false_iff_ne]; exact hk
                        clear hk
                        go_wp2
                        go_meet
                        exact ⟨rfl, O5.out⟩
                    case rest =>
                      obtain ⟨rfl, hO⟩ := hcut
                      have O6 := hide hO.out.drop
                      clear hO O5 d0 d1
                      go_upto_if 155 with fail
                      go_cut [20] from 42 to 187 (fun r20 wd => Hid (Own (GameB gb q p r a p' r' gH gM gO gP pg n s2 s0 rl hv1 mv1 ov1 pv1 G1.hv (upd S1 t x2) (Sep (BO gt (.cells (rowN 3 (tnV G2.tn)) 39 (0, 0))) Nought)) w wd))
                      case first =>
                        rcases HTB.out with ⟨rfl, _, hp, ht2⟩ | ⟨rfl, _, ht2⟩
                        · have e20 : v20 = (hh : Int) := by
                            rw [← HV20.out, hp]
                            rcases (show hh = 0 ∨ hh = 1 ∨ hh = 2 by omega) with rfl | rfl | rfl <;> decide +kernel
                          have hb := HTNB.out hh hh3
                          have o7 := O6.out.cast (R' := Sep (BO gt (.cells (rowN 3 (tnV G1.tn)) 39 (0, 0))) (GameB gb q p r a p' r' gH gM gO gP pg n s2 s0 rl hv1 mv1 ov1 pv1 G1.hv (upd S1 t x2) Nought)) GameB.beside
                          have c7 : wc.cell? ⟨gt, hh, none⟩ = some (.int .u32 (G1.tn hh : Int)) := (cell_of_heap (Own.boAt o7)).trans (rowN_get _ hh3)
                          have f7 : ∀ o, wc.frozen? ⟨gt, o, none⟩ = false := fun o => frozen_of_heap (Own.boAt o7)
                          have o8 := Own.boSet (Loc.gameB Loc.nought) o7 hh (.int .u32 ((G1.tn hh + 1 : Nat) : Int))
                          rw [rowN_set, tnV_upd, ← ht2] at o8
                          have O8 := hide (o8.cast GameB.beside.symm)
                          rw [show ((G1.tn hh + 1 : Nat) : Int) = (G1.tn hh : Int) + 1 from by omega] at O8
                          have hh3' : hh < 3 := hh3
                          clear hp ht2 o7 o8
                          subst e20
                          go_wp2
                          go_meet
                          exact O8.out
                        · clear hh3
                          go_wp2
                          go_meet
                          rw [ht2]
                          exact O6.out
                      case rest =>
                        have O7 := hide hcut.out
                        have HTN2 : Hid (∀ h, h < 3 → G2.tn h ≤ i + 1) := hide (by
                          intro h hh9
                          have h1 := HTN.out h hh9
                          have h2 : G1.tn h = G.tn h := by rw [HT1.out]
                          rcases HTB.out with ⟨_, _, _, ht2⟩ | ⟨_, _, ht2⟩
                          · rw [ht2]
                            by_cases e : h = hh
                            · subst e; rw [upd_at]; omega
                            · rw [upd_ne _ _ e]; omega
                          · rw [ht2]; omega)
                        have HPT : Hid (∀ on' : Nat → Bool, Pot n drawn (i + 1) (G2.left n) on') := hide (by
                          intro on'
                          by_cases hd : i < drawn
                          · exact fun h => absurd h (by omega)
                          · have hl := (HL1.out (by omega)).1
                            have h2 := HSTP.out.left
                            rw [hl] at h2
                            exact Pot.step (by omega) HPOT.out h2 (left_bd n1.2 G))
                        clear hcut O6 HTB HV20
                        rcases H3W.out with ⟨rfl, rfl, rfl, rfl⟩ | ⟨rfl, rfl, rfl, rfl⟩ | ⟨rfl, hpp, rfl, rfl⟩
                        · obtain ⟨g1, g2⟩ := On12.go HON1.out htn HSTP.out HX2.out (HON2.out.trans hon1.symm)
                          have HG1 := hide g1
                          have HG2 := hide g2
                          clear g1 g2
                          go_wp2
                          go_roundw
                          case rel => exact ⟨i + 1, G2, s2, hv1, mv1, ov1, pv1, upd S1 t x2, by go_num, by omega, ⟨HG1.out, HTN2.out, HPT.out _, by rw [HG2.out]; exact O7.out⟩⟩
                          case measure => simp [intOf]; omega
                        · have g1 := On12.fin HON1.out htn HSTP.out
                          have g2 : G2.hv = G1.hv := by rw [HSTP.out.hv]; exact upd_id _ _
                          have HG1 := hide g1
                          have HG2 := hide g2
                          have c4 : wc.cell? ⟨gb, 4, none⟩ = some (.slice (some ⟨gO, 0, none⟩) n n) := cell_of_heap O7.out.gHead
                          have co : wc.cell? ⟨gO, t, none⟩ = some (.bool true) := by rw [← hon1, ← HON1.out.on t htn]; exact O7.out.gOn htn
                          have fo : ∀ o, wc.frozen? ⟨gO, o, none⟩ = false := fun o => frozen_of_heap (O7.out.has GameB.onOut)
                          have O8 := hide (Own.gOnSet (t := t) (lRB _) (O7.out.gOff htn) (.bool false))
                          clear g1 g2 O7
                          go_wp2
                          clear c4 co fo
                          go_roundw
                          case rel => exact ⟨i + 1, G2, s2, hv1, mv1, upd ov1 t (.bool false), pv1, upd S1 t .off, by go_num, by omega, ⟨HG1.out, HTN2.out, HPT.out _, by rw [HG2.out]; exact O8.out⟩⟩
                          case measure => simp [intOf]; omega
                        · have HG1 := hide (On12.fin HON1.out htn HSTP.out)
                          have HHV := hide HSTP.out.hv
                          have c4 : wc.cell? ⟨gb, 4, none⟩ = some (.slice (some ⟨gO, 0, none⟩) n n) := cell_of_heap O7.out.gHead
                          have co : wc.cell? ⟨gO, t, none⟩ = some (.bool true) := by rw [← hon1, ← HON1.out.on t htn]; exact O7.out.gOn htn
                          have fo : ∀ o, wc.frozen? ⟨gO, o, none⟩ = false := fun o => frozen_of_heap (O7.out.has GameB.onOut)
                          have O8 := hide (Own.gOnSet (t := t) (lRB _) (O7.out.gOff htn) (.bool false))
                          clear O7
                          go_upto_region 33 with fail
                          clear c4 co fo
                          generalize wc.setCell ⟨gO, t, none⟩ (.bool false) = w9 at *
                          as_aux_lemma =>
                            obtain ⟨j0, hj0, y0', y1, y2⟩ := info_parts infoIntG
                            obtain ⟨ao9, cap9, hvt9⟩ := HvR.form (O8.out.cast (GameB.pagesOut htn))
                            have hrw := Own.hv (O8.out.cast (GameB.pagesOut htn)) rfl
                            have hvl := hv_len HON1.out.ok htn
                            obtain ⟨LL, hLL⟩ : ∃ LL, G1.hv t = LL := ⟨_, rfl⟩
                            obtain ⟨ln, hln⟩ : ∃ ln, LL.length = ln := ⟨_, rfl⟩
                            rw [hLL] at hvt9 hrw hvl
                            rw [hln] at hvt9 hrw hvl
                            rw [hvt9] at hrw
                            have HROW := hide hrw
                            have HLL := hide hLL
                            have HLN := hide hln
                            have HVT9 := hide hvt9
                            obtain ⟨Sz, hS⟩ : ∃ Sz, w9.heap.size = Sz := ⟨_, rfl⟩
                            have HS := hide hS
                            have HX1 : Hid (∀ U, Below Sz w9 U → Src U (.slice ao9 ln cap9) ln (intVals LL)) := hide (fun U hU => src_of_owns HROW.out (by rw [HS.out]; exact hU))
                            have HL1 : Hid ((intVals LL).length = ln * 1) := hide (by rw [Nat.mul_one, ← HLN.out]; simp [intVals])
                            have HCI : Hid (∀ U, Below Sz w9 U → (fun u => Cel gb 2 (.slice (some ⟨gH, 0, none⟩) n n) u ∧ Cel gH t (.slice ao9 ln cap9) u) U) := hide (fun U hU => by
                              have o := O8.out
                              have l1 : gb < Sz := by rw [← HS.out]; exact lt_of_heap o.gHead
                              have l2 : gH < Sz := by rw [← HS.out]; exact lt_of_heap (o.has GameB.haveOut)
                              have c1 : w9.cell? ⟨gb, 2, none⟩ = some (.slice (some ⟨gH, 0, none⟩) n n) := cell_of_heap o.gHead
                              have c2 : w9.cell? ⟨gH, t, none⟩ = some (.slice ao9 ln cap9) := (o.gHave htn).trans (by rw [HVT9.out])
                              exact ⟨(hU.cell (p := ⟨gb, 2, none⟩) l1).trans c1, (hU.cell (p := ⟨gH, t, none⟩) l2).trans c2⟩)
                            have hB0 : Below Sz w9 w9.drew := (Alike.drewN w9 1).below _
                            have J2 := hide (HCI.out _ hB0)
                            have hne : Nonempty (Mem (fun u => Cel gb 2 (.slice (some ⟨gH, 0, none⟩) n n) u ∧ Cel gH t (.slice ao9 ln cap9) u)) := ⟨⟨_, J2.out⟩⟩
                            have U2 : ∀ u : Mem (fun u => Cel gb 2 (.slice (some ⟨gH, 0, none⟩) n n) u ∧ Cel gH t (.slice ao9 ln cap9) u), u.w'.cell? ⟨gb, 2, none⟩ = some (.slice (some ⟨gH, 0, none⟩) n n) := fun u => u.h.1
                            have U3 : ∀ u : Mem (fun u => Cel gb 2 (.slice (some ⟨gH, 0, none⟩) n n) u ∧ Cel gH t (.slice ao9 ln cap9) u), u.w'.cell? ⟨gH, t, none⟩ = some (.slice ao9 ln cap9) := fun u => u.h.2
                            clear hrw hLL hln hvt9 hS
                            refine startL 18 (J := (fun u => Cel gb 2 (.slice (some ⟨gH, 0, none⟩) n n) u ∧ Cel gH t (.slice ao9 ln cap9) u)) (by kernel_rfl) ?_
                            refine stretchL (fuel := 6) (by kernel_rfl) (fun _ _ _ _ _ h => h) J2.out [0, 1, 2, 3, 4, 6, 7, 8, 9, 10, 11, 12, 14] (by kernel_rfl) ?_
                            simp only [List.filterMap_cons, List.filterMap_nil, List.getElem?_toArray, List.getElem?_cons_zero, List.getElem?_cons_succ]
                            show wpQuiet _ _ _ _ [_, _, _, _, _, _, _, _, _, _, _, _, _] _
                            repeat (go_big_quiet_step (fail))
                            refine wpQuiet_nil ?_
                            refine twoL (i := 5) (j := 15) rfl rfl (by kernel_rfl) rfl rfl (fun K hK => ?_) (fun K hK => ?_)
                            · go_simp
                              have b1 : Below Sz w9 (w9.alloc (.cells #[] 3)).drew := ((Below.refl Sz w9).alloc (by have := HS.out; omega) (.cells #[] 3)).trans ((Alike.drewN _ 1).below _)
                              have s1 : Sz ≤ (w9.alloc (.cells #[] 3)).drew.heap.size := by show Sz ≤ (w9.alloc (.cells #[] 3)).heap.size; simp; have := HS.out; omega
                              have own1 : (w9.alloc (.cells #[] 3)).drew.ownsRow Sz 3 1 (.slice (some ⟨w9.heap.size, 0, none⟩) 0 0) 0 [] := ownsRow_alike (w := w9.alloc (.cells #[] 3)) ⟨rfl, .inr ⟨w9.heap.size, 0, #[], rfl, by have := HS.out; omega, heap_alloc_at _ _, Nat.le_refl _, Nat.zero_le _, rfl, rfl⟩⟩ ⟨rfl, rfl, rfl, rfl⟩
                              have hz1' : (w9.alloc (.cells #[] 3)).drew.heap.size = w9.heap.size + 1 := by show (w9.alloc (.cells #[] 3)).heap.size = _; simp
                              refine hK _ _ (fun _ => HCI.out _ b1) ?_
                              clear hK K
                              generalize (w9.alloc (.cells #[] 3)).drew = U1 at *
                              have hn3 : U1.heap.size ≠ w9.heap.size := by omega
                              clear hz1'
                              refine twoL (i := 13) (j := 15) rfl rfl (by kernel_rfl) rfl rfl (fun K hK => ?_) (fun K hK => ?_)
                              · refine oper_append _ _ _ 54 rfl Sz 3 j0 (.int .i64 0) 1 8 Try.underlying54 hj0 y0' y1 y2 rfl (by decide) (.slice (some ⟨w9.heap.size, 0, none⟩) 0 0) 0 [] rfl own1 ln (intVals LL) (HX1.out _ b1) HL1.out (ints_one LL) (by unfold maxLen; omega) (by omega) s1 ?_
                                intro v8 u8 own8 hgr hat
                                have b8 : Below Sz w9 u8 := b1.trans (grown_below own1 hgr s1)
                                have s8 : Sz ≤ u8.heap.size := Nat.le_trans s1 hgr.size
                                rw [List.nil_append, Nat.zero_add] at own8
                                refine hK _ _ (fun _ => HCI.out _ b8) ?_
                                clear hK K
                                simp only [Act.put, List.getElem_toArray, List.getElem_cons_succ, List.getElem_cons_zero, List.setIfInBounds_toArray, List.set_cons_succ, List.set_cons_zero]
                                refine writerL (i := 15) rfl (by kernel_rfl) rfl (fun K hK => ?_)
                                go_simp
                                have hit : ∀ j u, [Value.int .i64 pp][j]? = some u → (u8.alloc (.cells #[.int .i64 pp] 3)).cell? ((⟨u8.heap.size, 0, none⟩ : Addr).add j) = some u := cells_new _ _ _
                                have b8' : Below Sz w9 (u8.alloc (.cells #[.int .i64 pp] 3)) := b8.alloc s8 _
                                have own8' := own8.alloc (.cells #[.int .i64 pp] 3)
                                have s8' : Sz ≤ (u8.alloc (.cells #[.int .i64 pp] 3)).heap.size := by simp; omega
                                refine hK _ _ (fun _ => HCI.out _ b8') ?_
                                clear hK K own8 b8 s8 own1 b1 s1 hgr hat
                                generalize u8.heap.size = b3 at *
                                generalize u8.alloc (.cells #[.int .i64 pp] 3) = U3' at *
                                have own8 := own8'
                                have b8 := b8'
                                have s8 := s8'
                                refine writerL (i := 16) rfl (by kernel_rfl) rfl (fun K hK => ?_)
                                refine oper_append _ _ _ 54 rfl Sz 3 j0 (.int .i64 0) 1 8 Try.underlying54 hj0 y0' y1 y2 rfl (by decide) v8 ln (intVals LL) rfl own8 1 [.int .i64 pp] (.inr ⟨⟨b3, 0, none⟩, 1, rfl, hit⟩) rfl (by simp [Value.oneCell']) (by unfold maxLen; omega) (by omega) s8 ?_
                                intro v14 u14 own14 hgr hat
                                have b14 : Below Sz w9 u14 := b8.trans (grown_below own8 hgr s8)
                                have s14 : Sz ≤ u14.heap.size := Nat.le_trans s8 hgr.size
                                obtain ⟨a14, c14, rfl⟩ := ownsRow_slice own14
                                refine hK _ _ (fun _ => HCI.out _ b14) ?_
                                clear hK K
                                simp only [Act.put, List.getElem_toArray, List.getElem_cons_succ, List.getElem_cons_zero, List.setIfInBounds_toArray, List.set_cons_succ, List.set_cons_zero]
                                refine stretchL (fuel := 1) (by kernel_rfl) (fun _ _ _ _ _ h => h) (HCI.out _ b14) [17] (by kernel_rfl) ?_
                                simp only [List.filterMap_cons, List.filterMap_nil, List.getElem?_toArray, List.getElem?_cons_zero, List.getElem?_cons_succ]
                                show wpQuiet _ _ _ _ [_] _
                                repeat (go_big_quiet_step (fail))
                                refine wpQuiet_nil ?_
                                have y17 : u14.cell? ⟨gH, t, none⟩ = some (.slice ao9 ln cap9) := (HCI.out _ b14).2
                                have f17 : ∀ o, u14.frozen? ⟨gH, o, none⟩ = false := fun o => frozen_of_heap ((O8.out.below (Loc.gameB (lRB _)) (by rw [HS.out]; exact b14)).has GameB.haveOut)
                                have O10 := hide (Own.gNewRow (lRB _) htn O8.out (u := u14) (by rw [HS.out]; exact b14) (v' := .slice a14 (ln + 1) c14) (l' := LL ++ [pp]) (by
                                  have e : intVals (LL ++ [pp]) = intVals LL ++ [.int .i64 pp] := by simp [intVals]
                                  rw [e, List.length_append, HLN.out, HS.out]
                                  exact own14))
                                refine writerL (i := 18) rfl (by kernel_rfl) rfl (fun K hK => ?_)
                                go_simp
                                refine hK _ _ (fun h => absurd rfl h) ?_
                                clear hK K y17 f17 own14 b14 s14 hgr hat
                                refine doneL (by kernel_rfl) ?_
                                generalize u14.setCell ⟨gH, t, none⟩ (.slice a14 (ln + 1) c14) = w10 at *
                                clear U2 U3 hne
                                go_wp2
                                go_roundw
                                case rel => exact ⟨i + 1, G2, s2, upd hv1 t (.slice a14 (ln + 1) c14), mv1, upd ov1 t (.bool false), pv1, upd S1 t .off, by go_num, by omega, ⟨HG1.out, HTN2.out, HPT.out _, by rw [HHV.out, HLL.out]; exact O10.out⟩⟩
                                case measure => simp [intOf]; omega
                              · go_simp
                                have b1' : Below Sz w9 (U1.alloc (.cells #[.int .i64 pp] 3)) := b1.alloc s1 _
                                have own1' := own1.alloc (.cells #[.int .i64 pp] 3)
                                have s1' : Sz ≤ (U1.alloc (.cells #[.int .i64 pp] 3)).heap.size := by simp; omega
                                have hi3 := heap_alloc_at U1 (.cells #[.int .i64 pp] 3)
                                refine hK _ _ (fun _ => HCI.out _ b1') ?_
                                clear hK K own1 b1 s1
                                have hl3 := lt_of_heap hi3
                                generalize U1.heap.size = b3 at *
                                generalize U1.alloc (.cells #[.int .i64 pp] 3) = U3' at *
                                have own1 := own1'
                                have b1 := b1'
                                have s1 := s1'
                                refine writerL (i := 13) rfl (by kernel_rfl) rfl (fun K hK => ?_)
                                refine oper_append _ _ _ 54 rfl Sz 3 j0 (.int .i64 0) 1 8 Try.underlying54 hj0 y0' y1 y2 rfl (by decide) (.slice (some ⟨w9.heap.size, 0, none⟩) 0 0) 0 [] rfl own1 ln (intVals LL) (HX1.out _ b1) HL1.out (ints_one LL) (by unfold maxLen; omega) (by omega) s1 ?_
                                intro v8 u8 own8 hgr hat
                                have b8 : Below Sz w9 u8 := b1.trans (grown_below own1 hgr s1)
                                have s8 : Sz ≤ u8.heap.size := Nat.le_trans s1 hgr.size
                                rw [List.nil_append, Nat.zero_add] at own8
                                have hit : ∀ j u, [Value.int .i64 pp][j]? = some u → u8.cell? ((⟨b3, 0, none⟩ : Addr).add j) = some u := cells_at ((hgr.block b3 hl3 (by simp [Value.ownBlock]; omega)).trans hi3)
                                clear hgr hat
                                refine hK _ _ (fun _ => HCI.out _ b8) ?_
                                clear hK K
                                simp only [Act.put, List.getElem_toArray, List.getElem_cons_succ, List.getElem_cons_zero, List.setIfInBounds_toArray, List.set_cons_succ, List.set_cons_zero]
                                refine writerL (i := 16) rfl (by kernel_rfl) rfl (fun K hK => ?_)
                                refine oper_append _ _ _ 54 rfl Sz 3 j0 (.int .i64 0) 1 8 Try.underlying54 hj0 y0' y1 y2 rfl (by decide) v8 ln (intVals LL) rfl own8 1 [.int .i64 pp] (.inr ⟨⟨b3, 0, none⟩, 1, rfl, hit⟩) rfl (by simp [Value.oneCell']) (by unfold maxLen; omega) (by omega) s8 ?_
                                intro v14 u14 own14 hgr hat
                                have b14 : Below Sz w9 u14 := b8.trans (grown_below own8 hgr s8)
                                have s14 : Sz ≤ u14.heap.size := Nat.le_trans s8 hgr.size
                                obtain ⟨a14, c14, rfl⟩ := ownsRow_slice own14
                                refine hK _ _ (fun _ => HCI.out _ b14) ?_
                                clear hK K
                                simp only [Act.put, List.getElem_toArray, List.getElem_cons_succ, List.getElem_cons_zero, List.setIfInBounds_toArray, List.set_cons_succ, List.set_cons_zero]
                                refine stretchL (fuel := 1) (by kernel_rfl) (fun _ _ _ _ _ h => h) (HCI.out _ b14) [17] (by kernel_rfl) ?_
                                simp only [List.filterMap_cons, List.filterMap_nil, List.getElem?_toArray, List.getElem?_cons_zero, List.getElem?_cons_succ]
                                show wpQuiet _ _ _ _ [_] _
                                repeat (go_big_quiet_step (fail))
                                refine wpQuiet_nil ?_
                                have y17 : u14.cell? ⟨gH, t, none⟩ = some (.slice ao9 ln cap9) := (HCI.out _ b14).2
                                have f17 : ∀ o, u14.frozen? ⟨gH, o, none⟩ = false := fun o => frozen_of_heap ((O8.out.below (Loc.gameB (lRB _)) (by rw [HS.out]; exact b14)).has GameB.haveOut)
                                have O10 := hide (Own.gNewRow (lRB _) htn O8.out (u := u14) (by rw [HS.out]; exact b14) (v' := .slice a14 (ln + 1) c14) (l' := LL ++ [pp]) (by
                                  have e : intVals (LL ++ [pp]) = intVals LL ++ [.int .i64 pp] := by simp [intVals]
                                  rw [e, List.length_append, HLN.out, HS.out]
                                  exact own14))
                                refine writerL (i := 18) rfl (by kernel_rfl) rfl (fun K hK => ?_)
                                go_simp
                                refine hK _ _ (fun h => absurd rfl h) ?_
                                clear hK K y17 f17 own14 b14 s14 hgr hat
                                refine doneL (by kernel_rfl) ?_
                                generalize u14.setCell ⟨gH, t, none⟩ (.slice a14 (ln + 1) c14) = w10 at *
                                clear U2 U3 hne
                                go_wp2
                                go_roundw
                                case rel => exact ⟨i + 1, G2, s2, upd hv1 t (.slice a14 (ln + 1) c14), mv1, upd ov1 t (.bool false), pv1, upd S1 t .off, by go_num, by omega, ⟨HG1.out, HTN2.out, HPT.out _, by rw [HHV.out, HLL.out]; exact O10.out⟩⟩
                                case measure => simp [intOf]; omega
                            · go_simp
                              have b1 : Below Sz w9 (w9.alloc (.cells #[.int .i64 pp] 3)).drew := ((Below.refl Sz w9).alloc (by have := HS.out; omega) (.cells #[.int .i64 pp] 3)).trans ((Alike.drewN _ 1).below _)
                              have s1 : Sz ≤ (w9.alloc (.cells #[.int .i64 pp] 3)).drew.heap.size := by show Sz ≤ (w9.alloc (.cells #[.int .i64 pp] 3)).heap.size; simp; have := HS.out; omega
                              have hi3 : (w9.alloc (.cells #[.int .i64 pp] 3)).drew.heap[w9.heap.size]? = some (.cells #[.int .i64 pp] 3) := heap_alloc_at w9 (.cells #[.int .i64 pp] 3)
                              refine hK _ _ (fun _ => HCI.out _ b1) ?_
                              clear hK K
                              have hl3 := lt_of_heap hi3
                              obtain ⟨b3, hb3⟩ : ∃ b3, w9.heap.size = b3 := ⟨_, rfl⟩
                              rw [hb3] at hi3 hl3 ⊢
                              clear hb3
                              generalize (w9.alloc (.cells #[.int .i64 pp] 3)).drew = U1 at *
                              refine writerL (i := 5) rfl (by kernel_rfl) rfl (fun K hK => ?_)
                              go_simp
                              have b1' : Below Sz w9 (U1.alloc (.cells #[] 3)) := b1.alloc s1 _
                              have own1' : (U1.alloc (.cells #[] 3)).ownsRow Sz 3 1 (.slice (some ⟨U1.heap.size, 0, none⟩) 0 0) 0 [] := ⟨rfl, .inr ⟨U1.heap.size, 0, #[], rfl, s1, heap_alloc_at _ _, Nat.le_refl _, Nat.zero_le _, rfl, rfl⟩⟩
                              have s1' : Sz ≤ (U1.alloc (.cells #[] 3)).heap.size := by simp; omega
                              have hi3' := heap_alloc_old (o := (.cells #[] 3)) hi3
                              have hn3 : b3 ≠ U1.heap.size := by omega
                              refine hK _ _ (fun _ => HCI.out _ b1') ?_
                              clear hK K b1 s1 hi3
                              have hl3' := lt_of_heap hi3'
                              generalize U1.heap.size = q1 at *
                              generalize U1.alloc (.cells #[] 3) = U3' at *
                              have own1 := own1'
                              have b1 := b1'
                              have s1 := s1'
                              refine writerL (i := 13) rfl (by kernel_rfl) rfl (fun K hK => ?_)
                              refine oper_append _ _ _ 54 rfl Sz 3 j0 (.int .i64 0) 1 8 Try.underlying54 hj0 y0' y1 y2 rfl (by decide) (.slice (some ⟨q1, 0, none⟩) 0 0) 0 [] rfl own1 ln (intVals LL) (HX1.out _ b1) HL1.out (ints_one LL) (by unfold maxLen; omega) (by omega) s1 ?_
                              intro v8 u8 own8 hgr hat
                              have b8 : Below Sz w9 u8 := b1.trans (grown_below own1 hgr s1)
                              have s8 : Sz ≤ u8.heap.size := Nat.le_trans s1 hgr.size
                              rw [List.nil_append, Nat.zero_add] at own8
                              have hit : ∀ j u, [Value.int .i64 pp][j]? = some u → u8.cell? ((⟨b3, 0, none⟩ : Addr).add j) = some u := cells_at ((hgr.block b3 hl3' (by simp [Value.ownBlock]; omega)).trans hi3')
                              clear hgr hat
                              refine hK _ _ (fun _ => HCI.out _ b8) ?_
                              clear hK K
                              simp only [Act.put, List.getElem_toArray, List.getElem_cons_succ, List.getElem_cons_zero, List.setIfInBounds_toArray, List.set_cons_succ, List.set_cons_zero]
                              refine writerL (i := 16) rfl (by kernel_rfl) rfl (fun K hK => ?_)
                              refine oper_append _ _ _ 54 rfl Sz 3 j0 (.int .i64 0) 1 8 Try.underlying54 hj0 y0' y1 y2 rfl (by decide) v8 ln (intVals LL) rfl own8 1 [.int .i64 pp] (.inr ⟨⟨b3, 0, none⟩, 1, rfl, hit⟩) rfl (by simp [Value.oneCell']) (by unfold maxLen; omega) (by omega) s8 ?_
                              intro v14 u14 own14 hgr hat
                              have b14 : Below Sz w9 u14 := b8.trans (grown_below own8 hgr s8)
                              have s14 : Sz ≤ u14.heap.size := Nat.le_trans s8 hgr.size
                              obtain ⟨a14, c14, rfl⟩ := ownsRow_slice own14
                              refine hK _ _ (fun _ => HCI.out _ b14) ?_
                              clear hK K
                              simp only [Act.put, List.getElem_toArray, List.getElem_cons_succ, List.getElem_cons_zero, List.setIfInBounds_toArray, List.set_cons_succ, List.set_cons_zero]
                              refine stretchL (fuel := 1) (by kernel_rfl) (fun _ _ _ _ _ h => h) (HCI.out _ b14) [17] (by kernel_rfl) ?_
                              simp only [List.filterMap_cons, List.filterMap_nil, List.getElem?_toArray, List.getElem?_cons_zero, List.getElem?_cons_succ]
                              show wpQuiet _ _ _ _ [_] _
                              repeat (go_big_quiet_step (fail))
                              refine wpQuiet_nil ?_
                              have y17 : u14.cell? ⟨gH, t, none⟩ = some (.slice ao9 ln cap9) := (HCI.out _ b14).2
                              have f17 : ∀ o, u14.frozen? ⟨gH, o, none⟩ = false := fun o => frozen_of_heap ((O8.out.below (Loc.gameB (lRB _)) (by rw [HS.out]; exact b14)).has GameB.haveOut)
                              have O10 := hide (Own.gNewRow (lRB _) htn O8.out (u := u14) (by rw [HS.out]; exact b14) (v' := .slice a14 (ln + 1) c14) (l' := LL ++ [pp]) (by
                                have e : intVals (LL ++ [pp]) = intVals LL ++ [.int .i64 pp] := by simp [intVals]
                                rw [e, List.length_append, HLN.out, HS.out]
                                exact own14))
                              refine writerL (i := 18) rfl (by kernel_rfl) rfl (fun K hK => ?_)
                              go_simp
                              refine hK _ _ (fun h => absurd rfl h) ?_
                              clear hK K y17 f17 own14 b14 s14 hgr hat
                              refine doneL (by kernel_rfl) ?_
                              generalize u14.setCell ⟨gH, t, none⟩ (.slice a14 (ln + 1) c14) = w10 at *
                              clear U2 U3 hne
                              go_wp2
                              go_roundw
                              case rel => exact ⟨i + 1, G2, s2, upd hv1 t (.slice a14 (ln + 1) c14), mv1, upd ov1 t (.bool false), pv1, upd S1 t .off, by go_num, by omega, ⟨HG1.out, HTN2.out, HPT.out _, by rw [HHV.out, HLL.out]; exact O10.out⟩⟩
                              case measure => simp [intOf]; omega

theorem walk (x0 : Nat) (hx0 : x0 < 256) (y0 : Nat) (hy0 : y0 < 256) (ao : Option Addr) (len cap : Nat) (_hlc : len ≤ cap) (_hcm : cap ≤ maxLen) (ao2 : Option Addr) (len2 cap2 : Nat) (_hlc2 : len2 ≤ cap2) (_hcm2 : cap2 ≤ maxLen) (w : World) (hB : BytesIn w ao len) (hB2 : BytesIn w ao2 len2) :
    Calls Try.prog 3 #[.int .u8 (x0 : Int), .int .u8 (y0 : Int), .slice ao len cap, .slice ao2 len2 cap2] w fun e w' => e = .returned (.bool true) ∧ Below w.heap.size w w' :=
  main x0 y0 _ _ hx0 hy0 rfl rfl ao len cap ao2 len2 cap2 w hB hB2

set_option maxRecDepth 100000 in
theorem lifted (os : Os) (started : os.Started) (H : Type) (enc : TypeId × Value → H) :
    ReturnsInHanded {} Try.checked os 3 .any (Rows.stackOnceSpec.pre6 enc Try.prog Try.f3 Rows.stackOnceRow.domain false) (Rows.stackOnceSpec.post enc Try.prog Try.f3 false true false false) := by
  refine returnsInHanded_of_change (C := Try.checked) own started (by kernel_rfl) Try.func3
    (ChangeSpec.witness6 (enc := enc) (C := Try.checked) false ⟨#[], #[.int .u8 0, .int .u8 0, .slice none 0 0, .slice none 0 0], []⟩ 8 (by kernel_rfl) (by kernel_rfl) (by kernel_rfl) (by kernel_rfl)) ?_
  intro W base args ds gs before hval0 hW _ _
  have hval : ∀ (j : Nat) t v, Try.f3.params[j]? = some t → args[j]? = some v → Value.okWide Try.prog W .any base t v := hval0
  have hW' := hW
  obtain ⟨p, q, hA0, hV, rfl, hfz, hnd⟩ := hW
  have hA : DataW.TrodAll enc Try.prog W 0 (fun _ => true) true Try.f3.params.toList args.toList ds p := hA0
  rw [Try.params3] at hA hval
  obtain ⟨v0, vs0, d0, ds0, p0, q0, hargs, rfl, rfl, h0, r0⟩ := trodAll_cons hA
  obtain ⟨v1, vs1, d1, ds1, p1, q1, rfl, rfl, rfl, h1, r1⟩ := trodAll_cons r0
  obtain ⟨v2, vs2, d2, ds2, p2, q2, rfl, rfl, rfl, h2, r2⟩ := trodAll_cons r1
  obtain ⟨v3, vs3, d3, ds3, p3, q3, rfl, rfl, rfl, h3, r3⟩ := trodAll_cons r2
  obtain ⟨rfl, rfl, rfl⟩ := trodAll_nil r3
  obtain rfl : args = #[v0, v1, v2, v3] := by cases args; simp_all
  obtain ⟨rfl, rfl⟩ := trodVars_none hV
  obtain ⟨a0, rfl, rfl, rfl, w0⟩ := open_int Try.underlying5 (hval 0 5 v0 rfl rfl) h0
  obtain ⟨a1, rfl, rfl, rfl, w1⟩ := open_int Try.underlying5 (hval 1 5 v1 rfl rfl) h1
  have h2k := h2
  have lt2 : ∀ x ∈ p2, x.block < W.heap.size := fun x hx => hW'.lt x (by simp [hx])
  obtain ⟨l2_0, l2_1, l2_2, rfl, f2_0, f2_1, f2_2⟩ := open_bytes (hval 2 22 v2 rfl rfl) h2
  have h3k := h3
  have lt3 : ∀ x ∈ p3, x.block < W.heap.size := fun x hx => hW'.lt x (by simp [hx])
  obtain ⟨l3_0, l3_1, l3_2, rfl, f3_0, f3_1, f3_2⟩ := open_bytes (hval 3 22 v3 rfl rfl) h3
  clear hA0 hval0
  obtain ⟨x0, hx0, rfl⟩ := u8_nat w0
  obtain ⟨x1, hx1, rfl⟩ := u8_nat w1
  refine (walk x0 hx0 x1 hx1 l2_0 l2_1 l2_2 f2_0 f2_1 l3_0 l3_1 l3_2 f3_0 f3_1 W f2_2 f3_2).mono fun e W' ⟨he, bel⟩ => ?_
  subst he
  exact ⟨_, rfl, _, _, _, [], _, [], hW', trodAll_mk1 (shut_bool Try.underlying4 _), (trodAll_cons_mk (shut_int Try.underlying5 w0) (trodAll_cons_mk (shut_int Try.underlying5 w1) (trodAll_cons_mk (Below.trod laidOut (by kernel_rfl) (of_decide_eq_true (by kernel_rfl)) h2k bel lt2) (trodAll_cons_mk (Below.trod laidOut (by kernel_rfl) (of_decide_eq_true (by kernel_rfl)) h3k bel lt3) trodAll_mk0)))), rfl, bel.frame _, fun h => by cases h⟩

end Go.Proofs.Ytafamfjgehnddaa.stackOnce
namespace Go.Proofs.Ytafamfjgehnddaa

theorem stackOnce_holds : Rows.StackOnceSaid :=
  OpenClaim.holds_of_wide 3 Try.f3 rfl rfl rfl rfl rfl rfl rfl ⟨rfl, rfl, rfl, rfl, rfl⟩ rfl rfl rfl rfl rfl (by kernel_rfl) Try.func3 (by kernel_rfl)
    (of_decide_eq_true (by kernel_rfl)) (by unfold Func.isWrapper; first | (rw [if_pos (by decide +kernel)]; kernel_rfl) | (rw [if_neg (by decide +kernel)]; exact ⟨rfl, rfl⟩))
    (fun os started H enc _ => stackOnce.lifted os started H enc)
end Go.Proofs.Ytafamfjgehnddaa
