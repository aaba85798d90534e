/- The game of pushes and pops, new: its rows, both arenas, the pages dealt out (printed by gen/newgame.py). -/
import Derived.Test.YtafamfjgehnddaaPM
import Derived.Test.YtafamfjgehnddaaPL
namespace Go.Proofs.Ytafamfjgehnddaa
open Go Go.RowKit

/-- A thread's pages, in a row by itself. -/
def HvR (v : Value) (l : List Int) : Res := fun W G => W.ownsRow 0 3 1 v l.length (intVals l) ∧ ∀ x, G x ↔ v.ownBlock = some x
theorem Loc.hvR {v : Value} {l : List Int} : Loc (HvR v l) := by
  refine ⟨fun {w w' M G} ⟨h1, h2⟩ o hn => ⟨⟨h1.1, ?_⟩, h2⟩, fun {w G x} ⟨h1, h2⟩ hx => ?_⟩
  · rcases h1.2 with h0 | ⟨g, cap, cur, e, hb, hg, h4⟩
    · exact .inl h0
    · exact .inr ⟨g, cap, cur, e, hb, (o.block g (lt_of_heap hg) (hn g ((h2 g).2 (by rw [e]; rfl)))).trans hg, h4⟩
  · rcases h1.2 with ⟨e, _⟩ | ⟨g, cap, cur, e, hb, hg, h4⟩
    · have := (h2 x).1 hx; rw [e] at this; cases this
    · have := (h2 x).1 hx
      rw [e] at this
      obtain rfl : g = x := by simpa [Value.ownBlock] using this
      exact lt_of_heap hg
theorem Own.hvNil {R : Res} {w0 w : World} (h : Own R w0 w) : Own (Sep (HvR (.slice none 0 0) []) R) w0 w := by
  obtain ⟨G, h1, h2, h3⟩ := h
  refine ⟨G, ⟨fun _ => False, G, ⟨⟨rfl, .inl ⟨rfl, rfl⟩⟩, fun x => ⟨fun h => h.elim, fun h => by cases h⟩⟩, h1, fun x h => h.elim, fun x => ⟨.inr, fun h => h.elim (fun h => h.elim) id⟩⟩, h2, h3⟩
theorem Own.hvs {R : Res} {w0 w : World} (h : Own R w0 w) : ∀ n, Own (Sep (Many (fun _ => HvR (.slice none 0 0) []) n) R) w0 w
  | 0 => h.cast (Sep.nought R).symm
  | n + 1 => (Own.hvNil (Own.hvs h n)).cast (by show Sep _ (Sep (Many (fun _ => HvR (.slice none 0 0) []) n) R) = Sep (Sep (HvR (.slice none 0 0) []) (Many (fun _ => HvR (.slice none 0 0) []) n)) R; ac_rfl)
theorem Own.hv {R R' : Res} {w0 w : World} {v : Value} {l : List Int} (h : Own R' w0 w) (e : R' = Sep (HvR v l) R) : w.ownsRow 0 3 1 v l.length (intVals l) := by
  obtain ⟨_, ⟨_, _, a, _⟩, _⟩ := h.cast e
  exact a.1
theorem grownOnly {w w' : World} {row : Option Nat} (h : w.grownBy w' row) : Only (fun k => row = some k) w w' :=
  ⟨h.os, h.tape, h.output, h.size, fun k hk hn => h.block k hk (fun e => hn e.symm)⟩
theorem Own.hvGrow {R : Res} {w0 u w3 : World} {v lv : Value} {l : List Int} {x : Int} (lR : Loc R) (h : Own (Sep (HvR v l) R) w0 u) (hown : w3.ownsRow 0 3 1 lv (l.length + 1) (intVals l ++ [.int .i64 x]))
    (hgrow : u.grownBy w3 v.ownBlock) (hblk : lv.ownBlock = v.ownBlock ∨ lv.ownBlock = some u.heap.size) : Own (Sep (HvR lv (l ++ [x])) R) w0 w3 := by
  obtain ⟨G, ⟨G1, G2, ⟨a1, a2⟩, r, c, d⟩, h2, h3⟩ := h
  have e : intVals (l ++ [x]) = intVals l ++ [.int .i64 x] := by simp [intVals]
  refine Own.step (G1 := G1) (G1' := fun y => lv.ownBlock = some y) (G2 := G2) lR h3 (fun y hy => h2 y ((d y).2 hy)) r c ⟨?_, fun _ => Iff.rfl⟩ ((grownOnly hgrow).mono (fun y _ hy => (a2 y).2 hy)) (fun y hy => ?_)
  · rw [List.length_append, List.length_singleton, e]; exact hown
  · rcases hblk with q | q
    · exact .inl ((a2 y).2 (q ▸ hy))
    · rw [q] at hy
      exact .inr (by have : u.heap.size = y := by simpa using hy
                     omega)
theorem infoIntG : (Try.prog.info? 3).map (fun i => (i.zero, i.size, i.bytes)) = some (some (.int .i64 0), 1, 8) := by kernel_rfl
/-- The game's head. -/
def gameO (q a gH gM gO gP n : Nat) : Obj := .cells #[.pointer (some ⟨q, 0, none⟩), .pointer (some ⟨a, 0, none⟩), .slice (some ⟨gH, 0, none⟩) n n, .slice (some ⟨gM, 0, none⟩) n n, .slice (some ⟨gO, 0, none⟩) n n, .slice (some ⟨gP, 0, none⟩) n n] 37 (0, 0)
/-- The game while pages are dealt out. -/
def DealR (gb q p r a p' r' gH gM gO gP bs pg n : Nat) (s : St) (rl : RL) (SO : Obj) (hv : Nat → Value) (L : Nat → List Int) (R : Res) : Res :=
  Sep (BO gb (gameO q a gH gM gO gP n)) (Sep (BO gH (.cells (rowN n hv) 54 (0, 0))) (Sep (BO gM (.cells (rowN (n * 3) (fun _ => .pointer none)) 47 (0, 0))) (Sep (BO gO (.cells (rowN n (fun _ => .bool false)) 4 (0, 0))) (Sep (BO gP (.cells (rowN n (fun _ => .bool false)) 4 (0, 0)))
    (Sep (AX q (pg : Int) (n : Int) p r s pg [] 1 rl) (Sep (MX a (pg : Int) (n : Int) p' r' s pg [] 1 rl) (Sep (Many (fun t => HvR (hv t) (L t)) n) (Sep (BO bs SO) R))))))))
theorem hvs_upd (hv : Nat → Value) (L : Nat → List Int) (t : Nat) (v : Value) (l : List Int) : (fun j => HvR (upd hv t v j) (upd L t l j)) = upd (fun j => HvR (hv j) (L j)) t (HvR v l) := by
  funext j; unfold upd; split <;> rfl
section
variable {gb q p r a p' r' gH gM gO gP bs pg n : Nat} {s : St} {rl : RL} {SO : Obj} {hv : Nat → Value} {L : Nat → List Int} {R : Res}
/-- A thread's pages come forth. -/
theorem DealR.out {t : Nat} (ht : t < n) : DealR gb q p r a p' r' gH gM gO gP bs pg n s rl SO hv L R = Sep (HvR (hv t) (L t)) (Sep (BO gH (.cells (rowN n hv) 54 (0, 0))) (Sep (BO gb (gameO q a gH gM gO gP n)) (Sep (BO bs SO) (Sep (BO gM (.cells (rowN (n * 3) (fun _ => .pointer none)) 47 (0, 0))) (Sep (BO gO (.cells (rowN n (fun _ => .bool false)) 4 (0, 0))) (Sep (BO gP (.cells (rowN n (fun _ => .bool false)) 4 (0, 0)))
    (Sep (AX q (pg : Int) (n : Int) p r s pg [] 1 rl) (Sep (MX a (pg : Int) (n : Int) p' r' s pg [] 1 rl) (Sep (Many (upd (fun j => HvR (hv j) (L j)) t Nought) n) R))))))))) := by
  unfold DealR
  rw [Many.at (fun j => HvR (hv j) (L j)) t n ht]
  ac_rfl
theorem DealR.back {t : Nat} (ht : t < n) (v : Value) (l : List Int) : Sep (HvR v l) (Sep (BO gH (.cells (rowN n (upd hv t v)) 54 (0, 0))) (Sep (BO gb (gameO q a gH gM gO gP n)) (Sep (BO bs SO) (Sep (BO gM (.cells (rowN (n * 3) (fun _ => .pointer none)) 47 (0, 0))) (Sep (BO gO (.cells (rowN n (fun _ => .bool false)) 4 (0, 0))) (Sep (BO gP (.cells (rowN n (fun _ => .bool false)) 4 (0, 0)))
    (Sep (AX q (pg : Int) (n : Int) p r s pg [] 1 rl) (Sep (MX a (pg : Int) (n : Int) p' r' s pg [] 1 rl) (Sep (Many (upd (fun j => HvR (hv j) (L j)) t Nought) n) R))))))))) = DealR gb q p r a p' r' gH gM gO gP bs pg n s rl SO (upd hv t v) (upd L t l) R := by
  unfold DealR
  rw [hvs_upd, Many.put (fun j => HvR (hv j) (L j)) t (HvR v l) n ht]
  ac_rfl
end
theorem infoInts : (Try.prog.info? 54).map (fun i => (i.zero, i.size, i.bytes)) = some (some (.slice none 0 0), 1, 24) := by kernel_rfl
theorem infoMach : (Try.prog.info? 47).map (fun i => (i.zero, i.size, i.bytes)) = some (some (.agg #[.pointer none, .pointer none, .pointer none]), 3, 24) := by kernel_rfl
theorem infoBoolG : (Try.prog.info? 4).map (fun i => (i.zero, i.size, i.bytes)) = some (some (.bool false), 1, 1) := by kernel_rfl

set_option maxRecDepth 100000 in
set_option maxHeartbeats 64000000 in
theorem newGame {R : Res} {w0 w : World} (lR : Loc R) (h : Own R w0 w) (x0 y0 pg n : Nat) (hx0 : x0 < 256) (hy0 : y0 < 256) (hpg : x0 % 60 + 1 = pg) (hn : y0 % 6 + 1 = n) :
    Calls Try.prog 6 #[.int .u8 (x0 : Int), .int .u8 (y0 : Int)] w fun e w' => ∃ gb q p r a p' r' gH gM gO gP hv, e = .returned (.pointer (some ⟨gb, 0, none⟩)) ∧
      Own (Sep (BO gb (gameO q a gH gM gO gP n)) (Sep (BO gH (.cells (rowN n hv) 54 (0, 0))) (Sep (BO gM (.cells (rowN (n * 3) (fun _ => .pointer none)) 47 (0, 0))) (Sep (BO gO (.cells (rowN n (fun _ => .bool false)) 4 (0, 0))) (Sep (BO gP (.cells (rowN n (fun _ => .bool false)) 4 (0, 0)))
        (Sep (AX q (pg : Int) (n : Int) p r (St.first (Lay.words (pg : Int) (n : Int)).toNat) pg [] 1 [(kOf 0 pg, ([] : List Nat).getD 0 0, ())]) (Sep (MX a (pg : Int) (n : Int) p' r' (St.first (Lay.words (pg : Int) (n : Int)).toNat) pg [] 1 [(kOf 0 pg, ([] : List Nat).getD 0 0, ())]) (Sep (Many (fun t => HvR (hv t) (dealt n pg t)) n) R)))))))) w0 w' := by
  have p1 : 1 ≤ pg ∧ pg ≤ 60 := by omega
  have n1 : 1 ≤ n ∧ n ≤ 6 := by omega
  have hm : Lay.may (pg : Int) (n : Int) = true := Lay.may_iff.2 (by omega)
  have PS := plSetup60 x0 y0 hx0 hy0
  rw [hpg, hn] at PS
  have PA := fun (R : Res) (w0 u : World) (l : Loc R) (h : Own R w0 u) => plArenas l h pg (n : Int) hm
  generalize St.first (Lay.words (pg : Int) (n : Int)).toNat = s0 at *
  generalize ([(kOf 0 pg, ([] : List Nat).getD 0 0, ())] : RL) = rl at *
  have HPS := hide PS
  have HPA := hide PA
  have HO := hide h
  obtain ⟨i0, hi0, z00, z01, z02⟩ := info_parts infoInts
  obtain ⟨i1, hi1, z10, z11, z12⟩ := info_parts infoMach
  obtain ⟨i2, hi2, z20, z21, z22⟩ := info_parts infoBoolG
  clear PS PA h hm hpg hn
  go_enter Try.func6, Try.ntmps6
  go_wp2_with fail
  refine (HPS.out _).mono ?_
  rintro e w1 ⟨rfl, b1⟩
  obtain ⟨SO, hSO⟩ : ∃ SO : Obj, SO = .cells #[.int .i64 (pg : Int), .int .i64 (n : Int), .slice none 0 0] 75 (0, 0) := ⟨_, rfl⟩
  have HSO' := hide hSO
  have O1 : Hid (Own (Sep (BO w1.heap.size SO) R) w0 (w1.alloc (.cells #[.int .i64 (pg : Int), .int .i64 (n : Int), .slice none 0 0] 75))) := hide (Own.boNew lR (HO.out.below lR b1) (by rw [hSO]; exact heap_alloc_at _ _) (Nat.le_refl _) (grown1 _ _))
  clear hSO b1 HPS HO
  go_wp2_with fail
  generalize w1.alloc (.cells #[.int .i64 (pg : Int), .int .i64 (n : Int), .slice none 0 0] 75) = w2 at *
  generalize w1.heap.size = bs at *
  have lS : Loc (Sep (BO bs SO) R) := Loc.bo.sep lR
  refine (HPA.out _ _ _ lS O1.out).mono ?_
  rintro e w3 ⟨q, p, r, a, p', r', rfl, o3⟩
  have O3 := hide o3
  have HBS : Hid (∀ {R' : Res} {u : World} {R : Res}, Own R' w0 u → R' = Sep (BO bs SO) R → Cel bs 1 (.int .i64 (n : Int)) u) := hide (fun h e => by
    have := h.has e
    rw [HSO'.out] at this
    exact cell_of_heap this)
  have HBP : Hid (∀ {R' : Res} {u : World} {R : Res}, Own R' w0 u → R' = Sep (BO bs SO) R → Cel bs 0 (.int .i64 (pg : Int)) u) := hide (fun h e => by
    have := h.has e
    rw [HSO'.out] at this
    exact cell_of_heap this)
  have lB : Loc (Sep (AX q (pg : Int) (n : Int) p r s0 pg [] 1 rl) (Sep (MX a (pg : Int) (n : Int) p' r' s0 pg [] 1 rl) (Sep (BO bs SO) R))) := Loc.ax.sep (Loc.mx.sep lS)
  clear o3 O1 HPA
  go_upto_region 5 with fail
  go_cut [8] from 20 (fun r8 wc => ∃ gb gH gM gO gP, r8 = .pointer (some ⟨gb, 0, none⟩) ∧ Hid (Own (Sep (BO gb (gameO q a gH gM gO gP n)) (Sep (BO gH (.cells (rowN (n * 1) (fun _ => .slice none 0 0)) 54 (0, 0))) (Sep (BO gM (.cells (rowN (n * 3) (fun _ => .pointer none)) 47 (0, 0))) (Sep (BO gO (.cells (rowN (n * 1) (fun _ => .bool false)) 4 (0, 0))) (Sep (BO gP (.cells (rowN (n * 1) (fun _ => .bool false)) 4 (0, 0))) (Sep (AX q (pg : Int) (n : Int) p r s0 pg [] 1 rl) (Sep (MX a (pg : Int) (n : Int) p' r' s0 pg [] 1 rl) (Sep (BO bs SO) R)))))))) w0 wc))
  case first =>
    have O4 : Hid (Own (Sep (AX q (pg : Int) (n : Int) p r s0 pg [] 1 rl) (Sep (MX a (pg : Int) (n : Int) p' r' s0 pg [] 1 rl) (Sep (BO bs SO) R))) w0 w3.drew) := hide (O3.out.below lB ((Alike.drewN w3 1).below _))
    have J4 : Hid (Cel bs 1 (.int .i64 (n : Int)) w3.drew) := hide (HBS.out O4.out (R := (Sep (AX q (pg : Int) (n : Int) p r s0 pg [] 1 rl) (Sep (MX a (pg : Int) (n : Int) p' r' s0 pg [] 1 rl) R))) (by ac_rfl))
    have hne : Nonempty (Mem (Cel bs 1 (.int .i64 (n : Int)))) := ⟨⟨_, J4.out⟩⟩
    have US : ∀ u : Mem (Cel bs 1 (.int .i64 (n : Int))), u.w'.cell? ⟨bs, 1, none⟩ = some (.int .i64 (n : Int)) := fun u => u.h
    refine region_start (J := Cel bs 1 (.int .i64 (n : Int))) (by kernel_rfl) ?_
    refine stretch (fuel := 7) (by kernel_rfl) (fun _ _ _ _ _ h => h) J4.out [0, 1, 2, 3, 5, 6, 8, 9, 11, 12] (by kernel_rfl) ?_
    simp only [List.filterMap_cons, List.filterMap_nil, List.getElem?_toArray, List.getElem?_cons_zero, List.getElem?_cons_succ]
    show wpQuiet _ _ _ _ [_, _, _, _, _, _, _, _, _, _] _
    repeat (go_big_quiet_step (fail))
    refine wpQuiet_nil ?_
    refine wpAnyJ_all (is := [4, 7, 10, 13]) (by simp) (by kernel_rfl) ?_
    simp only [List.forall_mem_cons, List.not_mem_nil, false_imp_iff, implies_true, and_true]
    refine ⟨?_, ?_, ?_, ?_⟩
    · refine wpAnyJ_one rfl (fun K' hK => ?_)
      rw [if_pos (show Region.wanted _ _ = true from rfl)]
      refine makeN _ lB O4.out _ _ 33 rfl 54 i0 (.slice none 0 0) 1 Try.underlying33 hi0 z00 z01 n rfl rfl (by rw [z02]; omega) (by unfold maxLen; omega) (.slice none 0 0) rfl (by omega) ?_
      intro gH w5 o5
      have O5 := hide o5
      have J5 : Hid (Cel bs 1 (.int .i64 (n : Int)) w5) := hide (HBS.out o5 (R := (Sep (BO gH (.cells (rowN (n * 1) (fun _ => .slice none 0 0)) 54 (0, 0))) (Sep (AX q (pg : Int) (n : Int) p r s0 pg [] 1 rl) (Sep (MX a (pg : Int) (n : Int) p' r' s0 pg [] 1 rl) R)))) (by ac_rfl))
      clear o5
      refine hK _ _ J5.out ?_
      clear hK K'
      simp only [Act.put, List.getElem_toArray, List.getElem_cons_succ, List.getElem_cons_zero, List.setIfInBounds_toArray, List.set_cons_succ, List.set_cons_zero]
      refine wpAnyJ_all (is := [7, 10, 13]) (by simp) (by kernel_rfl) ?_
      simp only [List.forall_mem_cons, List.not_mem_nil, false_imp_iff, implies_true, and_true]
      refine ⟨?_, ?_, ?_⟩
      · refine wpAnyJ_one rfl (fun K' hK => ?_)
        rw [if_pos (show Region.wanted _ _ = true from rfl)]
        refine makeN _ (Loc.bo.sep lB) O5.out _ _ 34 rfl 47 i1 (.agg #[.pointer none, .pointer none, .pointer none]) 3 Try.underlying34 hi1 z10 z11 n rfl rfl (by rw [z12]; omega) (by unfold maxLen; omega) (.pointer none) rfl (by omega) ?_
        intro gM w6 o6
        have O6 := hide o6
        have J6 : Hid (Cel bs 1 (.int .i64 (n : Int)) w6) := hide (HBS.out o6 (R := (Sep (BO gM (.cells (rowN (n * 3) (fun _ => .pointer none)) 47 (0, 0))) (Sep (BO gH (.cells (rowN (n * 1) (fun _ => .slice none 0 0)) 54 (0, 0))) (Sep (AX q (pg : Int) (n : Int) p r s0 pg [] 1 rl) (Sep (MX a (pg : Int) (n : Int) p' r' s0 pg [] 1 rl) R))))) (by ac_rfl))
        clear o6
        refine hK _ _ J6.out ?_
        clear hK K'
        simp only [Act.put, List.getElem_toArray, List.getElem_cons_succ, List.getElem_cons_zero, List.setIfInBounds_toArray, List.set_cons_succ, List.set_cons_zero]
        refine wpAnyJ_all (is := [10, 13]) (by simp) (by kernel_rfl) ?_
        simp only [List.forall_mem_cons, List.not_mem_nil, false_imp_iff, implies_true, and_true]
        refine ⟨?_, ?_⟩
        · refine wpAnyJ_one rfl (fun K' hK => ?_)
          rw [if_pos (show Region.wanted _ _ = true from rfl)]
          refine makeN _ (Loc.bo.sep (Loc.bo.sep lB)) O6.out _ _ 35 rfl 4 i2 (.bool false) 1 Try.underlying35 hi2 z20 z21 n rfl rfl (by rw [z22]; omega) (by unfold maxLen; omega) (.bool false) rfl (by omega) ?_
          intro gO w7 o7
          have O7 := hide o7
          have J7 : Hid (Cel bs 1 (.int .i64 (n : Int)) w7) := hide (HBS.out o7 (R := (Sep (BO gO (.cells (rowN (n * 1) (fun _ => .bool false)) 4 (0, 0))) (Sep (BO gM (.cells (rowN (n * 3) (fun _ => .pointer none)) 47 (0, 0))) (Sep (BO gH (.cells (rowN (n * 1) (fun _ => .slice none 0 0)) 54 (0, 0))) (Sep (AX q (pg : Int) (n : Int) p r s0 pg [] 1 rl) (Sep (MX a (pg : Int) (n : Int) p' r' s0 pg [] 1 rl) R)))))) (by ac_rfl))
          clear o7
          refine hK _ _ J7.out ?_
          clear hK K'
          simp only [Act.put, List.getElem_toArray, List.getElem_cons_succ, List.getElem_cons_zero, List.setIfInBounds_toArray, List.set_cons_succ, List.set_cons_zero]
          refine wpAnyJ_all (is := [13]) (by simp) (by kernel_rfl) ?_
          simp only [List.forall_mem_cons, List.not_mem_nil, false_imp_iff, implies_true, and_true]
          refine wpAnyJ_one rfl (fun K' hK => ?_)
          rw [if_pos (show Region.wanted _ _ = true from rfl)]
          refine makeN _ (Loc.bo.sep (Loc.bo.sep (Loc.bo.sep lB))) O7.out _ _ 35 rfl 4 i2 (.bool false) 1 Try.underlying35 hi2 z20 z21 n rfl rfl (by rw [z22]; omega) (by unfold maxLen; omega) (.bool false) rfl (by omega) ?_
          intro gP w8 o8
          have O8 := hide o8
          have J8 : Hid (Cel bs 1 (.int .i64 (n : Int)) w8) := hide (HBS.out o8 (R := (Sep (BO gP (.cells (rowN (n * 1) (fun _ => .bool false)) 4 (0, 0))) (Sep (BO gO (.cells (rowN (n * 1) (fun _ => .bool false)) 4 (0, 0))) (Sep (BO gM (.cells (rowN (n * 3) (fun _ => .pointer none)) 47 (0, 0))) (Sep (BO gH (.cells (rowN (n * 1) (fun _ => .slice none 0 0)) 54 (0, 0))) (Sep (AX q (pg : Int) (n : Int) p r s0 pg [] 1 rl) (Sep (MX a (pg : Int) (n : Int) p' r' s0 pg [] 1 rl) R))))))) (by ac_rfl))
          clear o8
          refine hK _ _ J8.out ?_
          clear hK K'
          simp only [Act.put, List.getElem_toArray, List.getElem_cons_succ, List.getElem_cons_zero, List.setIfInBounds_toArray, List.set_cons_succ, List.set_cons_zero]
          refine stretch (fuel := 2) (by kernel_rfl) (fun _ _ _ _ _ h => h) J8.out [14] (by kernel_rfl) ?_
          simp only [List.filterMap_cons, List.filterMap_nil, List.getElem?_toArray, List.getElem?_cons_zero, List.getElem?_cons_succ]
          show wpQuiet _ _ _ _ [_] _
          repeat (go_big_quiet_step (fail))
          refine wpQuiet_nil ?_
          refine wpAnyJ_writer (i := 15) rfl (by kernel_rfl) (fun K' hK => ?_)
          go_simp
          have O9 : Hid (Own (Sep (BO w8.heap.size (gameO q a gH gM gO gP n)) (Sep (BO gP (.cells (rowN (n * 1) (fun _ => .bool false)) 4 (0, 0))) (Sep (BO gO (.cells (rowN (n * 1) (fun _ => .bool false)) 4 (0, 0))) (Sep (BO gM (.cells (rowN (n * 3) (fun _ => .pointer none)) 47 (0, 0))) (Sep (BO gH (.cells (rowN (n * 1) (fun _ => .slice none 0 0)) 54 (0, 0))) (Sep (AX q (pg : Int) (n : Int) p r s0 pg [] 1 rl) (Sep (MX a (pg : Int) (n : Int) p' r' s0 pg [] 1 rl) (Sep (BO bs SO) R)))))))) w0 (w8.alloc (.cells #[.pointer (some ⟨q, 0, none⟩), .pointer (some ⟨a, 0, none⟩), .slice (some ⟨gH, 0, none⟩) n n, .slice (some ⟨gM, 0, none⟩) n n, .slice (some ⟨gO, 0, none⟩) n n, .slice (some ⟨gP, 0, none⟩) n n] 37))) := hide (Own.boNew (Loc.bo.sep (Loc.bo.sep (Loc.bo.sep (Loc.bo.sep lB)))) O8.out (heap_alloc_at _ _) (Nat.le_refl _) (grown1 _ _))
          refine hK _ _ (HBS.out O9.out (R := Sep (BO w8.heap.size (gameO q a gH gM gO gP n)) (Sep (BO gP (.cells (rowN (n * 1) (fun _ => .bool false)) 4 (0, 0))) (Sep (BO gO (.cells (rowN (n * 1) (fun _ => .bool false)) 4 (0, 0))) (Sep (BO gM (.cells (rowN (n * 3) (fun _ => .pointer none)) 47 (0, 0))) (Sep (BO gH (.cells (rowN (n * 1) (fun _ => .slice none 0 0)) 54 (0, 0))) (Sep (AX q (pg : Int) (n : Int) p r s0 pg [] 1 rl) (Sep (MX a (pg : Int) (n : Int) p' r' s0 pg [] 1 rl) R))))))) (by ac_rfl)) ?_
          clear hK K'
          refine stretch (fuel := 0) (by kernel_rfl) (fun _ _ _ _ _ h => h) (HBS.out O9.out (R := Sep (BO w8.heap.size (gameO q a gH gM gO gP n)) (Sep (BO gP (.cells (rowN (n * 1) (fun _ => .bool false)) 4 (0, 0))) (Sep (BO gO (.cells (rowN (n * 1) (fun _ => .bool false)) 4 (0, 0))) (Sep (BO gM (.cells (rowN (n * 3) (fun _ => .pointer none)) 47 (0, 0))) (Sep (BO gH (.cells (rowN (n * 1) (fun _ => .slice none 0 0)) 54 (0, 0))) (Sep (AX q (pg : Int) (n : Int) p r s0 pg [] 1 rl) (Sep (MX a (pg : Int) (n : Int) p' r' s0 pg [] 1 rl) R))))))) (by ac_rfl)) [16] (by kernel_rfl) ?_
          simp only [List.filterMap_cons, List.filterMap_nil, List.getElem?_toArray, List.getElem?_cons_zero, List.getElem?_cons_succ]
          show wpQuiet _ _ _ _ [_] _
          repeat (go_big_quiet_step (fail))
          refine wpQuiet_nil ?_
          refine wpAnyJ_done (by kernel_rfl) ?_
          go_wp2
          go_meet
          exact ⟨_, gH, gM, gO, gP, rfl, O9.out.cast (by ac_rfl)⟩
        · refine wpAnyJ_one rfl (fun K' hK => ?_)
          rw [if_pos (show Region.wanted _ _ = true from rfl)]
          refine makeN _ (Loc.bo.sep (Loc.bo.sep lB)) O6.out _ _ 35 rfl 4 i2 (.bool false) 1 Try.underlying35 hi2 z20 z21 n rfl rfl (by rw [z22]; omega) (by unfold maxLen; omega) (.bool false) rfl (by omega) ?_
          intro gP w7 o7
          have O7 := hide o7
          have J7 : Hid (Cel bs 1 (.int .i64 (n : Int)) w7) := hide (HBS.out o7 (R := (Sep (BO gP (.cells (rowN (n * 1) (fun _ => .bool false)) 4 (0, 0))) (Sep (BO gM (.cells (rowN (n * 3) (fun _ => .pointer none)) 47 (0, 0))) (Sep (BO gH (.cells (rowN (n * 1) (fun _ => .slice none 0 0)) 54 (0, 0))) (Sep (AX q (pg : Int) (n : Int) p r s0 pg [] 1 rl) (Sep (MX a (pg : Int) (n : Int) p' r' s0 pg [] 1 rl) R)))))) (by ac_rfl))
          clear o7
          refine hK _ _ J7.out ?_
          clear hK K'
          simp only [Act.put, List.getElem_toArray, List.getElem_cons_succ, List.getElem_cons_zero, List.setIfInBounds_toArray, List.set_cons_succ, List.set_cons_zero]
          refine wpAnyJ_all (is := [10]) (by simp) (by kernel_rfl) ?_
          simp only [List.forall_mem_cons, List.not_mem_nil, false_imp_iff, implies_true, and_true]
          refine wpAnyJ_one rfl (fun K' hK => ?_)
          rw [if_pos (show Region.wanted _ _ = true from rfl)]
          refine makeN _ (Loc.bo.sep (Loc.bo.sep (Loc.bo.sep lB))) O7.out _ _ 35 rfl 4 i2 (.bool false) 1 Try.underlying35 hi2 z20 z21 n rfl rfl (by rw [z22]; omega) (by unfold maxLen; omega) (.bool false) rfl (by omega) ?_
          intro gO w8 o8
          have O8 := hide o8
          have J8 : Hid (Cel bs 1 (.int .i64 (n : Int)) w8) := hide (HBS.out o8 (R := (Sep (BO gO (.cells (rowN (n * 1) (fun _ => .bool false)) 4 (0, 0))) (Sep (BO gP (.cells (rowN (n * 1) (fun _ => .bool false)) 4 (0, 0))) (Sep (BO gM (.cells (rowN (n * 3) (fun _ => .pointer none)) 47 (0, 0))) (Sep (BO gH (.cells (rowN (n * 1) (fun _ => .slice none 0 0)) 54 (0, 0))) (Sep (AX q (pg : Int) (n : Int) p r s0 pg [] 1 rl) (Sep (MX a (pg : Int) (n : Int) p' r' s0 pg [] 1 rl) R))))))) (by ac_rfl))
          clear o8
          refine hK _ _ J8.out ?_
          clear hK K'
          simp only [Act.put, List.getElem_toArray, List.getElem_cons_succ, List.getElem_cons_zero, List.setIfInBounds_toArray, List.set_cons_succ, List.set_cons_zero]
          refine stretch (fuel := 2) (by kernel_rfl) (fun _ _ _ _ _ h => h) J8.out [14] (by kernel_rfl) ?_
          simp only [List.filterMap_cons, List.filterMap_nil, List.getElem?_toArray, List.getElem?_cons_zero, List.getElem?_cons_succ]
          show wpQuiet _ _ _ _ [_] _
          repeat (go_big_quiet_step (fail))
          refine wpQuiet_nil ?_
          refine wpAnyJ_writer (i := 15) rfl (by kernel_rfl) (fun K' hK => ?_)
          go_simp
          have O9 : Hid (Own (Sep (BO w8.heap.size (gameO q a gH gM gO gP n)) (Sep (BO gO (.cells (rowN (n * 1) (fun _ => .bool false)) 4 (0, 0))) (Sep (BO gP (.cells (rowN (n * 1) (fun _ => .bool false)) 4 (0, 0))) (Sep (BO gM (.cells (rowN (n * 3) (fun _ => .pointer none)) 47 (0, 0))) (Sep (BO gH (.cells (rowN (n * 1) (fun _ => .slice none 0 0)) 54 (0, 0))) (Sep (AX q (pg : Int) (n : Int) p r s0 pg [] 1 rl) (Sep (MX a (pg : Int) (n : Int) p' r' s0 pg [] 1 rl) (Sep (BO bs SO) R)))))))) w0 (w8.alloc (.cells #[.pointer (some ⟨q, 0, none⟩), .pointer (some ⟨a, 0, none⟩), .slice (some ⟨gH, 0, none⟩) n n, .slice (some ⟨gM, 0, none⟩) n n, .slice (some ⟨gO, 0, none⟩) n n, .slice (some ⟨gP, 0, none⟩) n n] 37))) := hide (Own.boNew (Loc.bo.sep (Loc.bo.sep (Loc.bo.sep (Loc.bo.sep lB)))) O8.out (heap_alloc_at _ _) (Nat.le_refl _) (grown1 _ _))
          refine hK _ _ (HBS.out O9.out (R := Sep (BO w8.heap.size (gameO q a gH gM gO gP n)) (Sep (BO gO (.cells (rowN (n * 1) (fun _ => .bool false)) 4 (0, 0))) (Sep (BO gP (.cells (rowN (n * 1) (fun _ => .bool false)) 4 (0, 0))) (Sep (BO gM (.cells (rowN (n * 3) (fun _ => .pointer none)) 47 (0, 0))) (Sep (BO gH (.cells (rowN (n * 1) (fun _ => .slice none 0 0)) 54 (0, 0))) (Sep (AX q (pg : Int) (n : Int) p r s0 pg [] 1 rl) (Sep (MX a (pg : Int) (n : Int) p' r' s0 pg [] 1 rl) R))))))) (by ac_rfl)) ?_
          clear hK K'
          refine stretch (fuel := 0) (by kernel_rfl) (fun _ _ _ _ _ h => h) (HBS.out O9.out (R := Sep (BO w8.heap.size (gameO q a gH gM gO gP n)) (Sep (BO gO (.cells (rowN (n * 1) (fun _ => .bool false)) 4 (0, 0))) (Sep (BO gP (.cells (rowN (n * 1) (fun _ => .bool false)) 4 (0, 0))) (Sep (BO gM (.cells (rowN (n * 3) (fun _ => .pointer none)) 47 (0, 0))) (Sep (BO gH (.cells (rowN (n * 1) (fun _ => .slice none 0 0)) 54 (0, 0))) (Sep (AX q (pg : Int) (n : Int) p r s0 pg [] 1 rl) (Sep (MX a (pg : Int) (n : Int) p' r' s0 pg [] 1 rl) R))))))) (by ac_rfl)) [16] (by kernel_rfl) ?_
          simp only [List.filterMap_cons, List.filterMap_nil, List.getElem?_toArray, List.getElem?_cons_zero, List.getElem?_cons_succ]
          show wpQuiet _ _ _ _ [_] _
          repeat (go_big_quiet_step (fail))
          refine wpQuiet_nil ?_
          refine wpAnyJ_done (by kernel_rfl) ?_
          go_wp2
          go_meet
          exact ⟨_, gH, gM, gO, gP, rfl, O9.out.cast (by ac_rfl)⟩
      · refine wpAnyJ_one rfl (fun K' hK => ?_)
        rw [if_pos (show Region.wanted _ _ = true from rfl)]
        refine makeN _ (Loc.bo.sep lB) O5.out _ _ 35 rfl 4 i2 (.bool false) 1 Try.underlying35 hi2 z20 z21 n rfl rfl (by rw [z22]; omega) (by unfold maxLen; omega) (.bool false) rfl (by omega) ?_
        intro gO w6 o6
        have O6 := hide o6
        have J6 : Hid (Cel bs 1 (.int .i64 (n : Int)) w6) := hide (HBS.out o6 (R := (Sep (BO gO (.cells (rowN (n * 1) (fun _ => .bool false)) 4 (0, 0))) (Sep (BO gH (.cells (rowN (n * 1) (fun _ => .slice none 0 0)) 54 (0, 0))) (Sep (AX q (pg : Int) (n : Int) p r s0 pg [] 1 rl) (Sep (MX a (pg : Int) (n : Int) p' r' s0 pg [] 1 rl) R))))) (by ac_rfl))
        clear o6
        refine hK _ _ J6.out ?_
        clear hK K'
        simp only [Act.put, List.getElem_toArray, List.getElem_cons_succ, List.getElem_cons_zero, List.setIfInBounds_toArray, List.set_cons_succ, List.set_cons_zero]
        refine wpAnyJ_all (is := [7, 13]) (by simp) (by kernel_rfl) ?_
        simp only [List.forall_mem_cons, List.not_mem_nil, false_imp_iff, implies_true, and_true]
        refine ⟨?_, ?_⟩
        · refine wpAnyJ_one rfl (fun K' hK => ?_)
          rw [if_pos (show Region.wanted _ _ = true from rfl)]
          refine makeN _ (Loc.bo.sep (Loc.bo.sep lB)) O6.out _ _ 34 rfl 47 i1 (.agg #[.pointer none, .pointer none, .pointer none]) 3 Try.underlying34 hi1 z10 z11 n rfl rfl (by rw [z12]; omega) (by unfold maxLen; omega) (.pointer none) rfl (by omega) ?_
          intro gM w7 o7
          have O7 := hide o7
          have J7 : Hid (Cel bs 1 (.int .i64 (n : Int)) w7) := hide (HBS.out o7 (R := (Sep (BO gM (.cells (rowN (n * 3) (fun _ => .pointer none)) 47 (0, 0))) (Sep (BO gO (.cells (rowN (n * 1) (fun _ => .bool false)) 4 (0, 0))) (Sep (BO gH (.cells (rowN (n * 1) (fun _ => .slice none 0 0)) 54 (0, 0))) (Sep (AX q (pg : Int) (n : Int) p r s0 pg [] 1 rl) (Sep (MX a (pg : Int) (n : Int) p' r' s0 pg [] 1 rl) R)))))) (by ac_rfl))
          clear o7
          refine hK _ _ J7.out ?_
          clear hK K'
          simp only [Act.put, List.getElem_toArray, List.getElem_cons_succ, List.getElem_cons_zero, List.setIfInBounds_toArray, List.set_cons_succ, List.set_cons_zero]
          refine wpAnyJ_all (is := [13]) (by simp) (by kernel_rfl) ?_
          simp only [List.forall_mem_cons, List.not_mem_nil, false_imp_iff, implies_true, and_true]
          refine wpAnyJ_one rfl (fun K' hK => ?_)
          rw [if_pos (show Region.wanted _ _ = true from rfl)]
          refine makeN _ (Loc.bo.sep (Loc.bo.sep (Loc.bo.sep lB))) O7.out _ _ 35 rfl 4 i2 (.bool false) 1 Try.underlying35 hi2 z20 z21 n rfl rfl (by rw [z22]; omega) (by unfold maxLen; omega) (.bool false) rfl (by omega) ?_
          intro gP w8 o8
          have O8 := hide o8
          have J8 : Hid (Cel bs 1 (.int .i64 (n : Int)) w8) := hide (HBS.out o8 (R := (Sep (BO gP (.cells (rowN (n * 1) (fun _ => .bool false)) 4 (0, 0))) (Sep (BO gM (.cells (rowN (n * 3) (fun _ => .pointer none)) 47 (0, 0))) (Sep (BO gO (.cells (rowN (n * 1) (fun _ => .bool false)) 4 (0, 0))) (Sep (BO gH (.cells (rowN (n * 1) (fun _ => .slice none 0 0)) 54 (0, 0))) (Sep (AX q (pg : Int) (n : Int) p r s0 pg [] 1 rl) (Sep (MX a (pg : Int) (n : Int) p' r' s0 pg [] 1 rl) R))))))) (by ac_rfl))
          clear o8
          refine hK _ _ J8.out ?_
          clear hK K'
          simp only [Act.put, List.getElem_toArray, List.getElem_cons_succ, List.getElem_cons_zero, List.setIfInBounds_toArray, List.set_cons_succ, List.set_cons_zero]
          refine stretch (fuel := 2) (by kernel_rfl) (fun _ _ _ _ _ h => h) J8.out [14] (by kernel_rfl) ?_
          simp only [List.filterMap_cons, List.filterMap_nil, List.getElem?_toArray, List.getElem?_cons_zero, List.getElem?_cons_succ]
          show wpQuiet _ _ _ _ [_] _
          repeat (go_big_quiet_step (fail))
          refine wpQuiet_nil ?_
          refine wpAnyJ_writer (i := 15) rfl (by kernel_rfl) (fun K' hK => ?_)
          go_simp
          have O9 : Hid (Own (Sep (BO w8.heap.size (gameO q a gH gM gO gP n)) (Sep (BO gP (.cells (rowN (n * 1) (fun _ => .bool false)) 4 (0, 0))) (Sep (BO gM (.cells (rowN (n * 3) (fun _ => .pointer none)) 47 (0, 0))) (Sep (BO gO (.cells (rowN (n * 1) (fun _ => .bool false)) 4 (0, 0))) (Sep (BO gH (.cells (rowN (n * 1) (fun _ => .slice none 0 0)) 54 (0, 0))) (Sep (AX q (pg : Int) (n : Int) p r s0 pg [] 1 rl) (Sep (MX a (pg : Int) (n : Int) p' r' s0 pg [] 1 rl) (Sep (BO bs SO) R)))))))) w0 (w8.alloc (.cells #[.pointer (some ⟨q, 0, none⟩), .pointer (some ⟨a, 0, none⟩), .slice (some ⟨gH, 0, none⟩) n n, .slice (some ⟨gM, 0, none⟩) n n, .slice (some ⟨gO, 0, none⟩) n n, .slice (some ⟨gP, 0, none⟩) n n] 37))) := hide (Own.boNew (Loc.bo.sep (Loc.bo.sep (Loc.bo.sep (Loc.bo.sep lB)))) O8.out (heap_alloc_at _ _) (Nat.le_refl _) (grown1 _ _))
          refine hK _ _ (HBS.out O9.out (R := Sep (BO w8.heap.size (gameO q a gH gM gO gP n)) (Sep (BO gP (.cells (rowN (n * 1) (fun _ => .bool false)) 4 (0, 0))) (Sep (BO gM (.cells (rowN (n * 3) (fun _ => .pointer none)) 47 (0, 0))) (Sep (BO gO (.cells (rowN (n * 1) (fun _ => .bool false)) 4 (0, 0))) (Sep (BO gH (.cells (rowN (n * 1) (fun _ => .slice none 0 0)) 54 (0, 0))) (Sep (AX q (pg : Int) (n : Int) p r s0 pg [] 1 rl) (Sep (MX a (pg : Int) (n : Int) p' r' s0 pg [] 1 rl) R))))))) (by ac_rfl)) ?_
          clear hK K'
          refine stretch (fuel := 0) (by kernel_rfl) (fun _ _ _ _ _ h => h) (HBS.out O9.out (R := Sep (BO w8.heap.size (gameO q a gH gM gO gP n)) (Sep (BO gP (.cells (rowN (n * 1) (fun _ => .bool false)) 4 (0, 0))) (Sep (BO gM (.cells (rowN (n * 3) (fun _ => .pointer none)) 47 (0, 0))) (Sep (BO gO (.cells (rowN (n * 1) (fun _ => .bool false)) 4 (0, 0))) (Sep (BO gH (.cells (rowN (n * 1) (fun _ => .slice none 0 0)) 54 (0, 0))) (Sep (AX q (pg : Int) (n : Int) p r s0 pg [] 1 rl) (Sep (MX a (pg : Int) (n : Int) p' r' s0 pg [] 1 rl) R))))))) (by ac_rfl)) [16] (by kernel_rfl) ?_
          simp only [List.filterMap_cons, List.filterMap_nil, List.getElem?_toArray, List.getElem?_cons_zero, List.getElem?_cons_succ]
          show wpQuiet _ _ _ _ [_] _
          repeat (go_big_quiet_step (fail))
          refine wpQuiet_nil ?_
          refine wpAnyJ_done (by kernel_rfl) ?_
          go_wp2
          go_meet
          exact ⟨_, gH, gM, gO, gP, rfl, O9.out.cast (by ac_rfl)⟩
        · refine wpAnyJ_one rfl (fun K' hK => ?_)
          rw [if_pos (show Region.wanted _ _ = true from rfl)]
          refine makeN _ (Loc.bo.sep (Loc.bo.sep lB)) O6.out _ _ 35 rfl 4 i2 (.bool false) 1 Try.underlying35 hi2 z20 z21 n rfl rfl (by rw [z22]; omega) (by unfold maxLen; omega) (.bool false) rfl (by omega) ?_
          intro gP w7 o7
          have O7 := hide o7
          have J7 : Hid (Cel bs 1 (.int .i64 (n : Int)) w7) := hide (HBS.out o7 (R := (Sep (BO gP (.cells (rowN (n * 1) (fun _ => .bool false)) 4 (0, 0))) (Sep (BO gO (.cells (rowN (n * 1) (fun _ => .bool false)) 4 (0, 0))) (Sep (BO gH (.cells (rowN (n * 1) (fun _ => .slice none 0 0)) 54 (0, 0))) (Sep (AX q (pg : Int) (n : Int) p r s0 pg [] 1 rl) (Sep (MX a (pg : Int) (n : Int) p' r' s0 pg [] 1 rl) R)))))) (by ac_rfl))
          clear o7
          refine hK _ _ J7.out ?_
          clear hK K'
          simp only [Act.put, List.getElem_toArray, List.getElem_cons_succ, List.getElem_cons_zero, List.setIfInBounds_toArray, List.set_cons_succ, List.set_cons_zero]
          refine wpAnyJ_all (is := [7]) (by simp) (by kernel_rfl) ?_
          simp only [List.forall_mem_cons, List.not_mem_nil, false_imp_iff, implies_true, and_true]
          refine wpAnyJ_one rfl (fun K' hK => ?_)
          rw [if_pos (show Region.wanted _ _ = true from rfl)]
          refine makeN _ (Loc.bo.sep (Loc.bo.sep (Loc.bo.sep lB))) O7.out _ _ 34 rfl 47 i1 (.agg #[.pointer none, .pointer none, .pointer none]) 3 Try.underlying34 hi1 z10 z11 n rfl rfl (by rw [z12]; omega) (by unfold maxLen; omega) (.pointer none) rfl (by omega) ?_
          intro gM w8 o8
          have O8 := hide o8
          have J8 : Hid (Cel bs 1 (.int .i64 (n : Int)) w8) := hide (HBS.out o8 (R := (Sep (BO gM (.cells (rowN (n * 3) (fun _ => .pointer none)) 47 (0, 0))) (Sep (BO gP (.cells (rowN (n * 1) (fun _ => .bool false)) 4 (0, 0))) (Sep (BO gO (.cells (rowN (n * 1) (fun _ => .bool false)) 4 (0, 0))) (Sep (BO gH (.cells (rowN (n * 1) (fun _ => .slice none 0 0)) 54 (0, 0))) (Sep (AX q (pg : Int) (n : Int) p r s0 pg [] 1 rl) (Sep (MX a (pg : Int) (n : Int) p' r' s0 pg [] 1 rl) R))))))) (by ac_rfl))
          clear o8
          refine hK _ _ J8.out ?_
          clear hK K'
          simp only [Act.put, List.getElem_toArray, List.getElem_cons_succ, List.getElem_cons_zero, List.setIfInBounds_toArray, List.set_cons_succ, List.set_cons_zero]
          refine stretch (fuel := 2) (by kernel_rfl) (fun _ _ _ _ _ h => h) J8.out [14] (by kernel_rfl) ?_
          simp only [List.filterMap_cons, List.filterMap_nil, List.getElem?_toArray, List.getElem?_cons_zero, List.getElem?_cons_succ]
          show wpQuiet _ _ _ _ [_] _
          repeat (go_big_quiet_step (fail))
          refine wpQuiet_nil ?_
          refine wpAnyJ_writer (i := 15) rfl (by kernel_rfl) (fun K' hK => ?_)
          go_simp
          have O9 : Hid (Own (Sep (BO w8.heap.size (gameO q a gH gM gO gP n)) (Sep (BO gM (.cells (rowN (n * 3) (fun _ => .pointer none)) 47 (0, 0))) (Sep (BO gP (.cells (rowN (n * 1) (fun _ => .bool false)) 4 (0, 0))) (Sep (BO gO (.cells (rowN (n * 1) (fun _ => .bool false)) 4 (0, 0))) (Sep (BO gH (.cells (rowN (n * 1) (fun _ => .slice none 0 0)) 54 (0, 0))) (Sep (AX q (pg : Int) (n : Int) p r s0 pg [] 1 rl) (Sep (MX a (pg : Int) (n : Int) p' r' s0 pg [] 1 rl) (Sep (BO bs SO) R)))))))) w0 (w8.alloc (.cells #[.pointer (some ⟨q, 0, none⟩), .pointer (some ⟨a, 0, none⟩), .slice (some ⟨gH, 0, none⟩) n n, .slice (some ⟨gM, 0, none⟩) n n, .slice (some ⟨gO, 0, none⟩) n n, .slice (some ⟨gP, 0, none⟩) n n] 37))) := hide (Own.boNew (Loc.bo.sep (Loc.bo.sep (Loc.bo.sep (Loc.bo.sep lB)))) O8.out (heap_alloc_at _ _) (Nat.le_refl _) (grown1 _ _))
          refine hK _ _ (HBS.out O9.out (R := Sep (BO w8.heap.size (gameO q a gH gM gO gP n)) (Sep (BO gM (.cells (rowN (n * 3) (fun _ => .pointer none)) 47 (0, 0))) (Sep (BO gP (.cells (rowN (n * 1) (fun _ => .bool false)) 4 (0, 0))) (Sep (BO gO (.cells (rowN (n * 1) (fun _ => .bool false)) 4 (0, 0))) (Sep (BO gH (.cells (rowN (n * 1) (fun _ => .slice none 0 0)) 54 (0, 0))) (Sep (AX q (pg : Int) (n : Int) p r s0 pg [] 1 rl) (Sep (MX a (pg : Int) (n : Int) p' r' s0 pg [] 1 rl) R))))))) (by ac_rfl)) ?_
          clear hK K'
          refine stretch (fuel := 0) (by kernel_rfl) (fun _ _ _ _ _ h => h) (HBS.out O9.out (R := Sep (BO w8.heap.size (gameO q a gH gM gO gP n)) (Sep (BO gM (.cells (rowN (n * 3) (fun _ => .pointer none)) 47 (0, 0))) (Sep (BO gP (.cells (rowN (n * 1) (fun _ => .bool false)) 4 (0, 0))) (Sep (BO gO (.cells (rowN (n * 1) (fun _ => .bool false)) 4 (0, 0))) (Sep (BO gH (.cells (rowN (n * 1) (fun _ => .slice none 0 0)) 54 (0, 0))) (Sep (AX q (pg : Int) (n : Int) p r s0 pg [] 1 rl) (Sep (MX a (pg : Int) (n : Int) p' r' s0 pg [] 1 rl) R))))))) (by ac_rfl)) [16] (by kernel_rfl) ?_
          simp only [List.filterMap_cons, List.filterMap_nil, List.getElem?_toArray, List.getElem?_cons_zero, List.getElem?_cons_succ]
          show wpQuiet _ _ _ _ [_] _
          repeat (go_big_quiet_step (fail))
          refine wpQuiet_nil ?_
          refine wpAnyJ_done (by kernel_rfl) ?_
          go_wp2
          go_meet
          exact ⟨_, gH, gM, gO, gP, rfl, O9.out.cast (by ac_rfl)⟩
      · refine wpAnyJ_one rfl (fun K' hK => ?_)
        rw [if_pos (show Region.wanted _ _ = true from rfl)]
        refine makeN _ (Loc.bo.sep lB) O5.out _ _ 35 rfl 4 i2 (.bool false) 1 Try.underlying35 hi2 z20 z21 n rfl rfl (by rw [z22]; omega) (by unfold maxLen; omega) (.bool false) rfl (by omega) ?_
        intro gP w6 o6
        have O6 := hide o6
        have J6 : Hid (Cel bs 1 (.int .i64 (n : Int)) w6) := hide (HBS.out o6 (R := (Sep (BO gP (.cells (rowN (n * 1) (fun _ => .bool false)) 4 (0, 0))) (Sep (BO gH (.cells (rowN (n * 1) (fun _ => .slice none 0 0)) 54 (0, 0))) (Sep (AX q (pg : Int) (n : Int) p r s0 pg [] 1 rl) (Sep (MX a (pg : Int) (n : Int) p' r' s0 pg [] 1 rl) R))))) (by ac_rfl))
        clear o6
        refine hK _ _ J6.out ?_
        clear hK K'
        simp only [Act.put, List.getElem_toArray, List.getElem_cons_succ, List.getElem_cons_zero, List.setIfInBounds_toArray, List.set_cons_succ, List.set_cons_zero]
        refine wpAnyJ_all (is := [7, 10]) (by simp) (by kernel_rfl) ?_
        simp only [List.forall_mem_cons, List.not_mem_nil, false_imp_iff, implies_true, and_true]
        refine ⟨?_, ?_⟩
        · refine wpAnyJ_one rfl (fun K' hK => ?_)
          rw [if_pos (show Region.wanted _ _ = true from rfl)]
          refine makeN _ (Loc.bo.sep (Loc.bo.sep lB)) O6.out _ _ 34 rfl 47 i1 (.agg #[.pointer none, .pointer none, .pointer none]) 3 Try.underlying34 hi1 z10 z11 n rfl rfl (by rw [z12]; omega) (by unfold maxLen; omega) (.pointer none) rfl (by omega) ?_
          intro gM w7 o7
          have O7 := hide o7
          have J7 : Hid (Cel bs 1 (.int .i64 (n : Int)) w7) := hide (HBS.out o7 (R := (Sep (BO gM (.cells (rowN (n * 3) (fun _ => .pointer none)) 47 (0, 0))) (Sep (BO gP (.cells (rowN (n * 1) (fun _ => .bool false)) 4 (0, 0))) (Sep (BO gH (.cells (rowN (n * 1) (fun _ => .slice none 0 0)) 54 (0, 0))) (Sep (AX q (pg : Int) (n : Int) p r s0 pg [] 1 rl) (Sep (MX a (pg : Int) (n : Int) p' r' s0 pg [] 1 rl) R)))))) (by ac_rfl))
          clear o7
          refine hK _ _ J7.out ?_
          clear hK K'
          simp only [Act.put, List.getElem_toArray, List.getElem_cons_succ, List.getElem_cons_zero, List.setIfInBounds_toArray, List.set_cons_succ, List.set_cons_zero]
          refine wpAnyJ_all (is := [10]) (by simp) (by kernel_rfl) ?_
          simp only [List.forall_mem_cons, List.not_mem_nil, false_imp_iff, implies_true, and_true]
          refine wpAnyJ_one rfl (fun K' hK => ?_)
          rw [if_pos (show Region.wanted _ _ = true from rfl)]
          refine makeN _ (Loc.bo.sep (Loc.bo.sep (Loc.bo.sep lB))) O7.out _ _ 35 rfl 4 i2 (.bool false) 1 Try.underlying35 hi2 z20 z21 n rfl rfl (by rw [z22]; omega) (by unfold maxLen; omega) (.bool false) rfl (by omega) ?_
          intro gO w8 o8
          have O8 := hide o8
          have J8 : Hid (Cel bs 1 (.int .i64 (n : Int)) w8) := hide (HBS.out o8 (R := (Sep (BO gO (.cells (rowN (n * 1) (fun _ => .bool false)) 4 (0, 0))) (Sep (BO gM (.cells (rowN (n * 3) (fun _ => .pointer none)) 47 (0, 0))) (Sep (BO gP (.cells (rowN (n * 1) (fun _ => .bool false)) 4 (0, 0))) (Sep (BO gH (.cells (rowN (n * 1) (fun _ => .slice none 0 0)) 54 (0, 0))) (Sep (AX q (pg : Int) (n : Int) p r s0 pg [] 1 rl) (Sep (MX a (pg : Int) (n : Int) p' r' s0 pg [] 1 rl) R))))))) (by ac_rfl))
          clear o8
          refine hK _ _ J8.out ?_
          clear hK K'
          simp only [Act.put, List.getElem_toArray, List.getElem_cons_succ, List.getElem_cons_zero, List.setIfInBounds_toArray, List.set_cons_succ, List.set_cons_zero]
          refine stretch (fuel := 2) (by kernel_rfl) (fun _ _ _ _ _ h => h) J8.out [14] (by kernel_rfl) ?_
          simp only [List.filterMap_cons, List.filterMap_nil, List.getElem?_toArray, List.getElem?_cons_zero, List.getElem?_cons_succ]
          show wpQuiet _ _ _ _ [_] _
          repeat (go_big_quiet_step (fail))
          refine wpQuiet_nil ?_
          refine wpAnyJ_writer (i := 15) rfl (by kernel_rfl) (fun K' hK => ?_)
          go_simp
          have O9 : Hid (Own (Sep (BO w8.heap.size (gameO q a gH gM gO gP n)) (Sep (BO gO (.cells (rowN (n * 1) (fun _ => .bool false)) 4 (0, 0))) (Sep (BO gM (.cells (rowN (n * 3) (fun _ => .pointer none)) 47 (0, 0))) (Sep (BO gP (.cells (rowN (n * 1) (fun _ => .bool false)) 4 (0, 0))) (Sep (BO gH (.cells (rowN (n * 1) (fun _ => .slice none 0 0)) 54 (0, 0))) (Sep (AX q (pg : Int) (n : Int) p r s0 pg [] 1 rl) (Sep (MX a (pg : Int) (n : Int) p' r' s0 pg [] 1 rl) (Sep (BO bs SO) R)))))))) w0 (w8.alloc (.cells #[.pointer (some ⟨q, 0, none⟩), .pointer (some ⟨a, 0, none⟩), .slice (some ⟨gH, 0, none⟩) n n, .slice (some ⟨gM, 0, none⟩) n n, .slice (some ⟨gO, 0, none⟩) n n, .slice (some ⟨gP, 0, none⟩) n n] 37))) := hide (Own.boNew (Loc.bo.sep (Loc.bo.sep (Loc.bo.sep (Loc.bo.sep lB)))) O8.out (heap_alloc_at _ _) (Nat.le_refl _) (grown1 _ _))
          refine hK _ _ (HBS.out O9.out (R := Sep (BO w8.heap.size (gameO q a gH gM gO gP n)) (Sep (BO gO (.cells (rowN (n * 1) (fun _ => .bool false)) 4 (0, 0))) (Sep (BO gM (.cells (rowN (n * 3) (fun _ => .pointer none)) 47 (0, 0))) (Sep (BO gP (.cells (rowN (n * 1) (fun _ => .bool false)) 4 (0, 0))) (Sep (BO gH (.cells (rowN (n * 1) (fun _ => .slice none 0 0)) 54 (0, 0))) (Sep (AX q (pg : Int) (n : Int) p r s0 pg [] 1 rl) (Sep (MX a (pg : Int) (n : Int) p' r' s0 pg [] 1 rl) R))))))) (by ac_rfl)) ?_
          clear hK K'
          refine stretch (fuel := 0) (by kernel_rfl) (fun _ _ _ _ _ h => h) (HBS.out O9.out (R := Sep (BO w8.heap.size (gameO q a gH gM gO gP n)) (Sep (BO gO (.cells (rowN (n * 1) (fun _ => .bool false)) 4 (0, 0))) (Sep (BO gM (.cells (rowN (n * 3) (fun _ => .pointer none)) 47 (0, 0))) (Sep (BO gP (.cells (rowN (n * 1) (fun _ => .bool false)) 4 (0, 0))) (Sep (BO gH (.cells (rowN (n * 1) (fun _ => .slice none 0 0)) 54 (0, 0))) (Sep (AX q (pg : Int) (n : Int) p r s0 pg [] 1 rl) (Sep (MX a (pg : Int) (n : Int) p' r' s0 pg [] 1 rl) R))))))) (by ac_rfl)) [16] (by kernel_rfl) ?_
          simp only [List.filterMap_cons, List.filterMap_nil, List.getElem?_toArray, List.getElem?_cons_zero, List.getElem?_cons_succ]
          show wpQuiet _ _ _ _ [_] _
          repeat (go_big_quiet_step (fail))
          refine wpQuiet_nil ?_
          refine wpAnyJ_done (by kernel_rfl) ?_
          go_wp2
          go_meet
          exact ⟨_, gH, gM, gO, gP, rfl, O9.out.cast (by ac_rfl)⟩
        · refine wpAnyJ_one rfl (fun K' hK => ?_)
          rw [if_pos (show Region.wanted _ _ = true from rfl)]
          refine makeN _ (Loc.bo.sep (Loc.bo.sep lB)) O6.out _ _ 35 rfl 4 i2 (.bool false) 1 Try.underlying35 hi2 z20 z21 n rfl rfl (by rw [z22]; omega) (by unfold maxLen; omega) (.bool false) rfl (by omega) ?_
          intro gO w7 o7
          have O7 := hide o7
          have J7 : Hid (Cel bs 1 (.int .i64 (n : Int)) w7) := hide (HBS.out o7 (R := (Sep (BO gO (.cells (rowN (n * 1) (fun _ => .bool false)) 4 (0, 0))) (Sep (BO gP (.cells (rowN (n * 1) (fun _ => .bool false)) 4 (0, 0))) (Sep (BO gH (.cells (rowN (n * 1) (fun _ => .slice none 0 0)) 54 (0, 0))) (Sep (AX q (pg : Int) (n : Int) p r s0 pg [] 1 rl) (Sep (MX a (pg : Int) (n : Int) p' r' s0 pg [] 1 rl) R)))))) (by ac_rfl))
          clear o7
          refine hK _ _ J7.out ?_
          clear hK K'
          simp only [Act.put, List.getElem_toArray, List.getElem_cons_succ, List.getElem_cons_zero, List.setIfInBounds_toArray, List.set_cons_succ, List.set_cons_zero]
          refine wpAnyJ_all (is := [7]) (by simp) (by kernel_rfl) ?_
          simp only [List.forall_mem_cons, List.not_mem_nil, false_imp_iff, implies_true, and_true]
          refine wpAnyJ_one rfl (fun K' hK => ?_)
          rw [if_pos (show Region.wanted _ _ = true from rfl)]
          refine makeN _ (Loc.bo.sep (Loc.bo.sep (Loc.bo.sep lB))) O7.out _ _ 34 rfl 47 i1 (.agg #[.pointer none, .pointer none, .pointer none]) 3 Try.underlying34 hi1 z10 z11 n rfl rfl (by rw [z12]; omega) (by unfold maxLen; omega) (.pointer none) rfl (by omega) ?_
          intro gM w8 o8
          have O8 := hide o8
          have J8 : Hid (Cel bs 1 (.int .i64 (n : Int)) w8) := hide (HBS.out o8 (R := (Sep (BO gM (.cells (rowN (n * 3) (fun _ => .pointer none)) 47 (0, 0))) (Sep (BO gO (.cells (rowN (n * 1) (fun _ => .bool false)) 4 (0, 0))) (Sep (BO gP (.cells (rowN (n * 1) (fun _ => .bool false)) 4 (0, 0))) (Sep (BO gH (.cells (rowN (n * 1) (fun _ => .slice none 0 0)) 54 (0, 0))) (Sep (AX q (pg : Int) (n : Int) p r s0 pg [] 1 rl) (Sep (MX a (pg : Int) (n : Int) p' r' s0 pg [] 1 rl) R))))))) (by ac_rfl))
          clear o8
          refine hK _ _ J8.out ?_
          clear hK K'
          simp only [Act.put, List.getElem_toArray, List.getElem_cons_succ, List.getElem_cons_zero, List.setIfInBounds_toArray, List.set_cons_succ, List.set_cons_zero]
          refine stretch (fuel := 2) (by kernel_rfl) (fun _ _ _ _ _ h => h) J8.out [14] (by kernel_rfl) ?_
          simp only [List.filterMap_cons, List.filterMap_nil, List.getElem?_toArray, List.getElem?_cons_zero, List.getElem?_cons_succ]
          show wpQuiet _ _ _ _ [_] _
          repeat (go_big_quiet_step (fail))
          refine wpQuiet_nil ?_
          refine wpAnyJ_writer (i := 15) rfl (by kernel_rfl) (fun K' hK => ?_)
          go_simp
          have O9 : Hid (Own (Sep (BO w8.heap.size (gameO q a gH gM gO gP n)) (Sep (BO gM (.cells (rowN (n * 3) (fun _ => .pointer none)) 47 (0, 0))) (Sep (BO gO (.cells (rowN (n * 1) (fun _ => .bool false)) 4 (0, 0))) (Sep (BO gP (.cells (rowN (n * 1) (fun _ => .bool false)) 4 (0, 0))) (Sep (BO gH (.cells (rowN (n * 1) (fun _ => .slice none 0 0)) 54 (0, 0))) (Sep (AX q (pg : Int) (n : Int) p r s0 pg [] 1 rl) (Sep (MX a (pg : Int) (n : Int) p' r' s0 pg [] 1 rl) (Sep (BO bs SO) R)))))))) w0 (w8.alloc (.cells #[.pointer (some ⟨q, 0, none⟩), .pointer (some ⟨a, 0, none⟩), .slice (some ⟨gH, 0, none⟩) n n, .slice (some ⟨gM, 0, none⟩) n n, .slice (some ⟨gO, 0, none⟩) n n, .slice (some ⟨gP, 0, none⟩) n n] 37))) := hide (Own.boNew (Loc.bo.sep (Loc.bo.sep (Loc.bo.sep (Loc.bo.sep lB)))) O8.out (heap_alloc_at _ _) (Nat.le_refl _) (grown1 _ _))
          refine hK _ _ (HBS.out O9.out (R := Sep (BO w8.heap.size (gameO q a gH gM gO gP n)) (Sep (BO gM (.cells (rowN (n * 3) (fun _ => .pointer none)) 47 (0, 0))) (Sep (BO gO (.cells (rowN (n * 1) (fun _ => .bool false)) 4 (0, 0))) (Sep (BO gP (.cells (rowN (n * 1) (fun _ => .bool false)) 4 (0, 0))) (Sep (BO gH (.cells (rowN (n * 1) (fun _ => .slice none 0 0)) 54 (0, 0))) (Sep (AX q (pg : Int) (n : Int) p r s0 pg [] 1 rl) (Sep (MX a (pg : Int) (n : Int) p' r' s0 pg [] 1 rl) R))))))) (by ac_rfl)) ?_
          clear hK K'
          refine stretch (fuel := 0) (by kernel_rfl) (fun _ _ _ _ _ h => h) (HBS.out O9.out (R := Sep (BO w8.heap.size (gameO q a gH gM gO gP n)) (Sep (BO gM (.cells (rowN (n * 3) (fun _ => .pointer none)) 47 (0, 0))) (Sep (BO gO (.cells (rowN (n * 1) (fun _ => .bool false)) 4 (0, 0))) (Sep (BO gP (.cells (rowN (n * 1) (fun _ => .bool false)) 4 (0, 0))) (Sep (BO gH (.cells (rowN (n * 1) (fun _ => .slice none 0 0)) 54 (0, 0))) (Sep (AX q (pg : Int) (n : Int) p r s0 pg [] 1 rl) (Sep (MX a (pg : Int) (n : Int) p' r' s0 pg [] 1 rl) R))))))) (by ac_rfl)) [16] (by kernel_rfl) ?_
          simp only [List.filterMap_cons, List.filterMap_nil, List.getElem?_toArray, List.getElem?_cons_zero, List.getElem?_cons_succ]
          show wpQuiet _ _ _ _ [_] _
          repeat (go_big_quiet_step (fail))
          refine wpQuiet_nil ?_
          refine wpAnyJ_done (by kernel_rfl) ?_
          go_wp2
          go_meet
          exact ⟨_, gH, gM, gO, gP, rfl, O9.out.cast (by ac_rfl)⟩
    · refine wpAnyJ_one rfl (fun K' hK => ?_)
      rw [if_pos (show Region.wanted _ _ = true from rfl)]
      refine makeN _ lB O4.out _ _ 34 rfl 47 i1 (.agg #[.pointer none, .pointer none, .pointer none]) 3 Try.underlying34 hi1 z10 z11 n rfl rfl (by rw [z12]; omega) (by unfold maxLen; omega) (.pointer none) rfl (by omega) ?_
      intro gM w5 o5
      have O5 := hide o5
      have J5 : Hid (Cel bs 1 (.int .i64 (n : Int)) w5) := hide (HBS.out o5 (R := (Sep (BO gM (.cells (rowN (n * 3) (fun _ => .pointer none)) 47 (0, 0))) (Sep (AX q (pg : Int) (n : Int) p r s0 pg [] 1 rl) (Sep (MX a (pg : Int) (n : Int) p' r' s0 pg [] 1 rl) R)))) (by ac_rfl))
      clear o5
      refine hK _ _ J5.out ?_
      clear hK K'
      simp only [Act.put, List.getElem_toArray, List.getElem_cons_succ, List.getElem_cons_zero, List.setIfInBounds_toArray, List.set_cons_succ, List.set_cons_zero]
      refine wpAnyJ_all (is := [4, 10, 13]) (by simp) (by kernel_rfl) ?_
      simp only [List.forall_mem_cons, List.not_mem_nil, false_imp_iff, implies_true, and_true]
      refine ⟨?_, ?_, ?_⟩
      · refine wpAnyJ_one rfl (fun K' hK => ?_)
        rw [if_pos (show Region.wanted _ _ = true from rfl)]
        refine makeN _ (Loc.bo.sep lB) O5.out _ _ 33 rfl 54 i0 (.slice none 0 0) 1 Try.underlying33 hi0 z00 z01 n rfl rfl (by rw [z02]; omega) (by unfold maxLen; omega) (.slice none 0 0) rfl (by omega) ?_
        intro gH w6 o6
        have O6 := hide o6
        have J6 : Hid (Cel bs 1 (.int .i64 (n : Int)) w6) := hide (HBS.out o6 (R := (Sep (BO gH (.cells (rowN (n * 1) (fun _ => .slice none 0 0)) 54 (0, 0))) (Sep (BO gM (.cells (rowN (n * 3) (fun _ => .pointer none)) 47 (0, 0))) (Sep (AX q (pg : Int) (n : Int) p r s0 pg [] 1 rl) (Sep (MX a (pg : Int) (n : Int) p' r' s0 pg [] 1 rl) R))))) (by ac_rfl))
        clear o6
        refine hK _ _ J6.out ?_
        clear hK K'
        simp only [Act.put, List.getElem_toArray, List.getElem_cons_succ, List.getElem_cons_zero, List.setIfInBounds_toArray, List.set_cons_succ, List.set_cons_zero]
        refine wpAnyJ_all (is := [10, 13]) (by simp) (by kernel_rfl) ?_
        simp only [List.forall_mem_cons, List.not_mem_nil, false_imp_iff, implies_true, and_true]
        refine ⟨?_, ?_⟩
        · refine wpAnyJ_one rfl (fun K' hK => ?_)
          rw [if_pos (show Region.wanted _ _ = true from rfl)]
          refine makeN _ (Loc.bo.sep (Loc.bo.sep lB)) O6.out _ _ 35 rfl 4 i2 (.bool false) 1 Try.underlying35 hi2 z20 z21 n rfl rfl (by rw [z22]; omega) (by unfold maxLen; omega) (.bool false) rfl (by omega) ?_
          intro gO w7 o7
          have O7 := hide o7
          have J7 : Hid (Cel bs 1 (.int .i64 (n : Int)) w7) := hide (HBS.out o7 (R := (Sep (BO gO (.cells (rowN (n * 1) (fun _ => .bool false)) 4 (0, 0))) (Sep (BO gH (.cells (rowN (n * 1) (fun _ => .slice none 0 0)) 54 (0, 0))) (Sep (BO gM (.cells (rowN (n * 3) (fun _ => .pointer none)) 47 (0, 0))) (Sep (AX q (pg : Int) (n : Int) p r s0 pg [] 1 rl) (Sep (MX a (pg : Int) (n : Int) p' r' s0 pg [] 1 rl) R)))))) (by ac_rfl))
          clear o7
          refine hK _ _ J7.out ?_
          clear hK K'
          simp only [Act.put, List.getElem_toArray, List.getElem_cons_succ, List.getElem_cons_zero, List.setIfInBounds_toArray, List.set_cons_succ, List.set_cons_zero]
          refine wpAnyJ_all (is := [13]) (by simp) (by kernel_rfl) ?_
          simp only [List.forall_mem_cons, List.not_mem_nil, false_imp_iff, implies_true, and_true]
          refine wpAnyJ_one rfl (fun K' hK => ?_)
          rw [if_pos (show Region.wanted _ _ = true from rfl)]
          refine makeN _ (Loc.bo.sep (Loc.bo.sep (Loc.bo.sep lB))) O7.out _ _ 35 rfl 4 i2 (.bool false) 1 Try.underlying35 hi2 z20 z21 n rfl rfl (by rw [z22]; omega) (by unfold maxLen; omega) (.bool false) rfl (by omega) ?_
          intro gP w8 o8
          have O8 := hide o8
          have J8 : Hid (Cel bs 1 (.int .i64 (n : Int)) w8) := hide (HBS.out o8 (R := (Sep (BO gP (.cells (rowN (n * 1) (fun _ => .bool false)) 4 (0, 0))) (Sep (BO gO (.cells (rowN (n * 1) (fun _ => .bool false)) 4 (0, 0))) (Sep (BO gH (.cells (rowN (n * 1) (fun _ => .slice none 0 0)) 54 (0, 0))) (Sep (BO gM (.cells (rowN (n * 3) (fun _ => .pointer none)) 47 (0, 0))) (Sep (AX q (pg : Int) (n : Int) p r s0 pg [] 1 rl) (Sep (MX a (pg : Int) (n : Int) p' r' s0 pg [] 1 rl) R))))))) (by ac_rfl))
          clear o8
          refine hK _ _ J8.out ?_
          clear hK K'
          simp only [Act.put, List.getElem_toArray, List.getElem_cons_succ, List.getElem_cons_zero, List.setIfInBounds_toArray, List.set_cons_succ, List.set_cons_zero]
          refine stretch (fuel := 2) (by kernel_rfl) (fun _ _ _ _ _ h => h) J8.out [14] (by kernel_rfl) ?_
          simp only [List.filterMap_cons, List.filterMap_nil, List.getElem?_toArray, List.getElem?_cons_zero, List.getElem?_cons_succ]
          show wpQuiet _ _ _ _ [_] _
          repeat (go_big_quiet_step (fail))
          refine wpQuiet_nil ?_
          refine wpAnyJ_writer (i := 15) rfl (by kernel_rfl) (fun K' hK => ?_)
          go_simp
          have O9 : Hid (Own (Sep (BO w8.heap.size (gameO q a gH gM gO gP n)) (Sep (BO gP (.cells (rowN (n * 1) (fun _ => .bool false)) 4 (0, 0))) (Sep (BO gO (.cells (rowN (n * 1) (fun _ => .bool false)) 4 (0, 0))) (Sep (BO gH (.cells (rowN (n * 1) (fun _ => .slice none 0 0)) 54 (0, 0))) (Sep (BO gM (.cells (rowN (n * 3) (fun _ => .pointer none)) 47 (0, 0))) (Sep (AX q (pg : Int) (n : Int) p r s0 pg [] 1 rl) (Sep (MX a (pg : Int) (n : Int) p' r' s0 pg [] 1 rl) (Sep (BO bs SO) R)))))))) w0 (w8.alloc (.cells #[.pointer (some ⟨q, 0, none⟩), .pointer (some ⟨a, 0, none⟩), .slice (some ⟨gH, 0, none⟩) n n, .slice (some ⟨gM, 0, none⟩) n n, .slice (some ⟨gO, 0, none⟩) n n, .slice (some ⟨gP, 0, none⟩) n n] 37))) := hide (Own.boNew (Loc.bo.sep (Loc.bo.sep (Loc.bo.sep (Loc.bo.sep lB)))) O8.out (heap_alloc_at _ _) (Nat.le_refl _) (grown1 _ _))
          refine hK _ _ (HBS.out O9.out (R := Sep (BO w8.heap.size (gameO q a gH gM gO gP n)) (Sep (BO gP (.cells (rowN (n * 1) (fun _ => .bool false)) 4 (0, 0))) (Sep (BO gO (.cells (rowN (n * 1) (fun _ => .bool false)) 4 (0, 0))) (Sep (BO gH (.cells (rowN (n * 1) (fun _ => .slice none 0 0)) 54 (0, 0))) (Sep (BO gM (.cells (rowN (n * 3) (fun _ => .pointer none)) 47 (0, 0))) (Sep (AX q (pg : Int) (n : Int) p r s0 pg [] 1 rl) (Sep (MX a (pg : Int) (n : Int) p' r' s0 pg [] 1 rl) R))))))) (by ac_rfl)) ?_
          clear hK K'
          refine stretch (fuel := 0) (by kernel_rfl) (fun _ _ _ _ _ h => h) (HBS.out O9.out (R := Sep (BO w8.heap.size (gameO q a gH gM gO gP n)) (Sep (BO gP (.cells (rowN (n * 1) (fun _ => .bool false)) 4 (0, 0))) (Sep (BO gO (.cells (rowN (n * 1) (fun _ => .bool false)) 4 (0, 0))) (Sep (BO gH (.cells (rowN (n * 1) (fun _ => .slice none 0 0)) 54 (0, 0))) (Sep (BO gM (.cells (rowN (n * 3) (fun _ => .pointer none)) 47 (0, 0))) (Sep (AX q (pg : Int) (n : Int) p r s0 pg [] 1 rl) (Sep (MX a (pg : Int) (n : Int) p' r' s0 pg [] 1 rl) R))))))) (by ac_rfl)) [16] (by kernel_rfl) ?_
          simp only [List.filterMap_cons, List.filterMap_nil, List.getElem?_toArray, List.getElem?_cons_zero, List.getElem?_cons_succ]
          show wpQuiet _ _ _ _ [_] _
          repeat (go_big_quiet_step (fail))
          refine wpQuiet_nil ?_
          refine wpAnyJ_done (by kernel_rfl) ?_
          go_wp2
          go_meet
          exact ⟨_, gH, gM, gO, gP, rfl, O9.out.cast (by ac_rfl)⟩
        · refine wpAnyJ_one rfl (fun K' hK => ?_)
          rw [if_pos (show Region.wanted _ _ = true from rfl)]
          refine makeN _ (Loc.bo.sep (Loc.bo.sep lB)) O6.out _ _ 35 rfl 4 i2 (.bool false) 1 Try.underlying35 hi2 z20 z21 n rfl rfl (by rw [z22]; omega) (by unfold maxLen; omega) (.bool false) rfl (by omega) ?_
          intro gP w7 o7
          have O7 := hide o7
          have J7 : Hid (Cel bs 1 (.int .i64 (n : Int)) w7) := hide (HBS.out o7 (R := (Sep (BO gP (.cells (rowN (n * 1) (fun _ => .bool false)) 4 (0, 0))) (Sep (BO gH (.cells (rowN (n * 1) (fun _ => .slice none 0 0)) 54 (0, 0))) (Sep (BO gM (.cells (rowN (n * 3) (fun _ => .pointer none)) 47 (0, 0))) (Sep (AX q (pg : Int) (n : Int) p r s0 pg [] 1 rl) (Sep (MX a (pg : Int) (n : Int) p' r' s0 pg [] 1 rl) R)))))) (by ac_rfl))
          clear o7
          refine hK _ _ J7.out ?_
          clear hK K'
          simp only [Act.put, List.getElem_toArray, List.getElem_cons_succ, List.getElem_cons_zero, List.setIfInBounds_toArray, List.set_cons_succ, List.set_cons_zero]
          refine wpAnyJ_all (is := [10]) (by simp) (by kernel_rfl) ?_
          simp only [List.forall_mem_cons, List.not_mem_nil, false_imp_iff, implies_true, and_true]
          refine wpAnyJ_one rfl (fun K' hK => ?_)
          rw [if_pos (show Region.wanted _ _ = true from rfl)]
          refine makeN _ (Loc.bo.sep (Loc.bo.sep (Loc.bo.sep lB))) O7.out _ _ 35 rfl 4 i2 (.bool false) 1 Try.underlying35 hi2 z20 z21 n rfl rfl (by rw [z22]; omega) (by unfold maxLen; omega) (.bool false) rfl (by omega) ?_
          intro gO w8 o8
          have O8 := hide o8
          have J8 : Hid (Cel bs 1 (.int .i64 (n : Int)) w8) := hide (HBS.out o8 (R := (Sep (BO gO (.cells (rowN (n * 1) (fun _ => .bool false)) 4 (0, 0))) (Sep (BO gP (.cells (rowN (n * 1) (fun _ => .bool false)) 4 (0, 0))) (Sep (BO gH (.cells (rowN (n * 1) (fun _ => .slice none 0 0)) 54 (0, 0))) (Sep (BO gM (.cells (rowN (n * 3) (fun _ => .pointer none)) 47 (0, 0))) (Sep (AX q (pg : Int) (n : Int) p r s0 pg [] 1 rl) (Sep (MX a (pg : Int) (n : Int) p' r' s0 pg [] 1 rl) R))))))) (by ac_rfl))
          clear o8
          refine hK _ _ J8.out ?_
          clear hK K'
          simp only [Act.put, List.getElem_toArray, List.getElem_cons_succ, List.getElem_cons_zero, List.setIfInBounds_toArray, List.set_cons_succ, List.set_cons_zero]
          refine stretch (fuel := 2) (by kernel_rfl) (fun _ _ _ _ _ h => h) J8.out [14] (by kernel_rfl) ?_
          simp only [List.filterMap_cons, List.filterMap_nil, List.getElem?_toArray, List.getElem?_cons_zero, List.getElem?_cons_succ]
          show wpQuiet _ _ _ _ [_] _
          repeat (go_big_quiet_step (fail))
          refine wpQuiet_nil ?_
          refine wpAnyJ_writer (i := 15) rfl (by kernel_rfl) (fun K' hK => ?_)
          go_simp
          have O9 : Hid (Own (Sep (BO w8.heap.size (gameO q a gH gM gO gP n)) (Sep (BO gO (.cells (rowN (n * 1) (fun _ => .bool false)) 4 (0, 0))) (Sep (BO gP (.cells (rowN (n * 1) (fun _ => .bool false)) 4 (0, 0))) (Sep (BO gH (.cells (rowN (n * 1) (fun _ => .slice none 0 0)) 54 (0, 0))) (Sep (BO gM (.cells (rowN (n * 3) (fun _ => .pointer none)) 47 (0, 0))) (Sep (AX q (pg : Int) (n : Int) p r s0 pg [] 1 rl) (Sep (MX a (pg : Int) (n : Int) p' r' s0 pg [] 1 rl) (Sep (BO bs SO) R)))))))) w0 (w8.alloc (.cells #[.pointer (some ⟨q, 0, none⟩), .pointer (some ⟨a, 0, none⟩), .slice (some ⟨gH, 0, none⟩) n n, .slice (some ⟨gM, 0, none⟩) n n, .slice (some ⟨gO, 0, none⟩) n n, .slice (some ⟨gP, 0, none⟩) n n] 37))) := hide (Own.boNew (Loc.bo.sep (Loc.bo.sep (Loc.bo.sep (Loc.bo.sep lB)))) O8.out (heap_alloc_at _ _) (Nat.le_refl _) (grown1 _ _))
          refine hK _ _ (HBS.out O9.out (R := Sep (BO w8.heap.size (gameO q a gH gM gO gP n)) (Sep (BO gO (.cells (rowN (n * 1) (fun _ => .bool false)) 4 (0, 0))) (Sep (BO gP (.cells (rowN (n * 1) (fun _ => .bool false)) 4 (0, 0))) (Sep (BO gH (.cells (rowN (n * 1) (fun _ => .slice none 0 0)) 54 (0, 0))) (Sep (BO gM (.cells (rowN (n * 3) (fun _ => .pointer none)) 47 (0, 0))) (Sep (AX q (pg : Int) (n : Int) p r s0 pg [] 1 rl) (Sep (MX a (pg : Int) (n : Int) p' r' s0 pg [] 1 rl) R))))))) (by ac_rfl)) ?_
          clear hK K'
          refine stretch (fuel := 0) (by kernel_rfl) (fun _ _ _ _ _ h => h) (HBS.out O9.out (R := Sep (BO w8.heap.size (gameO q a gH gM gO gP n)) (Sep (BO gO (.cells (rowN (n * 1) (fun _ => .bool false)) 4 (0, 0))) (Sep (BO gP (.cells (rowN (n * 1) (fun _ => .bool false)) 4 (0, 0))) (Sep (BO gH (.cells (rowN (n * 1) (fun _ => .slice none 0 0)) 54 (0, 0))) (Sep (BO gM (.cells (rowN (n * 3) (fun _ => .pointer none)) 47 (0, 0))) (Sep (AX q (pg : Int) (n : Int) p r s0 pg [] 1 rl) (Sep (MX a (pg : Int) (n : Int) p' r' s0 pg [] 1 rl) R))))))) (by ac_rfl)) [16] (by kernel_rfl) ?_
          simp only [List.filterMap_cons, List.filterMap_nil, List.getElem?_toArray, List.getElem?_cons_zero, List.getElem?_cons_succ]
          show wpQuiet _ _ _ _ [_] _
          repeat (go_big_quiet_step (fail))
          refine wpQuiet_nil ?_
          refine wpAnyJ_done (by kernel_rfl) ?_
          go_wp2
          go_meet
          exact ⟨_, gH, gM, gO, gP, rfl, O9.out.cast (by ac_rfl)⟩
      · refine wpAnyJ_one rfl (fun K' hK => ?_)
        rw [if_pos (show Region.wanted _ _ = true from rfl)]
        refine makeN _ (Loc.bo.sep lB) O5.out _ _ 35 rfl 4 i2 (.bool false) 1 Try.underlying35 hi2 z20 z21 n rfl rfl (by rw [z22]; omega) (by unfold maxLen; omega) (.bool false) rfl (by omega) ?_
        intro gO w6 o6
        have O6 := hide o6
        have J6 : Hid (Cel bs 1 (.int .i64 (n : Int)) w6) := hide (HBS.out o6 (R := (Sep (BO gO (.cells (rowN (n * 1) (fun _ => .bool false)) 4 (0, 0))) (Sep (BO gM (.cells (rowN (n * 3) (fun _ => .pointer none)) 47 (0, 0))) (Sep (AX q (pg : Int) (n : Int) p r s0 pg [] 1 rl) (Sep (MX a (pg : Int) (n : Int) p' r' s0 pg [] 1 rl) R))))) (by ac_rfl))
        clear o6
        refine hK _ _ J6.out ?_
        clear hK K'
        simp only [Act.put, List.getElem_toArray, List.getElem_cons_succ, List.getElem_cons_zero, List.setIfInBounds_toArray, List.set_cons_succ, List.set_cons_zero]
        refine wpAnyJ_all (is := [4, 13]) (by simp) (by kernel_rfl) ?_
        simp only [List.forall_mem_cons, List.not_mem_nil, false_imp_iff, implies_true, and_true]
        refine ⟨?_, ?_⟩
        · refine wpAnyJ_one rfl (fun K' hK => ?_)
          rw [if_pos (show Region.wanted _ _ = true from rfl)]
          refine makeN _ (Loc.bo.sep (Loc.bo.sep lB)) O6.out _ _ 33 rfl 54 i0 (.slice none 0 0) 1 Try.underlying33 hi0 z00 z01 n rfl rfl (by rw [z02]; omega) (by unfold maxLen; omega) (.slice none 0 0) rfl (by omega) ?_
          intro gH w7 o7
          have O7 := hide o7
          have J7 : Hid (Cel bs 1 (.int .i64 (n : Int)) w7) := hide (HBS.out o7 (R := (Sep (BO gH (.cells (rowN (n * 1) (fun _ => .slice none 0 0)) 54 (0, 0))) (Sep (BO gO (.cells (rowN (n * 1) (fun _ => .bool false)) 4 (0, 0))) (Sep (BO gM (.cells (rowN (n * 3) (fun _ => .pointer none)) 47 (0, 0))) (Sep (AX q (pg : Int) (n : Int) p r s0 pg [] 1 rl) (Sep (MX a (pg : Int) (n : Int) p' r' s0 pg [] 1 rl) R)))))) (by ac_rfl))
          clear o7
          refine hK _ _ J7.out ?_
          clear hK K'
          simp only [Act.put, List.getElem_toArray, List.getElem_cons_succ, List.getElem_cons_zero, List.setIfInBounds_toArray, List.set_cons_succ, List.set_cons_zero]
          refine wpAnyJ_all (is := [13]) (by simp) (by kernel_rfl) ?_
          simp only [List.forall_mem_cons, List.not_mem_nil, false_imp_iff, implies_true, and_true]
          refine wpAnyJ_one rfl (fun K' hK => ?_)
          rw [if_pos (show Region.wanted _ _ = true from rfl)]
          refine makeN _ (Loc.bo.sep (Loc.bo.sep (Loc.bo.sep lB))) O7.out _ _ 35 rfl 4 i2 (.bool false) 1 Try.underlying35 hi2 z20 z21 n rfl rfl (by rw [z22]; omega) (by unfold maxLen; omega) (.bool false) rfl (by omega) ?_
          intro gP w8 o8
          have O8 := hide o8
          have J8 : Hid (Cel bs 1 (.int .i64 (n : Int)) w8) := hide (HBS.out o8 (R := (Sep (BO gP (.cells (rowN (n * 1) (fun _ => .bool false)) 4 (0, 0))) (Sep (BO gH (.cells (rowN (n * 1) (fun _ => .slice none 0 0)) 54 (0, 0))) (Sep (BO gO (.cells (rowN (n * 1) (fun _ => .bool false)) 4 (0, 0))) (Sep (BO gM (.cells (rowN (n * 3) (fun _ => .pointer none)) 47 (0, 0))) (Sep (AX q (pg : Int) (n : Int) p r s0 pg [] 1 rl) (Sep (MX a (pg : Int) (n : Int) p' r' s0 pg [] 1 rl) R))))))) (by ac_rfl))
          clear o8
          refine hK _ _ J8.out ?_
          clear hK K'
          simp only [Act.put, List.getElem_toArray, List.getElem_cons_succ, List.getElem_cons_zero, List.setIfInBounds_toArray, List.set_cons_succ, List.set_cons_zero]
          refine stretch (fuel := 2) (by kernel_rfl) (fun _ _ _ _ _ h => h) J8.out [14] (by kernel_rfl) ?_
          simp only [List.filterMap_cons, List.filterMap_nil, List.getElem?_toArray, List.getElem?_cons_zero, List.getElem?_cons_succ]
          show wpQuiet _ _ _ _ [_] _
          repeat (go_big_quiet_step (fail))
          refine wpQuiet_nil ?_
          refine wpAnyJ_writer (i := 15) rfl (by kernel_rfl) (fun K' hK => ?_)
          go_simp
          have O9 : Hid (Own (Sep (BO w8.heap.size (gameO q a gH gM gO gP n)) (Sep (BO gP (.cells (rowN (n * 1) (fun _ => .bool false)) 4 (0, 0))) (Sep (BO gH (.cells (rowN (n * 1) (fun _ => .slice none 0 0)) 54 (0, 0))) (Sep (BO gO (.cells (rowN (n * 1) (fun _ => .bool false)) 4 (0, 0))) (Sep (BO gM (.cells (rowN (n * 3) (fun _ => .pointer none)) 47 (0, 0))) (Sep (AX q (pg : Int) (n : Int) p r s0 pg [] 1 rl) (Sep (MX a (pg : Int) (n : Int) p' r' s0 pg [] 1 rl) (Sep (BO bs SO) R)))))))) w0 (w8.alloc (.cells #[.pointer (some ⟨q, 0, none⟩), .pointer (some ⟨a, 0, none⟩), .slice (some ⟨gH, 0, none⟩) n n, .slice (some ⟨gM, 0, none⟩) n n, .slice (some ⟨gO, 0, none⟩) n n, .slice (some ⟨gP, 0, none⟩) n n] 37))) := hide (Own.boNew (Loc.bo.sep (Loc.bo.sep (Loc.bo.sep (Loc.bo.sep lB)))) O8.out (heap_alloc_at _ _) (Nat.le_refl _) (grown1 _ _))
          refine hK _ _ (HBS.out O9.out (R := Sep (BO w8.heap.size (gameO q a gH gM gO gP n)) (Sep (BO gP (.cells (rowN (n * 1) (fun _ => .bool false)) 4 (0, 0))) (Sep (BO gH (.cells (rowN (n * 1) (fun _ => .slice none 0 0)) 54 (0, 0))) (Sep (BO gO (.cells (rowN (n * 1) (fun _ => .bool false)) 4 (0, 0))) (Sep (BO gM (.cells (rowN (n * 3) (fun _ => .pointer none)) 47 (0, 0))) (Sep (AX q (pg : Int) (n : Int) p r s0 pg [] 1 rl) (Sep (MX a (pg : Int) (n : Int) p' r' s0 pg [] 1 rl) R))))))) (by ac_rfl)) ?_
          clear hK K'
          refine stretch (fuel := 0) (by kernel_rfl) (fun _ _ _ _ _ h => h) (HBS.out O9.out (R := Sep (BO w8.heap.size (gameO q a gH gM gO gP n)) (Sep (BO gP (.cells (rowN (n * 1) (fun _ => .bool false)) 4 (0, 0))) (Sep (BO gH (.cells (rowN (n * 1) (fun _ => .slice none 0 0)) 54 (0, 0))) (Sep (BO gO (.cells (rowN (n * 1) (fun _ => .bool false)) 4 (0, 0))) (Sep (BO gM (.cells (rowN (n * 3) (fun _ => .pointer none)) 47 (0, 0))) (Sep (AX q (pg : Int) (n : Int) p r s0 pg [] 1 rl) (Sep (MX a (pg : Int) (n : Int) p' r' s0 pg [] 1 rl) R))))))) (by ac_rfl)) [16] (by kernel_rfl) ?_
          simp only [List.filterMap_cons, List.filterMap_nil, List.getElem?_toArray, List.getElem?_cons_zero, List.getElem?_cons_succ]
          show wpQuiet _ _ _ _ [_] _
          repeat (go_big_quiet_step (fail))
          refine wpQuiet_nil ?_
          refine wpAnyJ_done (by kernel_rfl) ?_
          go_wp2
          go_meet
          exact ⟨_, gH, gM, gO, gP, rfl, O9.out.cast (by ac_rfl)⟩
        · refine wpAnyJ_one rfl (fun K' hK => ?_)
          rw [if_pos (show Region.wanted _ _ = true from rfl)]
          refine makeN _ (Loc.bo.sep (Loc.bo.sep lB)) O6.out _ _ 35 rfl 4 i2 (.bool false) 1 Try.underlying35 hi2 z20 z21 n rfl rfl (by rw [z22]; omega) (by unfold maxLen; omega) (.bool false) rfl (by omega) ?_
          intro gP w7 o7
          have O7 := hide o7
          have J7 : Hid (Cel bs 1 (.int .i64 (n : Int)) w7) := hide (HBS.out o7 (R := (Sep (BO gP (.cells (rowN (n * 1) (fun _ => .bool false)) 4 (0, 0))) (Sep (BO gO (.cells (rowN (n * 1) (fun _ => .bool false)) 4 (0, 0))) (Sep (BO gM (.cells (rowN (n * 3) (fun _ => .pointer none)) 47 (0, 0))) (Sep (AX q (pg : Int) (n : Int) p r s0 pg [] 1 rl) (Sep (MX a (pg : Int) (n : Int) p' r' s0 pg [] 1 rl) R)))))) (by ac_rfl))
          clear o7
          refine hK _ _ J7.out ?_
          clear hK K'
          simp only [Act.put, List.getElem_toArray, List.getElem_cons_succ, List.getElem_cons_zero, List.setIfInBounds_toArray, List.set_cons_succ, List.set_cons_zero]
          refine wpAnyJ_all (is := [4]) (by simp) (by kernel_rfl) ?_
          simp only [List.forall_mem_cons, List.not_mem_nil, false_imp_iff, implies_true, and_true]
          refine wpAnyJ_one rfl (fun K' hK => ?_)
          rw [if_pos (show Region.wanted _ _ = true from rfl)]
          refine makeN _ (Loc.bo.sep (Loc.bo.sep (Loc.bo.sep lB))) O7.out _ _ 33 rfl 54 i0 (.slice none 0 0) 1 Try.underlying33 hi0 z00 z01 n rfl rfl (by rw [z02]; omega) (by unfold maxLen; omega) (.slice none 0 0) rfl (by omega) ?_
          intro gH w8 o8
          have O8 := hide o8
          have J8 : Hid (Cel bs 1 (.int .i64 (n : Int)) w8) := hide (HBS.out o8 (R := (Sep (BO gH (.cells (rowN (n * 1) (fun _ => .slice none 0 0)) 54 (0, 0))) (Sep (BO gP (.cells (rowN (n * 1) (fun _ => .bool false)) 4 (0, 0))) (Sep (BO gO (.cells (rowN (n * 1) (fun _ => .bool false)) 4 (0, 0))) (Sep (BO gM (.cells (rowN (n * 3) (fun _ => .pointer none)) 47 (0, 0))) (Sep (AX q (pg : Int) (n : Int) p r s0 pg [] 1 rl) (Sep (MX a (pg : Int) (n : Int) p' r' s0 pg [] 1 rl) R))))))) (by ac_rfl))
          clear o8
          refine hK _ _ J8.out ?_
          clear hK K'
          simp only [Act.put, List.getElem_toArray, List.getElem_cons_succ, List.getElem_cons_zero, List.setIfInBounds_toArray, List.set_cons_succ, List.set_cons_zero]
          refine stretch (fuel := 2) (by kernel_rfl) (fun _ _ _ _ _ h => h) J8.out [14] (by kernel_rfl) ?_
          simp only [List.filterMap_cons, List.filterMap_nil, List.getElem?_toArray, List.getElem?_cons_zero, List.getElem?_cons_succ]
          show wpQuiet _ _ _ _ [_] _
          repeat (go_big_quiet_step (fail))
          refine wpQuiet_nil ?_
          refine wpAnyJ_writer (i := 15) rfl (by kernel_rfl) (fun K' hK => ?_)
          go_simp
          have O9 : Hid (Own (Sep (BO w8.heap.size (gameO q a gH gM gO gP n)) (Sep (BO gH (.cells (rowN (n * 1) (fun _ => .slice none 0 0)) 54 (0, 0))) (Sep (BO gP (.cells (rowN (n * 1) (fun _ => .bool false)) 4 (0, 0))) (Sep (BO gO (.cells (rowN (n * 1) (fun _ => .bool false)) 4 (0, 0))) (Sep (BO gM (.cells (rowN (n * 3) (fun _ => .pointer none)) 47 (0, 0))) (Sep (AX q (pg : Int) (n : Int) p r s0 pg [] 1 rl) (Sep (MX a (pg : Int) (n : Int) p' r' s0 pg [] 1 rl) (Sep (BO bs SO) R)))))))) w0 (w8.alloc (.cells #[.pointer (some ⟨q, 0, none⟩), .pointer (some ⟨a, 0, none⟩), .slice (some ⟨gH, 0, none⟩) n n, .slice (some ⟨gM, 0, none⟩) n n, .slice (some ⟨gO, 0, none⟩) n n, .slice (some ⟨gP, 0, none⟩) n n] 37))) := hide (Own.boNew (Loc.bo.sep (Loc.bo.sep (Loc.bo.sep (Loc.bo.sep lB)))) O8.out (heap_alloc_at _ _) (Nat.le_refl _) (grown1 _ _))
          refine hK _ _ (HBS.out O9.out (R := Sep (BO w8.heap.size (gameO q a gH gM gO gP n)) (Sep (BO gH (.cells (rowN (n * 1) (fun _ => .slice none 0 0)) 54 (0, 0))) (Sep (BO gP (.cells (rowN (n * 1) (fun _ => .bool false)) 4 (0, 0))) (Sep (BO gO (.cells (rowN (n * 1) (fun _ => .bool false)) 4 (0, 0))) (Sep (BO gM (.cells (rowN (n * 3) (fun _ => .pointer none)) 47 (0, 0))) (Sep (AX q (pg : Int) (n : Int) p r s0 pg [] 1 rl) (Sep (MX a (pg : Int) (n : Int) p' r' s0 pg [] 1 rl) R))))))) (by ac_rfl)) ?_
          clear hK K'
          refine stretch (fuel := 0) (by kernel_rfl) (fun _ _ _ _ _ h => h) (HBS.out O9.out (R := Sep (BO w8.heap.size (gameO q a gH gM gO gP n)) (Sep (BO gH (.cells (rowN (n * 1) (fun _ => .slice none 0 0)) 54 (0, 0))) (Sep (BO gP (.cells (rowN (n * 1) (fun _ => .bool false)) 4 (0, 0))) (Sep (BO gO (.cells (rowN (n * 1) (fun _ => .bool false)) 4 (0, 0))) (Sep (BO gM (.cells (rowN (n * 3) (fun _ => .pointer none)) 47 (0, 0))) (Sep (AX q (pg : Int) (n : Int) p r s0 pg [] 1 rl) (Sep (MX a (pg : Int) (n : Int) p' r' s0 pg [] 1 rl) R))))))) (by ac_rfl)) [16] (by kernel_rfl) ?_
          simp only [List.filterMap_cons, List.filterMap_nil, List.getElem?_toArray, List.getElem?_cons_zero, List.getElem?_cons_succ]
          show wpQuiet _ _ _ _ [_] _
          repeat (go_big_quiet_step (fail))
          refine wpQuiet_nil ?_
          refine wpAnyJ_done (by kernel_rfl) ?_
          go_wp2
          go_meet
          exact ⟨_, gH, gM, gO, gP, rfl, O9.out.cast (by ac_rfl)⟩
      · refine wpAnyJ_one rfl (fun K' hK => ?_)
        rw [if_pos (show Region.wanted _ _ = true from rfl)]
        refine makeN _ (Loc.bo.sep lB) O5.out _ _ 35 rfl 4 i2 (.bool false) 1 Try.underlying35 hi2 z20 z21 n rfl rfl (by rw [z22]; omega) (by unfold maxLen; omega) (.bool false) rfl (by omega) ?_
        intro gP w6 o6
        have O6 := hide o6
        have J6 : Hid (Cel bs 1 (.int .i64 (n : Int)) w6) := hide (HBS.out o6 (R := (Sep (BO gP (.cells (rowN (n * 1) (fun _ => .bool false)) 4 (0, 0))) (Sep (BO gM (.cells (rowN (n * 3) (fun _ => .pointer none)) 47 (0, 0))) (Sep (AX q (pg : Int) (n : Int) p r s0 pg [] 1 rl) (Sep (MX a (pg : Int) (n : Int) p' r' s0 pg [] 1 rl) R))))) (by ac_rfl))
        clear o6
        refine hK _ _ J6.out ?_
        clear hK K'
        simp only [Act.put, List.getElem_toArray, List.getElem_cons_succ, List.getElem_cons_zero, List.setIfInBounds_toArray, List.set_cons_succ, List.set_cons_zero]
        refine wpAnyJ_all (is := [4, 10]) (by simp) (by kernel_rfl) ?_
        simp only [List.forall_mem_cons, List.not_mem_nil, false_imp_iff, implies_true, and_true]
        refine ⟨?_, ?_⟩
        · refine wpAnyJ_one rfl (fun K' hK => ?_)
          rw [if_pos (show Region.wanted _ _ = true from rfl)]
          refine makeN _ (Loc.bo.sep (Loc.bo.sep lB)) O6.out _ _ 33 rfl 54 i0 (.slice none 0 0) 1 Try.underlying33 hi0 z00 z01 n rfl rfl (by rw [z02]; omega) (by unfold maxLen; omega) (.slice none 0 0) rfl (by omega) ?_
          intro gH w7 o7
          have O7 := hide o7
          have J7 : Hid (Cel bs 1 (.int .i64 (n : Int)) w7) := hide (HBS.out o7 (R := (Sep (BO gH (.cells (rowN (n * 1) (fun _ => .slice none 0 0)) 54 (0, 0))) (Sep (BO gP (.cells (rowN (n * 1) (fun _ => .bool false)) 4 (0, 0))) (Sep (BO gM (.cells (rowN (n * 3) (fun _ => .pointer none)) 47 (0, 0))) (Sep (AX q (pg : Int) (n : Int) p r s0 pg [] 1 rl) (Sep (MX a (pg : Int) (n : Int) p' r' s0 pg [] 1 rl) R)))))) (by ac_rfl))
          clear o7
          refine hK _ _ J7.out ?_
          clear hK K'
          simp only [Act.put, List.getElem_toArray, List.getElem_cons_succ, List.getElem_cons_zero, List.setIfInBounds_toArray, List.set_cons_succ, List.set_cons_zero]
          refine wpAnyJ_all (is := [10]) (by simp) (by kernel_rfl) ?_
          simp only [List.forall_mem_cons, List.not_mem_nil, false_imp_iff, implies_true, and_true]
          refine wpAnyJ_one rfl (fun K' hK => ?_)
          rw [if_pos (show Region.wanted _ _ = true from rfl)]
          refine makeN _ (Loc.bo.sep (Loc.bo.sep (Loc.bo.sep lB))) O7.out _ _ 35 rfl 4 i2 (.bool false) 1 Try.underlying35 hi2 z20 z21 n rfl rfl (by rw [z22]; omega) (by unfold maxLen; omega) (.bool false) rfl (by omega) ?_
          intro gO w8 o8
          have O8 := hide o8
          have J8 : Hid (Cel bs 1 (.int .i64 (n : Int)) w8) := hide (HBS.out o8 (R := (Sep (BO gO (.cells (rowN (n * 1) (fun _ => .bool false)) 4 (0, 0))) (Sep (BO gH (.cells (rowN (n * 1) (fun _ => .slice none 0 0)) 54 (0, 0))) (Sep (BO gP (.cells (rowN (n * 1) (fun _ => .bool false)) 4 (0, 0))) (Sep (BO gM (.cells (rowN (n * 3) (fun _ => .pointer none)) 47 (0, 0))) (Sep (AX q (pg : Int) (n : Int) p r s0 pg [] 1 rl) (Sep (MX a (pg : Int) (n : Int) p' r' s0 pg [] 1 rl) R))))))) (by ac_rfl))
          clear o8
          refine hK _ _ J8.out ?_
          clear hK K'
          simp only [Act.put, List.getElem_toArray, List.getElem_cons_succ, List.getElem_cons_zero, List.setIfInBounds_toArray, List.set_cons_succ, List.set_cons_zero]
          refine stretch (fuel := 2) (by kernel_rfl) (fun _ _ _ _ _ h => h) J8.out [14] (by kernel_rfl) ?_
          simp only [List.filterMap_cons, List.filterMap_nil, List.getElem?_toArray, List.getElem?_cons_zero, List.getElem?_cons_succ]
          show wpQuiet _ _ _ _ [_] _
          repeat (go_big_quiet_step (fail))
          refine wpQuiet_nil ?_
          refine wpAnyJ_writer (i := 15) rfl (by kernel_rfl) (fun K' hK => ?_)
          go_simp
          have O9 : Hid (Own (Sep (BO w8.heap.size (gameO q a gH gM gO gP n)) (Sep (BO gO (.cells (rowN (n * 1) (fun _ => .bool false)) 4 (0, 0))) (Sep (BO gH (.cells (rowN (n * 1) (fun _ => .slice none 0 0)) 54 (0, 0))) (Sep (BO gP (.cells (rowN (n * 1) (fun _ => .bool false)) 4 (0, 0))) (Sep (BO gM (.cells (rowN (n * 3) (fun _ => .pointer none)) 47 (0, 0))) (Sep (AX q (pg : Int) (n : Int) p r s0 pg [] 1 rl) (Sep (MX a (pg : Int) (n : Int) p' r' s0 pg [] 1 rl) (Sep (BO bs SO) R)))))))) w0 (w8.alloc (.cells #[.pointer (some ⟨q, 0, none⟩), .pointer (some ⟨a, 0, none⟩), .slice (some ⟨gH, 0, none⟩) n n, .slice (some ⟨gM, 0, none⟩) n n, .slice (some ⟨gO, 0, none⟩) n n, .slice (some ⟨gP, 0, none⟩) n n] 37))) := hide (Own.boNew (Loc.bo.sep (Loc.bo.sep (Loc.bo.sep (Loc.bo.sep lB)))) O8.out (heap_alloc_at _ _) (Nat.le_refl _) (grown1 _ _))
          refine hK _ _ (HBS.out O9.out (R := Sep (BO w8.heap.size (gameO q a gH gM gO gP n)) (Sep (BO gO (.cells (rowN (n * 1) (fun _ => .bool false)) 4 (0, 0))) (Sep (BO gH (.cells (rowN (n * 1) (fun _ => .slice none 0 0)) 54 (0, 0))) (Sep (BO gP (.cells (rowN (n * 1) (fun _ => .bool false)) 4 (0, 0))) (Sep (BO gM (.cells (rowN (n * 3) (fun _ => .pointer none)) 47 (0, 0))) (Sep (AX q (pg : Int) (n : Int) p r s0 pg [] 1 rl) (Sep (MX a (pg : Int) (n : Int) p' r' s0 pg [] 1 rl) R))))))) (by ac_rfl)) ?_
          clear hK K'
          refine stretch (fuel := 0) (by kernel_rfl) (fun _ _ _ _ _ h => h) (HBS.out O9.out (R := Sep (BO w8.heap.size (gameO q a gH gM gO gP n)) (Sep (BO gO (.cells (rowN (n * 1) (fun _ => .bool false)) 4 (0, 0))) (Sep (BO gH (.cells (rowN (n * 1) (fun _ => .slice none 0 0)) 54 (0, 0))) (Sep (BO gP (.cells (rowN (n * 1) (fun _ => .bool false)) 4 (0, 0))) (Sep (BO gM (.cells (rowN (n * 3) (fun _ => .pointer none)) 47 (0, 0))) (Sep (AX q (pg : Int) (n : Int) p r s0 pg [] 1 rl) (Sep (MX a (pg : Int) (n : Int) p' r' s0 pg [] 1 rl) R))))))) (by ac_rfl)) [16] (by kernel_rfl) ?_
          simp only [List.filterMap_cons, List.filterMap_nil, List.getElem?_toArray, List.getElem?_cons_zero, List.getElem?_cons_succ]
          show wpQuiet _ _ _ _ [_] _
          repeat (go_big_quiet_step (fail))
          refine wpQuiet_nil ?_
          refine wpAnyJ_done (by kernel_rfl) ?_
          go_wp2
          go_meet
          exact ⟨_, gH, gM, gO, gP, rfl, O9.out.cast (by ac_rfl)⟩
        · refine wpAnyJ_one rfl (fun K' hK => ?_)
          rw [if_pos (show Region.wanted _ _ = true from rfl)]
          refine makeN _ (Loc.bo.sep (Loc.bo.sep lB)) O6.out _ _ 35 rfl 4 i2 (.bool false) 1 Try.underlying35 hi2 z20 z21 n rfl rfl (by rw [z22]; omega) (by unfold maxLen; omega) (.bool false) rfl (by omega) ?_
          intro gO w7 o7
          have O7 := hide o7
          have J7 : Hid (Cel bs 1 (.int .i64 (n : Int)) w7) := hide (HBS.out o7 (R := (Sep (BO gO (.cells (rowN (n * 1) (fun _ => .bool false)) 4 (0, 0))) (Sep (BO gP (.cells (rowN (n * 1) (fun _ => .bool false)) 4 (0, 0))) (Sep (BO gM (.cells (rowN (n * 3) (fun _ => .pointer none)) 47 (0, 0))) (Sep (AX q (pg : Int) (n : Int) p r s0 pg [] 1 rl) (Sep (MX a (pg : Int) (n : Int) p' r' s0 pg [] 1 rl) R)))))) (by ac_rfl))
          clear o7
          refine hK _ _ J7.out ?_
          clear hK K'
          simp only [Act.put, List.getElem_toArray, List.getElem_cons_succ, List.getElem_cons_zero, List.setIfInBounds_toArray, List.set_cons_succ, List.set_cons_zero]
          refine wpAnyJ_all (is := [4]) (by simp) (by kernel_rfl) ?_
          simp only [List.forall_mem_cons, List.not_mem_nil, false_imp_iff, implies_true, and_true]
          refine wpAnyJ_one rfl (fun K' hK => ?_)
          rw [if_pos (show Region.wanted _ _ = true from rfl)]
          refine makeN _ (Loc.bo.sep (Loc.bo.sep (Loc.bo.sep lB))) O7.out _ _ 33 rfl 54 i0 (.slice none 0 0) 1 Try.underlying33 hi0 z00 z01 n rfl rfl (by rw [z02]; omega) (by unfold maxLen; omega) (.slice none 0 0) rfl (by omega) ?_
          intro gH w8 o8
          have O8 := hide o8
          have J8 : Hid (Cel bs 1 (.int .i64 (n : Int)) w8) := hide (HBS.out o8 (R := (Sep (BO gH (.cells (rowN (n * 1) (fun _ => .slice none 0 0)) 54 (0, 0))) (Sep (BO gO (.cells (rowN (n * 1) (fun _ => .bool false)) 4 (0, 0))) (Sep (BO gP (.cells (rowN (n * 1) (fun _ => .bool false)) 4 (0, 0))) (Sep (BO gM (.cells (rowN (n * 3) (fun _ => .pointer none)) 47 (0, 0))) (Sep (AX q (pg : Int) (n : Int) p r s0 pg [] 1 rl) (Sep (MX a (pg : Int) (n : Int) p' r' s0 pg [] 1 rl) R))))))) (by ac_rfl))
          clear o8
          refine hK _ _ J8.out ?_
          clear hK K'
          simp only [Act.put, List.getElem_toArray, List.getElem_cons_succ, List.getElem_cons_zero, List.setIfInBounds_toArray, List.set_cons_succ, List.set_cons_zero]
          refine stretch (fuel := 2) (by kernel_rfl) (fun _ _ _ _ _ h => h) J8.out [14] (by kernel_rfl) ?_
          simp only [List.filterMap_cons, List.filterMap_nil, List.getElem?_toArray, List.getElem?_cons_zero, List.getElem?_cons_succ]
          show wpQuiet _ _ _ _ [_] _
          repeat (go_big_quiet_step (fail))
          refine wpQuiet_nil ?_
          refine wpAnyJ_writer (i := 15) rfl (by kernel_rfl) (fun K' hK => ?_)
          go_simp
          have O9 : Hid (Own (Sep (BO w8.heap.size (gameO q a gH gM gO gP n)) (Sep (BO gH (.cells (rowN (n * 1) (fun _ => .slice none 0 0)) 54 (0, 0))) (Sep (BO gO (.cells (rowN (n * 1) (fun _ => .bool false)) 4 (0, 0))) (Sep (BO gP (.cells (rowN (n * 1) (fun _ => .bool false)) 4 (0, 0))) (Sep (BO gM (.cells (rowN (n * 3) (fun _ => .pointer none)) 47 (0, 0))) (Sep (AX q (pg : Int) (n : Int) p r s0 pg [] 1 rl) (Sep (MX a (pg : Int) (n : Int) p' r' s0 pg [] 1 rl) (Sep (BO bs SO) R)))))))) w0 (w8.alloc (.cells #[.pointer (some ⟨q, 0, none⟩), .pointer (some ⟨a, 0, none⟩), .slice (some ⟨gH, 0, none⟩) n n, .slice (some ⟨gM, 0, none⟩) n n, .slice (some ⟨gO, 0, none⟩) n n, .slice (some ⟨gP, 0, none⟩) n n] 37))) := hide (Own.boNew (Loc.bo.sep (Loc.bo.sep (Loc.bo.sep (Loc.bo.sep lB)))) O8.out (heap_alloc_at _ _) (Nat.le_refl _) (grown1 _ _))
          refine hK _ _ (HBS.out O9.out (R := Sep (BO w8.heap.size (gameO q a gH gM gO gP n)) (Sep (BO gH (.cells (rowN (n * 1) (fun _ => .slice none 0 0)) 54 (0, 0))) (Sep (BO gO (.cells (rowN (n * 1) (fun _ => .bool false)) 4 (0, 0))) (Sep (BO gP (.cells (rowN (n * 1) (fun _ => .bool false)) 4 (0, 0))) (Sep (BO gM (.cells (rowN (n * 3) (fun _ => .pointer none)) 47 (0, 0))) (Sep (AX q (pg : Int) (n : Int) p r s0 pg [] 1 rl) (Sep (MX a (pg : Int) (n : Int) p' r' s0 pg [] 1 rl) R))))))) (by ac_rfl)) ?_
          clear hK K'
          refine stretch (fuel := 0) (by kernel_rfl) (fun _ _ _ _ _ h => h) (HBS.out O9.out (R := Sep (BO w8.heap.size (gameO q a gH gM gO gP n)) (Sep (BO gH (.cells (rowN (n * 1) (fun _ => .slice none 0 0)) 54 (0, 0))) (Sep (BO gO (.cells (rowN (n * 1) (fun _ => .bool false)) 4 (0, 0))) (Sep (BO gP (.cells (rowN (n * 1) (fun _ => .bool false)) 4 (0, 0))) (Sep (BO gM (.cells (rowN (n * 3) (fun _ => .pointer none)) 47 (0, 0))) (Sep (AX q (pg : Int) (n : Int) p r s0 pg [] 1 rl) (Sep (MX a (pg : Int) (n : Int) p' r' s0 pg [] 1 rl) R))))))) (by ac_rfl)) [16] (by kernel_rfl) ?_
          simp only [List.filterMap_cons, List.filterMap_nil, List.getElem?_toArray, List.getElem?_cons_zero, List.getElem?_cons_succ]
          show wpQuiet _ _ _ _ [_] _
          repeat (go_big_quiet_step (fail))
          refine wpQuiet_nil ?_
          refine wpAnyJ_done (by kernel_rfl) ?_
          go_wp2
          go_meet
          exact ⟨_, gH, gM, gO, gP, rfl, O9.out.cast (by ac_rfl)⟩
    · refine wpAnyJ_one rfl (fun K' hK => ?_)
      rw [if_pos (show Region.wanted _ _ = true from rfl)]
      refine makeN _ lB O4.out _ _ 35 rfl 4 i2 (.bool false) 1 Try.underlying35 hi2 z20 z21 n rfl rfl (by rw [z22]; omega) (by unfold maxLen; omega) (.bool false) rfl (by omega) ?_
      intro gO w5 o5
      have O5 := hide o5
      have J5 : Hid (Cel bs 1 (.int .i64 (n : Int)) w5) := hide (HBS.out o5 (R := (Sep (BO gO (.cells (rowN (n * 1) (fun _ => .bool false)) 4 (0, 0))) (Sep (AX q (pg : Int) (n : Int) p r s0 pg [] 1 rl) (Sep (MX a (pg : Int) (n : Int) p' r' s0 pg [] 1 rl) R)))) (by ac_rfl))
      clear o5
      refine hK _ _ J5.out ?_
      clear hK K'
      simp only [Act.put, List.getElem_toArray, List.getElem_cons_succ, List.getElem_cons_zero, List.setIfInBounds_toArray, List.set_cons_succ, List.set_cons_zero]
      refine wpAnyJ_all (is := [4, 7, 13]) (by simp) (by kernel_rfl) ?_
      simp only [List.forall_mem_cons, List.not_mem_nil, false_imp_iff, implies_true, and_true]
      refine ⟨?_, ?_, ?_⟩
      · refine wpAnyJ_one rfl (fun K' hK => ?_)
        rw [if_pos (show Region.wanted _ _ = true from rfl)]
        refine makeN _ (Loc.bo.sep lB) O5.out _ _ 33 rfl 54 i0 (.slice none 0 0) 1 Try.underlying33 hi0 z00 z01 n rfl rfl (by rw [z02]; omega) (by unfold maxLen; omega) (.slice none 0 0) rfl (by omega) ?_
        intro gH w6 o6
        have O6 := hide o6
        have J6 : Hid (Cel bs 1 (.int .i64 (n : Int)) w6) := hide (HBS.out o6 (R := (Sep (BO gH (.cells (rowN (n * 1) (fun _ => .slice none 0 0)) 54 (0, 0))) (Sep (BO gO (.cells (rowN (n * 1) (fun _ => .bool false)) 4 (0, 0))) (Sep (AX q (pg : Int) (n : Int) p r s0 pg [] 1 rl) (Sep (MX a (pg : Int) (n : Int) p' r' s0 pg [] 1 rl) R))))) (by ac_rfl))
        clear o6
        refine hK _ _ J6.out ?_
        clear hK K'
        simp only [Act.put, List.getElem_toArray, List.getElem_cons_succ, List.getElem_cons_zero, List.setIfInBounds_toArray, List.set_cons_succ, List.set_cons_zero]
        refine wpAnyJ_all (is := [7, 13]) (by simp) (by kernel_rfl) ?_
        simp only [List.forall_mem_cons, List.not_mem_nil, false_imp_iff, implies_true, and_true]
        refine ⟨?_, ?_⟩
        · refine wpAnyJ_one rfl (fun K' hK => ?_)
          rw [if_pos (show Region.wanted _ _ = true from rfl)]
          refine makeN _ (Loc.bo.sep (Loc.bo.sep lB)) O6.out _ _ 34 rfl 47 i1 (.agg #[.pointer none, .pointer none, .pointer none]) 3 Try.underlying34 hi1 z10 z11 n rfl rfl (by rw [z12]; omega) (by unfold maxLen; omega) (.pointer none) rfl (by omega) ?_
          intro gM w7 o7
          have O7 := hide o7
          have J7 : Hid (Cel bs 1 (.int .i64 (n : Int)) w7) := hide (HBS.out o7 (R := (Sep (BO gM (.cells (rowN (n * 3) (fun _ => .pointer none)) 47 (0, 0))) (Sep (BO gH (.cells (rowN (n * 1) (fun _ => .slice none 0 0)) 54 (0, 0))) (Sep (BO gO (.cells (rowN (n * 1) (fun _ => .bool false)) 4 (0, 0))) (Sep (AX q (pg : Int) (n : Int) p r s0 pg [] 1 rl) (Sep (MX a (pg : Int) (n : Int) p' r' s0 pg [] 1 rl) R)))))) (by ac_rfl))
          clear o7
          refine hK _ _ J7.out ?_
          clear hK K'
          simp only [Act.put, List.getElem_toArray, List.getElem_cons_succ, List.getElem_cons_zero, List.setIfInBounds_toArray, List.set_cons_succ, List.set_cons_zero]
          refine wpAnyJ_all (is := [13]) (by simp) (by kernel_rfl) ?_
          simp only [List.forall_mem_cons, List.not_mem_nil, false_imp_iff, implies_true, and_true]
          refine wpAnyJ_one rfl (fun K' hK => ?_)
          rw [if_pos (show Region.wanted _ _ = true from rfl)]
          refine makeN _ (Loc.bo.sep (Loc.bo.sep (Loc.bo.sep lB))) O7.out _ _ 35 rfl 4 i2 (.bool false) 1 Try.underlying35 hi2 z20 z21 n rfl rfl (by rw [z22]; omega) (by unfold maxLen; omega) (.bool false) rfl (by omega) ?_
          intro gP w8 o8
          have O8 := hide o8
          have J8 : Hid (Cel bs 1 (.int .i64 (n : Int)) w8) := hide (HBS.out o8 (R := (Sep (BO gP (.cells (rowN (n * 1) (fun _ => .bool false)) 4 (0, 0))) (Sep (BO gM (.cells (rowN (n * 3) (fun _ => .pointer none)) 47 (0, 0))) (Sep (BO gH (.cells (rowN (n * 1) (fun _ => .slice none 0 0)) 54 (0, 0))) (Sep (BO gO (.cells (rowN (n * 1) (fun _ => .bool false)) 4 (0, 0))) (Sep (AX q (pg : Int) (n : Int) p r s0 pg [] 1 rl) (Sep (MX a (pg : Int) (n : Int) p' r' s0 pg [] 1 rl) R))))))) (by ac_rfl))
          clear o8
          refine hK _ _ J8.out ?_
          clear hK K'
          simp only [Act.put, List.getElem_toArray, List.getElem_cons_succ, List.getElem_cons_zero, List.setIfInBounds_toArray, List.set_cons_succ, List.set_cons_zero]
          refine stretch (fuel := 2) (by kernel_rfl) (fun _ _ _ _ _ h => h) J8.out [14] (by kernel_rfl) ?_
          simp only [List.filterMap_cons, List.filterMap_nil, List.getElem?_toArray, List.getElem?_cons_zero, List.getElem?_cons_succ]
          show wpQuiet _ _ _ _ [_] _
          repeat (go_big_quiet_step (fail))
          refine wpQuiet_nil ?_
          refine wpAnyJ_writer (i := 15) rfl (by kernel_rfl) (fun K' hK => ?_)
          go_simp
          have O9 : Hid (Own (Sep (BO w8.heap.size (gameO q a gH gM gO gP n)) (Sep (BO gP (.cells (rowN (n * 1) (fun _ => .bool false)) 4 (0, 0))) (Sep (BO gM (.cells (rowN (n * 3) (fun _ => .pointer none)) 47 (0, 0))) (Sep (BO gH (.cells (rowN (n * 1) (fun _ => .slice none 0 0)) 54 (0, 0))) (Sep (BO gO (.cells (rowN (n * 1) (fun _ => .bool false)) 4 (0, 0))) (Sep (AX q (pg : Int) (n : Int) p r s0 pg [] 1 rl) (Sep (MX a (pg : Int) (n : Int) p' r' s0 pg [] 1 rl) (Sep (BO bs SO) R)))))))) w0 (w8.alloc (.cells #[.pointer (some ⟨q, 0, none⟩), .pointer (some ⟨a, 0, none⟩), .slice (some ⟨gH, 0, none⟩) n n, .slice (some ⟨gM, 0, none⟩) n n, .slice (some ⟨gO, 0, none⟩) n n, .slice (some ⟨gP, 0, none⟩) n n] 37))) := hide (Own.boNew (Loc.bo.sep (Loc.bo.sep (Loc.bo.sep (Loc.bo.sep lB)))) O8.out (heap_alloc_at _ _) (Nat.le_refl _) (grown1 _ _))
          refine hK _ _ (HBS.out O9.out (R := Sep (BO w8.heap.size (gameO q a gH gM gO gP n)) (Sep (BO gP (.cells (rowN (n * 1) (fun _ => .bool false)) 4 (0, 0))) (Sep (BO gM (.cells (rowN (n * 3) (fun _ => .pointer none)) 47 (0, 0))) (Sep (BO gH (.cells (rowN (n * 1) (fun _ => .slice none 0 0)) 54 (0, 0))) (Sep (BO gO (.cells (rowN (n * 1) (fun _ => .bool false)) 4 (0, 0))) (Sep (AX q (pg : Int) (n : Int) p r s0 pg [] 1 rl) (Sep (MX a (pg : Int) (n : Int) p' r' s0 pg [] 1 rl) R))))))) (by ac_rfl)) ?_
          clear hK K'
          refine stretch (fuel := 0) (by kernel_rfl) (fun _ _ _ _ _ h => h) (HBS.out O9.out (R := Sep (BO w8.heap.size (gameO q a gH gM gO gP n)) (Sep (BO gP (.cells (rowN (n * 1) (fun _ => .bool false)) 4 (0, 0))) (Sep (BO gM (.cells (rowN (n * 3) (fun _ => .pointer none)) 47 (0, 0))) (Sep (BO gH (.cells (rowN (n * 1) (fun _ => .slice none 0 0)) 54 (0, 0))) (Sep (BO gO (.cells (rowN (n * 1) (fun _ => .bool false)) 4 (0, 0))) (Sep (AX q (pg : Int) (n : Int) p r s0 pg [] 1 rl) (Sep (MX a (pg : Int) (n : Int) p' r' s0 pg [] 1 rl) R))))))) (by ac_rfl)) [16] (by kernel_rfl) ?_
          simp only [List.filterMap_cons, List.filterMap_nil, List.getElem?_toArray, List.getElem?_cons_zero, List.getElem?_cons_succ]
          show wpQuiet _ _ _ _ [_] _
          repeat (go_big_quiet_step (fail))
          refine wpQuiet_nil ?_
          refine wpAnyJ_done (by kernel_rfl) ?_
          go_wp2
          go_meet
          exact ⟨_, gH, gM, gO, gP, rfl, O9.out.cast (by ac_rfl)⟩
        · refine wpAnyJ_one rfl (fun K' hK => ?_)
          rw [if_pos (show Region.wanted _ _ = true from rfl)]
          refine makeN _ (Loc.bo.sep (Loc.bo.sep lB)) O6.out _ _ 35 rfl 4 i2 (.bool false) 1 Try.underlying35 hi2 z20 z21 n rfl rfl (by rw [z22]; omega) (by unfold maxLen; omega) (.bool false) rfl (by omega) ?_
          intro gP w7 o7
          have O7 := hide o7
          have J7 : Hid (Cel bs 1 (.int .i64 (n : Int)) w7) := hide (HBS.out o7 (R := (Sep (BO gP (.cells (rowN (n * 1) (fun _ => .bool false)) 4 (0, 0))) (Sep (BO gH (.cells (rowN (n * 1) (fun _ => .slice none 0 0)) 54 (0, 0))) (Sep (BO gO (.cells (rowN (n * 1) (fun _ => .bool false)) 4 (0, 0))) (Sep (AX q (pg : Int) (n : Int) p r s0 pg [] 1 rl) (Sep (MX a (pg : Int) (n : Int) p' r' s0 pg [] 1 rl) R)))))) (by ac_rfl))
          clear o7
          refine hK _ _ J7.out ?_
          clear hK K'
          simp only [Act.put, List.getElem_toArray, List.getElem_cons_succ, List.getElem_cons_zero, List.setIfInBounds_toArray, List.set_cons_succ, List.set_cons_zero]
          refine wpAnyJ_all (is := [7]) (by simp) (by kernel_rfl) ?_
          simp only [List.forall_mem_cons, List.not_mem_nil, false_imp_iff, implies_true, and_true]
          refine wpAnyJ_one rfl (fun K' hK => ?_)
          rw [if_pos (show Region.wanted _ _ = true from rfl)]
          refine makeN _ (Loc.bo.sep (Loc.bo.sep (Loc.bo.sep lB))) O7.out _ _ 34 rfl 47 i1 (.agg #[.pointer none, .pointer none, .pointer none]) 3 Try.underlying34 hi1 z10 z11 n rfl rfl (by rw [z12]; omega) (by unfold maxLen; omega) (.pointer none) rfl (by omega) ?_
          intro gM w8 o8
          have O8 := hide o8
          have J8 : Hid (Cel bs 1 (.int .i64 (n : Int)) w8) := hide (HBS.out o8 (R := (Sep (BO gM (.cells (rowN (n * 3) (fun _ => .pointer none)) 47 (0, 0))) (Sep (BO gP (.cells (rowN (n * 1) (fun _ => .bool false)) 4 (0, 0))) (Sep (BO gH (.cells (rowN (n * 1) (fun _ => .slice none 0 0)) 54 (0, 0))) (Sep (BO gO (.cells (rowN (n * 1) (fun _ => .bool false)) 4 (0, 0))) (Sep (AX q (pg : Int) (n : Int) p r s0 pg [] 1 rl) (Sep (MX a (pg : Int) (n : Int) p' r' s0 pg [] 1 rl) R))))))) (by ac_rfl))
          clear o8
          refine hK _ _ J8.out ?_
          clear hK K'
          simp only [Act.put, List.getElem_toArray, List.getElem_cons_succ, List.getElem_cons_zero, List.setIfInBounds_toArray, List.set_cons_succ, List.set_cons_zero]
          refine stretch (fuel := 2) (by kernel_rfl) (fun _ _ _ _ _ h => h) J8.out [14] (by kernel_rfl) ?_
          simp only [List.filterMap_cons, List.filterMap_nil, List.getElem?_toArray, List.getElem?_cons_zero, List.getElem?_cons_succ]
          show wpQuiet _ _ _ _ [_] _
          repeat (go_big_quiet_step (fail))
          refine wpQuiet_nil ?_
          refine wpAnyJ_writer (i := 15) rfl (by kernel_rfl) (fun K' hK => ?_)
          go_simp
          have O9 : Hid (Own (Sep (BO w8.heap.size (gameO q a gH gM gO gP n)) (Sep (BO gM (.cells (rowN (n * 3) (fun _ => .pointer none)) 47 (0, 0))) (Sep (BO gP (.cells (rowN (n * 1) (fun _ => .bool false)) 4 (0, 0))) (Sep (BO gH (.cells (rowN (n * 1) (fun _ => .slice none 0 0)) 54 (0, 0))) (Sep (BO gO (.cells (rowN (n * 1) (fun _ => .bool false)) 4 (0, 0))) (Sep (AX q (pg : Int) (n : Int) p r s0 pg [] 1 rl) (Sep (MX a (pg : Int) (n : Int) p' r' s0 pg [] 1 rl) (Sep (BO bs SO) R)))))))) w0 (w8.alloc (.cells #[.pointer (some ⟨q, 0, none⟩), .pointer (some ⟨a, 0, none⟩), .slice (some ⟨gH, 0, none⟩) n n, .slice (some ⟨gM, 0, none⟩) n n, .slice (some ⟨gO, 0, none⟩) n n, .slice (some ⟨gP, 0, none⟩) n n] 37))) := hide (Own.boNew (Loc.bo.sep (Loc.bo.sep (Loc.bo.sep (Loc.bo.sep lB)))) O8.out (heap_alloc_at _ _) (Nat.le_refl _) (grown1 _ _))
          refine hK _ _ (HBS.out O9.out (R := Sep (BO w8.heap.size (gameO q a gH gM gO gP n)) (Sep (BO gM (.cells (rowN (n * 3) (fun _ => .pointer none)) 47 (0, 0))) (Sep (BO gP (.cells (rowN (n * 1) (fun _ => .bool false)) 4 (0, 0))) (Sep (BO gH (.cells (rowN (n * 1) (fun _ => .slice none 0 0)) 54 (0, 0))) (Sep (BO gO (.cells (rowN (n * 1) (fun _ => .bool false)) 4 (0, 0))) (Sep (AX q (pg : Int) (n : Int) p r s0 pg [] 1 rl) (Sep (MX a (pg : Int) (n : Int) p' r' s0 pg [] 1 rl) R))))))) (by ac_rfl)) ?_
          clear hK K'
          refine stretch (fuel := 0) (by kernel_rfl) (fun _ _ _ _ _ h => h) (HBS.out O9.out (R := Sep (BO w8.heap.size (gameO q a gH gM gO gP n)) (Sep (BO gM (.cells (rowN (n * 3) (fun _ => .pointer none)) 47 (0, 0))) (Sep (BO gP (.cells (rowN (n * 1) (fun _ => .bool false)) 4 (0, 0))) (Sep (BO gH (.cells (rowN (n * 1) (fun _ => .slice none 0 0)) 54 (0, 0))) (Sep (BO gO (.cells (rowN (n * 1) (fun _ => .bool false)) 4 (0, 0))) (Sep (AX q (pg : Int) (n : Int) p r s0 pg [] 1 rl) (Sep (MX a (pg : Int) (n : Int) p' r' s0 pg [] 1 rl) R))))))) (by ac_rfl)) [16] (by kernel_rfl) ?_
          simp only [List.filterMap_cons, List.filterMap_nil, List.getElem?_toArray, List.getElem?_cons_zero, List.getElem?_cons_succ]
          show wpQuiet _ _ _ _ [_] _
          repeat (go_big_quiet_step (fail))
          refine wpQuiet_nil ?_
          refine wpAnyJ_done (by kernel_rfl) ?_
          go_wp2
          go_meet
          exact ⟨_, gH, gM, gO, gP, rfl, O9.out.cast (by ac_rfl)⟩
      · refine wpAnyJ_one rfl (fun K' hK => ?_)
        rw [if_pos (show Region.wanted _ _ = true from rfl)]
        refine makeN _ (Loc.bo.sep lB) O5.out _ _ 34 rfl 47 i1 (.agg #[.pointer none, .pointer none, .pointer none]) 3 Try.underlying34 hi1 z10 z11 n rfl rfl (by rw [z12]; omega) (by unfold maxLen; omega) (.pointer none) rfl (by omega) ?_
        intro gM w6 o6
        have O6 := hide o6
        have J6 : Hid (Cel bs 1 (.int .i64 (n : Int)) w6) := hide (HBS.out o6 (R := (Sep (BO gM (.cells (rowN (n * 3) (fun _ => .pointer none)) 47 (0, 0))) (Sep (BO gO (.cells (rowN (n * 1) (fun _ => .bool false)) 4 (0, 0))) (Sep (AX q (pg : Int) (n : Int) p r s0 pg [] 1 rl) (Sep (MX a (pg : Int) (n : Int) p' r' s0 pg [] 1 rl) R))))) (by ac_rfl))
        clear o6
        refine hK _ _ J6.out ?_
        clear hK K'
        simp only [Act.put, List.getElem_toArray, List.getElem_cons_succ, List.getElem_cons_zero, List.setIfInBounds_toArray, List.set_cons_succ, List.set_cons_zero]
        refine wpAnyJ_all (is := [4, 13]) (by simp) (by kernel_rfl) ?_
        simp only [List.forall_mem_cons, List.not_mem_nil, false_imp_iff, implies_true, and_true]
        refine ⟨?_, ?_⟩
        · refine wpAnyJ_one rfl (fun K' hK => ?_)
          rw [if_pos (show Region.wanted _ _ = true from rfl)]
          refine makeN _ (Loc.bo.sep (Loc.bo.sep lB)) O6.out _ _ 33 rfl 54 i0 (.slice none 0 0) 1 Try.underlying33 hi0 z00 z01 n rfl rfl (by rw [z02]; omega) (by unfold maxLen; omega) (.slice none 0 0) rfl (by omega) ?_
          intro gH w7 o7
          have O7 := hide o7
          have J7 : Hid (Cel bs 1 (.int .i64 (n : Int)) w7) := hide (HBS.out o7 (R := (Sep (BO gH (.cells (rowN (n * 1) (fun _ => .slice none 0 0)) 54 (0, 0))) (Sep (BO gM (.cells (rowN (n * 3) (fun _ => .pointer none)) 47 (0, 0))) (Sep (BO gO (.cells (rowN (n * 1) (fun _ => .bool false)) 4 (0, 0))) (Sep (AX q (pg : Int) (n : Int) p r s0 pg [] 1 rl) (Sep (MX a (pg : Int) (n : Int) p' r' s0 pg [] 1 rl) R)))))) (by ac_rfl))
          clear o7
          refine hK _ _ J7.out ?_
          clear hK K'
          simp only [Act.put, List.getElem_toArray, List.getElem_cons_succ, List.getElem_cons_zero, List.setIfInBounds_toArray, List.set_cons_succ, List.set_cons_zero]
          refine wpAnyJ_all (is := [13]) (by simp) (by kernel_rfl) ?_
          simp only [List.forall_mem_cons, List.not_mem_nil, false_imp_iff, implies_true, and_true]
          refine wpAnyJ_one rfl (fun K' hK => ?_)
          rw [if_pos (show Region.wanted _ _ = true from rfl)]
          refine makeN _ (Loc.bo.sep (Loc.bo.sep (Loc.bo.sep lB))) O7.out _ _ 35 rfl 4 i2 (.bool false) 1 Try.underlying35 hi2 z20 z21 n rfl rfl (by rw [z22]; omega) (by unfold maxLen; omega) (.bool false) rfl (by omega) ?_
          intro gP w8 o8
          have O8 := hide o8
          have J8 : Hid (Cel bs 1 (.int .i64 (n : Int)) w8) := hide (HBS.out o8 (R := (Sep (BO gP (.cells (rowN (n * 1) (fun _ => .bool false)) 4 (0, 0))) (Sep (BO gH (.cells (rowN (n * 1) (fun _ => .slice none 0 0)) 54 (0, 0))) (Sep (BO gM (.cells (rowN (n * 3) (fun _ => .pointer none)) 47 (0, 0))) (Sep (BO gO (.cells (rowN (n * 1) (fun _ => .bool false)) 4 (0, 0))) (Sep (AX q (pg : Int) (n : Int) p r s0 pg [] 1 rl) (Sep (MX a (pg : Int) (n : Int) p' r' s0 pg [] 1 rl) R))))))) (by ac_rfl))
          clear o8
          refine hK _ _ J8.out ?_
          clear hK K'
          simp only [Act.put, List.getElem_toArray, List.getElem_cons_succ, List.getElem_cons_zero, List.setIfInBounds_toArray, List.set_cons_succ, List.set_cons_zero]
          refine stretch (fuel := 2) (by kernel_rfl) (fun _ _ _ _ _ h => h) J8.out [14] (by kernel_rfl) ?_
          simp only [List.filterMap_cons, List.filterMap_nil, List.getElem?_toArray, List.getElem?_cons_zero, List.getElem?_cons_succ]
          show wpQuiet _ _ _ _ [_] _
          repeat (go_big_quiet_step (fail))
          refine wpQuiet_nil ?_
          refine wpAnyJ_writer (i := 15) rfl (by kernel_rfl) (fun K' hK => ?_)
          go_simp
          have O9 : Hid (Own (Sep (BO w8.heap.size (gameO q a gH gM gO gP n)) (Sep (BO gP (.cells (rowN (n * 1) (fun _ => .bool false)) 4 (0, 0))) (Sep (BO gH (.cells (rowN (n * 1) (fun _ => .slice none 0 0)) 54 (0, 0))) (Sep (BO gM (.cells (rowN (n * 3) (fun _ => .pointer none)) 47 (0, 0))) (Sep (BO gO (.cells (rowN (n * 1) (fun _ => .bool false)) 4 (0, 0))) (Sep (AX q (pg : Int) (n : Int) p r s0 pg [] 1 rl) (Sep (MX a (pg : Int) (n : Int) p' r' s0 pg [] 1 rl) (Sep (BO bs SO) R)))))))) w0 (w8.alloc (.cells #[.pointer (some ⟨q, 0, none⟩), .pointer (some ⟨a, 0, none⟩), .slice (some ⟨gH, 0, none⟩) n n, .slice (some ⟨gM, 0, none⟩) n n, .slice (some ⟨gO, 0, none⟩) n n, .slice (some ⟨gP, 0, none⟩) n n] 37))) := hide (Own.boNew (Loc.bo.sep (Loc.bo.sep (Loc.bo.sep (Loc.bo.sep lB)))) O8.out (heap_alloc_at _ _) (Nat.le_refl _) (grown1 _ _))
          refine hK _ _ (HBS.out O9.out (R := Sep (BO w8.heap.size (gameO q a gH gM gO gP n)) (Sep (BO gP (.cells (rowN (n * 1) (fun _ => .bool false)) 4 (0, 0))) (Sep (BO gH (.cells (rowN (n * 1) (fun _ => .slice none 0 0)) 54 (0, 0))) (Sep (BO gM (.cells (rowN (n * 3) (fun _ => .pointer none)) 47 (0, 0))) (Sep (BO gO (.cells (rowN (n * 1) (fun _ => .bool false)) 4 (0, 0))) (Sep (AX q (pg : Int) (n : Int) p r s0 pg [] 1 rl) (Sep (MX a (pg : Int) (n : Int) p' r' s0 pg [] 1 rl) R))))))) (by ac_rfl)) ?_
          clear hK K'
          refine stretch (fuel := 0) (by kernel_rfl) (fun _ _ _ _ _ h => h) (HBS.out O9.out (R := Sep (BO w8.heap.size (gameO q a gH gM gO gP n)) (Sep (BO gP (.cells (rowN (n * 1) (fun _ => .bool false)) 4 (0, 0))) (Sep (BO gH (.cells (rowN (n * 1) (fun _ => .slice none 0 0)) 54 (0, 0))) (Sep (BO gM (.cells (rowN (n * 3) (fun _ => .pointer none)) 47 (0, 0))) (Sep (BO gO (.cells (rowN (n * 1) (fun _ => .bool false)) 4 (0, 0))) (Sep (AX q (pg : Int) (n : Int) p r s0 pg [] 1 rl) (Sep (MX a (pg : Int) (n : Int) p' r' s0 pg [] 1 rl) R))))))) (by ac_rfl)) [16] (by kernel_rfl) ?_
          simp only [List.filterMap_cons, List.filterMap_nil, List.getElem?_toArray, List.getElem?_cons_zero, List.getElem?_cons_succ]
          show wpQuiet _ _ _ _ [_] _
          repeat (go_big_quiet_step (fail))
          refine wpQuiet_nil ?_
          refine wpAnyJ_done (by kernel_rfl) ?_
          go_wp2
          go_meet
          exact ⟨_, gH, gM, gO, gP, rfl, O9.out.cast (by ac_rfl)⟩
        · refine wpAnyJ_one rfl (fun K' hK => ?_)
          rw [if_pos (show Region.wanted _ _ = true from rfl)]
          refine makeN _ (Loc.bo.sep (Loc.bo.sep lB)) O6.out _ _ 35 rfl 4 i2 (.bool false) 1 Try.underlying35 hi2 z20 z21 n rfl rfl (by rw [z22]; omega) (by unfold maxLen; omega) (.bool false) rfl (by omega) ?_
          intro gP w7 o7
          have O7 := hide o7
          have J7 : Hid (Cel bs 1 (.int .i64 (n : Int)) w7) := hide (HBS.out o7 (R := (Sep (BO gP (.cells (rowN (n * 1) (fun _ => .bool false)) 4 (0, 0))) (Sep (BO gM (.cells (rowN (n * 3) (fun _ => .pointer none)) 47 (0, 0))) (Sep (BO gO (.cells (rowN (n * 1) (fun _ => .bool false)) 4 (0, 0))) (Sep (AX q (pg : Int) (n : Int) p r s0 pg [] 1 rl) (Sep (MX a (pg : Int) (n : Int) p' r' s0 pg [] 1 rl) R)))))) (by ac_rfl))
          clear o7
          refine hK _ _ J7.out ?_
          clear hK K'
          simp only [Act.put, List.getElem_toArray, List.getElem_cons_succ, List.getElem_cons_zero, List.setIfInBounds_toArray, List.set_cons_succ, List.set_cons_zero]
          refine wpAnyJ_all (is := [4]) (by simp) (by kernel_rfl) ?_
          simp only [List.forall_mem_cons, List.not_mem_nil, false_imp_iff, implies_true, and_true]
          refine wpAnyJ_one rfl (fun K' hK => ?_)
          rw [if_pos (show Region.wanted _ _ = true from rfl)]
          refine makeN _ (Loc.bo.sep (Loc.bo.sep (Loc.bo.sep lB))) O7.out _ _ 33 rfl 54 i0 (.slice none 0 0) 1 Try.underlying33 hi0 z00 z01 n rfl rfl (by rw [z02]; omega) (by unfold maxLen; omega) (.slice none 0 0) rfl (by omega) ?_
          intro gH w8 o8
          have O8 := hide o8
          have J8 : Hid (Cel bs 1 (.int .i64 (n : Int)) w8) := hide (HBS.out o8 (R := (Sep (BO gH (.cells (rowN (n * 1) (fun _ => .slice none 0 0)) 54 (0, 0))) (Sep (BO gP (.cells (rowN (n * 1) (fun _ => .bool false)) 4 (0, 0))) (Sep (BO gM (.cells (rowN (n * 3) (fun _ => .pointer none)) 47 (0, 0))) (Sep (BO gO (.cells (rowN (n * 1) (fun _ => .bool false)) 4 (0, 0))) (Sep (AX q (pg : Int) (n : Int) p r s0 pg [] 1 rl) (Sep (MX a (pg : Int) (n : Int) p' r' s0 pg [] 1 rl) R))))))) (by ac_rfl))
          clear o8
          refine hK _ _ J8.out ?_
          clear hK K'
          simp only [Act.put, List.getElem_toArray, List.getElem_cons_succ, List.getElem_cons_zero, List.setIfInBounds_toArray, List.set_cons_succ, List.set_cons_zero]
          refine stretch (fuel := 2) (by kernel_rfl) (fun _ _ _ _ _ h => h) J8.out [14] (by kernel_rfl) ?_
          simp only [List.filterMap_cons, List.filterMap_nil, List.getElem?_toArray, List.getElem?_cons_zero, List.getElem?_cons_succ]
          show wpQuiet _ _ _ _ [_] _
          repeat (go_big_quiet_step (fail))
          refine wpQuiet_nil ?_
          refine wpAnyJ_writer (i := 15) rfl (by kernel_rfl) (fun K' hK => ?_)
          go_simp
          have O9 : Hid (Own (Sep (BO w8.heap.size (gameO q a gH gM gO gP n)) (Sep (BO gH (.cells (rowN (n * 1) (fun _ => .slice none 0 0)) 54 (0, 0))) (Sep (BO gP (.cells (rowN (n * 1) (fun _ => .bool false)) 4 (0, 0))) (Sep (BO gM (.cells (rowN (n * 3) (fun _ => .pointer none)) 47 (0, 0))) (Sep (BO gO (.cells (rowN (n * 1) (fun _ => .bool false)) 4 (0, 0))) (Sep (AX q (pg : Int) (n : Int) p r s0 pg [] 1 rl) (Sep (MX a (pg : Int) (n : Int) p' r' s0 pg [] 1 rl) (Sep (BO bs SO) R)))))))) w0 (w8.alloc (.cells #[.pointer (some ⟨q, 0, none⟩), .pointer (some ⟨a, 0, none⟩), .slice (some ⟨gH, 0, none⟩) n n, .slice (some ⟨gM, 0, none⟩) n n, .slice (some ⟨gO, 0, none⟩) n n, .slice (some ⟨gP, 0, none⟩) n n] 37))) := hide (Own.boNew (Loc.bo.sep (Loc.bo.sep (Loc.bo.sep (Loc.bo.sep lB)))) O8.out (heap_alloc_at _ _) (Nat.le_refl _) (grown1 _ _))
          refine hK _ _ (HBS.out O9.out (R := Sep (BO w8.heap.size (gameO q a gH gM gO gP n)) (Sep (BO gH (.cells (rowN (n * 1) (fun _ => .slice none 0 0)) 54 (0, 0))) (Sep (BO gP (.cells (rowN (n * 1) (fun _ => .bool false)) 4 (0, 0))) (Sep (BO gM (.cells (rowN (n * 3) (fun _ => .pointer none)) 47 (0, 0))) (Sep (BO gO (.cells (rowN (n * 1) (fun _ => .bool false)) 4 (0, 0))) (Sep (AX q (pg : Int) (n : Int) p r s0 pg [] 1 rl) (Sep (MX a (pg : Int) (n : Int) p' r' s0 pg [] 1 rl) R))))))) (by ac_rfl)) ?_
          clear hK K'
          refine stretch (fuel := 0) (by kernel_rfl) (fun _ _ _ _ _ h => h) (HBS.out O9.out (R := Sep (BO w8.heap.size (gameO q a gH gM gO gP n)) (Sep (BO gH (.cells (rowN (n * 1) (fun _ => .slice none 0 0)) 54 (0, 0))) (Sep (BO gP (.cells (rowN (n * 1) (fun _ => .bool false)) 4 (0, 0))) (Sep (BO gM (.cells (rowN (n * 3) (fun _ => .pointer none)) 47 (0, 0))) (Sep (BO gO (.cells (rowN (n * 1) (fun _ => .bool false)) 4 (0, 0))) (Sep (AX q (pg : Int) (n : Int) p r s0 pg [] 1 rl) (Sep (MX a (pg : Int) (n : Int) p' r' s0 pg [] 1 rl) R))))))) (by ac_rfl)) [16] (by kernel_rfl) ?_
          simp only [List.filterMap_cons, List.filterMap_nil, List.getElem?_toArray, List.getElem?_cons_zero, List.getElem?_cons_succ]
          show wpQuiet _ _ _ _ [_] _
          repeat (go_big_quiet_step (fail))
          refine wpQuiet_nil ?_
          refine wpAnyJ_done (by kernel_rfl) ?_
          go_wp2
          go_meet
          exact ⟨_, gH, gM, gO, gP, rfl, O9.out.cast (by ac_rfl)⟩
      · refine wpAnyJ_one rfl (fun K' hK => ?_)
        rw [if_pos (show Region.wanted _ _ = true from rfl)]
        refine makeN _ (Loc.bo.sep lB) O5.out _ _ 35 rfl 4 i2 (.bool false) 1 Try.underlying35 hi2 z20 z21 n rfl rfl (by rw [z22]; omega) (by unfold maxLen; omega) (.bool false) rfl (by omega) ?_
        intro gP w6 o6
        have O6 := hide o6
        have J6 : Hid (Cel bs 1 (.int .i64 (n : Int)) w6) := hide (HBS.out o6 (R := (Sep (BO gP (.cells (rowN (n * 1) (fun _ => .bool false)) 4 (0, 0))) (Sep (BO gO (.cells (rowN (n * 1) (fun _ => .bool false)) 4 (0, 0))) (Sep (AX q (pg : Int) (n : Int) p r s0 pg [] 1 rl) (Sep (MX a (pg : Int) (n : Int) p' r' s0 pg [] 1 rl) R))))) (by ac_rfl))
        clear o6
        refine hK _ _ J6.out ?_
        clear hK K'
        simp only [Act.put, List.getElem_toArray, List.getElem_cons_succ, List.getElem_cons_zero, List.setIfInBounds_toArray, List.set_cons_succ, List.set_cons_zero]
        refine wpAnyJ_all (is := [4, 7]) (by simp) (by kernel_rfl) ?_
        simp only [List.forall_mem_cons, List.not_mem_nil, false_imp_iff, implies_true, and_true]
        refine ⟨?_, ?_⟩
        · refine wpAnyJ_one rfl (fun K' hK => ?_)
          rw [if_pos (show Region.wanted _ _ = true from rfl)]
          refine makeN _ (Loc.bo.sep (Loc.bo.sep lB)) O6.out _ _ 33 rfl 54 i0 (.slice none 0 0) 1 Try.underlying33 hi0 z00 z01 n rfl rfl (by rw [z02]; omega) (by unfold maxLen; omega) (.slice none 0 0) rfl (by omega) ?_
          intro gH w7 o7
          have O7 := hide o7
          have J7 : Hid (Cel bs 1 (.int .i64 (n : Int)) w7) := hide (HBS.out o7 (R := (Sep (BO gH (.cells (rowN (n * 1) (fun _ => .slice none 0 0)) 54 (0, 0))) (Sep (BO gP (.cells (rowN (n * 1) (fun _ => .bool false)) 4 (0, 0))) (Sep (BO gO (.cells (rowN (n * 1) (fun _ => .bool false)) 4 (0, 0))) (Sep (AX q (pg : Int) (n : Int) p r s0 pg [] 1 rl) (Sep (MX a (pg : Int) (n : Int) p' r' s0 pg [] 1 rl) R)))))) (by ac_rfl))
          clear o7
          refine hK _ _ J7.out ?_
          clear hK K'
          simp only [Act.put, List.getElem_toArray, List.getElem_cons_succ, List.getElem_cons_zero, List.setIfInBounds_toArray, List.set_cons_succ, List.set_cons_zero]
          refine wpAnyJ_all (is := [7]) (by simp) (by kernel_rfl) ?_
          simp only [List.forall_mem_cons, List.not_mem_nil, false_imp_iff, implies_true, and_true]
          refine wpAnyJ_one rfl (fun K' hK => ?_)
          rw [if_pos (show Region.wanted _ _ = true from rfl)]
          refine makeN _ (Loc.bo.sep (Loc.bo.sep (Loc.bo.sep lB))) O7.out _ _ 34 rfl 47 i1 (.agg #[.pointer none, .pointer none, .pointer none]) 3 Try.underlying34 hi1 z10 z11 n rfl rfl (by rw [z12]; omega) (by unfold maxLen; omega) (.pointer none) rfl (by omega) ?_
          intro gM w8 o8
          have O8 := hide o8
          have J8 : Hid (Cel bs 1 (.int .i64 (n : Int)) w8) := hide (HBS.out o8 (R := (Sep (BO gM (.cells (rowN (n * 3) (fun _ => .pointer none)) 47 (0, 0))) (Sep (BO gH (.cells (rowN (n * 1) (fun _ => .slice none 0 0)) 54 (0, 0))) (Sep (BO gP (.cells (rowN (n * 1) (fun _ => .bool false)) 4 (0, 0))) (Sep (BO gO (.cells (rowN (n * 1) (fun _ => .bool false)) 4 (0, 0))) (Sep (AX q (pg : Int) (n : Int) p r s0 pg [] 1 rl) (Sep (MX a (pg : Int) (n : Int) p' r' s0 pg [] 1 rl) R))))))) (by ac_rfl))
          clear o8
          refine hK _ _ J8.out ?_
          clear hK K'
          simp only [Act.put, List.getElem_toArray, List.getElem_cons_succ, List.getElem_cons_zero, List.setIfInBounds_toArray, List.set_cons_succ, List.set_cons_zero]
          refine stretch (fuel := 2) (by kernel_rfl) (fun _ _ _ _ _ h => h) J8.out [14] (by kernel_rfl) ?_
          simp only [List.filterMap_cons, List.filterMap_nil, List.getElem?_toArray, List.getElem?_cons_zero, List.getElem?_cons_succ]
          show wpQuiet _ _ _ _ [_] _
          repeat (go_big_quiet_step (fail))
          refine wpQuiet_nil ?_
          refine wpAnyJ_writer (i := 15) rfl (by kernel_rfl) (fun K' hK => ?_)
          go_simp
          have O9 : Hid (Own (Sep (BO w8.heap.size (gameO q a gH gM gO gP n)) (Sep (BO gM (.cells (rowN (n * 3) (fun _ => .pointer none)) 47 (0, 0))) (Sep (BO gH (.cells (rowN (n * 1) (fun _ => .slice none 0 0)) 54 (0, 0))) (Sep (BO gP (.cells (rowN (n * 1) (fun _ => .bool false)) 4 (0, 0))) (Sep (BO gO (.cells (rowN (n * 1) (fun _ => .bool false)) 4 (0, 0))) (Sep (AX q (pg : Int) (n : Int) p r s0 pg [] 1 rl) (Sep (MX a (pg : Int) (n : Int) p' r' s0 pg [] 1 rl) (Sep (BO bs SO) R)))))))) w0 (w8.alloc (.cells #[.pointer (some ⟨q, 0, none⟩), .pointer (some ⟨a, 0, none⟩), .slice (some ⟨gH, 0, none⟩) n n, .slice (some ⟨gM, 0, none⟩) n n, .slice (some ⟨gO, 0, none⟩) n n, .slice (some ⟨gP, 0, none⟩) n n] 37))) := hide (Own.boNew (Loc.bo.sep (Loc.bo.sep (Loc.bo.sep (Loc.bo.sep lB)))) O8.out (heap_alloc_at _ _) (Nat.le_refl _) (grown1 _ _))
          refine hK _ _ (HBS.out O9.out (R := Sep (BO w8.heap.size (gameO q a gH gM gO gP n)) (Sep (BO gM (.cells (rowN (n * 3) (fun _ => .pointer none)) 47 (0, 0))) (Sep (BO gH (.cells (rowN (n * 1) (fun _ => .slice none 0 0)) 54 (0, 0))) (Sep (BO gP (.cells (rowN (n * 1) (fun _ => .bool false)) 4 (0, 0))) (Sep (BO gO (.cells (rowN (n * 1) (fun _ => .bool false)) 4 (0, 0))) (Sep (AX q (pg : Int) (n : Int) p r s0 pg [] 1 rl) (Sep (MX a (pg : Int) (n : Int) p' r' s0 pg [] 1 rl) R))))))) (by ac_rfl)) ?_
          clear hK K'
          refine stretch (fuel := 0) (by kernel_rfl) (fun _ _ _ _ _ h => h) (HBS.out O9.out (R := Sep (BO w8.heap.size (gameO q a gH gM gO gP n)) (Sep (BO gM (.cells (rowN (n * 3) (fun _ => .pointer none)) 47 (0, 0))) (Sep (BO gH (.cells (rowN (n * 1) (fun _ => .slice none 0 0)) 54 (0, 0))) (Sep (BO gP (.cells (rowN (n * 1) (fun _ => .bool false)) 4 (0, 0))) (Sep (BO gO (.cells (rowN (n * 1) (fun _ => .bool false)) 4 (0, 0))) (Sep (AX q (pg : Int) (n : Int) p r s0 pg [] 1 rl) (Sep (MX a (pg : Int) (n : Int) p' r' s0 pg [] 1 rl) R))))))) (by ac_rfl)) [16] (by kernel_rfl) ?_
          simp only [List.filterMap_cons, List.filterMap_nil, List.getElem?_toArray, List.getElem?_cons_zero, List.getElem?_cons_succ]
          show wpQuiet _ _ _ _ [_] _
          repeat (go_big_quiet_step (fail))
          refine wpQuiet_nil ?_
          refine wpAnyJ_done (by kernel_rfl) ?_
          go_wp2
          go_meet
          exact ⟨_, gH, gM, gO, gP, rfl, O9.out.cast (by ac_rfl)⟩
        · refine wpAnyJ_one rfl (fun K' hK => ?_)
          rw [if_pos (show Region.wanted _ _ = true from rfl)]
          refine makeN _ (Loc.bo.sep (Loc.bo.sep lB)) O6.out _ _ 34 rfl 47 i1 (.agg #[.pointer none, .pointer none, .pointer none]) 3 Try.underlying34 hi1 z10 z11 n rfl rfl (by rw [z12]; omega) (by unfold maxLen; omega) (.pointer none) rfl (by omega) ?_
          intro gM w7 o7
          have O7 := hide o7
          have J7 : Hid (Cel bs 1 (.int .i64 (n : Int)) w7) := hide (HBS.out o7 (R := (Sep (BO gM (.cells (rowN (n * 3) (fun _ => .pointer none)) 47 (0, 0))) (Sep (BO gP (.cells (rowN (n * 1) (fun _ => .bool false)) 4 (0, 0))) (Sep (BO gO (.cells (rowN (n * 1) (fun _ => .bool false)) 4 (0, 0))) (Sep (AX q (pg : Int) (n : Int) p r s0 pg [] 1 rl) (Sep (MX a (pg : Int) (n : Int) p' r' s0 pg [] 1 rl) R)))))) (by ac_rfl))
          clear o7
          refine hK _ _ J7.out ?_
          clear hK K'
          simp only [Act.put, List.getElem_toArray, List.getElem_cons_succ, List.getElem_cons_zero, List.setIfInBounds_toArray, List.set_cons_succ, List.set_cons_zero]
          refine wpAnyJ_all (is := [4]) (by simp) (by kernel_rfl) ?_
          simp only [List.forall_mem_cons, List.not_mem_nil, false_imp_iff, implies_true, and_true]
          refine wpAnyJ_one rfl (fun K' hK => ?_)
          rw [if_pos (show Region.wanted _ _ = true from rfl)]
          refine makeN _ (Loc.bo.sep (Loc.bo.sep (Loc.bo.sep lB))) O7.out _ _ 33 rfl 54 i0 (.slice none 0 0) 1 Try.underlying33 hi0 z00 z01 n rfl rfl (by rw [z02]; omega) (by unfold maxLen; omega) (.slice none 0 0) rfl (by omega) ?_
          intro gH w8 o8
          have O8 := hide o8
          have J8 : Hid (Cel bs 1 (.int .i64 (n : Int)) w8) := hide (HBS.out o8 (R := (Sep (BO gH (.cells (rowN (n * 1) (fun _ => .slice none 0 0)) 54 (0, 0))) (Sep (BO gM (.cells (rowN (n * 3) (fun _ => .pointer none)) 47 (0, 0))) (Sep (BO gP (.cells (rowN (n * 1) (fun _ => .bool false)) 4 (0, 0))) (Sep (BO gO (.cells (rowN (n * 1) (fun _ => .bool false)) 4 (0, 0))) (Sep (AX q (pg : Int) (n : Int) p r s0 pg [] 1 rl) (Sep (MX a (pg : Int) (n : Int) p' r' s0 pg [] 1 rl) R))))))) (by ac_rfl))
          clear o8
          refine hK _ _ J8.out ?_
          clear hK K'
          simp only [Act.put, List.getElem_toArray, List.getElem_cons_succ, List.getElem_cons_zero, List.setIfInBounds_toArray, List.set_cons_succ, List.set_cons_zero]
          refine stretch (fuel := 2) (by kernel_rfl) (fun _ _ _ _ _ h => h) J8.out [14] (by kernel_rfl) ?_
          simp only [List.filterMap_cons, List.filterMap_nil, List.getElem?_toArray, List.getElem?_cons_zero, List.getElem?_cons_succ]
          show wpQuiet _ _ _ _ [_] _
          repeat (go_big_quiet_step (fail))
          refine wpQuiet_nil ?_
          refine wpAnyJ_writer (i := 15) rfl (by kernel_rfl) (fun K' hK => ?_)
          go_simp
          have O9 : Hid (Own (Sep (BO w8.heap.size (gameO q a gH gM gO gP n)) (Sep (BO gH (.cells (rowN (n * 1) (fun _ => .slice none 0 0)) 54 (0, 0))) (Sep (BO gM (.cells (rowN (n * 3) (fun _ => .pointer none)) 47 (0, 0))) (Sep (BO gP (.cells (rowN (n * 1) (fun _ => .bool false)) 4 (0, 0))) (Sep (BO gO (.cells (rowN (n * 1) (fun _ => .bool false)) 4 (0, 0))) (Sep (AX q (pg : Int) (n : Int) p r s0 pg [] 1 rl) (Sep (MX a (pg : Int) (n : Int) p' r' s0 pg [] 1 rl) (Sep (BO bs SO) R)))))))) w0 (w8.alloc (.cells #[.pointer (some ⟨q, 0, none⟩), .pointer (some ⟨a, 0, none⟩), .slice (some ⟨gH, 0, none⟩) n n, .slice (some ⟨gM, 0, none⟩) n n, .slice (some ⟨gO, 0, none⟩) n n, .slice (some ⟨gP, 0, none⟩) n n] 37))) := hide (Own.boNew (Loc.bo.sep (Loc.bo.sep (Loc.bo.sep (Loc.bo.sep lB)))) O8.out (heap_alloc_at _ _) (Nat.le_refl _) (grown1 _ _))
          refine hK _ _ (HBS.out O9.out (R := Sep (BO w8.heap.size (gameO q a gH gM gO gP n)) (Sep (BO gH (.cells (rowN (n * 1) (fun _ => .slice none 0 0)) 54 (0, 0))) (Sep (BO gM (.cells (rowN (n * 3) (fun _ => .pointer none)) 47 (0, 0))) (Sep (BO gP (.cells (rowN (n * 1) (fun _ => .bool false)) 4 (0, 0))) (Sep (BO gO (.cells (rowN (n * 1) (fun _ => .bool false)) 4 (0, 0))) (Sep (AX q (pg : Int) (n : Int) p r s0 pg [] 1 rl) (Sep (MX a (pg : Int) (n : Int) p' r' s0 pg [] 1 rl) R))))))) (by ac_rfl)) ?_
          clear hK K'
          refine stretch (fuel := 0) (by kernel_rfl) (fun _ _ _ _ _ h => h) (HBS.out O9.out (R := Sep (BO w8.heap.size (gameO q a gH gM gO gP n)) (Sep (BO gH (.cells (rowN (n * 1) (fun _ => .slice none 0 0)) 54 (0, 0))) (Sep (BO gM (.cells (rowN (n * 3) (fun _ => .pointer none)) 47 (0, 0))) (Sep (BO gP (.cells (rowN (n * 1) (fun _ => .bool false)) 4 (0, 0))) (Sep (BO gO (.cells (rowN (n * 1) (fun _ => .bool false)) 4 (0, 0))) (Sep (AX q (pg : Int) (n : Int) p r s0 pg [] 1 rl) (Sep (MX a (pg : Int) (n : Int) p' r' s0 pg [] 1 rl) R))))))) (by ac_rfl)) [16] (by kernel_rfl) ?_
          simp only [List.filterMap_cons, List.filterMap_nil, List.getElem?_toArray, List.getElem?_cons_zero, List.getElem?_cons_succ]
          show wpQuiet _ _ _ _ [_] _
          repeat (go_big_quiet_step (fail))
          refine wpQuiet_nil ?_
          refine wpAnyJ_done (by kernel_rfl) ?_
          go_wp2
          go_meet
          exact ⟨_, gH, gM, gO, gP, rfl, O9.out.cast (by ac_rfl)⟩
    · refine wpAnyJ_one rfl (fun K' hK => ?_)
      rw [if_pos (show Region.wanted _ _ = true from rfl)]
      refine makeN _ lB O4.out _ _ 35 rfl 4 i2 (.bool false) 1 Try.underlying35 hi2 z20 z21 n rfl rfl (by rw [z22]; omega) (by unfold maxLen; omega) (.bool false) rfl (by omega) ?_
      intro gP w5 o5
      have O5 := hide o5
      have J5 : Hid (Cel bs 1 (.int .i64 (n : Int)) w5) := hide (HBS.out o5 (R := (Sep (BO gP (.cells (rowN (n * 1) (fun _ => .bool false)) 4 (0, 0))) (Sep (AX q (pg : Int) (n : Int) p r s0 pg [] 1 rl) (Sep (MX a (pg : Int) (n : Int) p' r' s0 pg [] 1 rl) R)))) (by ac_rfl))
      clear o5
      refine hK _ _ J5.out ?_
      clear hK K'
      simp only [Act.put, List.getElem_toArray, List.getElem_cons_succ, List.getElem_cons_zero, List.setIfInBounds_toArray, List.set_cons_succ, List.set_cons_zero]
      refine wpAnyJ_all (is := [4, 7, 10]) (by simp) (by kernel_rfl) ?_
      simp only [List.forall_mem_cons, List.not_mem_nil, false_imp_iff, implies_true, and_true]
      refine ⟨?_, ?_, ?_⟩
      · refine wpAnyJ_one rfl (fun K' hK => ?_)
        rw [if_pos (show Region.wanted _ _ = true from rfl)]
        refine makeN _ (Loc.bo.sep lB) O5.out _ _ 33 rfl 54 i0 (.slice none 0 0) 1 Try.underlying33 hi0 z00 z01 n rfl rfl (by rw [z02]; omega) (by unfold maxLen; omega) (.slice none 0 0) rfl (by omega) ?_
        intro gH w6 o6
        have O6 := hide o6
        have J6 : Hid (Cel bs 1 (.int .i64 (n : Int)) w6) := hide (HBS.out o6 (R := (Sep (BO gH (.cells (rowN (n * 1) (fun _ => .slice none 0 0)) 54 (0, 0))) (Sep (BO gP (.cells (rowN (n * 1) (fun _ => .bool false)) 4 (0, 0))) (Sep (AX q (pg : Int) (n : Int) p r s0 pg [] 1 rl) (Sep (MX a (pg : Int) (n : Int) p' r' s0 pg [] 1 rl) R))))) (by ac_rfl))
        clear o6
        refine hK _ _ J6.out ?_
        clear hK K'
        simp only [Act.put, List.getElem_toArray, List.getElem_cons_succ, List.getElem_cons_zero, List.setIfInBounds_toArray, List.set_cons_succ, List.set_cons_zero]
        refine wpAnyJ_all (is := [7, 10]) (by simp) (by kernel_rfl) ?_
        simp only [List.forall_mem_cons, List.not_mem_nil, false_imp_iff, implies_true, and_true]
        refine ⟨?_, ?_⟩
        · refine wpAnyJ_one rfl (fun K' hK => ?_)
          rw [if_pos (show Region.wanted _ _ = true from rfl)]
          refine makeN _ (Loc.bo.sep (Loc.bo.sep lB)) O6.out _ _ 34 rfl 47 i1 (.agg #[.pointer none, .pointer none, .pointer none]) 3 Try.underlying34 hi1 z10 z11 n rfl rfl (by rw [z12]; omega) (by unfold maxLen; omega) (.pointer none) rfl (by omega) ?_
          intro gM w7 o7
          have O7 := hide o7
          have J7 : Hid (Cel bs 1 (.int .i64 (n : Int)) w7) := hide (HBS.out o7 (R := (Sep (BO gM (.cells (rowN (n * 3) (fun _ => .pointer none)) 47 (0, 0))) (Sep (BO gH (.cells (rowN (n * 1) (fun _ => .slice none 0 0)) 54 (0, 0))) (Sep (BO gP (.cells (rowN (n * 1) (fun _ => .bool false)) 4 (0, 0))) (Sep (AX q (pg : Int) (n : Int) p r s0 pg [] 1 rl) (Sep (MX a (pg : Int) (n : Int) p' r' s0 pg [] 1 rl) R)))))) (by ac_rfl))
          clear o7
          refine hK _ _ J7.out ?_
          clear hK K'
          simp only [Act.put, List.getElem_toArray, List.getElem_cons_succ, List.getElem_cons_zero, List.setIfInBounds_toArray, List.set_cons_succ, List.set_cons_zero]
          refine wpAnyJ_all (is := [10]) (by simp) (by kernel_rfl) ?_
          simp only [List.forall_mem_cons, List.not_mem_nil, false_imp_iff, implies_true, and_true]
          refine wpAnyJ_one rfl (fun K' hK => ?_)
          rw [if_pos (show Region.wanted _ _ = true from rfl)]
          refine makeN _ (Loc.bo.sep (Loc.bo.sep (Loc.bo.sep lB))) O7.out _ _ 35 rfl 4 i2 (.bool false) 1 Try.underlying35 hi2 z20 z21 n rfl rfl (by rw [z22]; omega) (by unfold maxLen; omega) (.bool false) rfl (by omega) ?_
          intro gO w8 o8
          have O8 := hide o8
          have J8 : Hid (Cel bs 1 (.int .i64 (n : Int)) w8) := hide (HBS.out o8 (R := (Sep (BO gO (.cells (rowN (n * 1) (fun _ => .bool false)) 4 (0, 0))) (Sep (BO gM (.cells (rowN (n * 3) (fun _ => .pointer none)) 47 (0, 0))) (Sep (BO gH (.cells (rowN (n * 1) (fun _ => .slice none 0 0)) 54 (0, 0))) (Sep (BO gP (.cells (rowN (n * 1) (fun _ => .bool false)) 4 (0, 0))) (Sep (AX q (pg : Int) (n : Int) p r s0 pg [] 1 rl) (Sep (MX a (pg : Int) (n : Int) p' r' s0 pg [] 1 rl) R))))))) (by ac_rfl))
          clear o8
          refine hK _ _ J8.out ?_
          clear hK K'
          simp only [Act.put, List.getElem_toArray, List.getElem_cons_succ, List.getElem_cons_zero, List.setIfInBounds_toArray, List.set_cons_succ, List.set_cons_zero]
          refine stretch (fuel := 2) (by kernel_rfl) (fun _ _ _ _ _ h => h) J8.out [14] (by kernel_rfl) ?_
          simp only [List.filterMap_cons, List.filterMap_nil, List.getElem?_toArray, List.getElem?_cons_zero, List.getElem?_cons_succ]
          show wpQuiet _ _ _ _ [_] _
          repeat (go_big_quiet_step (fail))
          refine wpQuiet_nil ?_
          refine wpAnyJ_writer (i := 15) rfl (by kernel_rfl) (fun K' hK => ?_)
          go_simp
          have O9 : Hid (Own (Sep (BO w8.heap.size (gameO q a gH gM gO gP n)) (Sep (BO gO (.cells (rowN (n * 1) (fun _ => .bool false)) 4 (0, 0))) (Sep (BO gM (.cells (rowN (n * 3) (fun _ => .pointer none)) 47 (0, 0))) (Sep (BO gH (.cells (rowN (n * 1) (fun _ => .slice none 0 0)) 54 (0, 0))) (Sep (BO gP (.cells (rowN (n * 1) (fun _ => .bool false)) 4 (0, 0))) (Sep (AX q (pg : Int) (n : Int) p r s0 pg [] 1 rl) (Sep (MX a (pg : Int) (n : Int) p' r' s0 pg [] 1 rl) (Sep (BO bs SO) R)))))))) w0 (w8.alloc (.cells #[.pointer (some ⟨q, 0, none⟩), .pointer (some ⟨a, 0, none⟩), .slice (some ⟨gH, 0, none⟩) n n, .slice (some ⟨gM, 0, none⟩) n n, .slice (some ⟨gO, 0, none⟩) n n, .slice (some ⟨gP, 0, none⟩) n n] 37))) := hide (Own.boNew (Loc.bo.sep (Loc.bo.sep (Loc.bo.sep (Loc.bo.sep lB)))) O8.out (heap_alloc_at _ _) (Nat.le_refl _) (grown1 _ _))
          refine hK _ _ (HBS.out O9.out (R := Sep (BO w8.heap.size (gameO q a gH gM gO gP n)) (Sep (BO gO (.cells (rowN (n * 1) (fun _ => .bool false)) 4 (0, 0))) (Sep (BO gM (.cells (rowN (n * 3) (fun _ => .pointer none)) 47 (0, 0))) (Sep (BO gH (.cells (rowN (n * 1) (fun _ => .slice none 0 0)) 54 (0, 0))) (Sep (BO gP (.cells (rowN (n * 1) (fun _ => .bool false)) 4 (0, 0))) (Sep (AX q (pg : Int) (n : Int) p r s0 pg [] 1 rl) (Sep (MX a (pg : Int) (n : Int) p' r' s0 pg [] 1 rl) R))))))) (by ac_rfl)) ?_
          clear hK K'
          refine stretch (fuel := 0) (by kernel_rfl) (fun _ _ _ _ _ h => h) (HBS.out O9.out (R := Sep (BO w8.heap.size (gameO q a gH gM gO gP n)) (Sep (BO gO (.cells (rowN (n * 1) (fun _ => .bool false)) 4 (0, 0))) (Sep (BO gM (.cells (rowN (n * 3) (fun _ => .pointer none)) 47 (0, 0))) (Sep (BO gH (.cells (rowN (n * 1) (fun _ => .slice none 0 0)) 54 (0, 0))) (Sep (BO gP (.cells (rowN (n * 1) (fun _ => .bool false)) 4 (0, 0))) (Sep (AX q (pg : Int) (n : Int) p r s0 pg [] 1 rl) (Sep (MX a (pg : Int) (n : Int) p' r' s0 pg [] 1 rl) R))))))) (by ac_rfl)) [16] (by kernel_rfl) ?_
          simp only [List.filterMap_cons, List.filterMap_nil, List.getElem?_toArray, List.getElem?_cons_zero, List.getElem?_cons_succ]
          show wpQuiet _ _ _ _ [_] _
          repeat (go_big_quiet_step (fail))
          refine wpQuiet_nil ?_
          refine wpAnyJ_done (by kernel_rfl) ?_
          go_wp2
          go_meet
          exact ⟨_, gH, gM, gO, gP, rfl, O9.out.cast (by ac_rfl)⟩
        · refine wpAnyJ_one rfl (fun K' hK => ?_)
          rw [if_pos (show Region.wanted _ _ = true from rfl)]
          refine makeN _ (Loc.bo.sep (Loc.bo.sep lB)) O6.out _ _ 35 rfl 4 i2 (.bool false) 1 Try.underlying35 hi2 z20 z21 n rfl rfl (by rw [z22]; omega) (by unfold maxLen; omega) (.bool false) rfl (by omega) ?_
          intro gO w7 o7
          have O7 := hide o7
          have J7 : Hid (Cel bs 1 (.int .i64 (n : Int)) w7) := hide (HBS.out o7 (R := (Sep (BO gO (.cells (rowN (n * 1) (fun _ => .bool false)) 4 (0, 0))) (Sep (BO gH (.cells (rowN (n * 1) (fun _ => .slice none 0 0)) 54 (0, 0))) (Sep (BO gP (.cells (rowN (n * 1) (fun _ => .bool false)) 4 (0, 0))) (Sep (AX q (pg : Int) (n : Int) p r s0 pg [] 1 rl) (Sep (MX a (pg : Int) (n : Int) p' r' s0 pg [] 1 rl) R)))))) (by ac_rfl))
          clear o7
          refine hK _ _ J7.out ?_
          clear hK K'
          simp only [Act.put, List.getElem_toArray, List.getElem_cons_succ, List.getElem_cons_zero, List.setIfInBounds_toArray, List.set_cons_succ, List.set_cons_zero]
          refine wpAnyJ_all (is := [7]) (by simp) (by kernel_rfl) ?_
          simp only [List.forall_mem_cons, List.not_mem_nil, false_imp_iff, implies_true, and_true]
          refine wpAnyJ_one rfl (fun K' hK => ?_)
          rw [if_pos (show Region.wanted _ _ = true from rfl)]
          refine makeN _ (Loc.bo.sep (Loc.bo.sep (Loc.bo.sep lB))) O7.out _ _ 34 rfl 47 i1 (.agg #[.pointer none, .pointer none, .pointer none]) 3 Try.underlying34 hi1 z10 z11 n rfl rfl (by rw [z12]; omega) (by unfold maxLen; omega) (.pointer none) rfl (by omega) ?_
          intro gM w8 o8
          have O8 := hide o8
          have J8 : Hid (Cel bs 1 (.int .i64 (n : Int)) w8) := hide (HBS.out o8 (R := (Sep (BO gM (.cells (rowN (n * 3) (fun _ => .pointer none)) 47 (0, 0))) (Sep (BO gO (.cells (rowN (n * 1) (fun _ => .bool false)) 4 (0, 0))) (Sep (BO gH (.cells (rowN (n * 1) (fun _ => .slice none 0 0)) 54 (0, 0))) (Sep (BO gP (.cells (rowN (n * 1) (fun _ => .bool false)) 4 (0, 0))) (Sep (AX q (pg : Int) (n : Int) p r s0 pg [] 1 rl) (Sep (MX a (pg : Int) (n : Int) p' r' s0 pg [] 1 rl) R))))))) (by ac_rfl))
          clear o8
          refine hK _ _ J8.out ?_
          clear hK K'
          simp only [Act.put, List.getElem_toArray, List.getElem_cons_succ, List.getElem_cons_zero, List.setIfInBounds_toArray, List.set_cons_succ, List.set_cons_zero]
          refine stretch (fuel := 2) (by kernel_rfl) (fun _ _ _ _ _ h => h) J8.out [14] (by kernel_rfl) ?_
          simp only [List.filterMap_cons, List.filterMap_nil, List.getElem?_toArray, List.getElem?_cons_zero, List.getElem?_cons_succ]
          show wpQuiet _ _ _ _ [_] _
          repeat (go_big_quiet_step (fail))
          refine wpQuiet_nil ?_
          refine wpAnyJ_writer (i := 15) rfl (by kernel_rfl) (fun K' hK => ?_)
          go_simp
          have O9 : Hid (Own (Sep (BO w8.heap.size (gameO q a gH gM gO gP n)) (Sep (BO gM (.cells (rowN (n * 3) (fun _ => .pointer none)) 47 (0, 0))) (Sep (BO gO (.cells (rowN (n * 1) (fun _ => .bool false)) 4 (0, 0))) (Sep (BO gH (.cells (rowN (n * 1) (fun _ => .slice none 0 0)) 54 (0, 0))) (Sep (BO gP (.cells (rowN (n * 1) (fun _ => .bool false)) 4 (0, 0))) (Sep (AX q (pg : Int) (n : Int) p r s0 pg [] 1 rl) (Sep (MX a (pg : Int) (n : Int) p' r' s0 pg [] 1 rl) (Sep (BO bs SO) R)))))))) w0 (w8.alloc (.cells #[.pointer (some ⟨q, 0, none⟩), .pointer (some ⟨a, 0, none⟩), .slice (some ⟨gH, 0, none⟩) n n, .slice (some ⟨gM, 0, none⟩) n n, .slice (some ⟨gO, 0, none⟩) n n, .slice (some ⟨gP, 0, none⟩) n n] 37))) := hide (Own.boNew (Loc.bo.sep (Loc.bo.sep (Loc.bo.sep (Loc.bo.sep lB)))) O8.out (heap_alloc_at _ _) (Nat.le_refl _) (grown1 _ _))
          refine hK _ _ (HBS.out O9.out (R := Sep (BO w8.heap.size (gameO q a gH gM gO gP n)) (Sep (BO gM (.cells (rowN (n * 3) (fun _ => .pointer none)) 47 (0, 0))) (Sep (BO gO (.cells (rowN (n * 1) (fun _ => .bool false)) 4 (0, 0))) (Sep (BO gH (.cells (rowN (n * 1) (fun _ => .slice none 0 0)) 54 (0, 0))) (Sep (BO gP (.cells (rowN (n * 1) (fun _ => .bool false)) 4 (0, 0))) (Sep (AX q (pg : Int) (n : Int) p r s0 pg [] 1 rl) (Sep (MX a (pg : Int) (n : Int) p' r' s0 pg [] 1 rl) R))))))) (by ac_rfl)) ?_
          clear hK K'
          refine stretch (fuel := 0) (by kernel_rfl) (fun _ _ _ _ _ h => h) (HBS.out O9.out (R := Sep (BO w8.heap.size (gameO q a gH gM gO gP n)) (Sep (BO gM (.cells (rowN (n * 3) (fun _ => .pointer none)) 47 (0, 0))) (Sep (BO gO (.cells (rowN (n * 1) (fun _ => .bool false)) 4 (0, 0))) (Sep (BO gH (.cells (rowN (n * 1) (fun _ => .slice none 0 0)) 54 (0, 0))) (Sep (BO gP (.cells (rowN (n * 1) (fun _ => .bool false)) 4 (0, 0))) (Sep (AX q (pg : Int) (n : Int) p r s0 pg [] 1 rl) (Sep (MX a (pg : Int) (n : Int) p' r' s0 pg [] 1 rl) R))))))) (by ac_rfl)) [16] (by kernel_rfl) ?_
          simp only [List.filterMap_cons, List.filterMap_nil, List.getElem?_toArray, List.getElem?_cons_zero, List.getElem?_cons_succ]
          show wpQuiet _ _ _ _ [_] _
          repeat (go_big_quiet_step (fail))
          refine wpQuiet_nil ?_
          refine wpAnyJ_done (by kernel_rfl) ?_
          go_wp2
          go_meet
          exact ⟨_, gH, gM, gO, gP, rfl, O9.out.cast (by ac_rfl)⟩
      · refine wpAnyJ_one rfl (fun K' hK => ?_)
        rw [if_pos (show Region.wanted _ _ = true from rfl)]
        refine makeN _ (Loc.bo.sep lB) O5.out _ _ 34 rfl 47 i1 (.agg #[.pointer none, .pointer none, .pointer none]) 3 Try.underlying34 hi1 z10 z11 n rfl rfl (by rw [z12]; omega) (by unfold maxLen; omega) (.pointer none) rfl (by omega) ?_
        intro gM w6 o6
        have O6 := hide o6
        have J6 : Hid (Cel bs 1 (.int .i64 (n : Int)) w6) := hide (HBS.out o6 (R := (Sep (BO gM (.cells (rowN (n * 3) (fun _ => .pointer none)) 47 (0, 0))) (Sep (BO gP (.cells (rowN (n * 1) (fun _ => .bool false)) 4 (0, 0))) (Sep (AX q (pg : Int) (n : Int) p r s0 pg [] 1 rl) (Sep (MX a (pg : Int) (n : Int) p' r' s0 pg [] 1 rl) R))))) (by ac_rfl))
        clear o6
        refine hK _ _ J6.out ?_
        clear hK K'
        simp only [Act.put, List.getElem_toArray, List.getElem_cons_succ, List.getElem_cons_zero, List.setIfInBounds_toArray, List.set_cons_succ, List.set_cons_zero]
        refine wpAnyJ_all (is := [4, 10]) (by simp) (by kernel_rfl) ?_
        simp only [List.forall_mem_cons, List.not_mem_nil, false_imp_iff, implies_true, and_true]
        refine ⟨?_, ?_⟩
        · refine wpAnyJ_one rfl (fun K' hK => ?_)
          rw [if_pos (show Region.wanted _ _ = true from rfl)]
          refine makeN _ (Loc.bo.sep (Loc.bo.sep lB)) O6.out _ _ 33 rfl 54 i0 (.slice none 0 0) 1 Try.underlying33 hi0 z00 z01 n rfl rfl (by rw [z02]; omega) (by unfold maxLen; omega) (.slice none 0 0) rfl (by omega) ?_
          intro gH w7 o7
          have O7 := hide o7
          have J7 : Hid (Cel bs 1 (.int .i64 (n : Int)) w7) := hide (HBS.out o7 (R := (Sep (BO gH (.cells (rowN (n * 1) (fun _ => .slice none 0 0)) 54 (0, 0))) (Sep (BO gM (.cells (rowN (n * 3) (fun _ => .pointer none)) 47 (0, 0))) (Sep (BO gP (.cells (rowN (n * 1) (fun _ => .bool false)) 4 (0, 0))) (Sep (AX q (pg : Int) (n : Int) p r s0 pg [] 1 rl) (Sep (MX a (pg : Int) (n : Int) p' r' s0 pg [] 1 rl) R)))))) (by ac_rfl))
          clear o7
          refine hK _ _ J7.out ?_
          clear hK K'
          simp only [Act.put, List.getElem_toArray, List.getElem_cons_succ, List.getElem_cons_zero, List.setIfInBounds_toArray, List.set_cons_succ, List.set_cons_zero]
          refine wpAnyJ_all (is := [10]) (by simp) (by kernel_rfl) ?_
          simp only [List.forall_mem_cons, List.not_mem_nil, false_imp_iff, implies_true, and_true]
          refine wpAnyJ_one rfl (fun K' hK => ?_)
          rw [if_pos (show Region.wanted _ _ = true from rfl)]
          refine makeN _ (Loc.bo.sep (Loc.bo.sep (Loc.bo.sep lB))) O7.out _ _ 35 rfl 4 i2 (.bool false) 1 Try.underlying35 hi2 z20 z21 n rfl rfl (by rw [z22]; omega) (by unfold maxLen; omega) (.bool false) rfl (by omega) ?_
          intro gO w8 o8
          have O8 := hide o8
          have J8 : Hid (Cel bs 1 (.int .i64 (n : Int)) w8) := hide (HBS.out o8 (R := (Sep (BO gO (.cells (rowN (n * 1) (fun _ => .bool false)) 4 (0, 0))) (Sep (BO gH (.cells (rowN (n * 1) (fun _ => .slice none 0 0)) 54 (0, 0))) (Sep (BO gM (.cells (rowN (n * 3) (fun _ => .pointer none)) 47 (0, 0))) (Sep (BO gP (.cells (rowN (n * 1) (fun _ => .bool false)) 4 (0, 0))) (Sep (AX q (pg : Int) (n : Int) p r s0 pg [] 1 rl) (Sep (MX a (pg : Int) (n : Int) p' r' s0 pg [] 1 rl) R))))))) (by ac_rfl))
          clear o8
          refine hK _ _ J8.out ?_
          clear hK K'
          simp only [Act.put, List.getElem_toArray, List.getElem_cons_succ, List.getElem_cons_zero, List.setIfInBounds_toArray, List.set_cons_succ, List.set_cons_zero]
          refine stretch (fuel := 2) (by kernel_rfl) (fun _ _ _ _ _ h => h) J8.out [14] (by kernel_rfl) ?_
          simp only [List.filterMap_cons, List.filterMap_nil, List.getElem?_toArray, List.getElem?_cons_zero, List.getElem?_cons_succ]
          show wpQuiet _ _ _ _ [_] _
          repeat (go_big_quiet_step (fail))
          refine wpQuiet_nil ?_
          refine wpAnyJ_writer (i := 15) rfl (by kernel_rfl) (fun K' hK => ?_)
          go_simp
          have O9 : Hid (Own (Sep (BO w8.heap.size (gameO q a gH gM gO gP n)) (Sep (BO gO (.cells (rowN (n * 1) (fun _ => .bool false)) 4 (0, 0))) (Sep (BO gH (.cells (rowN (n * 1) (fun _ => .slice none 0 0)) 54 (0, 0))) (Sep (BO gM (.cells (rowN (n * 3) (fun _ => .pointer none)) 47 (0, 0))) (Sep (BO gP (.cells (rowN (n * 1) (fun _ => .bool false)) 4 (0, 0))) (Sep (AX q (pg : Int) (n : Int) p r s0 pg [] 1 rl) (Sep (MX a (pg : Int) (n : Int) p' r' s0 pg [] 1 rl) (Sep (BO bs SO) R)))))))) w0 (w8.alloc (.cells #[.pointer (some ⟨q, 0, none⟩), .pointer (some ⟨a, 0, none⟩), .slice (some ⟨gH, 0, none⟩) n n, .slice (some ⟨gM, 0, none⟩) n n, .slice (some ⟨gO, 0, none⟩) n n, .slice (some ⟨gP, 0, none⟩) n n] 37))) := hide (Own.boNew (Loc.bo.sep (Loc.bo.sep (Loc.bo.sep (Loc.bo.sep lB)))) O8.out (heap_alloc_at _ _) (Nat.le_refl _) (grown1 _ _))
          refine hK _ _ (HBS.out O9.out (R := Sep (BO w8.heap.size (gameO q a gH gM gO gP n)) (Sep (BO gO (.cells (rowN (n * 1) (fun _ => .bool false)) 4 (0, 0))) (Sep (BO gH (.cells (rowN (n * 1) (fun _ => .slice none 0 0)) 54 (0, 0))) (Sep (BO gM (.cells (rowN (n * 3) (fun _ => .pointer none)) 47 (0, 0))) (Sep (BO gP (.cells (rowN (n * 1) (fun _ => .bool false)) 4 (0, 0))) (Sep (AX q (pg : Int) (n : Int) p r s0 pg [] 1 rl) (Sep (MX a (pg : Int) (n : Int) p' r' s0 pg [] 1 rl) R))))))) (by ac_rfl)) ?_
          clear hK K'
          refine stretch (fuel := 0) (by kernel_rfl) (fun _ _ _ _ _ h => h) (HBS.out O9.out (R := Sep (BO w8.heap.size (gameO q a gH gM gO gP n)) (Sep (BO gO (.cells (rowN (n * 1) (fun _ => .bool false)) 4 (0, 0))) (Sep (BO gH (.cells (rowN (n * 1) (fun _ => .slice none 0 0)) 54 (0, 0))) (Sep (BO gM (.cells (rowN (n * 3) (fun _ => .pointer none)) 47 (0, 0))) (Sep (BO gP (.cells (rowN (n * 1) (fun _ => .bool false)) 4 (0, 0))) (Sep (AX q (pg : Int) (n : Int) p r s0 pg [] 1 rl) (Sep (MX a (pg : Int) (n : Int) p' r' s0 pg [] 1 rl) R))))))) (by ac_rfl)) [16] (by kernel_rfl) ?_
          simp only [List.filterMap_cons, List.filterMap_nil, List.getElem?_toArray, List.getElem?_cons_zero, List.getElem?_cons_succ]
          show wpQuiet _ _ _ _ [_] _
          repeat (go_big_quiet_step (fail))
          refine wpQuiet_nil ?_
          refine wpAnyJ_done (by kernel_rfl) ?_
          go_wp2
          go_meet
          exact ⟨_, gH, gM, gO, gP, rfl, O9.out.cast (by ac_rfl)⟩
        · refine wpAnyJ_one rfl (fun K' hK => ?_)
          rw [if_pos (show Region.wanted _ _ = true from rfl)]
          refine makeN _ (Loc.bo.sep (Loc.bo.sep lB)) O6.out _ _ 35 rfl 4 i2 (.bool false) 1 Try.underlying35 hi2 z20 z21 n rfl rfl (by rw [z22]; omega) (by unfold maxLen; omega) (.bool false) rfl (by omega) ?_
          intro gO w7 o7
          have O7 := hide o7
          have J7 : Hid (Cel bs 1 (.int .i64 (n : Int)) w7) := hide (HBS.out o7 (R := (Sep (BO gO (.cells (rowN (n * 1) (fun _ => .bool false)) 4 (0, 0))) (Sep (BO gM (.cells (rowN (n * 3) (fun _ => .pointer none)) 47 (0, 0))) (Sep (BO gP (.cells (rowN (n * 1) (fun _ => .bool false)) 4 (0, 0))) (Sep (AX q (pg : Int) (n : Int) p r s0 pg [] 1 rl) (Sep (MX a (pg : Int) (n : Int) p' r' s0 pg [] 1 rl) R)))))) (by ac_rfl))
          clear o7
          refine hK _ _ J7.out ?_
          clear hK K'
          simp only [Act.put, List.getElem_toArray, List.getElem_cons_succ, List.getElem_cons_zero, List.setIfInBounds_toArray, List.set_cons_succ, List.set_cons_zero]
          refine wpAnyJ_all (is := [4]) (by simp) (by kernel_rfl) ?_
          simp only [List.forall_mem_cons, List.not_mem_nil, false_imp_iff, implies_true, and_true]
          refine wpAnyJ_one rfl (fun K' hK => ?_)
          rw [if_pos (show Region.wanted _ _ = true from rfl)]
          refine makeN _ (Loc.bo.sep (Loc.bo.sep (Loc.bo.sep lB))) O7.out _ _ 33 rfl 54 i0 (.slice none 0 0) 1 Try.underlying33 hi0 z00 z01 n rfl rfl (by rw [z02]; omega) (by unfold maxLen; omega) (.slice none 0 0) rfl (by omega) ?_
          intro gH w8 o8
          have O8 := hide o8
          have J8 : Hid (Cel bs 1 (.int .i64 (n : Int)) w8) := hide (HBS.out o8 (R := (Sep (BO gH (.cells (rowN (n * 1) (fun _ => .slice none 0 0)) 54 (0, 0))) (Sep (BO gO (.cells (rowN (n * 1) (fun _ => .bool false)) 4 (0, 0))) (Sep (BO gM (.cells (rowN (n * 3) (fun _ => .pointer none)) 47 (0, 0))) (Sep (BO gP (.cells (rowN (n * 1) (fun _ => .bool false)) 4 (0, 0))) (Sep (AX q (pg : Int) (n : Int) p r s0 pg [] 1 rl) (Sep (MX a (pg : Int) (n : Int) p' r' s0 pg [] 1 rl) R))))))) (by ac_rfl))
          clear o8
          refine hK _ _ J8.out ?_
          clear hK K'
          simp only [Act.put, List.getElem_toArray, List.getElem_cons_succ, List.getElem_cons_zero, List.setIfInBounds_toArray, List.set_cons_succ, List.set_cons_zero]
          refine stretch (fuel := 2) (by kernel_rfl) (fun _ _ _ _ _ h => h) J8.out [14] (by kernel_rfl) ?_
          simp only [List.filterMap_cons, List.filterMap_nil, List.getElem?_toArray, List.getElem?_cons_zero, List.getElem?_cons_succ]
          show wpQuiet _ _ _ _ [_] _
          repeat (go_big_quiet_step (fail))
          refine wpQuiet_nil ?_
          refine wpAnyJ_writer (i := 15) rfl (by kernel_rfl) (fun K' hK => ?_)
          go_simp
          have O9 : Hid (Own (Sep (BO w8.heap.size (gameO q a gH gM gO gP n)) (Sep (BO gH (.cells (rowN (n * 1) (fun _ => .slice none 0 0)) 54 (0, 0))) (Sep (BO gO (.cells (rowN (n * 1) (fun _ => .bool false)) 4 (0, 0))) (Sep (BO gM (.cells (rowN (n * 3) (fun _ => .pointer none)) 47 (0, 0))) (Sep (BO gP (.cells (rowN (n * 1) (fun _ => .bool false)) 4 (0, 0))) (Sep (AX q (pg : Int) (n : Int) p r s0 pg [] 1 rl) (Sep (MX a (pg : Int) (n : Int) p' r' s0 pg [] 1 rl) (Sep (BO bs SO) R)))))))) w0 (w8.alloc (.cells #[.pointer (some ⟨q, 0, none⟩), .pointer (some ⟨a, 0, none⟩), .slice (some ⟨gH, 0, none⟩) n n, .slice (some ⟨gM, 0, none⟩) n n, .slice (some ⟨gO, 0, none⟩) n n, .slice (some ⟨gP, 0, none⟩) n n] 37))) := hide (Own.boNew (Loc.bo.sep (Loc.bo.sep (Loc.bo.sep (Loc.bo.sep lB)))) O8.out (heap_alloc_at _ _) (Nat.le_refl _) (grown1 _ _))
          refine hK _ _ (HBS.out O9.out (R := Sep (BO w8.heap.size (gameO q a gH gM gO gP n)) (Sep (BO gH (.cells (rowN (n * 1) (fun _ => .slice none 0 0)) 54 (0, 0))) (Sep (BO gO (.cells (rowN (n * 1) (fun _ => .bool false)) 4 (0, 0))) (Sep (BO gM (.cells (rowN (n * 3) (fun _ => .pointer none)) 47 (0, 0))) (Sep (BO gP (.cells (rowN (n * 1) (fun _ => .bool false)) 4 (0, 0))) (Sep (AX q (pg : Int) (n : Int) p r s0 pg [] 1 rl) (Sep (MX a (pg : Int) (n : Int) p' r' s0 pg [] 1 rl) R))))))) (by ac_rfl)) ?_
          clear hK K'
          refine stretch (fuel := 0) (by kernel_rfl) (fun _ _ _ _ _ h => h) (HBS.out O9.out (R := Sep (BO w8.heap.size (gameO q a gH gM gO gP n)) (Sep (BO gH (.cells (rowN (n * 1) (fun _ => .slice none 0 0)) 54 (0, 0))) (Sep (BO gO (.cells (rowN (n * 1) (fun _ => .bool false)) 4 (0, 0))) (Sep (BO gM (.cells (rowN (n * 3) (fun _ => .pointer none)) 47 (0, 0))) (Sep (BO gP (.cells (rowN (n * 1) (fun _ => .bool false)) 4 (0, 0))) (Sep (AX q (pg : Int) (n : Int) p r s0 pg [] 1 rl) (Sep (MX a (pg : Int) (n : Int) p' r' s0 pg [] 1 rl) R))))))) (by ac_rfl)) [16] (by kernel_rfl) ?_
          simp only [List.filterMap_cons, List.filterMap_nil, List.getElem?_toArray, List.getElem?_cons_zero, List.getElem?_cons_succ]
          show wpQuiet _ _ _ _ [_] _
          repeat (go_big_quiet_step (fail))
          refine wpQuiet_nil ?_
          refine wpAnyJ_done (by kernel_rfl) ?_
          go_wp2
          go_meet
          exact ⟨_, gH, gM, gO, gP, rfl, O9.out.cast (by ac_rfl)⟩
      · refine wpAnyJ_one rfl (fun K' hK => ?_)
        rw [if_pos (show Region.wanted _ _ = true from rfl)]
        refine makeN _ (Loc.bo.sep lB) O5.out _ _ 35 rfl 4 i2 (.bool false) 1 Try.underlying35 hi2 z20 z21 n rfl rfl (by rw [z22]; omega) (by unfold maxLen; omega) (.bool false) rfl (by omega) ?_
        intro gO w6 o6
        have O6 := hide o6
        have J6 : Hid (Cel bs 1 (.int .i64 (n : Int)) w6) := hide (HBS.out o6 (R := (Sep (BO gO (.cells (rowN (n * 1) (fun _ => .bool false)) 4 (0, 0))) (Sep (BO gP (.cells (rowN (n * 1) (fun _ => .bool false)) 4 (0, 0))) (Sep (AX q (pg : Int) (n : Int) p r s0 pg [] 1 rl) (Sep (MX a (pg : Int) (n : Int) p' r' s0 pg [] 1 rl) R))))) (by ac_rfl))
        clear o6
        refine hK _ _ J6.out ?_
        clear hK K'
        simp only [Act.put, List.getElem_toArray, List.getElem_cons_succ, List.getElem_cons_zero, List.setIfInBounds_toArray, List.set_cons_succ, List.set_cons_zero]
        refine wpAnyJ_all (is := [4, 7]) (by simp) (by kernel_rfl) ?_
        simp only [List.forall_mem_cons, List.not_mem_nil, false_imp_iff, implies_true, and_true]
        refine ⟨?_, ?_⟩
        · refine wpAnyJ_one rfl (fun K' hK => ?_)
          rw [if_pos (show Region.wanted _ _ = true from rfl)]
          refine makeN _ (Loc.bo.sep (Loc.bo.sep lB)) O6.out _ _ 33 rfl 54 i0 (.slice none 0 0) 1 Try.underlying33 hi0 z00 z01 n rfl rfl (by rw [z02]; omega) (by unfold maxLen; omega) (.slice none 0 0) rfl (by omega) ?_
          intro gH w7 o7
          have O7 := hide o7
          have J7 : Hid (Cel bs 1 (.int .i64 (n : Int)) w7) := hide (HBS.out o7 (R := (Sep (BO gH (.cells (rowN (n * 1) (fun _ => .slice none 0 0)) 54 (0, 0))) (Sep (BO gO (.cells (rowN (n * 1) (fun _ => .bool false)) 4 (0, 0))) (Sep (BO gP (.cells (rowN (n * 1) (fun _ => .bool false)) 4 (0, 0))) (Sep (AX q (pg : Int) (n : Int) p r s0 pg [] 1 rl) (Sep (MX a (pg : Int) (n : Int) p' r' s0 pg [] 1 rl) R)))))) (by ac_rfl))
          clear o7
          refine hK _ _ J7.out ?_
          clear hK K'
          simp only [Act.put, List.getElem_toArray, List.getElem_cons_succ, List.getElem_cons_zero, List.setIfInBounds_toArray, List.set_cons_succ, List.set_cons_zero]
          refine wpAnyJ_all (is := [7]) (by simp) (by kernel_rfl) ?_
          simp only [List.forall_mem_cons, List.not_mem_nil, false_imp_iff, implies_true, and_true]
          refine wpAnyJ_one rfl (fun K' hK => ?_)
          rw [if_pos (show Region.wanted _ _ = true from rfl)]
          refine makeN _ (Loc.bo.sep (Loc.bo.sep (Loc.bo.sep lB))) O7.out _ _ 34 rfl 47 i1 (.agg #[.pointer none, .pointer none, .pointer none]) 3 Try.underlying34 hi1 z10 z11 n rfl rfl (by rw [z12]; omega) (by unfold maxLen; omega) (.pointer none) rfl (by omega) ?_
          intro gM w8 o8
          have O8 := hide o8
          have J8 : Hid (Cel bs 1 (.int .i64 (n : Int)) w8) := hide (HBS.out o8 (R := (Sep (BO gM (.cells (rowN (n * 3) (fun _ => .pointer none)) 47 (0, 0))) (Sep (BO gH (.cells (rowN (n * 1) (fun _ => .slice none 0 0)) 54 (0, 0))) (Sep (BO gO (.cells (rowN (n * 1) (fun _ => .bool false)) 4 (0, 0))) (Sep (BO gP (.cells (rowN (n * 1) (fun _ => .bool false)) 4 (0, 0))) (Sep (AX q (pg : Int) (n : Int) p r s0 pg [] 1 rl) (Sep (MX a (pg : Int) (n : Int) p' r' s0 pg [] 1 rl) R))))))) (by ac_rfl))
          clear o8
          refine hK _ _ J8.out ?_
          clear hK K'
          simp only [Act.put, List.getElem_toArray, List.getElem_cons_succ, List.getElem_cons_zero, List.setIfInBounds_toArray, List.set_cons_succ, List.set_cons_zero]
          refine stretch (fuel := 2) (by kernel_rfl) (fun _ _ _ _ _ h => h) J8.out [14] (by kernel_rfl) ?_
          simp only [List.filterMap_cons, List.filterMap_nil, List.getElem?_toArray, List.getElem?_cons_zero, List.getElem?_cons_succ]
          show wpQuiet _ _ _ _ [_] _
          repeat (go_big_quiet_step (fail))
          refine wpQuiet_nil ?_
          refine wpAnyJ_writer (i := 15) rfl (by kernel_rfl) (fun K' hK => ?_)
          go_simp
          have O9 : Hid (Own (Sep (BO w8.heap.size (gameO q a gH gM gO gP n)) (Sep (BO gM (.cells (rowN (n * 3) (fun _ => .pointer none)) 47 (0, 0))) (Sep (BO gH (.cells (rowN (n * 1) (fun _ => .slice none 0 0)) 54 (0, 0))) (Sep (BO gO (.cells (rowN (n * 1) (fun _ => .bool false)) 4 (0, 0))) (Sep (BO gP (.cells (rowN (n * 1) (fun _ => .bool false)) 4 (0, 0))) (Sep (AX q (pg : Int) (n : Int) p r s0 pg [] 1 rl) (Sep (MX a (pg : Int) (n : Int) p' r' s0 pg [] 1 rl) (Sep (BO bs SO) R)))))))) w0 (w8.alloc (.cells #[.pointer (some ⟨q, 0, none⟩), .pointer (some ⟨a, 0, none⟩), .slice (some ⟨gH, 0, none⟩) n n, .slice (some ⟨gM, 0, none⟩) n n, .slice (some ⟨gO, 0, none⟩) n n, .slice (some ⟨gP, 0, none⟩) n n] 37))) := hide (Own.boNew (Loc.bo.sep (Loc.bo.sep (Loc.bo.sep (Loc.bo.sep lB)))) O8.out (heap_alloc_at _ _) (Nat.le_refl _) (grown1 _ _))
          refine hK _ _ (HBS.out O9.out (R := Sep (BO w8.heap.size (gameO q a gH gM gO gP n)) (Sep (BO gM (.cells (rowN (n * 3) (fun _ => .pointer none)) 47 (0, 0))) (Sep (BO gH (.cells (rowN (n * 1) (fun _ => .slice none 0 0)) 54 (0, 0))) (Sep (BO gO (.cells (rowN (n * 1) (fun _ => .bool false)) 4 (0, 0))) (Sep (BO gP (.cells (rowN (n * 1) (fun _ => .bool false)) 4 (0, 0))) (Sep (AX q (pg : Int) (n : Int) p r s0 pg [] 1 rl) (Sep (MX a (pg : Int) (n : Int) p' r' s0 pg [] 1 rl) R))))))) (by ac_rfl)) ?_
          clear hK K'
          refine stretch (fuel := 0) (by kernel_rfl) (fun _ _ _ _ _ h => h) (HBS.out O9.out (R := Sep (BO w8.heap.size (gameO q a gH gM gO gP n)) (Sep (BO gM (.cells (rowN (n * 3) (fun _ => .pointer none)) 47 (0, 0))) (Sep (BO gH (.cells (rowN (n * 1) (fun _ => .slice none 0 0)) 54 (0, 0))) (Sep (BO gO (.cells (rowN (n * 1) (fun _ => .bool false)) 4 (0, 0))) (Sep (BO gP (.cells (rowN (n * 1) (fun _ => .bool false)) 4 (0, 0))) (Sep (AX q (pg : Int) (n : Int) p r s0 pg [] 1 rl) (Sep (MX a (pg : Int) (n : Int) p' r' s0 pg [] 1 rl) R))))))) (by ac_rfl)) [16] (by kernel_rfl) ?_
          simp only [List.filterMap_cons, List.filterMap_nil, List.getElem?_toArray, List.getElem?_cons_zero, List.getElem?_cons_succ]
          show wpQuiet _ _ _ _ [_] _
          repeat (go_big_quiet_step (fail))
          refine wpQuiet_nil ?_
          refine wpAnyJ_done (by kernel_rfl) ?_
          go_wp2
          go_meet
          exact ⟨_, gH, gM, gO, gP, rfl, O9.out.cast (by ac_rfl)⟩
        · refine wpAnyJ_one rfl (fun K' hK => ?_)
          rw [if_pos (show Region.wanted _ _ = true from rfl)]
          refine makeN _ (Loc.bo.sep (Loc.bo.sep lB)) O6.out _ _ 34 rfl 47 i1 (.agg #[.pointer none, .pointer none, .pointer none]) 3 Try.underlying34 hi1 z10 z11 n rfl rfl (by rw [z12]; omega) (by unfold maxLen; omega) (.pointer none) rfl (by omega) ?_
          intro gM w7 o7
          have O7 := hide o7
          have J7 : Hid (Cel bs 1 (.int .i64 (n : Int)) w7) := hide (HBS.out o7 (R := (Sep (BO gM (.cells (rowN (n * 3) (fun _ => .pointer none)) 47 (0, 0))) (Sep (BO gO (.cells (rowN (n * 1) (fun _ => .bool false)) 4 (0, 0))) (Sep (BO gP (.cells (rowN (n * 1) (fun _ => .bool false)) 4 (0, 0))) (Sep (AX q (pg : Int) (n : Int) p r s0 pg [] 1 rl) (Sep (MX a (pg : Int) (n : Int) p' r' s0 pg [] 1 rl) R)))))) (by ac_rfl))
          clear o7
          refine hK _ _ J7.out ?_
          clear hK K'
          simp only [Act.put, List.getElem_toArray, List.getElem_cons_succ, List.getElem_cons_zero, List.setIfInBounds_toArray, List.set_cons_succ, List.set_cons_zero]
          refine wpAnyJ_all (is := [4]) (by simp) (by kernel_rfl) ?_
          simp only [List.forall_mem_cons, List.not_mem_nil, false_imp_iff, implies_true, and_true]
          refine wpAnyJ_one rfl (fun K' hK => ?_)
          rw [if_pos (show Region.wanted _ _ = true from rfl)]
          refine makeN _ (Loc.bo.sep (Loc.bo.sep (Loc.bo.sep lB))) O7.out _ _ 33 rfl 54 i0 (.slice none 0 0) 1 Try.underlying33 hi0 z00 z01 n rfl rfl (by rw [z02]; omega) (by unfold maxLen; omega) (.slice none 0 0) rfl (by omega) ?_
          intro gH w8 o8
          have O8 := hide o8
          have J8 : Hid (Cel bs 1 (.int .i64 (n : Int)) w8) := hide (HBS.out o8 (R := (Sep (BO gH (.cells (rowN (n * 1) (fun _ => .slice none 0 0)) 54 (0, 0))) (Sep (BO gM (.cells (rowN (n * 3) (fun _ => .pointer none)) 47 (0, 0))) (Sep (BO gO (.cells (rowN (n * 1) (fun _ => .bool false)) 4 (0, 0))) (Sep (BO gP (.cells (rowN (n * 1) (fun _ => .bool false)) 4 (0, 0))) (Sep (AX q (pg : Int) (n : Int) p r s0 pg [] 1 rl) (Sep (MX a (pg : Int) (n : Int) p' r' s0 pg [] 1 rl) R))))))) (by ac_rfl))
          clear o8
          refine hK _ _ J8.out ?_
          clear hK K'
          simp only [Act.put, List.getElem_toArray, List.getElem_cons_succ, List.getElem_cons_zero, List.setIfInBounds_toArray, List.set_cons_succ, List.set_cons_zero]
          refine stretch (fuel := 2) (by kernel_rfl) (fun _ _ _ _ _ h => h) J8.out [14] (by kernel_rfl) ?_
          simp only [List.filterMap_cons, List.filterMap_nil, List.getElem?_toArray, List.getElem?_cons_zero, List.getElem?_cons_succ]
          show wpQuiet _ _ _ _ [_] _
          repeat (go_big_quiet_step (fail))
          refine wpQuiet_nil ?_
          refine wpAnyJ_writer (i := 15) rfl (by kernel_rfl) (fun K' hK => ?_)
          go_simp
          have O9 : Hid (Own (Sep (BO w8.heap.size (gameO q a gH gM gO gP n)) (Sep (BO gH (.cells (rowN (n * 1) (fun _ => .slice none 0 0)) 54 (0, 0))) (Sep (BO gM (.cells (rowN (n * 3) (fun _ => .pointer none)) 47 (0, 0))) (Sep (BO gO (.cells (rowN (n * 1) (fun _ => .bool false)) 4 (0, 0))) (Sep (BO gP (.cells (rowN (n * 1) (fun _ => .bool false)) 4 (0, 0))) (Sep (AX q (pg : Int) (n : Int) p r s0 pg [] 1 rl) (Sep (MX a (pg : Int) (n : Int) p' r' s0 pg [] 1 rl) (Sep (BO bs SO) R)))))))) w0 (w8.alloc (.cells #[.pointer (some ⟨q, 0, none⟩), .pointer (some ⟨a, 0, none⟩), .slice (some ⟨gH, 0, none⟩) n n, .slice (some ⟨gM, 0, none⟩) n n, .slice (some ⟨gO, 0, none⟩) n n, .slice (some ⟨gP, 0, none⟩) n n] 37))) := hide (Own.boNew (Loc.bo.sep (Loc.bo.sep (Loc.bo.sep (Loc.bo.sep lB)))) O8.out (heap_alloc_at _ _) (Nat.le_refl _) (grown1 _ _))
          refine hK _ _ (HBS.out O9.out (R := Sep (BO w8.heap.size (gameO q a gH gM gO gP n)) (Sep (BO gH (.cells (rowN (n * 1) (fun _ => .slice none 0 0)) 54 (0, 0))) (Sep (BO gM (.cells (rowN (n * 3) (fun _ => .pointer none)) 47 (0, 0))) (Sep (BO gO (.cells (rowN (n * 1) (fun _ => .bool false)) 4 (0, 0))) (Sep (BO gP (.cells (rowN (n * 1) (fun _ => .bool false)) 4 (0, 0))) (Sep (AX q (pg : Int) (n : Int) p r s0 pg [] 1 rl) (Sep (MX a (pg : Int) (n : Int) p' r' s0 pg [] 1 rl) R))))))) (by ac_rfl)) ?_
          clear hK K'
          refine stretch (fuel := 0) (by kernel_rfl) (fun _ _ _ _ _ h => h) (HBS.out O9.out (R := Sep (BO w8.heap.size (gameO q a gH gM gO gP n)) (Sep (BO gH (.cells (rowN (n * 1) (fun _ => .slice none 0 0)) 54 (0, 0))) (Sep (BO gM (.cells (rowN (n * 3) (fun _ => .pointer none)) 47 (0, 0))) (Sep (BO gO (.cells (rowN (n * 1) (fun _ => .bool false)) 4 (0, 0))) (Sep (BO gP (.cells (rowN (n * 1) (fun _ => .bool false)) 4 (0, 0))) (Sep (AX q (pg : Int) (n : Int) p r s0 pg [] 1 rl) (Sep (MX a (pg : Int) (n : Int) p' r' s0 pg [] 1 rl) R))))))) (by ac_rfl)) [16] (by kernel_rfl) ?_
          simp only [List.filterMap_cons, List.filterMap_nil, List.getElem?_toArray, List.getElem?_cons_zero, List.getElem?_cons_succ]
          show wpQuiet _ _ _ _ [_] _
          repeat (go_big_quiet_step (fail))
          refine wpQuiet_nil ?_
          refine wpAnyJ_done (by kernel_rfl) ?_
          go_wp2
          go_meet
          exact ⟨_, gH, gM, gO, gP, rfl, O9.out.cast (by ac_rfl)⟩
  case rest =>
    obtain ⟨gb, gH, gM, gO, gP, rfl, o5⟩ := hcut
    have O6 : Hid (Own (DealR gb q p r a p' r' gH gM gO gP bs pg n s0 rl SO (fun _ => .slice none 0 0) (dealt n 0) R) w0 wc) := hide ((Own.hvs o5.out n).cast (by
      rw [Nat.mul_one]
      unfold DealR
      show _ = Sep _ (Sep _ (Sep _ (Sep _ (Sep _ (Sep _ (Sep _ (Sep (Many (fun _ => HvR (.slice none 0 0) []) n) _)))))))
      ac_rfl))
    clear o5 O3
    obtain ⟨j0, hj0, y0', y1, y2⟩ := info_parts infoIntG
    go_wp2
    go_loopw [9] (fun v9 wr => ∃ (m : Nat) (hv : Nat → Value), v9 = .int .i64 (m : Int) ∧ m ≤ pg ∧ Hid (Own (DealR gb q p r a p' r' gH gM gO gP bs pg n s0 rl SO hv (dealt n m) R) w0 wr)) (fun v9 _ => pg - (intOf v9).toNat)
    case atStart => exact ⟨0, fun _ => .slice none 0 0, rfl, by omega, O6.out⟩
    case round =>
      obtain ⟨m, hv, rfl, hmp, hH⟩ := hrel
      have O := hide hH.out
      clear hH O6
      have c0 : wr.cell? ⟨bs, 0, none⟩ = some (.int .i64 (pg : Int)) := HBP.out O.out (R := Sep (BO gb (gameO q a gH gM gO gP n)) (Sep (BO gH (.cells (rowN n hv) 54 (0, 0))) (Sep (BO gM (.cells (rowN (n * 3) (fun _ => .pointer none)) 47 (0, 0))) (Sep (BO gO (.cells (rowN n (fun _ => .bool false)) 4 (0, 0))) (Sep (BO gP (.cells (rowN n (fun _ => .bool false)) 4 (0, 0))) (Sep (AX q (pg : Int) (n : Int) p r s0 pg [] 1 rl) (Sep (MX a (pg : Int) (n : Int) p' r' s0 pg [] 1 rl) (Sep (Many (fun t => HvR (hv t) (dealt n m t)) n) R)))))))) (by unfold DealR; ac_rfl)
      by_cases hlt : m < pg
      · obtain ⟨t, ht⟩ : ∃ t, m % n = t := ⟨_, rfl⟩
        have htn : t < n := by rw [← ht]; exact Nat.mod_lt _ (by omega)
        have et : (m : Int) % (n : Int) = (t : Int) := by rw [← ht]; simp
        have HT := hide ht
        have O1 := hide (O.out.cast (DealR.out htn))
        have hrow := O1.out.hv rfl
        obtain ⟨va, vc, hvv⟩ := ownsRow_slice hrow
        obtain ⟨len, hlen⟩ : ∃ len, (dealt n m t).length = len := ⟨_, rfl⟩
        have hle : len ≤ m := by rw [← hlen]; exact dealt_len n m t
        rw [hlen] at hvv
        have HVV := hide hvv
        have HLEN := hide hlen
        have HROW : Hid (∀ u : World, Own (Sep (HvR (hv t) (dealt n m t)) (Sep (BO gH (.cells (rowN n hv) 54 (0, 0))) (Sep (BO gb (gameO q a gH gM gO gP n)) (Sep (BO bs SO) (Sep (BO gM (.cells (rowN (n * 3) (fun _ => .pointer none)) 47 (0, 0))) (Sep (BO gO (.cells (rowN n (fun _ => .bool false)) 4 (0, 0))) (Sep (BO gP (.cells (rowN n (fun _ => .bool false)) 4 (0, 0))) (Sep (AX q (pg : Int) (n : Int) p r s0 pg [] 1 rl) (Sep (MX a (pg : Int) (n : Int) p' r' s0 pg [] 1 rl) (Sep (Many (upd (fun j => HvR (hv j) (dealt n m j)) t Nought) n) R)))))))))) w0 u → u.ownsRow 0 3 1 (.slice va len vc) len (intVals (dealt n m t))) := hide (fun u hu => by
          have := hu.hv rfl
          rw [HVV.out, HLEN.out] at this
          exact this)
        have GC : Hid (∀ (v : Value) (l : List Int) (u : World), Own (Sep (HvR v l) (Sep (BO gH (.cells (rowN n hv) 54 (0, 0))) (Sep (BO gb (gameO q a gH gM gO gP n)) (Sep (BO bs SO) (Sep (BO gM (.cells (rowN (n * 3) (fun _ => .pointer none)) 47 (0, 0))) (Sep (BO gO (.cells (rowN n (fun _ => .bool false)) 4 (0, 0))) (Sep (BO gP (.cells (rowN n (fun _ => .bool false)) 4 (0, 0))) (Sep (AX q (pg : Int) (n : Int) p r s0 pg [] 1 rl) (Sep (MX a (pg : Int) (n : Int) p' r' s0 pg [] 1 rl) (Sep (Many (upd (fun j => HvR (hv j) (dealt n m j)) t Nought) n) R)))))))))) w0 u → (fun u => (Cel bs 1 (.int .i64 (n : Int)) u ∧ Cel gb 2 (.slice (some ⟨gH, 0, none⟩) n n) u) ∧ Cel gH t (.slice va len vc) u) u) := hide (fun v l u hu => ⟨⟨HBS.out hu (R := Sep (HvR v l) (Sep (BO gH (.cells (rowN n hv) 54 (0, 0))) (Sep (BO gb (gameO q a gH gM gO gP n)) (Sep (BO gM (.cells (rowN (n * 3) (fun _ => .pointer none)) 47 (0, 0))) (Sep (BO gO (.cells (rowN n (fun _ => .bool false)) 4 (0, 0))) (Sep (BO gP (.cells (rowN n (fun _ => .bool false)) 4 (0, 0))) (Sep (AX q (pg : Int) (n : Int) p r s0 pg [] 1 rl) (Sep (MX a (pg : Int) (n : Int) p' r' s0 pg [] 1 rl) (Sep (Many (upd (fun j => HvR (hv j) (dealt n m j)) t Nought) n) R))))))))) (by ac_rfl), (by
          have hg := hu.has (m := gb) (o := gameO q a gH gM gO gP n) (R := Sep (HvR v l) (Sep (BO gH (.cells (rowN n hv) 54 (0, 0))) (Sep (BO bs SO) (Sep (BO gM (.cells (rowN (n * 3) (fun _ => .pointer none)) 47 (0, 0))) (Sep (BO gO (.cells (rowN n (fun _ => .bool false)) 4 (0, 0))) (Sep (BO gP (.cells (rowN n (fun _ => .bool false)) 4 (0, 0))) (Sep (AX q (pg : Int) (n : Int) p r s0 pg [] 1 rl) (Sep (MX a (pg : Int) (n : Int) p' r' s0 pg [] 1 rl) (Sep (Many (upd (fun j => HvR (hv j) (dealt n m j)) t Nought) n) R))))))))) (by ac_rfl)
          unfold gameO at hg
          exact cell_of_heap hg)⟩, (cell_of_heap (hu.has (m := gH) (R := Sep (HvR v l) (Sep (BO gb (gameO q a gH gM gO gP n)) (Sep (BO bs SO) (Sep (BO gM (.cells (rowN (n * 3) (fun _ => .pointer none)) 47 (0, 0))) (Sep (BO gO (.cells (rowN n (fun _ => .bool false)) 4 (0, 0))) (Sep (BO gP (.cells (rowN n (fun _ => .bool false)) 4 (0, 0))) (Sep (AX q (pg : Int) (n : Int) p r s0 pg [] 1 rl) (Sep (MX a (pg : Int) (n : Int) p' r' s0 pg [] 1 rl) (Sep (Many (upd (fun j => HvR (hv j) (dealt n m j)) t Nought) n) R))))))))) (by ac_rfl))).trans ((rowN_get _ htn).trans (congrArg some HVV.out))⟩)
        clear hrow hvv hlen O ht
        go_upto_region 9 with fail
        clear c0
        have lRest : Loc (Sep (BO gH (.cells (rowN n hv) 54 (0, 0))) (Sep (BO gb (gameO q a gH gM gO gP n)) (Sep (BO bs SO) (Sep (BO gM (.cells (rowN (n * 3) (fun _ => .pointer none)) 47 (0, 0))) (Sep (BO gO (.cells (rowN n (fun _ => .bool false)) 4 (0, 0))) (Sep (BO gP (.cells (rowN n (fun _ => .bool false)) 4 (0, 0))) (Sep (AX q (pg : Int) (n : Int) p r s0 pg [] 1 rl) (Sep (MX a (pg : Int) (n : Int) p' r' s0 pg [] 1 rl) (Sep (Many (upd (fun j => HvR (hv j) (dealt n m j)) t Nought) n) R))))))))) := Loc.bo.sep (Loc.bo.sep (Loc.bo.sep (Loc.bo.sep (Loc.bo.sep (Loc.bo.sep (Loc.ax.sep (Loc.mx.sep ((Loc.rest (fun j => Loc.hvR) t n).sep lR))))))))
        have O2 := hide (O1.out.below (Loc.hvR.sep lRest) ((Alike.drewN wr 1).below _))
        have J2 : Hid ((fun u => (Cel bs 1 (.int .i64 (n : Int)) u ∧ Cel gb 2 (.slice (some ⟨gH, 0, none⟩) n n) u) ∧ Cel gH t (.slice va len vc) u) wr.drew) := hide (GC.out _ _ _ O2.out)
        have hne : Nonempty (Mem (fun u => (Cel bs 1 (.int .i64 (n : Int)) u ∧ Cel gb 2 (.slice (some ⟨gH, 0, none⟩) n n) u) ∧ Cel gH t (.slice va len vc) u)) := ⟨⟨_, J2.out⟩⟩
        have U1 : ∀ u : Mem (fun u => (Cel bs 1 (.int .i64 (n : Int)) u ∧ Cel gb 2 (.slice (some ⟨gH, 0, none⟩) n n) u) ∧ Cel gH t (.slice va len vc) u), u.w'.cell? ⟨bs, 1, none⟩ = some (.int .i64 (n : Int)) := fun u => u.h.1.1
        have U2 : ∀ u : Mem (fun u => (Cel bs 1 (.int .i64 (n : Int)) u ∧ Cel gb 2 (.slice (some ⟨gH, 0, none⟩) n n) u) ∧ Cel gH t (.slice va len vc) u), u.w'.cell? ⟨gb, 2, none⟩ = some (.slice (some ⟨gH, 0, none⟩) n n) := fun u => u.h.1.2
        have U3 : ∀ u : Mem (fun u => (Cel bs 1 (.int .i64 (n : Int)) u ∧ Cel gb 2 (.slice (some ⟨gH, 0, none⟩) n n) u) ∧ Cel gH t (.slice va len vc) u), u.w'.cell? ⟨gH, t, none⟩ = some (.slice va len vc) := fun u => u.h.2
        clear O1
        refine startL 22 (J := (fun u => (Cel bs 1 (.int .i64 (n : Int)) u ∧ Cel gb 2 (.slice (some ⟨gH, 0, none⟩) n n) u) ∧ Cel gH t (.slice va len vc) u)) (by kernel_rfl) ?_
        refine stretchL (fuel := 4) (by kernel_rfl) (fun _ _ _ _ _ h => h) J2.out [0, 1, 2, 3, 4, 5, 6, 7, 8, 9, 10, 11, 12, 13, 14, 15, 16, 17, 18] (by kernel_rfl) ?_
        simp only [List.filterMap_cons, List.filterMap_nil, List.getElem?_toArray, List.getElem?_cons_zero, List.getElem?_cons_succ]
        show wpQuiet _ _ _ _ [_, _, _, _, _, _, _, _, _, _, _, _, _, _, _, _, _, _, _] _
        repeat (go_big_quiet_step (fail))
        refine wpQuiet_nil ?_
        refine writerL (i := 19) rfl (by kernel_rfl) rfl (fun K' hK => ?_)
        go_simp
        have ha := heap_alloc_at wr.drew (.cells #[.int .i64 (m : Int)] 3)
        have O3 := hide (O2.out.below (Loc.hvR.sep lRest) (grown1 wr.drew (.cells #[.int .i64 (m : Int)] 3)))
        refine hK _ _ (fun _ => GC.out _ _ _ O3.out) ?_
        clear hK K' O2 J2
        have hsrc : Src (wr.drew.alloc (.cells #[.int .i64 (m : Int)] 3)) (.slice (some ⟨wr.drew.heap.size, 0, none⟩) 1 1) 1 [.int .i64 (m : Int)] := .inr ⟨_, _, rfl, fun j u hj => by
          match j, hj with
          | 0, hj =>
            have : u = .int .i64 (m : Int) := by simpa using hj.symm
            rw [this]
            exact cell_of_heap ha⟩
        refine writerL (i := 20) rfl (by kernel_rfl) rfl (fun K' hK => ?_)
        refine oper_append _ _ _ 54 rfl 0 3 j0 (.int .i64 0) 1 8 Try.underlying54 hj0 y0' y1 y2 rfl (by decide) (.slice va len vc) len (intVals (dealt n m t)) rfl (HROW.out _ O3.out) 1 [.int .i64 (m : Int)] hsrc rfl (by simp [Value.oneCell']) (by unfold maxLen; omega) (by omega) (Nat.zero_le _) ?_
        intro lv w4 q1 q2 q3
        obtain ⟨lva, lvc, rfl⟩ := ownsRow_slice q1
        have O4 := hide (Own.hvGrow (x := (m : Int)) lRest O3.out (by rw [HLEN.out]; exact q1) (by rw [HVV.out]; exact q2) (by rw [HVV.out]; exact q3))
        clear q1 q2 q3 ha hsrc O3
        refine hK _ _ (fun _ => GC.out _ _ _ O4.out) ?_
        clear hK K'
        simp only [Act.put, List.getElem_toArray, List.getElem_cons_succ, List.getElem_cons_zero, List.setIfInBounds_toArray, List.set_cons_succ, List.set_cons_zero]
        refine stretchL (fuel := 1) (by kernel_rfl) (fun _ _ _ _ _ h => h) (GC.out _ _ _ O4.out) [21] (by kernel_rfl) ?_
        simp only [List.filterMap_cons, List.filterMap_nil, List.getElem?_toArray, List.getElem?_cons_zero, List.getElem?_cons_succ]
        show wpQuiet _ _ _ _ [_] _
        repeat (go_big_quiet_step (fail))
        refine wpQuiet_nil ?_
        have o5 := O4.out.cast (R' := Sep (BO gH (.cells (rowN n hv) 54 (0, 0))) (Sep (HvR (.slice lva (len + 1) lvc) (dealt n m t ++ [(m : Int)])) (Sep (BO gb (gameO q a gH gM gO gP n)) (Sep (BO bs SO) (Sep (BO gM (.cells (rowN (n * 3) (fun _ => .pointer none)) 47 (0, 0))) (Sep (BO gO (.cells (rowN n (fun _ => .bool false)) 4 (0, 0))) (Sep (BO gP (.cells (rowN n (fun _ => .bool false)) 4 (0, 0))) (Sep (AX q (pg : Int) (n : Int) p r s0 pg [] 1 rl) (Sep (MX a (pg : Int) (n : Int) p' r' s0 pg [] 1 rl) (Sep (Many (upd (fun j => HvR (hv j) (dealt n m j)) t Nought) n) R)))))))))) (by ac_rfl)
        have y22 : w4.cell? ⟨gH, t, none⟩ = some (.slice va len vc) := (GC.out _ _ _ O4.out).2
        have f22 : ∀ o, w4.frozen? ⟨gH, o, none⟩ = false := fun o => frozen_of_heap (Own.boAt o5)
        have lR2 : Loc (Sep (HvR (.slice lva (len + 1) lvc) (dealt n m t ++ [(m : Int)])) (Sep (BO gb (gameO q a gH gM gO gP n)) (Sep (BO bs SO) (Sep (BO gM (.cells (rowN (n * 3) (fun _ => .pointer none)) 47 (0, 0))) (Sep (BO gO (.cells (rowN n (fun _ => .bool false)) 4 (0, 0))) (Sep (BO gP (.cells (rowN n (fun _ => .bool false)) 4 (0, 0))) (Sep (AX q (pg : Int) (n : Int) p r s0 pg [] 1 rl) (Sep (MX a (pg : Int) (n : Int) p' r' s0 pg [] 1 rl) (Sep (Many (upd (fun j => HvR (hv j) (dealt n m j)) t Nought) n) R))))))))) := Loc.hvR.sep (Loc.bo.sep (Loc.bo.sep (Loc.bo.sep (Loc.bo.sep (Loc.bo.sep (Loc.ax.sep (Loc.mx.sep ((Loc.rest (fun j => Loc.hvR) t n).sep lR))))))))
        have o6 := Own.boSet lR2 o5 t (.slice lva (len + 1) lvc)
        rw [rowN_set] at o6
        have O7 := hide ((o6.cast (by ac_rfl)).cast (DealR.back (gb := gb) (q := q) (p := p) (r := r) (a := a) (p' := p') (r' := r') (gH := gH) (gM := gM) (gO := gO) (gP := gP) (bs := bs) (pg := pg) (s := s0) (rl := rl) (SO := SO) (hv := hv) (L := dealt n m) (R := R) htn (.slice lva (len + 1) lvc) (dealt n m t ++ [(m : Int)])))
        clear o5 o6 lR2
        refine writerL (i := 22) rfl (by kernel_rfl) rfl (fun K' hK => ?_)
        go_simp
        refine hK _ _ (fun h => absurd rfl h) ?_
        clear hK K' y22 f22 O4
        refine doneL (by kernel_rfl) ?_
        generalize w4.setCell ⟨gH, t, none⟩ (.slice lva (len + 1) lvc) = w5 at *
        clear U1 U2 U3 hne GC HROW
        have hd : upd (dealt n m) t (dealt n m t ++ [(m : Int)]) = dealt n (m + 1) := by rw [← HT.out]; rfl
        rw [hd] at O7
        clear hd
        go_wp2
        go_roundw
        case rel => exact ⟨m + 1, upd hv t (.slice lva (len + 1) lvc), by go_num, by omega, O7.out⟩
        case measure => simp [intOf]; omega
      · have hme : m = pg := by omega
        subst hme
        have HF := hide ((O.out.cast (R' := Sep (BO bs SO) (Sep (BO gb (gameO q a gH gM gO gP n)) (Sep (BO gH (.cells (rowN n hv) 54 (0, 0))) (Sep (BO gM (.cells (rowN (n * 3) (fun _ => .pointer none)) 47 (0, 0))) (Sep (BO gO (.cells (rowN n (fun _ => .bool false)) 4 (0, 0))) (Sep (BO gP (.cells (rowN n (fun _ => .bool false)) 4 (0, 0))) (Sep (AX q (m : Int) (n : Int) p r s0 m [] 1 rl) (Sep (MX a (m : Int) (n : Int) p' r' s0 m [] 1 rl) (Sep (Many (fun t => HvR (hv t) (dealt n m t)) n) R))))))))) (by unfold DealR; ac_rfl)).drop)
        clear O
        go_wp2
        go_ret
        exact ⟨gb, rfl, q, p, r, a, p', r', gH, gM, gO, gP, hv, HF.out⟩
end Go.Proofs.Ytafamfjgehnddaa
