/- Of any setup: whether there is an arena, its layout, all its words, its free runs and their tree, are the document's, and no access was done: the law ArenaNew answers true at every input, and its arguments read behind the call as they read before. -/
import Derived.Test.YthcfmpjmgheieaaAA
import Derived.Test.YthcfmpjmgheieaaOA
import Derived.Test.YthcfmpjmgheieaaAB
import Derived.Test.YthcfmpjmgheieaaXB
namespace Go.Proofs.Ythcfmpjmgheieaa.arenaNew
open Go.ChangeShapes Go.WideShapes Go.ChangeAt Go.RowKit

set_option maxHeartbeats 4000000 in
set_option maxRecDepth 100000 in
theorem no (P T : Int) (hm : Lay.may P T = false) (ao : Option Addr) (len cap : Nat) (hlc : len ≤ cap) (hcm : cap ≤ 9223372036854775807) (w : World) :
    Calls Try.prog 5 #[.int .i64 P, .int .i64 T, .slice ao len cap] w fun e w' => e = .returned (.bool true) ∧ Below w.heap.size w w' := by
  have HM := hide hm
  have HA := fun w => hide (awake11 w)
  clear hm
  obtain ⟨m, hmm⟩ : ∃ m, (min (len : Int) 50).toNat = m := ⟨_, rfl⟩
  have m1 : m ≤ len := by omega
  have m2 : m ≤ 50 := by omega
  have HMM := hide hmm
  clear hmm
  go_enter Try.func5, Try.ntmps5
  go_wp2
  rw [HMM.out]
  obtain ⟨B, hB⟩ : ∃ B, w.heap.size = B := ⟨_, rfl⟩
  have HO0 : Hid (Own (BO B (.cells #[.int .i64 P, .int .i64 T, .slice ao m cap] 40 (0, 0))) w (w.alloc (.cells #[.int .i64 P, .int .i64 T, .slice ao m cap] 40 (0, 0)))) := hide (by
    have := Own.fresh (R1 := BO B (.cells #[.int .i64 P, .int .i64 T, .slice ao m cap] 40 (0, 0))) Loc.nought (Own.start w) (w' := w.alloc (.cells #[.int .i64 P, .int .i64 T, .slice ao m cap] 40 (0, 0))) (G := fun x => x = B) ⟨by rw [← hB]; exact heap_alloc_at _ _, fun _ => Iff.rfl⟩ (fun x hx => by rw [hx, hB]; exact Nat.le_refl _) (grown1 w _)
    exact this.unit)
  rw [hB]
  clear hB
  generalize (w.alloc (.cells #[.int .i64 P, .int .i64 T, .slice ao m cap] 40 (0, 0))) = W0 at *
  obtain ⟨OO, hOO⟩ : ∃ OO : Obj, OO = (.cells #[.int .i64 P, .int .i64 T, .slice ao m cap] 40 (0, 0)) := ⟨_, rfl⟩
  rw [← hOO] at HO0
  have HOO := hide hOO
  clear hOO
  have UC : ∀ u : Mem (BkAt B OO), u.w'.cell? ⟨B, 0, none⟩ = some (.int .i64 P) := fun u => cell_of_heap (by rw [← HOO.out]; exact u.h)
  have UC1 : ∀ u : Mem (BkAt B OO), u.w'.cell? ⟨B, 1, none⟩ = some (.int .i64 T) := fun u => cell_of_heap (by rw [← HOO.out]; exact u.h)
  have UC2 : ∀ u : Mem (BkAt B OO), u.w'.cell? ⟨B, 2, none⟩ = some (.slice ao m cap) := fun u => cell_of_heap (by rw [← HOO.out]; exact u.h)
  have HO1 := hide (HO0.out.below Loc.bo ((Alike.drewN W0 1).below _))
  have JB : Hid (BkAt B OO W0.drew) := hide (by obtain ⟨_, h, _⟩ := HO1.out; exact h.1)
  have hne : Nonempty (Mem (BkAt B OO)) := ⟨⟨_, JB.out⟩⟩
  refine region_start (J := BkAt B OO) (by kernel_rfl) ?_
  refine stretch (fuel := 4) (by kernel_rfl) (fun _ _ _ _ _ h => h) (JB.out) [0, 2] (by kernel_rfl) ?_
  simp only [List.filterMap_cons, List.filterMap_nil, List.getElem?_toArray, List.getElem?_cons_zero, List.getElem?_cons_succ]
  show wpQuiet _ _ _ _ [_, _] _
  repeat (go_big_quiet_step (fail))
  refine wpQuiet_nil ?_
  refine wpAnyJ_writer (i := 1) rfl (by kernel_rfl) (fun K hK => ?_)
  go_simp
  refine (anewNil P T HM.out ao m cap _).mono ?_
  rintro e w1 ⟨rfl, b1⟩
  have O1 := hide (HO1.out.below Loc.bo b1)
  refine hK _ _ (by obtain ⟨_, h, _⟩ := O1.out; exact h.1) ?_
  clear hK K b1
  refine wpAnyJ_writer (i := 3) rfl (by kernel_rfl) (fun K hK => ?_)
  go_simp
  refine (memNil P T HM.out ao m cap _).mono ?_
  rintro e w2 ⟨rfl, b2⟩
  have O2 := hide (O1.out.below Loc.bo b2)
  refine hK _ _ (by obtain ⟨_, h, _⟩ := O2.out; exact h.1) ?_
  clear hK K b2
  refine stretch (fuel := 0) (by kernel_rfl) (fun _ _ _ _ _ h => h) ((by obtain ⟨_, h, _⟩ := O2.out; exact h.1)) [4, 5] (by kernel_rfl) ?_
  simp only [List.filterMap_cons, List.filterMap_nil, List.getElem?_toArray, List.getElem?_cons_zero, List.getElem?_cons_succ]
  show wpQuiet _ _ _ _ [_, _] _
  repeat (go_big_quiet_step (fail))
  refine wpQuiet_nil ?_
  refine wpAnyJ_done (by kernel_rfl) ?_
  clear hne JB HO1 HO0 UC UC1 UC2 O1
  go_wp2_with fail
  refine (HA _).out.mono ?_
  rintro e w3 ⟨rfl, b3⟩
  have O3 := hide (O2.out.below Loc.bo b3)
  clear b3 O2
  go_wp2
  go_ret
  exact ⟨rfl, O3.out.back⟩

/-- What the law reads of the document's arena. -/
def MTwo (a p r b n : Nat) (P T : Int) (w : World) : Prop := w.heap[a]? = some (MObj p r P T) ∧ w.cell? ⟨p, 0, none⟩ = some (.slice (some ⟨b, 0, none⟩) n n)

set_option maxHeartbeats 8000000 in
set_option maxRecDepth 100000 in
theorem yes (pg : Nat) (T : Int) (hm : Lay.may pg T = true) (ao : Option Addr) (len cap : Nat) (hlc : len ≤ cap) (hcm : cap ≤ 9223372036854775807) (hno : ao = none → len = 0 ∧ cap = 0) (f : Nat → Nat) (w : World) (hf : ∀ k, k < len → f k < 4294967296 ∧ AtB w ao k (.int .u32 (f k : Nat))) :
    Calls Try.prog 5 #[.int .i64 (pg : Int), .int .i64 T, .slice ao len cap] w fun e w' => e = .returned (.bool true) ∧ Below w.heap.size w w' := by
  have HM := hide hm
  have HA := fun w => hide (awake11 w)
  have HFF := hide hf
  obtain ⟨p1, p2, p3, p4⟩ := Lay.may_iff.1 hm
  obtain ⟨n, hn, n1, n2⟩ := Lay.words_nat hm
  have HNN := hide hn
  have HNO := hide hno
  clear hm hf hn hno
  obtain ⟨m, hmm⟩ : ∃ m, (min (len : Int) 50).toNat = m := ⟨_, rfl⟩
  have m1 : m ≤ len := by omega
  have m2 : m ≤ 50 := by omega
  have HMM := hide hmm
  clear hmm
  obtain ⟨ds, hds⟩ : ∃ ds, firstD f m = ds := ⟨_, rfl⟩
  have HDI : Hid (∀ w', Below w.heap.size w w' → DrawsIn w' ao ds) := hide (fun w' hb => by rw [← hds]; exact (firstD_in HFF.out m1).below hb (Nat.le_refl _))
  have HDL : Hid (ds.length = m) := hide (by rw [← hds]; exact firstD_length f m)
  have HZ : Hid (ao = none → ds = [] ∧ cap = 0) := hide (fun e => ⟨List.length_eq_zero_iff.1 (by rw [HDL.out]; have := (HNO.out e).1; omega), (HNO.out e).2⟩)
  clear hds HFF HNO
  go_enter Try.func5, Try.ntmps5
  go_wp2
  rw [HMM.out]
  obtain ⟨B, hB⟩ : ∃ B, w.heap.size = B := ⟨_, rfl⟩
  have HO0 : Hid (Own (BO B (.cells #[.int .i64 (pg : Int), .int .i64 T, .slice ao m cap] 40 (0, 0))) w (w.alloc (.cells #[.int .i64 (pg : Int), .int .i64 T, .slice ao m cap] 40 (0, 0)))) := hide (by
    have := Own.fresh (R1 := BO B (.cells #[.int .i64 (pg : Int), .int .i64 T, .slice ao m cap] 40 (0, 0))) Loc.nought (Own.start w) (w' := w.alloc (.cells #[.int .i64 (pg : Int), .int .i64 T, .slice ao m cap] 40 (0, 0))) (G := fun x => x = B) ⟨by rw [← hB]; exact heap_alloc_at _ _, fun _ => Iff.rfl⟩ (fun x hx => by rw [hx, hB]; exact Nat.le_refl _) (grown1 w _)
    exact this.unit)
  rw [hB]
  clear hB
  generalize (w.alloc (.cells #[.int .i64 (pg : Int), .int .i64 T, .slice ao m cap] 40 (0, 0))) = W0 at *
  obtain ⟨OO, hOO⟩ : ∃ OO : Obj, OO = (.cells #[.int .i64 (pg : Int), .int .i64 T, .slice ao m cap] 40 (0, 0)) := ⟨_, rfl⟩
  rw [← hOO] at HO0
  have HOO := hide hOO
  clear hOO
  have UC : ∀ u : Mem (BkAt B OO), u.w'.cell? ⟨B, 0, none⟩ = some (.int .i64 (pg : Int)) := fun u => cell_of_heap (by rw [← HOO.out]; exact u.h)
  have UC1 : ∀ u : Mem (BkAt B OO), u.w'.cell? ⟨B, 1, none⟩ = some (.int .i64 T) := fun u => cell_of_heap (by rw [← HOO.out]; exact u.h)
  have UC2 : ∀ u : Mem (BkAt B OO), u.w'.cell? ⟨B, 2, none⟩ = some (.slice ao m cap) := fun u => cell_of_heap (by rw [← HOO.out]; exact u.h)
  have HO1 := hide (HO0.out.below Loc.bo ((Alike.drewN W0 1).below _))
  have JB : Hid (BkAt B OO W0.drew) := hide (by obtain ⟨_, h, _⟩ := HO1.out; exact h.1)
  have hne : Nonempty (Mem (BkAt B OO)) := ⟨⟨_, JB.out⟩⟩
  refine region_start (J := BkAt B OO) (by kernel_rfl) ?_
  refine stretch (fuel := 4) (by kernel_rfl) (fun _ _ _ _ _ h => h) (JB.out) [0, 2] (by kernel_rfl) ?_
  simp only [List.filterMap_cons, List.filterMap_nil, List.getElem?_toArray, List.getElem?_cons_zero, List.getElem?_cons_succ]
  show wpQuiet _ _ _ _ [_, _] _
  repeat (go_big_quiet_step (fail))
  refine wpQuiet_nil ?_
  refine wpAnyJ_writer (i := 1) rfl (by kernel_rfl) (fun K hK => ?_)
  go_simp
  have NA := anew Loc.bo HO1.out pg T HM.out ds (by rw [HDL.out]; omega) ao cap HZ.out (HDI.out _ HO1.out.back)
  rw [HNN.out, HDL.out, Int.toNat_natCast] at NA
  refine NA.mono ?_
  rintro e w1 ⟨q, p, r, rfl, o1⟩
  have O1 := hide o1
  refine hK _ _ (Own.bo1 o1) ?_
  clear hK K NA o1
  refine wpAnyJ_writer (i := 3) rfl (by kernel_rfl) (fun K hK => ?_)
  go_simp
  have NA := memNew (Loc.ax.sep Loc.bo) O1.out pg T HM.out ds (by rw [HDL.out]; omega) ao cap HZ.out (HDI.out _ O1.out.back)
  rw [HNN.out, HDL.out, Int.toNat_natCast] at NA
  refine NA.mono ?_
  rintro e w2 ⟨a, p', r', rfl, o2⟩
  have O2 := hide (o2.cast (R' := Sep (AX q pg T p r (St.first n) pg ds 1 [(kOf 0 pg, ds.getD 0 0, ())]) (Sep (MX a pg T p' r' (St.first n) pg ds 1 [(kOf 0 pg, ds.getD 0 0, ())]) (BO B OO))) (by ac_rfl))
  refine hK _ _ (Own.bo O2.out) ?_
  clear hK K NA o2 O1
  refine stretch (fuel := 0) (by kernel_rfl) (fun _ _ _ _ _ h => h) (Own.bo O2.out) [4, 5] (by kernel_rfl) ?_
  simp only [List.filterMap_cons, List.filterMap_nil, List.getElem?_toArray, List.getElem?_cons_zero, List.getElem?_cons_succ]
  show wpQuiet _ _ _ _ [_, _] _
  repeat (go_big_quiet_step (fail))
  refine wpQuiet_nil ?_
  refine wpAnyJ_done (by kernel_rfl) ?_
  clear hne JB HO1 HO0 UC UC1 UC2 HZ HDI
  have F1 : Fit 1 pg ds 1 [(kOf 0 pg, ds.getD 0 0, ())] := Fit.new (by omega) (by omega) (by rw [HDL.out]; omega)
  obtain ⟨L, hL⟩ : ∃ L : RL, [(kOf 0 pg, ds.getD 0 0, ())] = L := ⟨_, rfl⟩
  obtain ⟨s, hs⟩ : ∃ s, St.first n = s := ⟨_, rfl⟩
  rw [hL, hs] at O2
  rw [hL] at F1
  have HF := hide (F1.fine (by omega))
  have s1 : Hid (s.words.length = n) := hide (by rw [← hs]; exact St.first_len n)
  have s2 : Hid (s.words.getD 0 0 = 1) := hide (by rw [← hs]; exact St.first_zero n n1)
  have s3 : Hid (s.count = 0) := hide (by rw [← hs]; rfl)
  have HL : Hid ((runsOf L).length ≤ 1099511627776) := hide (by rw [runsOf_length]; have := HF.out.len; omega)
  have HQ : Hid ((shp L).length ≤ 1099511627776) := hide (by rw [shp_length HF.out.good.ris]; have := HF.out.len; omega)
  clear hL hs F1
  have lM : Loc (Sep (MX a pg T p' r' s pg ds 1 L) (BO B OO)) := Loc.mx.sep Loc.bo
  have O3 := hide (O2.out.below (Loc.ax.sep lM) ((Alike.drewN w2 1).below _))
  have MHD : ∀ {u : World}, Own (Sep (AX q pg T p r s pg ds 1 L) (Sep (MX a pg T p' r' s pg ds 1 L) (BO B OO))) w u → BkAt a (MObj p' r' pg T) u := fun h => h.mhead (R := Sep (AX q pg T p r s pg ds 1 L) (Sep (S2 p' s) (Sep (RX r' pg ds 1 L) (BO B OO)))) (by unfold MX; ac_rfl)
  have v0 : ∀ u : Mem (BkAt a (MObj p' r' pg T)), u.w'.cell? ⟨a, 0, none⟩ = some (.pointer (some ⟨p', 0, none⟩)) := fun u => cell_of_heap u.h
  have v1 : ∀ u : Mem (BkAt a (MObj p' r' pg T)), u.w'.cell? ⟨a, 1, none⟩ = some (.pointer (some ⟨r', 0, none⟩)) := fun u => cell_of_heap u.h
  have v2 : ∀ u : Mem (BkAt a (MObj p' r' pg T)), u.w'.cell? ⟨a, 2, none⟩ = some (.int .i64 (pg : Int)) := fun u => cell_of_heap u.h
  have v3 : ∀ u : Mem (BkAt a (MObj p' r' pg T)), u.w'.cell? ⟨a, 3, none⟩ = some (.int .i64 T) := fun u => cell_of_heap u.h
  have hne : Nonempty (Mem (BkAt a (MObj p' r' pg T))) := ⟨⟨_, MHD O3.out⟩⟩
  clear O2
  go_wp2
  refine region_start (J := BkAt a (MObj p' r' pg T)) (by kernel_rfl) ?_
  refine stretch (fuel := 8) (by kernel_rfl) (fun _ _ _ _ _ h => h) (MHD O3.out) [0, 1, 2, 3, 5, 6, 7, 8] (by kernel_rfl) ?_
  simp only [List.filterMap_cons, List.filterMap_nil, List.getElem?_toArray, List.getElem?_cons_zero, List.getElem?_cons_succ]
  show wpQuiet _ _ _ _ [_, _, _, _, _, _, _, _] _
  repeat (go_big_quiet_step (fail))
  refine wpQuiet_nil ?_
  refine wpAnyJ_writer (i := 4) rfl (by kernel_rfl) (fun K hK => ?_)
  go_simp
  refine (layoutX O3.out).mono ?_
  rintro e w4 ⟨rfl, b4⟩
  have O4 := hide (O3.out.below (Loc.ax.sep lM) b4)
  refine hK _ _ (MHD O4.out) ?_
  clear hK K b4 O3
  refine stretch (fuel := 3) (by kernel_rfl) (fun _ _ _ _ _ h => h) (MHD O4.out) [9, 10, 11, 12] (by kernel_rfl) ?_
  simp only [List.filterMap_cons, List.filterMap_nil, List.getElem?_toArray, List.getElem?_cons_zero, List.getElem?_cons_succ]
  show wpQuiet _ _ _ _ [_, _, _, _] _
  repeat (go_big_quiet_step (fail))
  refine wpQuiet_nil ?_
  refine wpAnyJ_writer (i := 13) rfl (by kernel_rfl) (fun K hK => ?_)
  go_simp
  refine (genX O4.out (by rw [s1.out]; omega) 1 s2.out (by omega)).mono ?_
  rintro e w5 ⟨rfl, b5⟩
  have O5 := hide (O4.out.below (Loc.ax.sep lM) b5)
  refine hK _ _ (MHD O5.out) ?_
  clear hK K b5 O4
  refine stretch (fuel := 0) (by kernel_rfl) (fun _ _ _ _ _ h => h) (MHD O5.out) [14, 15] (by kernel_rfl) ?_
  simp only [List.filterMap_cons, List.filterMap_nil, List.getElem?_toArray, List.getElem?_cons_zero, List.getElem?_cons_succ]
  show wpQuiet _ _ _ _ [_, _] _
  repeat (go_big_quiet_step (fail))
  refine wpQuiet_nil ?_
  refine wpAnyJ_done (by kernel_rfl) ?_
  have O6 := hide (O5.out.below (Loc.ax.sep lM) ((Alike.drewN w5 1).below _))
  clear hne v0 v1 v2 v3 O5
  obtain ⟨b, o6⟩ := (O6.out.cast (R' := Sep (S2 p' s) (Sep (AX q pg T p r s pg ds 1 L) (Sep (MH a p' r' pg T) (Sep (RX r' pg ds 1 L) (BO B OO))))) (by unfold MX; ac_rfl)).fix2
  have Q6 := hide (o6.cast (R' := Sep (AX q pg T p r s pg ds 1 L) (Sep (MXb a pg T p' b r' s pg ds 1 L) (BO B OO))) (by unfold MXb; ac_rfl))
  have HM3 : Hid (∀ u : World, Own (Sep (AX q pg T p r s pg ds 1 L) (Sep (MXb a pg T p' b r' s pg ds 1 L) (BO B OO))) w u → MTwo a p' r' b n pg T u) := hide (fun _ h => ⟨h.mhead (R := Sep (AX q pg T p r s pg ds 1 L) (Sep (S2b p' b s) (Sep (RX r' pg ds 1 L) (BO B OO)))) (by unfold MXb; ac_rfl), by
    have := (h.bstore (p := p') (b := b) (s := s) (R := Sep (AX q pg T p r s pg ds 1 L) (Sep (MH a p' r' pg T) (Sep (RX r' pg ds 1 L) (BO B OO)))) (by unfold MXb; ac_rfl)).head
    rw [s1.out] at this
    exact cell_of_heap this⟩)
  have M3 : Hid (∀ u : World, Own (Sep (AX q pg T p r s pg ds 1 L) (Sep (MXb a pg T p' b r' s pg ds 1 L) (BO B OO))) w u → WordsAt u b s.words) := hide (fun _ h => ⟨(h.bstore (p := p') (b := b) (s := s) (R := Sep (AX q pg T p r s pg ds 1 L) (Sep (MH a p' r' pg T) (Sep (RX r' pg ds 1 L) (BO B OO)))) (by unfold MXb; ac_rfl)).row⟩)
  have lB : Loc (Sep (MXb a pg T p' b r' s pg ds 1 L) (BO B OO)) := Loc.mxb.sep Loc.bo
  have v0 : ∀ u : Mem (MTwo a p' r' b n pg T), u.w'.cell? ⟨a, 0, none⟩ = some (.pointer (some ⟨p', 0, none⟩)) := fun u => cell_of_heap u.h.1
  have v1 : ∀ u : Mem (MTwo a p' r' b n pg T), u.w'.cell? ⟨a, 1, none⟩ = some (.pointer (some ⟨r', 0, none⟩)) := fun u => cell_of_heap u.h.1
  have v2 : ∀ u : Mem (MTwo a p' r' b n pg T), u.w'.cell? ⟨p', 0, none⟩ = some (.slice (some ⟨b, 0, none⟩) n n) := fun u => u.h.2
  have hne : Nonempty (Mem (MTwo a p' r' b n pg T)) := ⟨⟨_, HM3.out _ Q6.out⟩⟩
  clear O6 o6 MHD
  go_wp2
  refine region_start (J := MTwo a p' r' b n pg T) (by kernel_rfl) ?_
  refine stretch (fuel := 35) (by kernel_rfl) (fun _ _ _ _ _ h => h) (HM3.out _ Q6.out) [0, 3, 4, 5, 6, 7, 8, 9] (by kernel_rfl) ?_
  simp only [List.filterMap_cons, List.filterMap_nil, List.getElem?_toArray, List.getElem?_cons_zero, List.getElem?_cons_succ]
  show wpQuiet _ _ _ _ [_, _, _, _, _, _, _, _] _
  repeat (go_big_quiet_step (fail))
  refine wpQuiet_nil ?_
  refine wpAnyJ_writer (i := 1) rfl (by kernel_rfl) (fun K hK => ?_)
  go_simp
  refine (storeX Q6.out).mono ?_
  rintro e w6 ⟨rfl, rfl⟩
  refine hK _ _ (HM3.out _ Q6.out) ?_
  clear hK K
  refine wpAnyJ_writer (i := 2) rfl (by kernel_rfl) (fun K hK => ?_)
  go_simp
  obtain ⟨b0, hS0⟩ := AX.st Q6.out
  have HWO := words_of _ p b0 s hS0
  rw [s1.out] at HWO
  refine HWO.mono ?_
  rintro e w7 ⟨g, rfl, hg, _, b7⟩
  have O7 := hide (Q6.out.below (Loc.ax.sep lB) b7)
  have G7 := hide hg
  refine hK _ _ (HM3.out _ O7.out) ?_
  clear hK K b7 hg HWO hS0 Q6
  refine wpAnyJ_writer (i := 10) rfl (by kernel_rfl) (fun K hK => ?_)
  go_simp
  have HSW := same_words _ g b s.words G7.out (M3.out _ O7.out) (by rw [s1.out]; omega)
  rw [s1.out] at HSW
  refine HSW.mono ?_
  rintro e w8 ⟨rfl, qn, rfl⟩
  have O8 := hide (O7.out.below (Loc.ax.sep lB) ((Alike.drewN _ qn).below _))
  refine hK _ _ (HM3.out _ O8.out) ?_
  clear hK K HSW O7 G7
  refine stretch (fuel := 30) (by kernel_rfl) (fun _ _ _ _ _ h => h) (HM3.out _ O8.out) [11, 12] (by kernel_rfl) ?_
  simp only [List.filterMap_cons, List.filterMap_nil, List.getElem?_toArray, List.getElem?_cons_zero, List.getElem?_cons_succ]
  show wpQuiet _ _ _ _ [_, _] _
  repeat (go_big_quiet_step (fail))
  refine wpQuiet_nil ?_
  refine wpAnyJ_writer (i := 13) rfl (by kernel_rfl) (fun K hK => ?_)
  go_simp
  refine (storeX O8.out).mono ?_
  rintro e w9 ⟨rfl, rfl⟩
  refine hK _ _ (HM3.out _ O8.out) ?_
  clear hK K
  refine wpAnyJ_writer (i := 14) rfl (by kernel_rfl) (fun K hK => ?_)
  go_simp
  refine (countX O8.out).mono ?_
  rintro e w9 ⟨rfl, rfl⟩
  rw [s3.out]
  refine hK _ _ (HM3.out _ O8.out) ?_
  clear hK K
  refine stretch (fuel := 20) (by kernel_rfl) (fun _ _ _ _ _ h => h) (HM3.out _ O8.out) [15, 16, 17, 18, 21, 22, 23, 24] (by kernel_rfl) ?_
  simp only [List.filterMap_cons, List.filterMap_nil, List.getElem?_toArray, List.getElem?_cons_zero, List.getElem?_cons_succ]
  show wpQuiet _ _ _ _ [_, _, _, _, _, _, _, _] _
  repeat (go_big_quiet_step (fail))
  refine wpQuiet_nil ?_
  refine wpAnyJ_writer (i := 19) rfl (by kernel_rfl) (fun K hK => ?_)
  go_simp
  refine (runsX O8.out).mono ?_
  rintro e w9 ⟨rfl, rfl⟩
  refine hK _ _ (HM3.out _ O8.out) ?_
  clear hK K
  refine wpAnyJ_writer (i := 20) rfl (by kernel_rfl) (fun K hK => ?_)
  go_simp
  refine (listX lB O8.out HF.out).mono ?_
  rintro e w10 ⟨v1, rfl, o10⟩
  have O10 := hide (o10.cast (R' := Sep (RX r' pg ds 1 L) (Sep (MH a p' r' pg T) (Sep (S2b p' b s) (Sep (AX q pg T p r s pg ds 1 L) (Sep (RV v1 (runsOf L)) (BO B OO)))))) (by unfold MXb; ac_rfl))
  have J10 : MTwo a p' r' b n pg T w10 := HM3.out _ (o10.cast (R' := Sep (RV v1 (runsOf L)) (Sep (AX q pg T p r s pg ds 1 L) (Sep (MXb a pg T p' b r' s pg ds 1 L) (BO B OO)))) (by ac_rfl)).drop1
  refine hK _ _ J10 ?_
  clear hK K o10 O8
  refine wpAnyJ_writer (i := 25) rfl (by kernel_rfl) (fun K hK => ?_)
  go_simp
  refine (xlistP (Loc.mh.sep (Loc.s2b.sep (Loc.ax.sep (Loc.rv.sep Loc.bo)))) O10.out HF.out).mono ?_
  rintro e w11 ⟨v2, rfl, o11⟩
  have O11 := hide (o11.cast (R' := Sep (RV v1 (runsOf L)) (Sep (RV v2 (runsOf L)) (Sep (AX q pg T p r s pg ds 1 L) (Sep (MXb a pg T p' b r' s pg ds 1 L) (BO B OO))))) (by unfold MXb; ac_rfl))
  have J11 : MTwo a p' r' b n pg T w11 := HM3.out _ O11.out.drop1.drop1
  refine hK _ _ J11 ?_
  clear hK K o11 O10
  refine wpAnyJ_writer (i := 26) rfl (by kernel_rfl) (fun K hK => ?_)
  go_simp
  refine (sameRuns _ v1 v2 (runsOf L) (O11.out.runsV rfl) (O11.out.drop1.runsV rfl) HL.out).mono ?_
  rintro e w12 ⟨rfl, h12⟩
  have O12 := hide (O11.out.drop1.drop1.below (Loc.ax.sep lB) (h12.below _))
  refine hK _ _ (HM3.out _ O12.out) ?_
  clear hK K h12 O11
  refine stretch (fuel := 9) (by kernel_rfl) (fun _ _ _ _ _ h => h) (HM3.out _ O12.out) [27, 28, 29, 32, 33, 34, 35] (by kernel_rfl) ?_
  simp only [List.filterMap_cons, List.filterMap_nil, List.getElem?_toArray, List.getElem?_cons_zero, List.getElem?_cons_succ]
  show wpQuiet _ _ _ _ [_, _, _, _, _, _, _] _
  repeat (go_big_quiet_step (fail))
  refine wpQuiet_nil ?_
  refine wpAnyJ_writer (i := 30) rfl (by kernel_rfl) (fun K hK => ?_)
  go_simp
  refine (runsX O12.out).mono ?_
  rintro e w13 ⟨rfl, rfl⟩
  refine hK _ _ (HM3.out _ O12.out) ?_
  clear hK K
  refine wpAnyJ_writer (i := 31) rfl (by kernel_rfl) (fun K hK => ?_)
  go_simp
  refine (shapeX lB O12.out HF.out).mono ?_
  rintro e w14 ⟨v3, rfl, o14⟩
  have O14 := hide (o14.cast (R' := Sep (RX r' pg ds 1 L) (Sep (MH a p' r' pg T) (Sep (S2b p' b s) (Sep (AX q pg T p r s pg ds 1 L) (Sep (NV v3 (shp L)) (BO B OO)))))) (by unfold MXb; ac_rfl))
  have J14 : MTwo a p' r' b n pg T w14 := HM3.out _ (o14.cast (R' := Sep (NV v3 (shp L)) (Sep (AX q pg T p r s pg ds 1 L) (Sep (MXb a pg T p' b r' s pg ds 1 L) (BO B OO)))) (by ac_rfl)).drop1
  refine hK _ _ J14 ?_
  clear hK K o14 O12
  refine wpAnyJ_writer (i := 36) rfl (by kernel_rfl) (fun K hK => ?_)
  go_simp
  refine (xshapeP (Loc.mh.sep (Loc.s2b.sep (Loc.ax.sep (Loc.nv.sep Loc.bo)))) O14.out HF.out).mono ?_
  rintro e w15 ⟨v4, rfl, o15⟩
  have O15 := hide (o15.cast (R' := Sep (NV v3 (shp L)) (Sep (NV v4 (shp L)) (Sep (AX q pg T p r s pg ds 1 L) (Sep (MXb a pg T p' b r' s pg ds 1 L) (BO B OO))))) (by unfold MXb; ac_rfl))
  have J15 : MTwo a p' r' b n pg T w15 := HM3.out _ O15.out.drop1.drop1
  refine hK _ _ J15 ?_
  clear hK K o15 O14
  refine wpAnyJ_writer (i := 37) rfl (by kernel_rfl) (fun K hK => ?_)
  go_simp
  refine (sameNodes _ v3 v4 (shp L) (O15.out.nodesV rfl) (O15.out.drop1.nodesV rfl) HQ.out).mono ?_
  rintro e w16 ⟨rfl, h16⟩
  have O16 := hide (O15.out.drop1.drop1.below (Loc.ax.sep lB) (h16.below _))
  refine hK _ _ (HM3.out _ O16.out) ?_
  clear hK K h16 O15
  refine stretch (fuel := 3) (by kernel_rfl) (fun _ _ _ _ _ h => h) (HM3.out _ O16.out) [38, 39] (by kernel_rfl) ?_
  simp only [List.filterMap_cons, List.filterMap_nil, List.getElem?_toArray, List.getElem?_cons_zero, List.getElem?_cons_succ]
  show wpQuiet _ _ _ _ [_, _] _
  repeat (go_big_quiet_step (fail))
  refine wpQuiet_nil ?_
  refine wpAnyJ_writer (i := 40) rfl (by kernel_rfl) (fun K hK => ?_)
  go_simp
  refine (HA _).out.mono ?_
  rintro e w17 ⟨rfl, b17⟩
  have O17 := hide (O16.out.below (Loc.ax.sep lB) b17)
  refine hK _ _ (HM3.out _ O17.out) ?_
  clear hK K b17 O16
  refine stretch (fuel := 0) (by kernel_rfl) (fun _ _ _ _ _ h => h) (HM3.out _ O17.out) [41, 42] (by kernel_rfl) ?_
  simp only [List.filterMap_cons, List.filterMap_nil, List.getElem?_toArray, List.getElem?_cons_zero, List.getElem?_cons_succ]
  show wpQuiet _ _ _ _ [_, _] _
  repeat (go_big_quiet_step (fail))
  refine wpQuiet_nil ?_
  refine wpAnyJ_done (by kernel_rfl) ?_
  go_wp2
  go_ret
  exact ⟨rfl, O17.out.back⟩

theorem walk (P : Int) (_hP : -9223372036854775808 ≤ P ∧ P ≤ 9223372036854775807) (T : Int) (_hT : -9223372036854775808 ≤ T ∧ T ≤ 9223372036854775807) (ao : Option Addr) (len cap : Nat) (hlc : len ≤ cap) (hcm : cap ≤ maxLen ∧ (ao = none → len = 0 ∧ cap = 0)) (w : World)
    (hf : ∃ f : Nat → Nat, ∀ k, k < len → f k < 4294967296 ∧ AtB w ao k (.int .u32 (f k : Nat))) :
    Calls Try.prog 5 #[.int .i64 P, .int .i64 T, .slice ao len cap] w fun e w' => e = .returned (.bool true) ∧ Below w.heap.size w w' := by
  obtain ⟨f, hf⟩ := hf
  have hc : cap ≤ 9223372036854775807 := by have := hcm.1; unfold maxLen at this; omega
  cases hm : Lay.may P T
  · exact no P T hm ao len cap hlc hc w
  · obtain ⟨q1, _⟩ := Lay.may_iff.1 hm
    obtain ⟨pg, rfl⟩ : ∃ pg : Nat, P = (pg : Int) := ⟨P.toNat, by omega⟩
    exact yes pg T hm ao len cap hlc hc hcm.2 f w hf

set_option maxRecDepth 100000 in
theorem lifted (os : Os) (started : os.Started) (H : Type) (enc : TypeId × Value → H) :
    ReturnsInHanded {} Try.checked os 5 .any (Rows.arenaNewSpec.pre6 enc Try.prog Try.f5 Rows.arenaNewRow.domain false) (Rows.arenaNewSpec.post enc Try.prog Try.f5 false true false false) := by
  refine returnsInHanded_of_change (C := Try.checked) own started (by kernel_rfl) Try.func5
    (ChangeSpec.witness6 (enc := enc) (C := Try.checked) false ⟨#[], #[.int .i64 0, .int .i64 0, .slice none 0 0], []⟩ 8 (by kernel_rfl) (by kernel_rfl) (by kernel_rfl) (by kernel_rfl)) ?_
  intro W base args ds gs before hval0 hW _ _
  have hval : ∀ (j : Nat) t v, Try.f5.params[j]? = some t → args[j]? = some v → Value.okWide Try.prog W .any base t v := hval0
  have hW' := hW
  obtain ⟨p, q, hA0, hV, rfl, hfz, hnd⟩ := hW
  have hA : DataW.TrodAll enc Try.prog W 0 (fun _ => true) true Try.f5.params.toList args.toList ds p := hA0
  rw [Try.params5] at hA hval
  obtain ⟨v0, vs0, d0, ds0, p0, q0, hargs, rfl, rfl, h0, r0⟩ := trodAll_cons hA
  obtain ⟨v1, vs1, d1, ds1, p1, q1, rfl, rfl, rfl, h1, r1⟩ := trodAll_cons r0
  obtain ⟨v2, vs2, d2, ds2, p2, q2, rfl, rfl, rfl, h2, r2⟩ := trodAll_cons r1
  obtain ⟨rfl, rfl, rfl⟩ := trodAll_nil r2
  obtain rfl : args = #[v0, v1, v2] := by cases args; simp_all
  obtain ⟨rfl, rfl⟩ := trodVars_none hV
  obtain ⟨a0, rfl, rfl, rfl, w0⟩ := open_int Try.underlying3 (hval 0 3 v0 rfl rfl) h0
  obtain ⟨a1, rfl, rfl, rfl, w1⟩ := open_int Try.underlying3 (hval 1 3 v1 rfl rfl) h1
  have h2k := h2
  have lt2 : ∀ x ∈ p2, x.block < W.heap.size := fun x hx => hW'.lt x (by simp [hx])
  obtain ⟨l2_0, l2_1, l2_2, rfl, f2_0, f2_1, f2_2⟩ := open_draws (hval 2 25 v2 rfl rfl) h2
  clear hA0 hval0
  have hx0 := i64_bd w0
  have hx1 := i64_bd w1
  refine (walk a0 hx0 a1 hx1 l2_0 l2_1 l2_2 f2_0 f2_1 W f2_2).mono fun e W' ⟨he, bel⟩ => ?_
  subst he
  exact ⟨_, rfl, _, _, _, [], _, [], hW', trodAll_mk1 (shut_bool Try.underlying4 _), (trodAll_cons_mk (shut_int Try.underlying3 w0) (trodAll_cons_mk (shut_int Try.underlying3 w1) (trodAll_cons_mk (Below.trod laidOut (by kernel_rfl) (of_decide_eq_true (by kernel_rfl)) h2k bel lt2) trodAll_mk0))), rfl, bel.frame _, fun h => by cases h⟩

end Go.Proofs.Ythcfmpjmgheieaa.arenaNew
namespace Go.Proofs.Ythcfmpjmgheieaa

theorem arenaNew_holds : Rows.ArenaNewSaid :=
  OpenClaim.holds_of_wide 5 Try.f5 rfl rfl rfl rfl rfl rfl rfl ⟨rfl, rfl, rfl, rfl, rfl⟩ rfl rfl rfl rfl rfl (by kernel_rfl) Try.func5 (by kernel_rfl)
    (of_decide_eq_true (by kernel_rfl)) (by unfold Func.isWrapper; first | (rw [if_pos (by decide +kernel)]; kernel_rfl) | (rw [if_neg (by decide +kernel)]; exact ⟨rfl, rfl⟩))
    (fun os started H enc _ => arenaNew.lifted os started H enc)
end Go.Proofs.Ythcfmpjmgheieaa
