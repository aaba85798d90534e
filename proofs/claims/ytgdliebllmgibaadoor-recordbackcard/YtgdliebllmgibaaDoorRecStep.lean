/- Package record: a put, Done, a lay's step, a gone's. -/
import Derived.Test.YtgdliebllmgibaaDoorRecRead
import Derived.Test.YtgdliebllmgibaaDoorPV
import Derived.Test.YtgdliebllmgibaaDoorPhaseL
import Derived.Test.YtgdliebllmgibaaDoorPhaseM
namespace Go.Proofs.YtgdliebllmgibaaDoor
open Go Go.RowKit

def didZ4 : Obj := .cells #[.int .i64 0, .int .i64 0, .int .u64 0, .int .u64 0] 34 (0, 0)
def CelTwo (m i : Nat) (v : Value) (j : Nat) (u : Value) (w : World) : Prop := w.cell? ⟨m, i, none⟩ = some v ∧ w.cell? ⟨m, j, none⟩ = some u
def CelThree (m i : Nat) (v : Value) (j : Nat) (u : Value) (k : Nat) (x : Value) (w : World) : Prop := w.cell? ⟨m, i, none⟩ = some v ∧ w.cell? ⟨m, j, none⟩ = some u ∧ w.cell? ⟨m, k, none⟩ = some x

section
variable {R : Res} {w0 w : World} {m : Nat} {q : Nat} {P T : Int} {p r : Nat} {s : St} {pg : Nat} {ds : List Nat} {dn : Nat} {L : RL}

theorem layDone (w : World) (m : Nat) (P T pg : Int) (n d bs al st : Nat) (hn : n ≤ 4096) (k : w.heap[m]? = some (layM P T pg n d bs al st)) :
    Calls Tryd.prog 11 #[.pointer (some ⟨m, 0, none⟩)] w fun e w' => e = .returned (.bool (decide (d = n + 4))) ∧ ∃ q, w' = w.drewN q := by
  have c2 : w.cell? ⟨m, 4, none⟩ = some (.int .i64 (d : Int)) := cell_of_heap k
  have c3 : w.cell? ⟨m, 3, none⟩ = some (.int .i64 (n : Int)) := cell_of_heap k
  have e : decide (d = n + 4) = ((d : Int) == (n : Int) + 4) := by
    by_cases h : d = n + 4
    · rw [decide_eq_true h]; simp; omega
    · rw [decide_eq_false h]; symm; rw [beq_eq_false_iff_ne]; omega
  rw [e]
  clear k e
  go_enter Tryd.func11, Tryd.ntmps11
  go_wp2
  go_quiet (fail)
  go_wp2
  go_ret
  exact ⟨rfl, _, rfl⟩
theorem goneDone (w : World) (m : Nat) (P T pg : Int) (n d : Nat) (hn : n ≤ 4096) (k : w.heap[m]? = some (goneM P T pg n d)) :
    Calls Tryd.prog 16 #[.pointer (some ⟨m, 0, none⟩)] w fun e w' => e = .returned (.bool (decide (d = n + 1))) ∧ ∃ q, w' = w.drewN q := by
  have c2 : w.cell? ⟨m, 4, none⟩ = some (.int .i64 (d : Int)) := cell_of_heap k
  have c3 : w.cell? ⟨m, 3, none⟩ = some (.int .i64 (n : Int)) := cell_of_heap k
  have e : decide (d = n + 1) = ((d : Int) == (n : Int) + 1) := by
    by_cases h : d = n + 1
    · rw [decide_eq_true h]; simp; omega
    · rw [decide_eq_false h]; symm; rw [beq_eq_false_iff_ne]; omega
  rw [e]
  clear k e
  go_enter Tryd.func16, Tryd.ntmps16
  go_wp2
  go_quiet (fail)
  go_wp2
  go_ret
  exact ⟨rfl, _, rfl⟩

set_option maxRecDepth 100000 in
set_option maxHeartbeats 4000000 in
/-- A put of a machine, whose cells are c. -/
theorem putM {c : Array Value} {ty : TypeId} (l : Loc R) (h : Own (Sep (BO m (.cells c ty (0, 0))) (Sep (AX q P T p r s pg ds dn L) R)) w0 w) (d : Nat) (hd : d < 1000000) (h0 : c[0]? = some (.int .i64 P)) (h1 : c[1]? = some (.int .i64 T)) (h4 : c[4]? = some (.int .i64 (d : Int)))
    (kind page : Int) (j : Nat) (hj : Lay.page P T kind page = ((j : Int), true)) (hjl : j < s.words.length) (v : Nat) (hv : v < 18446744073709551616) (s' : St) (hs : s.put j v = s') :
    Calls Tryd.prog 41 #[.pointer (some ⟨m, 0, none⟩), .pointer (some ⟨q, 0, none⟩), .int .i64 kind, .int .i64 page, .int .u64 (v : Int)] w fun e w' => e = .returned s'.did ∧ Own (Sep (BO m (.cells (c.setIfInBounds 4 (.int .i64 ((d + 1 : Nat) : Int))) ty (0, 0))) (Sep (AX q P T p r s' pg ds dn L) R)) w0 w' := by
  have lR : Loc (Sep (BO w.heap.size didZ4) R) := Loc.bo.sep l
  have O1 := hide ((Own.boNew (m := w.heap.size) (o := didZ4) (Loc.bo.sep (Loc.ax.sep l)) h (heap_alloc_at w didZ4) (Nat.le_refl _) (grown1 w _)).cast (R' := Sep (BO m (.cells c ty (0, 0))) (Sep (AX q P T p r s pg ds dn L) (Sep (BO w.heap.size didZ4) R))) (by ac_rfl))
  have HK := hide (fun w => lpage P T kind page w)
  rw [hj] at HK
  clear h hj
  have HI := hide hjl
  have HV := hide hv
  have HS := hide hs
  have HD := hide hd
  have H0 := hide h0
  have H1 := hide h1
  have H4 := hide h4
  clear hjl hv hs hd h0 h1 h4
  unfold didZ4 at O1
  have y0 : (w.alloc (.cells #[.int .i64 0, .int .i64 0, .int .u64 0, .int .u64 0] 34)).cell? ⟨m, 0, none⟩ = some (.int .i64 P) := (cell_of_heap (Own.boAt O1.out)).trans H0.out
  have y1 : (w.alloc (.cells #[.int .i64 0, .int .i64 0, .int .u64 0, .int .u64 0] 34)).cell? ⟨m, 1, none⟩ = some (.int .i64 T) := (cell_of_heap (Own.boAt O1.out)).trans H1.out
  go_enter Tryd.func41, Tryd.ntmps41
  go_wp2_with fail
  clear y0 y1
  generalize w.alloc (.cells #[.int .i64 0, .int .i64 0, .int .u64 0, .int .u64 0] 34) = w1 at *
  generalize w.heap.size = rb at *
  refine (HK.out _).mono ?_
  rintro e w2 ⟨rfl, b2⟩
  have O2 := hide (O1.out.below (Loc.bo.sep (Loc.ax.sep lR)) b2)
  clear O1 b2 HK
  go_wp2
  have O3 := hide (O2.out.below (Loc.bo.sep (Loc.ax.sep lR)) ((Alike.drewN w2 1).below _))
  clear O2
  have J1 : Hid (CelTwo m 0 (.int .i64 P) 1 (.int .i64 T) w2.drew) := hide ⟨(cell_of_heap (Own.boAt O3.out)).trans H0.out, (cell_of_heap (Own.boAt O3.out)).trans H1.out⟩
  have hne : Nonempty (Mem (CelTwo m 0 (.int .i64 P) 1 (.int .i64 T))) := ⟨⟨_, J1.out⟩⟩
  have u0 : ∀ u : Mem (CelTwo m 0 (.int .i64 P) 1 (.int .i64 T)), u.w'.cell? ⟨m, 0, none⟩ = some (.int .i64 P) := fun u => u.h.1
  have u1 : ∀ u : Mem (CelTwo m 0 (.int .i64 P) 1 (.int .i64 T)), u.w'.cell? ⟨m, 1, none⟩ = some (.int .i64 T) := fun u => u.h.2
  refine region_start (J := CelTwo m 0 (.int .i64 P) 1 (.int .i64 T)) (by kernel_rfl) ?_
  refine stretch (fuel := 11) (by kernel_rfl) (fun _ _ _ _ _ h => h) J1.out [0, 1, 2, 3, 5, 6, 7, 8] (by kernel_rfl) ?_
  simp only [List.filterMap_cons, List.filterMap_nil, List.getElem?_toArray, List.getElem?_cons_zero, List.getElem?_cons_succ]
  show wpQuiet _ _ _ _ [_, _, _, _, _, _, _, _] _
  repeat (go_big_quiet_step (fail))
  refine wpQuiet_nil ?_
  refine wpAnyJ_writer (i := 4) rfl (by kernel_rfl) (fun K' hK => ?_)
  go_simp
  refine ((ArAt.of (O3.out.cast BO.swap)).layout).mono ?_
  rintro e w3 ⟨rfl, b3⟩
  have O4 := hide (O3.out.below (Loc.bo.sep (Loc.ax.sep lR)) b3)
  have J2 : Hid (CelTwo m 0 (.int .i64 P) 1 (.int .i64 T) w3) := hide ⟨(cell_of_heap (Own.boAt O4.out)).trans H0.out, (cell_of_heap (Own.boAt O4.out)).trans H1.out⟩
  refine hK _ _ J2.out ?_
  clear hK K' b3 O3 J1
  refine stretch (fuel := 4) (by kernel_rfl) (fun _ _ _ _ _ h => h) J2.out [9, 10, 11, 12, 14, 15] (by kernel_rfl) ?_
  simp only [List.filterMap_cons, List.filterMap_nil, List.getElem?_toArray, List.getElem?_cons_zero, List.getElem?_cons_succ]
  show wpQuiet _ _ _ _ [_, _, _, _, _, _] _
  repeat (go_big_quiet_step (fail))
  refine wpQuiet_nil ?_
  refine wpAnyJ_writer (i := 13) rfl (by kernel_rfl) (fun K' hK => ?_)
  go_simp
  refine (storeX (O4.out.cast BO.swap)).mono ?_
  rintro e w4 ⟨rfl, rfl⟩
  refine hK _ _ J2.out ?_
  clear hK K'
  refine wpAnyJ_writer (i := 16) rfl (by kernel_rfl) (fun K' hK => ?_)
  go_simp
  refine (putX (Loc.bo.sep lR) (O4.out.cast BO.swap) j HI.out v HV.out).mono ?_
  rintro e w5 ⟨rfl, o5⟩
  rw [HS.out] at o5
  have O5 := hide (o5.cast BO.swap.symm)
  have J3 : Hid (CelTwo m 0 (.int .i64 P) 1 (.int .i64 T) w5) := hide ⟨(cell_of_heap (Own.boAt O5.out)).trans H0.out, (cell_of_heap (Own.boAt O5.out)).trans H1.out⟩
  refine hK _ _ J3.out ?_
  clear hK K' o5 O4 J2
  refine stretch (fuel := 0) (by kernel_rfl) (fun _ _ _ _ _ h => h) J3.out [17, 18] (by kernel_rfl) ?_
  simp only [List.filterMap_cons, List.filterMap_nil, List.getElem?_toArray, List.getElem?_cons_zero, List.getElem?_cons_succ]
  show wpQuiet _ _ _ _ [_, _] _
  repeat (go_big_quiet_step (fail))
  refine wpQuiet_nil ?_
  refine wpAnyJ_done (by kernel_rfl) ?_
  clear u0 u1 hne J3
  have y4 : w5.cell? ⟨m, 4, none⟩ = some (.int .i64 (d : Int)) := (cell_of_heap (Own.boAt O5.out)).trans H4.out
  have f4 : ∀ o, w5.frozen? ⟨m, o, none⟩ = false := fun o => frozen_of_heap (Own.boAt O5.out)
  have O6 : Hid (Own (Sep (BO m (.cells (c.setIfInBounds 4 (.int .i64 ((d : Int) + 1))) ty (0, 0))) (Sep (AX q P T p r s' pg ds dn L) (Sep (BO rb (.cells #[.int .i64 0, .int .i64 0, .int .u64 0, .int .u64 0] 34 (0, 0))) R))) w0 (w5.setCell ⟨m, 4, none⟩ (.int .i64 ((d : Int) + 1)))) := hide (Own.boSet (Loc.ax.sep lR) O5.out 4 (.int .i64 ((d : Int) + 1)))
  have hd := HD.out
  clear O5
  go_wp2_with fail
  clear y4 f4
  generalize w5.setCell ⟨m, 4, none⟩ (.int .i64 ((d : Int) + 1)) = w6 at *
  refine (storeX (O6.out.cast BO.swap)).mono ?_
  rintro e w7 ⟨rfl, rfl⟩
  go_wp2_with fail
  refine (lastX (Loc.bo.sep lR) (O6.out.cast BO.swap)).mono ?_
  rintro e w8 ⟨rfl, o7⟩
  have O7 := hide (o7.cast (R' := Sep (BO rb (.cells #[.int .i64 0, .int .i64 0, .int .u64 0, .int .u64 0] 34 (0, 0))) (Sep (BO m (.cells (c.setIfInBounds 4 (.int .i64 ((d + 1 : Nat) : Int))) ty (0, 0))) (Sep (AX q P T p r s' pg ds dn L) R))) (by rw [show ((d + 1 : Nat) : Int) = (d : Int) + 1 from by omega]; ac_rfl))
  clear o7 O6
  have r0 : w8.cell? ⟨rb, 0, none⟩ = some (.int .i64 0) := cell_of_heap (Own.boAt O7.out)
  have r1 : w8.cell? ⟨rb, 1, none⟩ = some (.int .i64 0) := cell_of_heap (Own.boAt O7.out)
  have r2 : w8.cell? ⟨rb, 2, none⟩ = some (.int .u64 0) := cell_of_heap (Own.boAt O7.out)
  have r3 : w8.cell? ⟨rb, 3, none⟩ = some (.int .u64 0) := cell_of_heap (Own.boAt O7.out)
  have fr : ∀ o, w8.frozen? ⟨rb, o, none⟩ = false := fun o => frozen_of_heap (Own.boAt O7.out)
  unfold St.did
  go_wp2
  refine Own.putDid (Q := bodyPost _ _ _ _ _) (Loc.bo.sep (Loc.ax.sep l)) O7.out ?_
  intro W hW z0 z1 z2 z3
  refine bodyPost_ret (by simp [results, Tryd.results41, z0, z1, z2, z3, go_sem]; try rfl) rfl ?_
  exact ⟨rfl, hW⟩

set_option maxRecDepth 100000 in
set_option maxHeartbeats 4000000 in
theorem layStep4 (l : Loc R) (pg0 : Nat) (n d bs al st : Nat) (hn : n ≤ 4096) (hd : d < n) (hp : pg0 ≤ 4096) (h : Own (Sep (BO m (layM P T (pg0 : Int) (n : Int) (d : Int) bs al st)) (Sep (AX q P T p r s pg ds dn L) R)) w0 w) (j : Nat) (hj : Lay.page P T 14 ((pg0 : Int) + (d : Int)) = ((j : Int), true)) (hjl : j < s.words.length) (v : Nat) (hvv : v = pg0 + 1) (hv : v < 18446744073709551616) (s' : St) (hs : s.put j v = s') :
    Calls Tryd.prog 12 #[.pointer (some ⟨m, 0, none⟩), .pointer (some ⟨q, 0, none⟩)] w fun e w' => e = .returned s'.did ∧ Own (Sep (BO m (layM P T (pg0 : Int) (n : Int) ((d + 1 : Nat) : Int) bs al st)) (Sep (AX q P T p r s' pg ds dn L) R)) w0 w' := by
  have lR : Loc (Sep (BO w.heap.size didZ4) R) := Loc.bo.sep l
  have O1 := hide ((Own.boNew (m := w.heap.size) (o := didZ4) (Loc.bo.sep (Loc.ax.sep l)) h (heap_alloc_at w didZ4) (Nat.le_refl _) (grown1 w _)).cast (R' := Sep (BO m (layM P T (pg0 : Int) (n : Int) (d : Int) bs al st)) (Sep (AX q P T p r s pg ds dn L) (Sep (BO w.heap.size didZ4) R))) (by ac_rfl))
  have HPUT := hide (fun (W : World) (o : Own (Sep (BO m (layM P T (pg0 : Int) (n : Int) (d : Int) bs al st)) (Sep (AX q P T p r s pg ds dn L) (Sep (BO w.heap.size didZ4) R))) w0 W) => putM (c := layC P T (pg0 : Int) (n : Int) (d : Int) bs al st) lR o d (by omega) rfl rfl rfl 14 ((pg0 : Int) + (d : Int)) j hj hjl v hv s' hs)
  have fin : ∀ W, Own (Sep (BO m (.cells ((layC P T (pg0 : Int) (n : Int) (d : Int) bs al st).setIfInBounds 4 (.int .i64 ((d + 1 : Nat) : Int))) 88 (0, 0))) (Sep (AX q P T p r s' pg ds dn L) (Sep (BO w.heap.size didZ4) R))) w0 W → Own (Sep (BO w.heap.size didZ4) (Sep (BO m (layM P T (pg0 : Int) (n : Int) ((d + 1 : Nat) : Int) bs al st)) (Sep (AX q P T p r s' pg ds dn L) R))) w0 W := fun W o => o.cast (by show Sep (BO m (layM P T (pg0 : Int) (n : Int) ((d + 1 : Nat) : Int) bs al st)) _ = _; ac_rfl)
  have HF := hide fin
  have hDone : ∀ W : World, Own (Sep (BO m (layM P T (pg0 : Int) (n : Int) (d : Int) bs al st)) (Sep (AX q P T p r s pg ds dn L) (Sep (BO w.heap.size didZ4) R))) w0 W → Calls Tryd.prog 11 #[.pointer (some ⟨m, 0, none⟩)] W fun e w' => e = .returned (.bool false) ∧ ∃ q, w' = W.drewN q := fun W o => by
    have := layDone _ m P T (pg0 : Int) n d bs al st hn (Own.boAt o)
    rw [decide_eq_false (by omega)] at this
    exact this
  have HDN := hide hDone
  have hvv' : (v : Int) = (pg0 : Int) + 1 := by omega
  have HVV := hide hvv'
  have t0 : (((d : Int) - (n : Int)) == 0) = false := by rw [beq_eq_false_iff_ne]; omega
  have t1 : (((d : Int) - (n : Int)) == 1) = false := by rw [beq_eq_false_iff_ne]; omega
  have t2 : (((d : Int) - (n : Int)) == 2) = false := by rw [beq_eq_false_iff_ne]; omega
  have t3 : (((d : Int) - (n : Int)) == 3) = false := by rw [beq_eq_false_iff_ne]; omega
  have hd9 : d ≤ 4099 := by omega
  have HD9 := hide hd9
  clear h hj hjl hv hs fin hDone hvv hvv'
  unfold didZ4 at *
  go_enter Tryd.func12, Tryd.ntmps12
  go_wp2_with fail
  generalize w.alloc (.cells #[.int .i64 0, .int .i64 0, .int .u64 0, .int .u64 0] 34) = w1 at *
  generalize w.heap.size = rb at *
  refine (HDN.out _ O1.out).mono ?_
  rintro e w2 ⟨rfl, n1, rfl⟩
  have O2 := hide (O1.out.below (Loc.bo.sep (Loc.ax.sep lR)) ((Alike.drewN w1 n1).below _))
  clear O1 HDN
  generalize w1.drewN n1 = w2 at *
  have y4 : w2.cell? ⟨m, 4, none⟩ = some (.int .i64 (d : Int)) := cell_of_heap (Own.boAt O2.out)
  have y3 : w2.cell? ⟨m, 3, none⟩ = some (.int .i64 (n : Int)) := cell_of_heap (Own.boAt O2.out)
  go_wp2
  go_quiet (fail)
  go_wp2
  clear t0 t1 t2 t3 y3 y4
  have OQ := hide (O2.out.below (Loc.bo.sep (Loc.ax.sep lR)) ((Alike.drewN w2 nq).below _))
  clear O2
  generalize w2.drewN nq = w3 at *
  have O3 := hide (OQ.out.below (Loc.bo.sep (Loc.ax.sep lR)) ((Alike.drewN w3 1).below _))
  clear OQ
  have y2 : w3.drew.cell? ⟨m, 2, none⟩ = some (.int .i64 (pg0 : Int)) := cell_of_heap (Own.boAt O3.out)
  have y4 : w3.drew.cell? ⟨m, 4, none⟩ = some (.int .i64 (d : Int)) := cell_of_heap (Own.boAt O3.out)
  have HO3 : Hid (Own (Sep (BO m (layM P T (pg0 : Int) (n : Int) (d : Int) bs al st)) (Sep (AX q P T p r s pg ds dn L) (Sep (BO rb (.cells #[.int .i64 0, .int .i64 0, .int .u64 0, .int .u64 0] 34 (0, 0))) R))) w0 w3.drew) := hide O3.out
  clear O3
  have hd9 := HD9.out
  refine startM 22 (by kernel_rfl) ?_
  generalize w3.drew = wd at *
  refine readsM (fuel := 2) (by kernel_rfl) (fun _ _ _ _ _ h => h) [0, 1, 2, 3, 4, 5, 6, 7, 8, 9, 10, 11, 12, 13, 14, 15, 16, 17, 18, 19, 20, 21] (by kernel_rfl) (by kernel_rfl) (by kernel_rfl) ?_
  simp only [List.filterMap_cons, List.filterMap_nil, List.getElem?_toArray, List.getElem?_cons_zero, List.getElem?_cons_succ]
  show wpQuiet _ _ _ _ [_, _, _, _, _, _, _, _, _, _, _, _, _, _, _, _, _, _, _, _, _, _] _
  repeat (go_big_quiet_step (fail))
  refine wpQuiet_nil ?_
  refine turnM (j := 22) rfl (by kernel_rfl) rfl (fun K' hK => ?_)
  go_simp
  try rw [← HVV.out]
  refine (HPUT.out _ HO3.out).mono ?_
  rintro e w4 ⟨rfl, o4⟩
  have O4 := hide (HF.out _ o4)
  refine hK _ _ ?_
  clear hK K' o4 HO3 HPUT HF y2 y4 hd9
  have r0 : w4.cell? ⟨rb, 0, none⟩ = some (.int .i64 0) := cell_of_heap (Own.boAt O4.out)
  have r1 : w4.cell? ⟨rb, 1, none⟩ = some (.int .i64 0) := cell_of_heap (Own.boAt O4.out)
  have r2 : w4.cell? ⟨rb, 2, none⟩ = some (.int .u64 0) := cell_of_heap (Own.boAt O4.out)
  have r3 : w4.cell? ⟨rb, 3, none⟩ = some (.int .u64 0) := cell_of_heap (Own.boAt O4.out)
  have fr : ∀ o, w4.frozen? ⟨rb, o, none⟩ = false := fun o => frozen_of_heap (Own.boAt O4.out)
  refine lastM (k := 23) rfl (by kernel_rfl) (by kernel_rfl) rfl (fun K' hK => ?_)
  unfold St.did
  go_simp
  refine Own.putDid (Q := K' _) (Loc.bo.sep (Loc.ax.sep l)) O4.out ?_
  intro W hW z0 z1 z2 z3
  refine hK _ _ ?_
  clear hK K' r0 r1 r2 r3 fr
  go_wp2
  refine bodyPost_ret (by simp [results, Tryd.results12, z0, z1, z2, z3, go_sem]; try rfl) rfl ?_
  exact ⟨rfl, hW⟩

set_option maxRecDepth 100000 in
set_option maxHeartbeats 4000000 in
theorem layStep0 (l : Loc R) (pg0 : Nat) (n d bs al st : Nat) (hn : n ≤ 4096) (hd : d = n) (h : Own (Sep (BO m (layM P T (pg0 : Int) (n : Int) (d : Int) bs al st)) (Sep (AX q P T p r s pg ds dn L) R)) w0 w) (j : Nat) (hj : Lay.page P T 10 ((pg0 : Int)) = ((j : Int), true)) (hjl : j < s.words.length) (v : Nat) (hvv : v = bs) (hv : v < 18446744073709551616) (s' : St) (hs : s.put j v = s') :
    Calls Tryd.prog 12 #[.pointer (some ⟨m, 0, none⟩), .pointer (some ⟨q, 0, none⟩)] w fun e w' => e = .returned s'.did ∧ Own (Sep (BO m (layM P T (pg0 : Int) (n : Int) ((d + 1 : Nat) : Int) bs al st)) (Sep (AX q P T p r s' pg ds dn L) R)) w0 w' := by
  have lR : Loc (Sep (BO w.heap.size didZ4) R) := Loc.bo.sep l
  have O1 := hide ((Own.boNew (m := w.heap.size) (o := didZ4) (Loc.bo.sep (Loc.ax.sep l)) h (heap_alloc_at w didZ4) (Nat.le_refl _) (grown1 w _)).cast (R' := Sep (BO m (layM P T (pg0 : Int) (n : Int) (d : Int) bs al st)) (Sep (AX q P T p r s pg ds dn L) (Sep (BO w.heap.size didZ4) R))) (by ac_rfl))
  have HPUT := hide (fun (W : World) (o : Own (Sep (BO m (layM P T (pg0 : Int) (n : Int) (d : Int) bs al st)) (Sep (AX q P T p r s pg ds dn L) (Sep (BO w.heap.size didZ4) R))) w0 W) => putM (c := layC P T (pg0 : Int) (n : Int) (d : Int) bs al st) lR o d (by omega) rfl rfl rfl 10 ((pg0 : Int)) j hj hjl v hv s' hs)
  have fin : ∀ W, Own (Sep (BO m (.cells ((layC P T (pg0 : Int) (n : Int) (d : Int) bs al st).setIfInBounds 4 (.int .i64 ((d + 1 : Nat) : Int))) 88 (0, 0))) (Sep (AX q P T p r s' pg ds dn L) (Sep (BO w.heap.size didZ4) R))) w0 W → Own (Sep (BO w.heap.size didZ4) (Sep (BO m (layM P T (pg0 : Int) (n : Int) ((d + 1 : Nat) : Int) bs al st)) (Sep (AX q P T p r s' pg ds dn L) R))) w0 W := fun W o => o.cast (by show Sep (BO m (layM P T (pg0 : Int) (n : Int) ((d + 1 : Nat) : Int) bs al st)) _ = _; ac_rfl)
  have HF := hide fin
  have hDone : ∀ W : World, Own (Sep (BO m (layM P T (pg0 : Int) (n : Int) (d : Int) bs al st)) (Sep (AX q P T p r s pg ds dn L) (Sep (BO w.heap.size didZ4) R))) w0 W → Calls Tryd.prog 11 #[.pointer (some ⟨m, 0, none⟩)] W fun e w' => e = .returned (.bool false) ∧ ∃ q, w' = W.drewN q := fun W o => by
    have := layDone _ m P T (pg0 : Int) n d bs al st hn (Own.boAt o)
    rw [decide_eq_false (by omega)] at this
    exact this
  have HDN := hide hDone
  have hvv' : (v : Int) = (bs : Int) := by omega
  have HVV := hide hvv'
  have t0 : (((d : Int) - (n : Int)) == 0) = true := by simp; omega
  have hd9 : d ≤ 4099 := by omega
  have HD9 := hide hd9
  clear h hj hjl hv hs fin hDone hvv hvv'
  unfold didZ4 at *
  go_enter Tryd.func12, Tryd.ntmps12
  go_wp2_with fail
  generalize w.alloc (.cells #[.int .i64 0, .int .i64 0, .int .u64 0, .int .u64 0] 34) = w1 at *
  generalize w.heap.size = rb at *
  refine (HDN.out _ O1.out).mono ?_
  rintro e w2 ⟨rfl, n1, rfl⟩
  have O2 := hide (O1.out.below (Loc.bo.sep (Loc.ax.sep lR)) ((Alike.drewN w1 n1).below _))
  clear O1 HDN
  generalize w1.drewN n1 = w2 at *
  have y4 : w2.cell? ⟨m, 4, none⟩ = some (.int .i64 (d : Int)) := cell_of_heap (Own.boAt O2.out)
  have y3 : w2.cell? ⟨m, 3, none⟩ = some (.int .i64 (n : Int)) := cell_of_heap (Own.boAt O2.out)
  go_wp2
  go_quiet (fail)
  go_wp2
  clear t0 y3 y4
  have OQ := hide (O2.out.below (Loc.bo.sep (Loc.ax.sep lR)) ((Alike.drewN w2 nq).below _))
  clear O2
  generalize w2.drewN nq = w3 at *
  have O3 := hide (OQ.out.below (Loc.bo.sep (Loc.ax.sep lR)) ((Alike.drewN w3 1).below _))
  clear OQ
  have J1 : Hid (CelTwo m 2 (.int .i64 (pg0 : Int)) 5 (.int .u64 (bs : Int)) w3.drew) := hide ⟨cell_of_heap (Own.boAt O3.out), cell_of_heap (Own.boAt O3.out)⟩
  have hne : Nonempty (Mem (CelTwo m 2 (.int .i64 (pg0 : Int)) 5 (.int .u64 (bs : Int)))) := ⟨⟨_, J1.out⟩⟩
  have u0 : ∀ u : Mem (CelTwo m 2 (.int .i64 (pg0 : Int)) 5 (.int .u64 (bs : Int))), u.w'.cell? ⟨m, 2, none⟩ = some (.int .i64 (pg0 : Int)) := fun u => u.h.1
  have u1 : ∀ u : Mem (CelTwo m 2 (.int .i64 (pg0 : Int)) 5 (.int .u64 (bs : Int))), u.w'.cell? ⟨m, 5, none⟩ = some (.int .u64 (bs : Int)) := fun u => u.h.2
  refine region_start (J := CelTwo m 2 (.int .i64 (pg0 : Int)) 5 (.int .u64 (bs : Int))) (by kernel_rfl) ?_
  refine stretch (fuel := 2) (by kernel_rfl) (fun _ _ _ _ _ h => h) J1.out [0, 1, 2, 3, 4, 5, 6, 7, 8, 9, 10, 11, 12] (by kernel_rfl) ?_
  simp only [List.filterMap_cons, List.filterMap_nil, List.getElem?_toArray, List.getElem?_cons_zero, List.getElem?_cons_succ]
  show wpQuiet _ _ _ _ [_, _, _, _, _, _, _, _, _, _, _, _, _] _
  repeat (go_big_quiet_step (fail))
  refine wpQuiet_nil ?_
  refine wpAnyJ_writer (i := 13) rfl (by kernel_rfl) (fun K' hK => ?_)
  go_simp
  try rw [← HVV.out]
  refine (HPUT.out _ O3.out).mono ?_
  rintro e w4 ⟨rfl, o4⟩
  have O4 := hide (HF.out _ o4)
  have J2 : Hid (CelTwo m 2 (.int .i64 (pg0 : Int)) 5 (.int .u64 (bs : Int)) w4) := hide ⟨cell_of_heap (Own.boAt (O4.out.cast BO.swap)), cell_of_heap (Own.boAt (O4.out.cast BO.swap))⟩
  refine hK _ _ J2.out ?_
  clear hK K' o4 O3 J1 HPUT HF
  have r0 : w4.cell? ⟨rb, 0, none⟩ = some (.int .i64 0) := cell_of_heap (Own.boAt O4.out)
  have r1 : w4.cell? ⟨rb, 1, none⟩ = some (.int .i64 0) := cell_of_heap (Own.boAt O4.out)
  have r2 : w4.cell? ⟨rb, 2, none⟩ = some (.int .u64 0) := cell_of_heap (Own.boAt O4.out)
  have r3 : w4.cell? ⟨rb, 3, none⟩ = some (.int .u64 0) := cell_of_heap (Own.boAt O4.out)
  have fr : ∀ o, w4.frozen? ⟨rb, o, none⟩ = false := fun o => frozen_of_heap (Own.boAt O4.out)
  refine wpAnyJ_writer (i := 14) rfl (by kernel_rfl) (fun K' hK => ?_)
  unfold St.did
  go_simp
  refine Own.putDid (Q := K' _) (Loc.bo.sep (Loc.ax.sep l)) O4.out ?_
  intro W hW z0 z1 z2 z3
  refine hK _ _ ⟨cell_of_heap (Own.boAt hW), cell_of_heap (Own.boAt hW)⟩ ?_
  clear hK K' r0 r1 r2 r3 fr
  refine wpAnyJ_done (by kernel_rfl) ?_
  clear J2 hne
  go_wp2
  refine bodyPost_ret (by simp [results, Tryd.results12, z0, z1, z2, z3, go_sem]; try rfl) rfl ?_
  exact ⟨rfl, hW⟩

set_option maxRecDepth 100000 in
set_option maxHeartbeats 4000000 in
theorem layStep1 (l : Loc R) (pg0 : Nat) (n d bs al st : Nat) (hn : n ≤ 4096) (hd : d = n + 1) (h : Own (Sep (BO m (layM P T (pg0 : Int) (n : Int) (d : Int) bs al st)) (Sep (AX q P T p r s pg ds dn L) R)) w0 w) (j : Nat) (hj : Lay.page P T 12 ((pg0 : Int)) = ((j : Int), true)) (hjl : j < s.words.length) (v : Nat) (hvv : v = al) (hv : v < 18446744073709551616) (s' : St) (hs : s.put j v = s') :
    Calls Tryd.prog 12 #[.pointer (some ⟨m, 0, none⟩), .pointer (some ⟨q, 0, none⟩)] w fun e w' => e = .returned s'.did ∧ Own (Sep (BO m (layM P T (pg0 : Int) (n : Int) ((d + 1 : Nat) : Int) bs al st)) (Sep (AX q P T p r s' pg ds dn L) R)) w0 w' := by
  have lR : Loc (Sep (BO w.heap.size didZ4) R) := Loc.bo.sep l
  have O1 := hide ((Own.boNew (m := w.heap.size) (o := didZ4) (Loc.bo.sep (Loc.ax.sep l)) h (heap_alloc_at w didZ4) (Nat.le_refl _) (grown1 w _)).cast (R' := Sep (BO m (layM P T (pg0 : Int) (n : Int) (d : Int) bs al st)) (Sep (AX q P T p r s pg ds dn L) (Sep (BO w.heap.size didZ4) R))) (by ac_rfl))
  have HPUT := hide (fun (W : World) (o : Own (Sep (BO m (layM P T (pg0 : Int) (n : Int) (d : Int) bs al st)) (Sep (AX q P T p r s pg ds dn L) (Sep (BO w.heap.size didZ4) R))) w0 W) => putM (c := layC P T (pg0 : Int) (n : Int) (d : Int) bs al st) lR o d (by omega) rfl rfl rfl 12 ((pg0 : Int)) j hj hjl v hv s' hs)
  have fin : ∀ W, Own (Sep (BO m (.cells ((layC P T (pg0 : Int) (n : Int) (d : Int) bs al st).setIfInBounds 4 (.int .i64 ((d + 1 : Nat) : Int))) 88 (0, 0))) (Sep (AX q P T p r s' pg ds dn L) (Sep (BO w.heap.size didZ4) R))) w0 W → Own (Sep (BO w.heap.size didZ4) (Sep (BO m (layM P T (pg0 : Int) (n : Int) ((d + 1 : Nat) : Int) bs al st)) (Sep (AX q P T p r s' pg ds dn L) R))) w0 W := fun W o => o.cast (by show Sep (BO m (layM P T (pg0 : Int) (n : Int) ((d + 1 : Nat) : Int) bs al st)) _ = _; ac_rfl)
  have HF := hide fin
  have hDone : ∀ W : World, Own (Sep (BO m (layM P T (pg0 : Int) (n : Int) (d : Int) bs al st)) (Sep (AX q P T p r s pg ds dn L) (Sep (BO w.heap.size didZ4) R))) w0 W → Calls Tryd.prog 11 #[.pointer (some ⟨m, 0, none⟩)] W fun e w' => e = .returned (.bool false) ∧ ∃ q, w' = W.drewN q := fun W o => by
    have := layDone _ m P T (pg0 : Int) n d bs al st hn (Own.boAt o)
    rw [decide_eq_false (by omega)] at this
    exact this
  have HDN := hide hDone
  have hvv' : (v : Int) = (al : Int) := by omega
  have HVV := hide hvv'
  have t0 : (((d : Int) - (n : Int)) == 0) = false := by rw [beq_eq_false_iff_ne]; omega
  have t1 : (((d : Int) - (n : Int)) == 1) = true := by simp; omega
  have hd9 : d ≤ 4099 := by omega
  have HD9 := hide hd9
  clear h hj hjl hv hs fin hDone hvv hvv'
  unfold didZ4 at *
  go_enter Tryd.func12, Tryd.ntmps12
  go_wp2_with fail
  generalize w.alloc (.cells #[.int .i64 0, .int .i64 0, .int .u64 0, .int .u64 0] 34) = w1 at *
  generalize w.heap.size = rb at *
  refine (HDN.out _ O1.out).mono ?_
  rintro e w2 ⟨rfl, n1, rfl⟩
  have O2 := hide (O1.out.below (Loc.bo.sep (Loc.ax.sep lR)) ((Alike.drewN w1 n1).below _))
  clear O1 HDN
  generalize w1.drewN n1 = w2 at *
  have y4 : w2.cell? ⟨m, 4, none⟩ = some (.int .i64 (d : Int)) := cell_of_heap (Own.boAt O2.out)
  have y3 : w2.cell? ⟨m, 3, none⟩ = some (.int .i64 (n : Int)) := cell_of_heap (Own.boAt O2.out)
  go_wp2
  go_quiet (fail)
  go_wp2
  clear t0 t1 y3 y4
  have OQ := hide (O2.out.below (Loc.bo.sep (Loc.ax.sep lR)) ((Alike.drewN w2 nq).below _))
  clear O2
  generalize w2.drewN nq = w3 at *
  have O3 := hide (OQ.out.below (Loc.bo.sep (Loc.ax.sep lR)) ((Alike.drewN w3 1).below _))
  clear OQ
  have J1 : Hid (CelTwo m 2 (.int .i64 (pg0 : Int)) 6 (.int .u64 (al : Int)) w3.drew) := hide ⟨cell_of_heap (Own.boAt O3.out), cell_of_heap (Own.boAt O3.out)⟩
  have hne : Nonempty (Mem (CelTwo m 2 (.int .i64 (pg0 : Int)) 6 (.int .u64 (al : Int)))) := ⟨⟨_, J1.out⟩⟩
  have u0 : ∀ u : Mem (CelTwo m 2 (.int .i64 (pg0 : Int)) 6 (.int .u64 (al : Int))), u.w'.cell? ⟨m, 2, none⟩ = some (.int .i64 (pg0 : Int)) := fun u => u.h.1
  have u1 : ∀ u : Mem (CelTwo m 2 (.int .i64 (pg0 : Int)) 6 (.int .u64 (al : Int))), u.w'.cell? ⟨m, 6, none⟩ = some (.int .u64 (al : Int)) := fun u => u.h.2
  refine region_start (J := CelTwo m 2 (.int .i64 (pg0 : Int)) 6 (.int .u64 (al : Int))) (by kernel_rfl) ?_
  refine stretch (fuel := 2) (by kernel_rfl) (fun _ _ _ _ _ h => h) J1.out [0, 1, 2, 3, 4, 5, 6, 7, 8, 9, 10, 11, 12] (by kernel_rfl) ?_
  simp only [List.filterMap_cons, List.filterMap_nil, List.getElem?_toArray, List.getElem?_cons_zero, List.getElem?_cons_succ]
  show wpQuiet _ _ _ _ [_, _, _, _, _, _, _, _, _, _, _, _, _] _
  repeat (go_big_quiet_step (fail))
  refine wpQuiet_nil ?_
  refine wpAnyJ_writer (i := 13) rfl (by kernel_rfl) (fun K' hK => ?_)
  go_simp
  try rw [← HVV.out]
  refine (HPUT.out _ O3.out).mono ?_
  rintro e w4 ⟨rfl, o4⟩
  have O4 := hide (HF.out _ o4)
  have J2 : Hid (CelTwo m 2 (.int .i64 (pg0 : Int)) 6 (.int .u64 (al : Int)) w4) := hide ⟨cell_of_heap (Own.boAt (O4.out.cast BO.swap)), cell_of_heap (Own.boAt (O4.out.cast BO.swap))⟩
  refine hK _ _ J2.out ?_
  clear hK K' o4 O3 J1 HPUT HF
  have r0 : w4.cell? ⟨rb, 0, none⟩ = some (.int .i64 0) := cell_of_heap (Own.boAt O4.out)
  have r1 : w4.cell? ⟨rb, 1, none⟩ = some (.int .i64 0) := cell_of_heap (Own.boAt O4.out)
  have r2 : w4.cell? ⟨rb, 2, none⟩ = some (.int .u64 0) := cell_of_heap (Own.boAt O4.out)
  have r3 : w4.cell? ⟨rb, 3, none⟩ = some (.int .u64 0) := cell_of_heap (Own.boAt O4.out)
  have fr : ∀ o, w4.frozen? ⟨rb, o, none⟩ = false := fun o => frozen_of_heap (Own.boAt O4.out)
  refine wpAnyJ_writer (i := 14) rfl (by kernel_rfl) (fun K' hK => ?_)
  unfold St.did
  go_simp
  refine Own.putDid (Q := K' _) (Loc.bo.sep (Loc.ax.sep l)) O4.out ?_
  intro W hW z0 z1 z2 z3
  refine hK _ _ ⟨cell_of_heap (Own.boAt hW), cell_of_heap (Own.boAt hW)⟩ ?_
  clear hK K' r0 r1 r2 r3 fr
  refine wpAnyJ_done (by kernel_rfl) ?_
  clear J2 hne
  go_wp2
  refine bodyPost_ret (by simp [results, Tryd.results12, z0, z1, z2, z3, go_sem]; try rfl) rfl ?_
  exact ⟨rfl, hW⟩

set_option maxRecDepth 100000 in
set_option maxHeartbeats 4000000 in
theorem layStep2 (l : Loc R) (pg0 : Nat) (n d bs al st : Nat) (hn : n ≤ 4096) (hd : d = n + 2) (h : Own (Sep (BO m (layM P T (pg0 : Int) (n : Int) (d : Int) bs al st)) (Sep (AX q P T p r s pg ds dn L) R)) w0 w) (j : Nat) (hj : Lay.page P T 13 ((pg0 : Int)) = ((j : Int), true)) (hjl : j < s.words.length) (v : Nat) (hvv : v = 0) (hv : v < 18446744073709551616) (s' : St) (hs : s.put j v = s') :
    Calls Tryd.prog 12 #[.pointer (some ⟨m, 0, none⟩), .pointer (some ⟨q, 0, none⟩)] w fun e w' => e = .returned s'.did ∧ Own (Sep (BO m (layM P T (pg0 : Int) (n : Int) ((d + 1 : Nat) : Int) bs al st)) (Sep (AX q P T p r s' pg ds dn L) R)) w0 w' := by
  have lR : Loc (Sep (BO w.heap.size didZ4) R) := Loc.bo.sep l
  have O1 := hide ((Own.boNew (m := w.heap.size) (o := didZ4) (Loc.bo.sep (Loc.ax.sep l)) h (heap_alloc_at w didZ4) (Nat.le_refl _) (grown1 w _)).cast (R' := Sep (BO m (layM P T (pg0 : Int) (n : Int) (d : Int) bs al st)) (Sep (AX q P T p r s pg ds dn L) (Sep (BO w.heap.size didZ4) R))) (by ac_rfl))
  have HPUT := hide (fun (W : World) (o : Own (Sep (BO m (layM P T (pg0 : Int) (n : Int) (d : Int) bs al st)) (Sep (AX q P T p r s pg ds dn L) (Sep (BO w.heap.size didZ4) R))) w0 W) => putM (c := layC P T (pg0 : Int) (n : Int) (d : Int) bs al st) lR o d (by omega) rfl rfl rfl 13 ((pg0 : Int)) j hj hjl v hv s' hs)
  have fin : ∀ W, Own (Sep (BO m (.cells ((layC P T (pg0 : Int) (n : Int) (d : Int) bs al st).setIfInBounds 4 (.int .i64 ((d + 1 : Nat) : Int))) 88 (0, 0))) (Sep (AX q P T p r s' pg ds dn L) (Sep (BO w.heap.size didZ4) R))) w0 W → Own (Sep (BO w.heap.size didZ4) (Sep (BO m (layM P T (pg0 : Int) (n : Int) ((d + 1 : Nat) : Int) bs al st)) (Sep (AX q P T p r s' pg ds dn L) R))) w0 W := fun W o => o.cast (by show Sep (BO m (layM P T (pg0 : Int) (n : Int) ((d + 1 : Nat) : Int) bs al st)) _ = _; ac_rfl)
  have HF := hide fin
  have hDone : ∀ W : World, Own (Sep (BO m (layM P T (pg0 : Int) (n : Int) (d : Int) bs al st)) (Sep (AX q P T p r s pg ds dn L) (Sep (BO w.heap.size didZ4) R))) w0 W → Calls Tryd.prog 11 #[.pointer (some ⟨m, 0, none⟩)] W fun e w' => e = .returned (.bool false) ∧ ∃ q, w' = W.drewN q := fun W o => by
    have := layDone _ m P T (pg0 : Int) n d bs al st hn (Own.boAt o)
    rw [decide_eq_false (by omega)] at this
    exact this
  have HDN := hide hDone
  have hvv' : (v : Int) = 0 := by omega
  have HVV := hide hvv'
  have t0 : (((d : Int) - (n : Int)) == 0) = false := by rw [beq_eq_false_iff_ne]; omega
  have t1 : (((d : Int) - (n : Int)) == 1) = false := by rw [beq_eq_false_iff_ne]; omega
  have t2 : (((d : Int) - (n : Int)) == 2) = true := by simp; omega
  have hd9 : d ≤ 4099 := by omega
  have HD9 := hide hd9
  clear h hj hjl hv hs fin hDone hvv hvv'
  unfold didZ4 at *
  go_enter Tryd.func12, Tryd.ntmps12
  go_wp2_with fail
  generalize w.alloc (.cells #[.int .i64 0, .int .i64 0, .int .u64 0, .int .u64 0] 34) = w1 at *
  generalize w.heap.size = rb at *
  refine (HDN.out _ O1.out).mono ?_
  rintro e w2 ⟨rfl, n1, rfl⟩
  have O2 := hide (O1.out.below (Loc.bo.sep (Loc.ax.sep lR)) ((Alike.drewN w1 n1).below _))
  clear O1 HDN
  generalize w1.drewN n1 = w2 at *
  have y4 : w2.cell? ⟨m, 4, none⟩ = some (.int .i64 (d : Int)) := cell_of_heap (Own.boAt O2.out)
  have y3 : w2.cell? ⟨m, 3, none⟩ = some (.int .i64 (n : Int)) := cell_of_heap (Own.boAt O2.out)
  go_wp2
  go_quiet (fail)
  go_wp2
  clear t0 t1 t2 y3 y4
  have OQ := hide (O2.out.below (Loc.bo.sep (Loc.ax.sep lR)) ((Alike.drewN w2 nq).below _))
  clear O2
  generalize w2.drewN nq = w3 at *
  have O3 := hide (OQ.out.below (Loc.bo.sep (Loc.ax.sep lR)) ((Alike.drewN w3 1).below _))
  clear OQ
  have J1 : Hid (CelTwo m 2 (.int .i64 (pg0 : Int)) 2 (.int .i64 (pg0 : Int)) w3.drew) := hide ⟨cell_of_heap (Own.boAt O3.out), cell_of_heap (Own.boAt O3.out)⟩
  have hne : Nonempty (Mem (CelTwo m 2 (.int .i64 (pg0 : Int)) 2 (.int .i64 (pg0 : Int)))) := ⟨⟨_, J1.out⟩⟩
  have u0 : ∀ u : Mem (CelTwo m 2 (.int .i64 (pg0 : Int)) 2 (.int .i64 (pg0 : Int))), u.w'.cell? ⟨m, 2, none⟩ = some (.int .i64 (pg0 : Int)) := fun u => u.h.1
  refine region_start (J := CelTwo m 2 (.int .i64 (pg0 : Int)) 2 (.int .i64 (pg0 : Int))) (by kernel_rfl) ?_
  refine stretch (fuel := 2) (by kernel_rfl) (fun _ _ _ _ _ h => h) J1.out [0, 1, 2, 3, 4, 5, 6, 7, 8] (by kernel_rfl) ?_
  simp only [List.filterMap_cons, List.filterMap_nil, List.getElem?_toArray, List.getElem?_cons_zero, List.getElem?_cons_succ]
  show wpQuiet _ _ _ _ [_, _, _, _, _, _, _, _, _] _
  repeat (go_big_quiet_step (fail))
  refine wpQuiet_nil ?_
  refine wpAnyJ_writer (i := 9) rfl (by kernel_rfl) (fun K' hK => ?_)
  go_simp
  try rw [← HVV.out]
  refine (HPUT.out _ O3.out).mono ?_
  rintro e w4 ⟨rfl, o4⟩
  have O4 := hide (HF.out _ o4)
  have J2 : Hid (CelTwo m 2 (.int .i64 (pg0 : Int)) 2 (.int .i64 (pg0 : Int)) w4) := hide ⟨cell_of_heap (Own.boAt (O4.out.cast BO.swap)), cell_of_heap (Own.boAt (O4.out.cast BO.swap))⟩
  refine hK _ _ J2.out ?_
  clear hK K' o4 O3 J1 HPUT HF
  have r0 : w4.cell? ⟨rb, 0, none⟩ = some (.int .i64 0) := cell_of_heap (Own.boAt O4.out)
  have r1 : w4.cell? ⟨rb, 1, none⟩ = some (.int .i64 0) := cell_of_heap (Own.boAt O4.out)
  have r2 : w4.cell? ⟨rb, 2, none⟩ = some (.int .u64 0) := cell_of_heap (Own.boAt O4.out)
  have r3 : w4.cell? ⟨rb, 3, none⟩ = some (.int .u64 0) := cell_of_heap (Own.boAt O4.out)
  have fr : ∀ o, w4.frozen? ⟨rb, o, none⟩ = false := fun o => frozen_of_heap (Own.boAt O4.out)
  refine wpAnyJ_writer (i := 10) rfl (by kernel_rfl) (fun K' hK => ?_)
  unfold St.did
  go_simp
  refine Own.putDid (Q := K' _) (Loc.bo.sep (Loc.ax.sep l)) O4.out ?_
  intro W hW z0 z1 z2 z3
  refine hK _ _ ⟨cell_of_heap (Own.boAt hW), cell_of_heap (Own.boAt hW)⟩ ?_
  clear hK K' r0 r1 r2 r3 fr
  refine wpAnyJ_done (by kernel_rfl) ?_
  clear J2 hne
  go_wp2
  refine bodyPost_ret (by simp [results, Tryd.results12, z0, z1, z2, z3, go_sem]; try rfl) rfl ?_
  exact ⟨rfl, hW⟩

set_option maxRecDepth 100000 in
set_option maxHeartbeats 4000000 in
theorem layStep3 (l : Loc R) (pg0 : Nat) (n d bs al st : Nat) (hn : n ≤ 4096) (hd : d = n + 3) (h : Own (Sep (BO m (layM P T (pg0 : Int) (n : Int) (d : Int) bs al st)) (Sep (AX q P T p r s pg ds dn L) R)) w0 w) (j : Nat) (hj : Lay.page P T 9 ((pg0 : Int)) = ((j : Int), true)) (hjl : j < s.words.length) (v : Nat) (hvv : v = st) (hv : v < 18446744073709551616) (s' : St) (hs : s.put j v = s') :
    Calls Tryd.prog 12 #[.pointer (some ⟨m, 0, none⟩), .pointer (some ⟨q, 0, none⟩)] w fun e w' => e = .returned s'.did ∧ Own (Sep (BO m (layM P T (pg0 : Int) (n : Int) ((d + 1 : Nat) : Int) bs al st)) (Sep (AX q P T p r s' pg ds dn L) R)) w0 w' := by
  have lR : Loc (Sep (BO w.heap.size didZ4) R) := Loc.bo.sep l
  have O1 := hide ((Own.boNew (m := w.heap.size) (o := didZ4) (Loc.bo.sep (Loc.ax.sep l)) h (heap_alloc_at w didZ4) (Nat.le_refl _) (grown1 w _)).cast (R' := Sep (BO m (layM P T (pg0 : Int) (n : Int) (d : Int) bs al st)) (Sep (AX q P T p r s pg ds dn L) (Sep (BO w.heap.size didZ4) R))) (by ac_rfl))
  have HPUT := hide (fun (W : World) (o : Own (Sep (BO m (layM P T (pg0 : Int) (n : Int) (d : Int) bs al st)) (Sep (AX q P T p r s pg ds dn L) (Sep (BO w.heap.size didZ4) R))) w0 W) => putM (c := layC P T (pg0 : Int) (n : Int) (d : Int) bs al st) lR o d (by omega) rfl rfl rfl 9 ((pg0 : Int)) j hj hjl v hv s' hs)
  have fin : ∀ W, Own (Sep (BO m (.cells ((layC P T (pg0 : Int) (n : Int) (d : Int) bs al st).setIfInBounds 4 (.int .i64 ((d + 1 : Nat) : Int))) 88 (0, 0))) (Sep (AX q P T p r s' pg ds dn L) (Sep (BO w.heap.size didZ4) R))) w0 W → Own (Sep (BO w.heap.size didZ4) (Sep (BO m (layM P T (pg0 : Int) (n : Int) ((d + 1 : Nat) : Int) bs al st)) (Sep (AX q P T p r s' pg ds dn L) R))) w0 W := fun W o => o.cast (by show Sep (BO m (layM P T (pg0 : Int) (n : Int) ((d + 1 : Nat) : Int) bs al st)) _ = _; ac_rfl)
  have HF := hide fin
  have hDone : ∀ W : World, Own (Sep (BO m (layM P T (pg0 : Int) (n : Int) (d : Int) bs al st)) (Sep (AX q P T p r s pg ds dn L) (Sep (BO w.heap.size didZ4) R))) w0 W → Calls Tryd.prog 11 #[.pointer (some ⟨m, 0, none⟩)] W fun e w' => e = .returned (.bool false) ∧ ∃ q, w' = W.drewN q := fun W o => by
    have := layDone _ m P T (pg0 : Int) n d bs al st hn (Own.boAt o)
    rw [decide_eq_false (by omega)] at this
    exact this
  have HDN := hide hDone
  have hvv' : (v : Int) = (st : Int) := by omega
  have HVV := hide hvv'
  have t0 : (((d : Int) - (n : Int)) == 0) = false := by rw [beq_eq_false_iff_ne]; omega
  have t1 : (((d : Int) - (n : Int)) == 1) = false := by rw [beq_eq_false_iff_ne]; omega
  have t2 : (((d : Int) - (n : Int)) == 2) = false := by rw [beq_eq_false_iff_ne]; omega
  have t3 : (((d : Int) - (n : Int)) == 3) = true := by simp; omega
  have hd9 : d ≤ 4099 := by omega
  have HD9 := hide hd9
  clear h hj hjl hv hs fin hDone hvv hvv'
  unfold didZ4 at *
  go_enter Tryd.func12, Tryd.ntmps12
  go_wp2_with fail
  generalize w.alloc (.cells #[.int .i64 0, .int .i64 0, .int .u64 0, .int .u64 0] 34) = w1 at *
  generalize w.heap.size = rb at *
  refine (HDN.out _ O1.out).mono ?_
  rintro e w2 ⟨rfl, n1, rfl⟩
  have O2 := hide (O1.out.below (Loc.bo.sep (Loc.ax.sep lR)) ((Alike.drewN w1 n1).below _))
  clear O1 HDN
  generalize w1.drewN n1 = w2 at *
  have y4 : w2.cell? ⟨m, 4, none⟩ = some (.int .i64 (d : Int)) := cell_of_heap (Own.boAt O2.out)
  have y3 : w2.cell? ⟨m, 3, none⟩ = some (.int .i64 (n : Int)) := cell_of_heap (Own.boAt O2.out)
  go_wp2
  go_quiet (fail)
  go_wp2
  clear t0 t1 t2 t3 y3 y4
  have OQ := hide (O2.out.below (Loc.bo.sep (Loc.ax.sep lR)) ((Alike.drewN w2 nq).below _))
  clear O2
  generalize w2.drewN nq = w3 at *
  have O3 := hide (OQ.out.below (Loc.bo.sep (Loc.ax.sep lR)) ((Alike.drewN w3 1).below _))
  clear OQ
  have J1 : Hid (CelTwo m 2 (.int .i64 (pg0 : Int)) 7 (.int .u64 (st : Int)) w3.drew) := hide ⟨cell_of_heap (Own.boAt O3.out), cell_of_heap (Own.boAt O3.out)⟩
  have hne : Nonempty (Mem (CelTwo m 2 (.int .i64 (pg0 : Int)) 7 (.int .u64 (st : Int)))) := ⟨⟨_, J1.out⟩⟩
  have u0 : ∀ u : Mem (CelTwo m 2 (.int .i64 (pg0 : Int)) 7 (.int .u64 (st : Int))), u.w'.cell? ⟨m, 2, none⟩ = some (.int .i64 (pg0 : Int)) := fun u => u.h.1
  have u1 : ∀ u : Mem (CelTwo m 2 (.int .i64 (pg0 : Int)) 7 (.int .u64 (st : Int))), u.w'.cell? ⟨m, 7, none⟩ = some (.int .u64 (st : Int)) := fun u => u.h.2
  refine region_start (J := CelTwo m 2 (.int .i64 (pg0 : Int)) 7 (.int .u64 (st : Int))) (by kernel_rfl) ?_
  refine stretch (fuel := 2) (by kernel_rfl) (fun _ _ _ _ _ h => h) J1.out [0, 1, 2, 3, 4, 5, 6, 7, 8, 9, 10, 11, 12] (by kernel_rfl) ?_
  simp only [List.filterMap_cons, List.filterMap_nil, List.getElem?_toArray, List.getElem?_cons_zero, List.getElem?_cons_succ]
  show wpQuiet _ _ _ _ [_, _, _, _, _, _, _, _, _, _, _, _, _] _
  repeat (go_big_quiet_step (fail))
  refine wpQuiet_nil ?_
  refine wpAnyJ_writer (i := 13) rfl (by kernel_rfl) (fun K' hK => ?_)
  go_simp
  try rw [← HVV.out]
  refine (HPUT.out _ O3.out).mono ?_
  rintro e w4 ⟨rfl, o4⟩
  have O4 := hide (HF.out _ o4)
  have J2 : Hid (CelTwo m 2 (.int .i64 (pg0 : Int)) 7 (.int .u64 (st : Int)) w4) := hide ⟨cell_of_heap (Own.boAt (O4.out.cast BO.swap)), cell_of_heap (Own.boAt (O4.out.cast BO.swap))⟩
  refine hK _ _ J2.out ?_
  clear hK K' o4 O3 J1 HPUT HF
  have r0 : w4.cell? ⟨rb, 0, none⟩ = some (.int .i64 0) := cell_of_heap (Own.boAt O4.out)
  have r1 : w4.cell? ⟨rb, 1, none⟩ = some (.int .i64 0) := cell_of_heap (Own.boAt O4.out)
  have r2 : w4.cell? ⟨rb, 2, none⟩ = some (.int .u64 0) := cell_of_heap (Own.boAt O4.out)
  have r3 : w4.cell? ⟨rb, 3, none⟩ = some (.int .u64 0) := cell_of_heap (Own.boAt O4.out)
  have fr : ∀ o, w4.frozen? ⟨rb, o, none⟩ = false := fun o => frozen_of_heap (Own.boAt O4.out)
  refine wpAnyJ_writer (i := 14) rfl (by kernel_rfl) (fun K' hK => ?_)
  unfold St.did
  go_simp
  refine Own.putDid (Q := K' _) (Loc.bo.sep (Loc.ax.sep l)) O4.out ?_
  intro W hW z0 z1 z2 z3
  refine hK _ _ ⟨cell_of_heap (Own.boAt hW), cell_of_heap (Own.boAt hW)⟩ ?_
  clear hK K' r0 r1 r2 r3 fr
  refine wpAnyJ_done (by kernel_rfl) ?_
  clear J2 hne
  go_wp2
  refine bodyPost_ret (by simp [results, Tryd.results12, z0, z1, z2, z3, go_sem]; try rfl) rfl ?_
  exact ⟨rfl, hW⟩

set_option maxRecDepth 100000 in
set_option maxHeartbeats 4000000 in
theorem goneStep0 (l : Loc R) (pg0 : Nat) (n d : Nat) (hn : n ≤ 4096) (hd : d = n) (h : Own (Sep (BO m (goneM P T (pg0 : Int) (n : Int) (d : Int))) (Sep (AX q P T p r s pg ds dn L) R)) w0 w) (j : Nat) (hj : Lay.page P T 9 ((pg0 : Int)) = ((j : Int), true)) (hjl : j < s.words.length) (v : Nat) (hvv : v = 0) (hv : v < 18446744073709551616) (s' : St) (hs : s.put j v = s') :
    Calls Tryd.prog 17 #[.pointer (some ⟨m, 0, none⟩), .pointer (some ⟨q, 0, none⟩)] w fun e w' => e = .returned s'.did ∧ Own (Sep (BO m (goneM P T (pg0 : Int) (n : Int) ((d + 1 : Nat) : Int))) (Sep (AX q P T p r s' pg ds dn L) R)) w0 w' := by
  have lR : Loc (Sep (BO w.heap.size didZ4) R) := Loc.bo.sep l
  have O1 := hide ((Own.boNew (m := w.heap.size) (o := didZ4) (Loc.bo.sep (Loc.ax.sep l)) h (heap_alloc_at w didZ4) (Nat.le_refl _) (grown1 w _)).cast (R' := Sep (BO m (goneM P T (pg0 : Int) (n : Int) (d : Int))) (Sep (AX q P T p r s pg ds dn L) (Sep (BO w.heap.size didZ4) R))) (by ac_rfl))
  have HPUT := hide (fun (W : World) (o : Own (Sep (BO m (goneM P T (pg0 : Int) (n : Int) (d : Int))) (Sep (AX q P T p r s pg ds dn L) (Sep (BO w.heap.size didZ4) R))) w0 W) => putM (c := goneC P T (pg0 : Int) (n : Int) (d : Int)) lR o d (by omega) rfl rfl rfl 9 ((pg0 : Int)) j hj hjl v hv s' hs)
  have fin : ∀ W, Own (Sep (BO m (.cells ((goneC P T (pg0 : Int) (n : Int) (d : Int)).setIfInBounds 4 (.int .i64 ((d + 1 : Nat) : Int))) 90 (0, 0))) (Sep (AX q P T p r s' pg ds dn L) (Sep (BO w.heap.size didZ4) R))) w0 W → Own (Sep (BO w.heap.size didZ4) (Sep (BO m (goneM P T (pg0 : Int) (n : Int) ((d + 1 : Nat) : Int))) (Sep (AX q P T p r s' pg ds dn L) R))) w0 W := fun W o => o.cast (by show Sep (BO m (goneM P T (pg0 : Int) (n : Int) ((d + 1 : Nat) : Int))) _ = _; ac_rfl)
  have HF := hide fin
  have hDone : ∀ W : World, Own (Sep (BO m (goneM P T (pg0 : Int) (n : Int) (d : Int))) (Sep (AX q P T p r s pg ds dn L) (Sep (BO w.heap.size didZ4) R))) w0 W → Calls Tryd.prog 16 #[.pointer (some ⟨m, 0, none⟩)] W fun e w' => e = .returned (.bool false) ∧ ∃ q, w' = W.drewN q := fun W o => by
    have := goneDone _ m P T (pg0 : Int) n d hn (Own.boAt o)
    rw [decide_eq_false (by omega)] at this
    exact this
  have HDN := hide hDone
  have hvv' : (v : Int) = 0 := by omega
  have HVV := hide hvv'
  have t0 : ((d : Int) == (n : Int)) = true := by simp; omega
  have hd9 : d ≤ 4099 := by omega
  have HD9 := hide hd9
  clear h hj hjl hv hs fin hDone hvv hvv'
  unfold didZ4 at *
  go_enter Tryd.func17, Tryd.ntmps17
  go_wp2_with fail
  generalize w.alloc (.cells #[.int .i64 0, .int .i64 0, .int .u64 0, .int .u64 0] 34) = w1 at *
  generalize w.heap.size = rb at *
  refine (HDN.out _ O1.out).mono ?_
  rintro e w2 ⟨rfl, n1, rfl⟩
  have O2 := hide (O1.out.below (Loc.bo.sep (Loc.ax.sep lR)) ((Alike.drewN w1 n1).below _))
  clear O1 HDN
  generalize w1.drewN n1 = w2 at *
  have y4 : w2.cell? ⟨m, 4, none⟩ = some (.int .i64 (d : Int)) := cell_of_heap (Own.boAt O2.out)
  have y3 : w2.cell? ⟨m, 3, none⟩ = some (.int .i64 (n : Int)) := cell_of_heap (Own.boAt O2.out)
  go_wp2
  go_quiet (fail)
  go_wp2
  clear t0 y3 y4
  have OQ := hide (O2.out.below (Loc.bo.sep (Loc.ax.sep lR)) ((Alike.drewN w2 nq).below _))
  clear O2
  generalize w2.drewN nq = w3 at *
  have O3 := hide (OQ.out.below (Loc.bo.sep (Loc.ax.sep lR)) ((Alike.drewN w3 1).below _))
  clear OQ
  have J1 : Hid (CelTwo m 2 (.int .i64 (pg0 : Int)) 2 (.int .i64 (pg0 : Int)) w3.drew) := hide ⟨cell_of_heap (Own.boAt O3.out), cell_of_heap (Own.boAt O3.out)⟩
  have hne : Nonempty (Mem (CelTwo m 2 (.int .i64 (pg0 : Int)) 2 (.int .i64 (pg0 : Int)))) := ⟨⟨_, J1.out⟩⟩
  have u0 : ∀ u : Mem (CelTwo m 2 (.int .i64 (pg0 : Int)) 2 (.int .i64 (pg0 : Int))), u.w'.cell? ⟨m, 2, none⟩ = some (.int .i64 (pg0 : Int)) := fun u => u.h.1
  refine region_start (J := CelTwo m 2 (.int .i64 (pg0 : Int)) 2 (.int .i64 (pg0 : Int))) (by kernel_rfl) ?_
  refine stretch (fuel := 2) (by kernel_rfl) (fun _ _ _ _ _ h => h) J1.out [0, 1, 2, 3, 4, 5, 6, 7, 8] (by kernel_rfl) ?_
  simp only [List.filterMap_cons, List.filterMap_nil, List.getElem?_toArray, List.getElem?_cons_zero, List.getElem?_cons_succ]
  show wpQuiet _ _ _ _ [_, _, _, _, _, _, _, _, _] _
  repeat (go_big_quiet_step (fail))
  refine wpQuiet_nil ?_
  refine wpAnyJ_writer (i := 9) rfl (by kernel_rfl) (fun K' hK => ?_)
  go_simp
  try rw [← HVV.out]
  refine (HPUT.out _ O3.out).mono ?_
  rintro e w4 ⟨rfl, o4⟩
  have O4 := hide (HF.out _ o4)
  have J2 : Hid (CelTwo m 2 (.int .i64 (pg0 : Int)) 2 (.int .i64 (pg0 : Int)) w4) := hide ⟨cell_of_heap (Own.boAt (O4.out.cast BO.swap)), cell_of_heap (Own.boAt (O4.out.cast BO.swap))⟩
  refine hK _ _ J2.out ?_
  clear hK K' o4 O3 J1 HPUT HF
  have r0 : w4.cell? ⟨rb, 0, none⟩ = some (.int .i64 0) := cell_of_heap (Own.boAt O4.out)
  have r1 : w4.cell? ⟨rb, 1, none⟩ = some (.int .i64 0) := cell_of_heap (Own.boAt O4.out)
  have r2 : w4.cell? ⟨rb, 2, none⟩ = some (.int .u64 0) := cell_of_heap (Own.boAt O4.out)
  have r3 : w4.cell? ⟨rb, 3, none⟩ = some (.int .u64 0) := cell_of_heap (Own.boAt O4.out)
  have fr : ∀ o, w4.frozen? ⟨rb, o, none⟩ = false := fun o => frozen_of_heap (Own.boAt O4.out)
  refine wpAnyJ_writer (i := 10) rfl (by kernel_rfl) (fun K' hK => ?_)
  unfold St.did
  go_simp
  refine Own.putDid (Q := K' _) (Loc.bo.sep (Loc.ax.sep l)) O4.out ?_
  intro W hW z0 z1 z2 z3
  refine hK _ _ ⟨cell_of_heap (Own.boAt hW), cell_of_heap (Own.boAt hW)⟩ ?_
  clear hK K' r0 r1 r2 r3 fr
  refine wpAnyJ_done (by kernel_rfl) ?_
  clear J2 hne
  go_wp2
  refine bodyPost_ret (by simp [results, Tryd.results17, z0, z1, z2, z3, go_sem]; try rfl) rfl ?_
  exact ⟨rfl, hW⟩

set_option maxRecDepth 100000 in
set_option maxHeartbeats 4000000 in
theorem goneStep1 (l : Loc R) (pg0 : Nat) (n d : Nat) (hn : n ≤ 4096) (hd : d < n) (hp : pg0 ≤ 4096) (h : Own (Sep (BO m (goneM P T (pg0 : Int) (n : Int) (d : Int))) (Sep (AX q P T p r s pg ds dn L) R)) w0 w) (j : Nat) (hj : Lay.page P T 14 ((pg0 : Int) + (d : Int)) = ((j : Int), true)) (hjl : j < s.words.length) (v : Nat) (hvv : v = 0) (hv : v < 18446744073709551616) (s' : St) (hs : s.put j v = s') :
    Calls Tryd.prog 17 #[.pointer (some ⟨m, 0, none⟩), .pointer (some ⟨q, 0, none⟩)] w fun e w' => e = .returned s'.did ∧ Own (Sep (BO m (goneM P T (pg0 : Int) (n : Int) ((d + 1 : Nat) : Int))) (Sep (AX q P T p r s' pg ds dn L) R)) w0 w' := by
  have lR : Loc (Sep (BO w.heap.size didZ4) R) := Loc.bo.sep l
  have O1 := hide ((Own.boNew (m := w.heap.size) (o := didZ4) (Loc.bo.sep (Loc.ax.sep l)) h (heap_alloc_at w didZ4) (Nat.le_refl _) (grown1 w _)).cast (R' := Sep (BO m (goneM P T (pg0 : Int) (n : Int) (d : Int))) (Sep (AX q P T p r s pg ds dn L) (Sep (BO w.heap.size didZ4) R))) (by ac_rfl))
  have HPUT := hide (fun (W : World) (o : Own (Sep (BO m (goneM P T (pg0 : Int) (n : Int) (d : Int))) (Sep (AX q P T p r s pg ds dn L) (Sep (BO w.heap.size didZ4) R))) w0 W) => putM (c := goneC P T (pg0 : Int) (n : Int) (d : Int)) lR o d (by omega) rfl rfl rfl 14 ((pg0 : Int) + (d : Int)) j hj hjl v hv s' hs)
  have fin : ∀ W, Own (Sep (BO m (.cells ((goneC P T (pg0 : Int) (n : Int) (d : Int)).setIfInBounds 4 (.int .i64 ((d + 1 : Nat) : Int))) 90 (0, 0))) (Sep (AX q P T p r s' pg ds dn L) (Sep (BO w.heap.size didZ4) R))) w0 W → Own (Sep (BO w.heap.size didZ4) (Sep (BO m (goneM P T (pg0 : Int) (n : Int) ((d + 1 : Nat) : Int))) (Sep (AX q P T p r s' pg ds dn L) R))) w0 W := fun W o => o.cast (by show Sep (BO m (goneM P T (pg0 : Int) (n : Int) ((d + 1 : Nat) : Int))) _ = _; ac_rfl)
  have HF := hide fin
  have hDone : ∀ W : World, Own (Sep (BO m (goneM P T (pg0 : Int) (n : Int) (d : Int))) (Sep (AX q P T p r s pg ds dn L) (Sep (BO w.heap.size didZ4) R))) w0 W → Calls Tryd.prog 16 #[.pointer (some ⟨m, 0, none⟩)] W fun e w' => e = .returned (.bool false) ∧ ∃ q, w' = W.drewN q := fun W o => by
    have := goneDone _ m P T (pg0 : Int) n d hn (Own.boAt o)
    rw [decide_eq_false (by omega)] at this
    exact this
  have HDN := hide hDone
  have hvv' : (v : Int) = 0 := by omega
  have HVV := hide hvv'
  have t0 : ((d : Int) == (n : Int)) = false := by rw [beq_eq_false_iff_ne]; omega
  have hd9 : d ≤ 4099 := by omega
  have HD9 := hide hd9
  clear h hj hjl hv hs fin hDone hvv hvv'
  unfold didZ4 at *
  go_enter Tryd.func17, Tryd.ntmps17
  go_wp2_with fail
  generalize w.alloc (.cells #[.int .i64 0, .int .i64 0, .int .u64 0, .int .u64 0] 34) = w1 at *
  generalize w.heap.size = rb at *
  refine (HDN.out _ O1.out).mono ?_
  rintro e w2 ⟨rfl, n1, rfl⟩
  have O2 := hide (O1.out.below (Loc.bo.sep (Loc.ax.sep lR)) ((Alike.drewN w1 n1).below _))
  clear O1 HDN
  generalize w1.drewN n1 = w2 at *
  have y4 : w2.cell? ⟨m, 4, none⟩ = some (.int .i64 (d : Int)) := cell_of_heap (Own.boAt O2.out)
  have y3 : w2.cell? ⟨m, 3, none⟩ = some (.int .i64 (n : Int)) := cell_of_heap (Own.boAt O2.out)
  go_wp2
  go_quiet (fail)
  go_wp2
  clear t0 y3 y4
  have OQ := hide (O2.out.below (Loc.bo.sep (Loc.ax.sep lR)) ((Alike.drewN w2 nq).below _))
  clear O2
  generalize w2.drewN nq = w3 at *
  have O3 := hide (OQ.out.below (Loc.bo.sep (Loc.ax.sep lR)) ((Alike.drewN w3 1).below _))
  clear OQ
  have y2 : w3.drew.cell? ⟨m, 2, none⟩ = some (.int .i64 (pg0 : Int)) := cell_of_heap (Own.boAt O3.out)
  have y4 : w3.drew.cell? ⟨m, 4, none⟩ = some (.int .i64 (d : Int)) := cell_of_heap (Own.boAt O3.out)
  have HO3 : Hid (Own (Sep (BO m (goneM P T (pg0 : Int) (n : Int) (d : Int))) (Sep (AX q P T p r s pg ds dn L) (Sep (BO rb (.cells #[.int .i64 0, .int .i64 0, .int .u64 0, .int .u64 0] 34 (0, 0))) R))) w0 w3.drew) := hide O3.out
  clear O3
  have hd9 := HD9.out
  refine startM 15 (by kernel_rfl) ?_
  generalize w3.drew = wd at *
  refine readsM (fuel := 2) (by kernel_rfl) (fun _ _ _ _ _ h => h) [0, 1, 2, 3, 4, 5, 6, 7, 8, 9, 10, 11, 12, 13, 14] (by kernel_rfl) (by kernel_rfl) (by kernel_rfl) ?_
  simp only [List.filterMap_cons, List.filterMap_nil, List.getElem?_toArray, List.getElem?_cons_zero, List.getElem?_cons_succ]
  show wpQuiet _ _ _ _ [_, _, _, _, _, _, _, _, _, _, _, _, _, _, _] _
  repeat (go_big_quiet_step (fail))
  refine wpQuiet_nil ?_
  refine turnM (j := 15) rfl (by kernel_rfl) rfl (fun K' hK => ?_)
  go_simp
  try rw [← HVV.out]
  refine (HPUT.out _ HO3.out).mono ?_
  rintro e w4 ⟨rfl, o4⟩
  have O4 := hide (HF.out _ o4)
  refine hK _ _ ?_
  clear hK K' o4 HO3 HPUT HF y2 y4 hd9
  have r0 : w4.cell? ⟨rb, 0, none⟩ = some (.int .i64 0) := cell_of_heap (Own.boAt O4.out)
  have r1 : w4.cell? ⟨rb, 1, none⟩ = some (.int .i64 0) := cell_of_heap (Own.boAt O4.out)
  have r2 : w4.cell? ⟨rb, 2, none⟩ = some (.int .u64 0) := cell_of_heap (Own.boAt O4.out)
  have r3 : w4.cell? ⟨rb, 3, none⟩ = some (.int .u64 0) := cell_of_heap (Own.boAt O4.out)
  have fr : ∀ o, w4.frozen? ⟨rb, o, none⟩ = false := fun o => frozen_of_heap (Own.boAt O4.out)
  refine lastM (k := 16) rfl (by kernel_rfl) (by kernel_rfl) rfl (fun K' hK => ?_)
  unfold St.did
  go_simp
  refine Own.putDid (Q := K' _) (Loc.bo.sep (Loc.ax.sep l)) O4.out ?_
  intro W hW z0 z1 z2 z3
  refine hK _ _ ?_
  clear hK K' r0 r1 r2 r3 fr
  go_wp2
  refine bodyPost_ret (by simp [results, Tryd.results17, z0, z1, z2, z3, go_sem]; try rfl) rfl ?_
  exact ⟨rfl, hW⟩
end
end Go.Proofs.YtgdliebllmgibaaDoor
