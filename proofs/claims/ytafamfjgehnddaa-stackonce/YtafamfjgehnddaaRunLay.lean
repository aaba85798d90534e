/- Package runs: lay, Find, Take. -/
import Derived.Test.YtafamfjgehnddaaRunCalls
import Derived.Test.YtafamfjgehnddaaTreWalk2
import Derived.Deep.CutRange
import Derived.Deep.CutBlock
namespace Go.Proofs.Ytafamfjgehnddaa
open Go.RowKit

theorem RAt.cells {w : World} {r t : Nat} {T : Tr Unit} {pg : Nat} {a : Option Addr} {c : Nat} {ds : List Nat} {dn : Nat} {L : RL} (h : RAt w r t T pg a c ds dn L) :
    w.cell? ⟨r, 0, none⟩ = some (.int .i64 (pg : Int)) ∧ w.cell? ⟨r, 1, none⟩ = some (.pointer (some ⟨t, 0, none⟩)) ∧ w.cell? ⟨r, 2, none⟩ = some (.slice a ds.length c) ∧ w.cell? ⟨r, 3, none⟩ = some (.int .i64 (dn : Int)) ∧ ∀ o, w.frozen? ⟨r, o, none⟩ = false :=
  ⟨cell_of_heap h.head, cell_of_heap h.head, cell_of_heap h.head, cell_of_heap h.head, fun _ => frozen_of_heap h.head⟩

set_option maxRecDepth 100000 in
set_option maxHeartbeats 2000000 in
theorem lay32 (w : World) (r t : Nat) (T : Tr Unit) (pg : Nat) (a : Option Addr) (c : Nat) (ds : List Nat) (dn : Nat) (L : RL) (h : RAt w r t T pg a c ds dn L) (x n : Int) (hx : 0 ≤ x ∧ x < 8192 ∧ 0 ≤ n ∧ n < 1000000) (hg : getL (kOf x n) L = none) (hl : L.length ≤ 1000000) (hdn : dn < 1099511627776) :
    Calls Try.prog 81 #[.pointer (some ⟨r, 0, none⟩), .agg #[.int .i64 x, .int .i64 n]] w fun e w' => e = .returned (.tuple #[]) ∧ RTurned w w' r t T pg a c ds (dn + 1) (insL (kOf x n) (ds.getD dn 0) () L) := by
  obtain ⟨B, hBe⟩ : ∃ B, w.heap.size = B := ⟨_, rfl⟩
  have hB : Below w.heap.size w (w.alloc (.cells #[.int .i64 x, .int .i64 n] 147)) := (Below.refl _ w).alloc (Nat.le_refl _) _
  have hb0 : (w.alloc (.cells #[.int .i64 x, .int .i64 n] 147)).heap[B]? = some (.cells #[.int .i64 x, .int .i64 n] 147 (0, 0)) := by rw [← hBe]; exact heap_alloc_at _ _
  have hT0 : ∀ {y : Nat}, Ftp t T y → y < B := fun {y} hy => by rw [← hBe]; exact h.tree.lt hy
  replace h := h.below hB
  obtain ⟨_, _, c2, c3, _⟩ := h.cells
  have HK := fun w => hide (keyOf36 x n hx w)
  have HBT : Hid (¬ Ftp t T B) := hide (fun e => by have := hT0 e; omega)
  by_cases hd : dn < ds.length
  · obtain ⟨g, hg1, _, hg2⟩ := h.row (by intro e; rw [e] at hd; simp at hd)
    have c4 := hg2 dn hd
    have d1 : decide ((dn : Int) < (ds.length : Int)) = true := by simp; omega
    have d2 : decide (dn < ds.length) = true := by simp; omega
    subst hg1
    obtain ⟨dd, hdd⟩ : ∃ dd, ds.getD dn 0 = dd := ⟨_, rfl⟩
    rw [hdd] at c4 ⊢
    go_enter Try.func81, Try.ntmps81
    go_wp2_with fail
    generalize w.alloc (.cells #[.int .i64 x, .int .i64 n] 147) = w0 at *
    have HH := hide h
    have HG := hide hg
    have HB0 := hide hb0
    clear h hg hg2 hb0 hBe hT0
    go_quiet (fail)
    have c2' : (w0.drewN nq).cell? ⟨r, 2, none⟩ = some (.slice (some ⟨g, 0, none⟩) ds.length c) := c2
    have c3' : (w0.drewN nq).cell? ⟨r, 3, none⟩ = some (.int .i64 (dn : Int)) := c3
    have c4' : (w0.drewN nq).cell? ⟨g, dn, none⟩ = some (.int .u32 (dd : Int)) := c4
    clear c2 c3 c4
    have HV0 : Hid (Alike w0 (w0.drewN nq)) := hide ⟨rfl, rfl, rfl, rfl⟩
    generalize w0.drewN nq = V0 at *
    go_wp2
    go_quiet (fail)
    go_wp2
    obtain ⟨WW, hWW⟩ : ∃ WW, V0.drewN nq = WW := ⟨_, rfl⟩
    rw [hWW]
    have HWW : Hid (Alike w0 WW) := hide (by rw [← hWW]; exact HV0.out.trans (Alike.drewN _ _))
    replace HH := hide (HH.out.alike HWW.out)
    replace HB0 : Hid (WW.heap[B]? = some (.cells #[.int .i64 x, .int .i64 n] 147 (0, 0))) := hide (by rw [HWW.out.heap]; exact HB0.out)
    clear hWW
    obtain ⟨_, C1, _, C3, CF⟩ := HH.out.cells
    have hxB := HB0.out
    have C0 : Hid (CellsOf [(r, 1, .pointer (some ⟨t, 0, none⟩)), (B, 0, .int .i64 x), (B, 1, .int .i64 n)] WW.drew) := by
      intro q hq
      simp only [List.mem_cons, List.not_mem_nil, or_false] at hq
      rcases hq with rfl | rfl | rfl
      · exact C1
      · exact cell_of_heap hxB
      · exact cell_of_heap hxB
    have hBr : B ≠ r := fun e => by rw [e, HH.out.head] at hxB; have := congrArg (fun o : Option Obj => match o with | some (.cells c _ _) => c.size | _ => 0) hxB; simp [rCells] at this
    obtain ⟨CL, hCL⟩ : ∃ CL : List (Nat × Nat × Value), CL = [(r, 1, .pointer (some ⟨t, 0, none⟩)), (B, 0, .int .i64 x), (B, 1, .int .i64 n)] := ⟨_, rfl⟩
    have u0 : ∀ u : Mem (CellsOf CL), u.w'.cell? ⟨r, 1, none⟩ = some (.pointer (some ⟨t, 0, none⟩)) := fun u => u.h (r, 1, .pointer (some ⟨t, 0, none⟩)) (by simp [hCL])
    have u1 : ∀ u : Mem (CellsOf CL), u.w'.cell? ⟨B, 0, none⟩ = some (.int .i64 x) := fun u => u.h (B, 0, .int .i64 x) (by simp [hCL])
    have u2 : ∀ u : Mem (CellsOf CL), u.w'.cell? ⟨B, 1, none⟩ = some (.int .i64 n) := fun u => u.h (B, 1, .int .i64 n) (by simp [hCL])
    rw [← hCL] at C0
    have hne : Nonempty (Mem (CellsOf CL)) := ⟨⟨_, C0.out⟩⟩
    have HCL : Hid (∀ q ∈ CL, q.1 = r ∨ q.1 = B) := hide (by rw [hCL]; simp)
    clear hCL C1 C3 CF hxB
    refine region_start (J := CellsOf CL) (by kernel_rfl) ?_
    refine stretch (fuel := 2) (by kernel_rfl) (fun _ _ _ _ _ h => h) C0.out [0, 1, 2, 3, 4, 6, 7] (by kernel_rfl) ?_
    simp only [List.filterMap_cons, List.filterMap_nil, List.getElem?_toArray, List.getElem?_cons_zero, List.getElem?_cons_succ]
    show wpQuiet _ _ _ _ [_, _, _, _, _, _, _] _
    repeat (go_big_quiet_step (fail))
    refine wpQuiet_nil ?_
    refine wpAnyJ_writer (i := 5) rfl (by kernel_rfl) (fun K hK => ?_)
    go_simp
    refine (HK _).out.mono ?_
    rintro e w1 ⟨rfl, hb1⟩
    have hs0 : B < WW.heap.size ∧ r < WW.heap.size := ⟨lt_of_heap HB0.out, lt_of_heap HH.out.head⟩
    have h1 : RAt w1 r t T pg _ c ds dn L := (HH.out.alike (w' := WW.drew) ⟨rfl, rfl, rfl, rfl⟩).below hb1
    have HC1 := hide (C0.out.only (Below.only hb1 (fun _ => False)) (fun q hq => ⟨by rcases HCL.out q hq with e | e <;> rw [e]; exact hs0.2; exact hs0.1, fun f => f⟩))
    have HB1 : Hid (Below WW.heap.size WW w1) := hide (((⟨rfl, rfl, rfl, rfl⟩ : Alike WW WW.drew).below _).trans hb1)
    have HP := hide (putYesE w1 t T L h1.tree (kOf x n) dd () HG.out (by omega))
    have H1 := hide h1
    refine hK _ _ HC1.out ?_
    clear hK K hb1 h1
    refine wpAnyJ_writer (i := 8) rfl (by kernel_rfl) (fun K hK => ?_)
    go_simp
    refine HP.out.mono ?_
    rintro e w2 ⟨rfl, h2⟩
    have hO : Only (Ftp t T) w1 w2 := by obtain ⟨_, _, o, _⟩ := h2; exact o
    have hBt : ¬ Ftp t T B := HBT.out
    have hC2 := HC1.out.only hO (fun q hq => ⟨by have := HB1.out.size; rcases HCL.out q hq with e | e <;> rw [e] <;> omega, by rcases HCL.out q hq with e | e <;> rw [e]; exact H1.out.out; exact hBt⟩)
    refine hK _ _ hC2 ?_
    clear hK K hC2 hO
    refine wpAnyJ_done (by kernel_rfl) ?_
    have H2 := hide (H1.out.tree' h2)
    obtain ⟨T2, k2, _, _⟩ := H2.out
    obtain ⟨_, _, _, C3, CF⟩ := k2.cells
    clear k2 h2
    go_wp2
    go_end0
    refine ⟨rfl, RTurned.left (hB.trans ((HWW.out.below _).trans (HB1.out.mono (by rw [HWW.out.heap]; exact hB.size)))) (H2.out.trans fun T' h' => ?_)⟩
    have := h'.count (dn + 1)
    simpa using this
  · have d1 : decide ((dn : Int) < (ds.length : Int)) = false := by simp; omega
    have d2 : decide (dn < ds.length) = false := by simp; omega
    obtain ⟨dd, hdd⟩ : ∃ dd, ds.getD dn 0 = dd := ⟨_, rfl⟩
    have hd0 : dd = 0 := by rw [← hdd]; simp [List.getD, List.getElem?_eq_none (Nat.le_of_not_lt hd)]
    rw [hdd]
    go_enter Try.func81, Try.ntmps81
    go_wp2_with fail
    generalize w.alloc (.cells #[.int .i64 x, .int .i64 n] 147) = w0 at *
    have HH := hide h
    have HG := hide hg
    have HB0 := hide hb0
    clear h hg hb0 hBe hT0 hd
    go_quiet (fail)
    clear c2 c3
    go_wp2
    subst hd0
    obtain ⟨WW, hWW⟩ : ∃ WW, w0.drewN nq = WW := ⟨_, rfl⟩
    rw [hWW]
    have HWW : Hid (Alike w0 WW) := hide (by rw [← hWW]; exact Alike.drewN _ _)
    replace HH := hide (HH.out.alike HWW.out)
    replace HB0 : Hid (WW.heap[B]? = some (.cells #[.int .i64 x, .int .i64 n] 147 (0, 0))) := hide (by rw [HWW.out.heap]; exact HB0.out)
    clear hWW
    obtain ⟨_, C1, _, C3, CF⟩ := HH.out.cells
    have hxB := HB0.out
    have C0 : Hid (CellsOf [(r, 1, .pointer (some ⟨t, 0, none⟩)), (B, 0, .int .i64 x), (B, 1, .int .i64 n)] WW.drew) := by
      intro q hq
      simp only [List.mem_cons, List.not_mem_nil, or_false] at hq
      rcases hq with rfl | rfl | rfl
      · exact C1
      · exact cell_of_heap hxB
      · exact cell_of_heap hxB
    have hBr : B ≠ r := fun e => by rw [e, HH.out.head] at hxB; have := congrArg (fun o : Option Obj => match o with | some (.cells c _ _) => c.size | _ => 0) hxB; simp [rCells] at this
    obtain ⟨CL, hCL⟩ : ∃ CL : List (Nat × Nat × Value), CL = [(r, 1, .pointer (some ⟨t, 0, none⟩)), (B, 0, .int .i64 x), (B, 1, .int .i64 n)] := ⟨_, rfl⟩
    have u0 : ∀ u : Mem (CellsOf CL), u.w'.cell? ⟨r, 1, none⟩ = some (.pointer (some ⟨t, 0, none⟩)) := fun u => u.h (r, 1, .pointer (some ⟨t, 0, none⟩)) (by simp [hCL])
    have u1 : ∀ u : Mem (CellsOf CL), u.w'.cell? ⟨B, 0, none⟩ = some (.int .i64 x) := fun u => u.h (B, 0, .int .i64 x) (by simp [hCL])
    have u2 : ∀ u : Mem (CellsOf CL), u.w'.cell? ⟨B, 1, none⟩ = some (.int .i64 n) := fun u => u.h (B, 1, .int .i64 n) (by simp [hCL])
    rw [← hCL] at C0
    have hne : Nonempty (Mem (CellsOf CL)) := ⟨⟨_, C0.out⟩⟩
    have HCL : Hid (∀ q ∈ CL, q.1 = r ∨ q.1 = B) := hide (by rw [hCL]; simp)
    clear hCL C1 C3 CF hxB
    refine region_start (J := CellsOf CL) (by kernel_rfl) ?_
    refine stretch (fuel := 2) (by kernel_rfl) (fun _ _ _ _ _ h => h) C0.out [0, 1, 2, 3, 4, 6, 7] (by kernel_rfl) ?_
    simp only [List.filterMap_cons, List.filterMap_nil, List.getElem?_toArray, List.getElem?_cons_zero, List.getElem?_cons_succ]
    show wpQuiet _ _ _ _ [_, _, _, _, _, _, _] _
    repeat (go_big_quiet_step (fail))
    refine wpQuiet_nil ?_
    refine wpAnyJ_writer (i := 5) rfl (by kernel_rfl) (fun K hK => ?_)
    go_simp
    refine (HK _).out.mono ?_
    rintro e w1 ⟨rfl, hb1⟩
    have hs0 : B < WW.heap.size ∧ r < WW.heap.size := ⟨lt_of_heap HB0.out, lt_of_heap HH.out.head⟩
    have h1 : RAt w1 r t T pg _ c ds dn L := (HH.out.alike (w' := WW.drew) ⟨rfl, rfl, rfl, rfl⟩).below hb1
    have HC1 := hide (C0.out.only (Below.only hb1 (fun _ => False)) (fun q hq => ⟨by rcases HCL.out q hq with e | e <;> rw [e]; exact hs0.2; exact hs0.1, fun f => f⟩))
    have HB1 : Hid (Below WW.heap.size WW w1) := hide (((⟨rfl, rfl, rfl, rfl⟩ : Alike WW WW.drew).below _).trans hb1)
    have HP := hide (putYesE w1 t T L h1.tree (kOf x n) 0 () HG.out (by omega))
    have H1 := hide h1
    refine hK _ _ HC1.out ?_
    clear hK K hb1 h1
    refine wpAnyJ_writer (i := 8) rfl (by kernel_rfl) (fun K hK => ?_)
    go_simp
    refine HP.out.mono ?_
    rintro e w2 ⟨rfl, h2⟩
    have hO : Only (Ftp t T) w1 w2 := by obtain ⟨_, _, o, _⟩ := h2; exact o
    have hBt : ¬ Ftp t T B := HBT.out
    have hC2 := HC1.out.only hO (fun q hq => ⟨by have := HB1.out.size; rcases HCL.out q hq with e | e <;> rw [e] <;> omega, by rcases HCL.out q hq with e | e <;> rw [e]; exact H1.out.out; exact hBt⟩)
    refine hK _ _ hC2 ?_
    clear hK K hC2 hO
    refine wpAnyJ_done (by kernel_rfl) ?_
    have H2 := hide (H1.out.tree' h2)
    obtain ⟨T2, k2, _, _⟩ := H2.out
    obtain ⟨_, _, _, C3, CF⟩ := k2.cells
    clear k2 h2
    go_wp2
    go_end0
    refine ⟨rfl, RTurned.left (hB.trans ((HWW.out.below _).trans (HB1.out.mono (by rw [HWW.out.heap]; exact hB.size)))) (H2.out.trans fun T' h' => ?_)⟩
    have := h'.count (dn + 1)
    simpa using this

/-- The runs' facts that calls lean on. -/
structure Fine (pg : Nat) (ds : List Nat) (dn : Nat) (L : RL) : Prop where
  pos : 1 ≤ pg
  most : pg ≤ 4096
  good : Good pg L
  len : L.length ≤ 100000
  dn : dn ≤ 1000000000
  ds : ds.length ≤ 1000000000
theorem Fine.key {pg : Nat} {ds : List Nat} {dn : Nat} {L : RL} (h : Fine pg ds dn L) {i : It Unit} (hi : i ∈ L) : 0 ≤ i.1 ∧ i.1 < 1000000000 ∧ 1 ≤ rN i.1 ∧ rA i.1 + rN i.1 ≤ 4096 := by
  have h1 := h.good.ran i hi
  have h2 := h.most
  have h3 := rA_bd i.1
  have h4 := k_r i.1
  unfold kOf at h4
  omega

end Go.Proofs.Ytafamfjgehnddaa
