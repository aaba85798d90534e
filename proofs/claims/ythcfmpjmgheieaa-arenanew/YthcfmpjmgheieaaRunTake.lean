/- Package runs: Take. -/
import Derived.Test.YthcfmpjmgheieaaRunLay
namespace Go.Proofs.Ythcfmpjmgheieaa
open Go.RowKit

set_option maxRecDepth 100000 in
set_option maxHeartbeats 2000000 in
theorem takeYes (w : World) (r t : Nat) (T : Tr Unit) (pg : Nat) (a : Option Addr) (c : Nat) (ds : List Nat) (dn : Nat) (L : RL) (h : RAt w r t T pg a c ds dn L) (hf : Fine pg ds dn L) (n : Int) (hn : 1 ≤ n) (i : It Unit) (hg : fitL n L = some i) :
    Calls Try.prog 11 #[.pointer (some ⟨r, 0, none⟩), .int .i64 n] w fun e w' => e = .returned (.tuple #[.int .i64 (rA i.1), .int .i64 0]) ∧ RTurned w w' r t T pg a c ds (if n < rN i.1 then dn + 1 else dn) (cutL i n (ds.getD dn 0) L) := by
  obtain ⟨q1, q2, _⟩ := fit_some hf.good.ris hg
  obtain ⟨q3, q4, q5, q6⟩ := hf.key q1
  have q7 := rA_bd i.1
  have q8 := hf.good.ran i q1
  have HC := hide (fitYes w r t T pg a c ds dn L h hf.most n hn (by omega) i hg ⟨q3, q4⟩)
  have HKO := fun w => hide (keyOf36 (rA i.1) (rN i.1) (by omega) w)
  have HGE := hide (getL_of_mem hf.good.ris q1)
  have HCL := hide (cut_clear hf.good q1 hn)
  have HF := hide hf
  have HH := hide h
  have EC : Hid (cutL i n (ds.getD dn 0) L = if n < rN i.1 then insL (kOf (rA i.1 + n) (rN i.1 - n)) (ds.getD dn 0) () (delL i.1 L) else delL i.1 L) := hide rfl
  have hkr := k_r i.1
  rw [hkr] at HKO
  rw [EC.out]
  clear h hg hf q1 q8 EC hkr
  obtain ⟨k, d, v⟩ := i
  simp only at *
  have HDL := hide (Nat.le_trans (delL_le (L := L) (key := k)) HF.out.len)
  generalize hy : rA k = y at *
  generalize hz : rN k = z at *
  have HLAY := fun (w : World) (T : Tr Unit) (hR : RAt w r t T pg a c ds dn (delL k L)) (hzn : n < z) => hide (lay32 w r t T pg a c ds dn (delL k L) hR (y + n) (z - n) (by omega) (HCL.out.no (by omega) (by omega) (by omega)) (by have := HDL.out; omega) (by have := HF.out.dn; omega))
  clear hy hz
  go_enter Try.func11, Try.ntmps11
  go_wp2_with fail
  refine HC.out.mono ?_
  rintro e w1 ⟨rfl, hb⟩
  have HB := hide (hb.alloc hb.size (.cells #[.int .i64 y, .int .i64 z] 84))
  have HBX := hide (heap_alloc_at w1 (.cells #[.int .i64 y, .int .i64 z] 84))
  have hsz : w.heap.size ≤ w1.heap.size := hb.size
  clear hb
  go_wp2_with fail
  obtain ⟨B, hBe⟩ : ∃ B, w1.heap.size = B := ⟨_, rfl⟩
  rw [hBe] at HBX
  simp only [hBe]
  have HB0 : Hid ((w1.alloc (.cells #[.int .i64 y, .int .i64 z] 84)).heap[B]? = some (.cells #[.int .i64 y, .int .i64 z] 84 (0, 0))) := HBX
  have HBT : Hid (¬ Ftp t T B) := hide (fun e => by have := HH.out.tree.lt e; omega)
  have HBR : Hid (B ≠ r) := hide (fun e => by have := lt_of_heap HH.out.head; omega)
  replace HH := hide (HH.out.below HB.out)
  clear HBX hBe hsz
  generalize w1.alloc (.cells #[.int .i64 y, .int .i64 z] 84) = WW at *
  have C0 : Hid (CellsOf [(r, 1, .pointer (some ⟨t, 0, none⟩)), (B, 0, .int .i64 y), (B, 1, .int .i64 z)] WW.drew) := by
    obtain ⟨_, C1, _, _, _⟩ := HH.out.cells
    intro q hq
    simp only [List.mem_cons, List.not_mem_nil, or_false] at hq
    rcases hq with rfl | rfl | rfl
    · exact C1
    · exact cell_of_heap HB0.out
    · exact cell_of_heap HB0.out
  obtain ⟨CL, hCL⟩ : ∃ CL : List (Nat × Nat × Value), CL = [(r, 1, .pointer (some ⟨t, 0, none⟩)), (B, 0, .int .i64 y), (B, 1, .int .i64 z)] := ⟨_, rfl⟩
  have u0 : ∀ u : Mem (CellsOf CL), u.w'.cell? ⟨r, 1, none⟩ = some (.pointer (some ⟨t, 0, none⟩)) := fun u => u.h (r, 1, .pointer (some ⟨t, 0, none⟩)) (by simp [hCL])
  have u1 : ∀ u : Mem (CellsOf CL), u.w'.cell? ⟨B, 0, none⟩ = some (.int .i64 y) := fun u => u.h (B, 0, .int .i64 y) (by simp [hCL])
  have u2 : ∀ u : Mem (CellsOf CL), u.w'.cell? ⟨B, 1, none⟩ = some (.int .i64 z) := fun u => u.h (B, 1, .int .i64 z) (by simp [hCL])
  rw [← hCL] at C0
  have hne : Nonempty (Mem (CellsOf CL)) := ⟨⟨_, C0.out⟩⟩
  have HCM : Hid (∀ q ∈ CL, q.1 = r ∨ q.1 = B) := hide (by rw [hCL]; simp)
  clear hCL
  refine region_start (J := CellsOf CL) (by kernel_rfl) ?_
  refine stretch (fuel := 2) (by kernel_rfl) (fun _ _ _ _ _ h => h) C0.out [0, 1, 2, 3, 4] (by kernel_rfl) ?_
  simp only [List.filterMap_cons, List.filterMap_nil, List.getElem?_toArray, List.getElem?_cons_zero, List.getElem?_cons_succ]
  show wpQuiet _ _ _ _ [_, _, _, _, _] _
  repeat (go_big_quiet_step (fail))
  refine wpQuiet_nil ?_
  refine wpAnyJ_writer (i := 5) rfl (by kernel_rfl) (fun K hK => ?_)
  go_simp
  refine (HKO _).out.mono ?_
  rintro e w2 ⟨rfl, hb2⟩
  have hs0 : B < WW.heap.size ∧ r < WW.heap.size := ⟨lt_of_heap HB0.out, lt_of_heap HH.out.head⟩
  have h2 : RAt w2 r t T pg a c ds dn L := (HH.out.alike (w' := WW.drew) ⟨rfl, rfl, rfl, rfl⟩).below hb2
  have HC1 := hide (C0.out.only (Below.only hb2 (fun _ => False)) (fun q hq => ⟨by rcases HCM.out q hq with e | e <;> rw [e]; exact hs0.2; exact hs0.1, fun f => f⟩))
  have HB1 : Hid (Below WW.heap.size WW w2) := hide (((⟨rfl, rfl, rfl, rfl⟩ : Alike WW WW.drew).below _).trans hb2)
  have HP := hide (dropYesE w2 t T L h2.tree k k d v HGE.out (by have := HF.out.len; omega))
  have H2 := hide h2
  refine hK _ _ HC1.out ?_
  clear hK K hb2 h2
  refine wpAnyJ_writer (i := 6) rfl (by kernel_rfl) (fun K hK => ?_)
  go_simp
  refine HP.out.mono ?_
  rintro e w3 ⟨rfl, h3⟩
  have hO : Only (Ftp t T) w2 w3 := by obtain ⟨_, _, o, _⟩ := h3; exact o
  have hC2 := HC1.out.only hO (fun q hq => ⟨by have := HB1.out.size; rcases HCM.out q hq with e | e <;> rw [e] <;> omega, by rcases HCM.out q hq with e | e <;> rw [e]; exact H2.out.out; exact HBT.out⟩)
  refine hK _ _ hC2 ?_
  clear hK K hC2
  refine wpAnyJ_done (by kernel_rfl) ?_
  obtain ⟨T3, k3, o3, m3⟩ := H2.out.tree' h3
  have hB3 : w3.heap[B]? = some (.cells #[.int .i64 y, .int .i64 z] 84 (0, 0)) := ((hO.block B (Nat.lt_of_lt_of_le hs0.1 HB1.out.size) HBT.out).trans (HB1.out.block B hs0.1)).trans HB0.out
  have HB3 := hide hB3
  have HT3 : Hid (¬ RM r t T3 B) := hide (fun e => by rcases m3 B e with q | q; exact q.elim (fun e => HBR.out e) (fun e => HBT.out e); have := HB1.out.size; omega)
  have HO3 := hide ((Below.only HB1.out (RM r t T)).trans o3)
  have HM3 : Hid (∀ x, RM r t T3 x → RM r t T x ∨ WW.heap.size ≤ x) := hide (fun x hx => (m3 x hx).imp (fun e => e) (fun e => Nat.le_trans HB1.out.size e))
  have HK3 := hide k3
  have b0 : w3.cell? ⟨B, 0, none⟩ = some (.int .i64 y) := cell_of_heap hB3
  have b1 : w3.cell? ⟨B, 1, none⟩ = some (.int .i64 z) := cell_of_heap hB3
  clear h3 hO k3 o3 m3 hB3 u0 u1 u2 hne
  by_cases hzn : n < z
  · have HL := HLAY w3 T3 HK3.out hzn
    have d1 : decide (n < z) = true := by simp [hzn]
    go_wp2_with fail
    refine HL.out.mono ?_
    rintro e w4 ⟨rfl, h4⟩
    obtain ⟨T4, k4, o4, m4⟩ := h4
    have b2 : w4.cell? ⟨B, 0, none⟩ = some (.int .i64 y) := cell_of_heap ((o4.block B (lt_of_heap HB3.out) HT3.out).trans HB3.out)
    have HX := hide (RTurned.left HB.out (RTurned.chain HO3.out HM3.out ⟨T4, k4, o4, m4⟩))
    clear k4 o4 m4
    go_wp2
    go_ret2
    exact ⟨rfl, HX.out⟩
  · have d1 : decide (n < z) = false := by simp [hzn]
    go_wp2
    go_ret2
    exact ⟨rfl, RTurned.left HB.out ⟨T3, HK3.out, HO3.out, HM3.out⟩⟩
end Go.Proofs.Ythcfmpjmgheieaa
