/- The document's example of a span that is laid. -/
import Derived.Test.YtgdliebllmgibaaDoorRecGo
import Derived.Test.YtgdliebllmgibaaDoorRecList
import Derived.Test.YtgdliebllmgibaaDoorPS
namespace Go.Proofs.YtgdliebllmgibaaDoor
open Go Go.RowKit

set_option maxRecDepth 100000 in
theorem aw14 : ∃ s0 : St, St.first (Lay.words ((5 : Nat) : Int) 1).toNat = s0 ∧ s0.words.length = (Lay.words 5 1).toNat ∧ Rec.read (putN (layAt 5 1 1 3 775 0 10) s0 7).words 5 1 1 = (⟨1, 3, 7, 1, 2, 0, 0⟩, true) :=
  ⟨_, rfl, by decide, by decide⟩

set_option maxRecDepth 100000 in
set_option maxHeartbeats 4000000 in
theorem awake14 (w : World) (hT : ClsTab w) : Calls Tryd.prog 18 #[] w fun e w' => e = .returned (.bool true) ∧ Below w.heap.size w w' := by
  obtain ⟨s0, e0, l0, x0⟩ := aw14
  have A1 := fun (R : Res) (w0 u : World) (l : Loc R) (ho : Own R w0 u) => @anew R w0 u l ho 5 1 (by decide) [] (by simp) none 0 (fun _ => ⟨rfl, rfl⟩) (fun h => absurd rfl h)
  rw [e0] at A1
  have HA1 := hide A1
  have HNL := hide (fun (u : World) (hu : Below w.heap.size w u) => newLayYes 5 1 1 7 3 1 0 (by omega) (by decide) u (hT.grown hu))
  have HBS := hide (fun u => baseR 7 3 775 (by omega) (by omega) (by omega) u)
  have L0 := hide l0
  have X0 := hide x0
  have b1 := heap_alloc_at w (.cells #[.int .i64 5, .int .i64 1] 24)
  have HB1 := hide (grown1 w (.cells #[.int .i64 5, .int .i64 1] 24))
  have HBX := hide b1
  clear e0 l0 x0 A1 b1 hT
  go_enter Tryd.func18, Tryd.ntmps18
  go_wp2
  have O1 := hide (Own.boNew (m := w.heap.size) (o := .cells #[.int .i64 5, .int .i64 1] 24 (0, 0)) Loc.nought (Own.start w) HBX.out (Nat.le_refl _) HB1.out)
  clear HBX HB1
  generalize w.alloc (.cells #[.int .i64 5, .int .i64 1] 24) = w1 at *
  generalize hbl : w.heap.size = b at *
  obtain ⟨LO, hLO⟩ : ∃ LO : Obj, LO = .cells #[.int .i64 5, .int .i64 1] 24 (0, 0) := ⟨_, rfl⟩
  rw [← hLO] at O1
  have HLO := hide hLO
  have HBL := hide hbl
  clear hLO hbl
  have lb : Loc (Sep (BO b LO) Nought) := Loc.bo.sep Loc.nought
  have O2 := hide (O1.out.below lb ((Alike.drewN w1 1).below _))
  have J2 : Hid (BkAt b LO w1.drew) := hide (Own.boAt O2.out)
  have hne : Nonempty (Mem (BkAt b LO)) := ⟨⟨_, J2.out⟩⟩
  have U0 : ∀ u : Mem (BkAt b LO), u.w'.cell? ⟨b, 0, none⟩ = some (.int .i64 5) := fun u => cell_of_heap (by rw [← HLO.out]; exact u.h)
  have U1 : ∀ u : Mem (BkAt b LO), u.w'.cell? ⟨b, 1, none⟩ = some (.int .i64 1) := fun u => cell_of_heap (by rw [← HLO.out]; exact u.h)
  generalize ([(kOf 0 (5 : Nat), ([] : List Nat).getD 0 0, ())] : RL) = rl at *
  refine region_start (J := BkAt b LO) (by kernel_rfl) ?_
  refine stretch (fuel := 4) (by kernel_rfl) (fun _ _ _ _ _ h => h) J2.out [0, 2] (by kernel_rfl) ?_
  simp only [List.filterMap_cons, List.filterMap_nil, List.getElem?_toArray, List.getElem?_cons_zero, List.getElem?_cons_succ]
  show wpQuiet _ _ _ _ [_, _] _
  repeat (go_big_quiet_step (fail))
  refine wpQuiet_nil ?_
  refine wpAnyJ_writer (i := 1) rfl (by kernel_rfl) (fun K' hK => ?_)
  go_simp
  refine (HA1.out _ _ _ lb O2.out).mono ?_
  rintro e w2 ⟨q, p, r, rfl, o2⟩
  have O3 := hide o2
  refine hK _ _ (o2.has (R := Sep (AX q 5 1 p r s0 5 [] 1 rl) Nought) (by ac_rfl)) ?_
  clear hK K' o2 O1 O2 HA1
  refine wpAnyJ_writer (i := 3) rfl (by kernel_rfl) (fun K' hK => ?_)
  go_simp
  refine (HNL.out _ (by rw [← HBL.out]; exact O3.out.back)).mono ?_
  rintro e w3 ⟨m, rfl, h1, h2, h3⟩
  have O4 := hide (Own.boNew (Loc.ax.sep lb) O3.out h1 h2 h3)
  have J4 : Hid (BkAt b LO w3) := hide (O4.out.has (R := Sep (BO m (layM 5 1 1 3 0 775 0 10)) (Sep (AX q 5 1 p r s0 5 [] 1 rl) Nought)) (by show Sep (BO m (layM 5 1 1 3 0 775 0 10)) _ = _; ac_rfl))
  refine hK _ _ J4.out ?_
  clear hK K' O3 HNL h1 h2 h3
  refine stretch (fuel := 0) (by kernel_rfl) (fun _ _ _ _ _ h => h) J4.out [4, 5] (by kernel_rfl) ?_
  simp only [List.filterMap_cons, List.filterMap_nil, List.getElem?_toArray, List.getElem?_cons_zero, List.getElem?_cons_succ]
  show wpQuiet _ _ _ _ [_, _] _
  repeat (go_big_quiet_step (fail))
  refine wpQuiet_nil ?_
  refine wpAnyJ_done (by kernel_rfl) ?_
  clear U0 U1 hne J2 J4
  go_wp2_with fail
  refine (HBS.out _).mono ?_
  rintro e w4 ⟨rfl, rfl⟩
  go_wp2
  obtain ⟨f, hf⟩ : ∃ f, layAt 5 1 1 3 775 0 10 = f := ⟨_, rfl⟩
  rw [hf] at X0
  have HF := hide hf
  have OS : Hid (Own (Sep (BO m (layM 5 1 ((1 : Nat) : Int) ((3 : Nat) : Int) ((0 : Nat) : Int) 775 0 10)) (Sep (AX q 5 1 p r (putN f s0 0) 5 [] 1 rl) (Sep (BO b LO) Nought))) w _) := hide O4.out
  clear O4 hf HBS
  go_loopw [4] (fun i wr => ∃ k : Nat, k ≤ 7 ∧ i = .int .i64 (k : Int) ∧ Hid (Own (Sep (BO m (layM 5 1 ((1 : Nat) : Int) ((3 : Nat) : Int) (k : Int) 775 0 10)) (Sep (AX q 5 1 p r (putN f s0 k) 5 [] 1 rl) (Sep (BO b LO) Nought))) w wr)) (fun i _ => 7 - (intOf i).toNat)
  case atStart => exact ⟨0, Nat.zero_le _, rfl, OS⟩
  case round =>
    obtain ⟨k, hk, rfl, hO⟩ := hrel
    clear OS
    have HD := hide (layDone wr m 5 1 1 3 k 775 0 10 (by omega) (Own.boAt hO.out))
    by_cases hlt : k < 7
    · have d1 : decide ((k : Int) < 8) = true := by simp; omega
      rw [decide_eq_false (show ¬ k = 3 + 4 by omega)] at HD
      go_wp2_with fail
      refine HD.out.mono ?_
      rintro e w5 ⟨rfl, n1, rfl⟩
      have O5 := hide (hO.out.below (Loc.bo.sep (Loc.ax.sep lb)) ((Alike.drewN wr n1).below _))
      clear hO HD
      go_wp2_with fail
      have HG := hide (layGo lb (by decide) 1 3 k 775 0 10 (by omega) (by decide) (by omega) (by rw [putN_len]; exact L0.out) (by omega) (by omega) (by omega) O5.out)
      rw [HF.out] at HG
      refine HG.out.mono ?_
      rintro e w6 ⟨rfl, o6⟩
      have O6 := hide o6
      clear O5 HG o6
      go_wp2
      go_roundw
      case rel => exact ⟨k + 1, by omega, by go_num, O6⟩
      case measure => simp [intOf]; omega
    · obtain rfl : k = 7 := by omega
      rw [decide_eq_true (show 7 = 3 + 4 by omega)] at HD
      go_wp2_with fail
      refine HD.out.mono ?_
      rintro e w5 ⟨rfl, n1, rfl⟩
      have O5 := hide (hO.out.below (Loc.bo.sep (Loc.ax.sep lb)) ((Alike.drewN wr n1).below _))
      clear hO HD
      go_wp2_with fail
      refine (readA (ArW.of (O5.out.cast BO.swap)) (by rw [putN_len]; exact L0.out) 1 _ _ X0.out).mono ?_
      rintro e w6 ⟨rfl, b6⟩
      have HB6 := hide (O5.out.below (Loc.bo.sep (Loc.ax.sep lb)) b6).back
      clear b6 O5
      unfold spanV spanC
      go_wp2
      go_ret
      exact ⟨rfl, by first | exact HB6.out.alloc HB6.out.size _ | exact HB6.out⟩
end Go.Proofs.YtgdliebllmgibaaDoor
