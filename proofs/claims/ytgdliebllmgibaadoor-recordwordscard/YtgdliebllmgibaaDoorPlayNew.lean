/- Both arenas of a setup without draws. -/
import Derived.Test.YtgdliebllmgibaaDoorPY
import Derived.Test.YtgdliebllmgibaaDoorPV
namespace Go.Proofs.YtgdliebllmgibaaDoor
open Go.RowKit

set_option maxHeartbeats 4000000 in
set_option maxRecDepth 100000 in
theorem plArenas {R : Res} {w0 w : World} (lR : Loc R) (h : Own R w0 w) (pg : Nat) (T : Int) (hm : Lay.may pg T = true) :
    Calls Tryd.prog 19 #[.agg #[.int .i64 (pg : Int), .int .i64 T, .slice none 0 0]] w fun e w' => ∃ q p r a p' r', e = .returned (.tuple #[.pointer (some ⟨q, 0, none⟩), .pointer (some ⟨a, 0, none⟩)]) ∧
      Own (Sep (AX q (pg : Int) T p r (St.first (Lay.words pg T).toNat) pg [] 1 [(kOf 0 pg, ([] : List Nat).getD 0 0, ())]) (Sep (MX a (pg : Int) T p' r' (St.first (Lay.words pg T).toNat) pg [] 1 [(kOf 0 pg, ([] : List Nat).getD 0 0, ())]) R)) w0 w' := by
  have NA := fun (R : Res) (w0 u : World) (l : Loc R) (ho : Own R w0 u) => @anew R w0 u l ho pg T hm [] (by simp) none 0 (fun _ => ⟨rfl, rfl⟩) (fun h => absurd rfl h)
  have NM := fun (R : Res) (w0 u : World) (l : Loc R) (ho : Own R w0 u) => @memNew R w0 u l ho pg T hm [] (by simp) none 0 (fun _ => ⟨rfl, rfl⟩) (fun h => absurd rfl h)
  rw [List.length_nil] at NA NM
  generalize ([(kOf 0 pg, ([] : List Nat).getD 0 0, ())] : RL) = rl at *
  generalize St.first (Lay.words pg T).toNat = s at *
  have HNA := hide NA
  have HNM := hide NM
  clear NA NM hm
  obtain ⟨OO, hOO⟩ : ∃ OO : Obj, OO = .cells #[.int .i64 (pg : Int), .int .i64 T, .slice none 0 0] 29 (0, 0) := ⟨_, rfl⟩
  have HOO := hide hOO
  have O1 : Hid (Own (Sep (BO w.heap.size OO) R) w0 (w.alloc (.cells #[.int .i64 (pg : Int), .int .i64 T, .slice none 0 0] 29))) := hide (Own.boNew lR h (by rw [hOO]; exact heap_alloc_at _ _) (Nat.le_refl _) (grown1 _ _))
  clear h hOO
  go_enter Tryd.func19, Tryd.ntmps19
  go_wp2
  generalize w.alloc (.cells #[.int .i64 (pg : Int), .int .i64 T, .slice none 0 0] 29) = w1 at *
  generalize w.heap.size = B at *
  have lB : Loc (Sep (BO B OO) R) := Loc.bo.sep lR
  have O2 := hide (O1.out.below lB ((Alike.drewN w1 1).below _))
  have J2 : Hid (BkAt B OO w1.drew) := hide (Own.boAt O2.out)
  have hne : Nonempty (Mem (BkAt B OO)) := ⟨⟨_, J2.out⟩⟩
  have U0 : ∀ u : Mem (BkAt B OO), u.w'.cell? ⟨B, 0, none⟩ = some (.int .i64 (pg : Int)) := fun u => cell_of_heap (by rw [← HOO.out]; exact u.h)
  have U1 : ∀ u : Mem (BkAt B OO), u.w'.cell? ⟨B, 1, none⟩ = some (.int .i64 T) := fun u => cell_of_heap (by rw [← HOO.out]; exact u.h)
  have U2 : ∀ u : Mem (BkAt B OO), u.w'.cell? ⟨B, 2, none⟩ = some (.slice none 0 0) := fun u => cell_of_heap (by rw [← HOO.out]; exact u.h)
  clear O1
  refine region_start (J := BkAt B OO) (by kernel_rfl) ?_
  refine stretch (fuel := 4) (by kernel_rfl) (fun _ _ _ _ _ h => h) J2.out [0, 2] (by kernel_rfl) ?_
  simp only [List.filterMap_cons, List.filterMap_nil, List.getElem?_toArray, List.getElem?_cons_zero, List.getElem?_cons_succ]
  show wpQuiet _ _ _ _ [_, _] _
  repeat (go_big_quiet_step (fail))
  refine wpQuiet_nil ?_
  refine wpAnyJ_writer (i := 1) rfl (by kernel_rfl) (fun K' hK => ?_)
  go_simp
  refine (HNA.out _ _ _ lB O2.out).mono ?_
  rintro e w2 ⟨q, p, r, rfl, o2⟩
  have O3 := hide o2
  refine hK _ _ (o2.has (R := Sep (AX q pg T p r s pg [] 1 rl) R) (by ac_rfl)) ?_
  clear hK K' o2 O2 HNA
  refine wpAnyJ_writer (i := 3) rfl (by kernel_rfl) (fun K' hK => ?_)
  go_simp
  refine (HNM.out _ _ _ (Loc.ax.sep lB) O3.out).mono ?_
  rintro e w3 ⟨a, p', r', rfl, o3⟩
  have O4 := hide (o3.cast (R' := Sep (BO B OO) (Sep (AX q pg T p r s pg [] 1 rl) (Sep (MX a pg T p' r' s pg [] 1 rl) R))) (by ac_rfl))
  refine hK _ _ (Own.boAt O4.out) ?_
  clear hK K' o3 O3 HNM
  refine stretch (fuel := 0) (by kernel_rfl) (fun _ _ _ _ _ h => h) (Own.boAt O4.out) [4, 5] (by kernel_rfl) ?_
  simp only [List.filterMap_cons, List.filterMap_nil, List.getElem?_toArray, List.getElem?_cons_zero, List.getElem?_cons_succ]
  show wpQuiet _ _ _ _ [_, _] _
  repeat (go_big_quiet_step (fail))
  refine wpQuiet_nil ?_
  refine wpAnyJ_done (by kernel_rfl) ?_
  clear hne U0 U1 U2 J2
  have O5 := hide O4.out.drop
  clear O4
  go_wp2_with fail
  refine (storeX O5.out).mono ?_
  rintro e w4 ⟨rfl, rfl⟩
  go_wp2_with fail
  refine (runsX O5.out).mono ?_
  rintro e w4 ⟨rfl, rfl⟩
  go_wp2
  go_ret2
  exact ⟨q, p, r, a, p', r', rfl, O5.out⟩
end Go.Proofs.YtgdliebllmgibaaDoor
