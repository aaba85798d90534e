/- Whether there is a sweep of any arguments is the document's, in no arena, or one of another layout, nothing is done, no machine does nothing: the law SweepMay answers true at every input, and its arguments read behind the call as they read before. -/
import Derived.Test.YtafamfjgehnddaaPA
import Derived.Test.YtafamfjgehnddaaPB
import Derived.Test.YtafamfjgehnddaaLayOpen
namespace Go.Proofs.Ytafamfjgehnddaa.sweepMay
open Go.ChangeShapes Go.WideShapes Go.ChangeAt Go.RowKit

def layO (P T : Int) : Obj := .cells #[.int .i64 P, .int .i64 T] 26 (0, 0)
theorem newSw (P T t : Int) (u : World) : Calls Try.prog 23 #[.agg #[.int .i64 P, .int .i64 T], .int .i64 t] u fun e w' => ∃ pa : Option Addr, e = .returned (.pointer pa) ∧ pa.isSome = maySwp P T t ∧ (pa = none ∨ ∃ m : Nat, pa = some ⟨m, 0, none⟩ ∧ w'.heap[m]? = some (swpO P T t 0 0 0) ∧ 1 ≤ P) ∧ Below u.heap.size u w' := by
  cases h : maySwp P T t
  · exact (newSwpNo P T t h u).mono fun _ _ ⟨h1, h2⟩ => ⟨none, h1, rfl, .inl rfl, h2⟩
  · exact (newSwpYes P T t h u).mono fun _ _ ⟨m, h1, h2, _, h3⟩ => ⟨_, h1, rfl, .inr ⟨m, rfl, h2, (Lay.may_iff.1 (maySwp_iff.1 h).1).1⟩, h3⟩

set_option maxRecDepth 100000 in
set_option maxHeartbeats 16000000 in
theorem main0 (P T t : Int) (hne : P ≠ 3 ∨ T ≠ 2) (w : World) :
    Calls Try.prog 5 #[.agg #[.int .i64 P, .int .i64 T], .int .i64 t] w fun e w' => e = .returned (.bool true) ∧ Below w.heap.size w w' := by
  have NP := hide (fun u => newSw P T t u)
  have RP := hide (fun u => rightSwp P T t u)
  have HA1 := hide (fun (R : Res) (w0 u : World) (l : Loc R) (ho : Own R w0 u) => @anew R w0 u l ho 3 2 (by decide) [] (by simp) none 0 (fun _ => ⟨rfl, rfl⟩) (fun h => absurd rfl h))
  have HAW := hide (fun u => awakeSw u)
  have hc3 : (St.first (Lay.words ((3 : Nat) : Int) 2).toNat).count = 0 := rfl
  have HC3 := hide hc3
  clear hc3
  generalize St.first (Lay.words ((3 : Nat) : Int) 2).toNat = s0 at *
  rw [show ((3 : Nat) : Int) = 3 from rfl, List.length_nil] at HA1
  generalize ([(kOf 0 (3 : Nat), ([] : List Nat).getD 0 0, ())] : RL) = rl at *
  unfold mIn at RP
  generalize hmt : maySwp P T t = mt at *
  clear hmt
  have b1 := heap_alloc_at w (.cells #[.int .i64 P, .int .i64 T] 26)
  have O1 := hide (Own.boNew (m := w.heap.size) (o := layO P T) Loc.nought (Own.start w) b1 (Nat.le_refl _) (grown1 w (.cells #[.int .i64 P, .int .i64 T] 26)))
  have c0 : (w.alloc (.cells #[.int .i64 P, .int .i64 T] 26)).cell? ⟨w.heap.size, 0, none⟩ = some (.int .i64 P) := cell_of_heap b1
  have c1 : (w.alloc (.cells #[.int .i64 P, .int .i64 T] 26)).cell? ⟨w.heap.size, 1, none⟩ = some (.int .i64 T) := cell_of_heap b1
  clear b1
  go_enter Try.func5, Try.ntmps5
  go_wp2_with fail
  clear c0 c1
  generalize w.alloc (.cells #[.int .i64 P, .int .i64 T] 26) = w1 at *
  obtain ⟨bl, hbl⟩ : ∃ bl, w.heap.size = bl := ⟨_, rfl⟩
  rw [hbl] at O1
  rw [hbl]
  clear hbl
  have lB : Loc (Sep (BO bl (layO P T)) Nought) := Loc.bo.sep Loc.nought
  refine (NP.out _).mono ?_
  rintro e w2 ⟨pa, rfl, ha1, ha2, b2⟩
  have O2 := hide (O1.out.below lB b2)
  have HPA := hide ha2
  clear O1 ha2 b2 NP
  have c0 : w2.cell? ⟨bl, 0, none⟩ = some (.int .i64 P) := cell_of_heap (Own.boAt O2.out)
  have c1 : w2.cell? ⟨bl, 1, none⟩ = some (.int .i64 T) := cell_of_heap (Own.boAt O2.out)
  go_wp2_with fail
  refine (RP.out _).mono ?_
  rintro e w3 ⟨rfl, b3⟩
  have O3 := hide (O2.out.below lB b3)
  have HPA3 : Hid (pa = none ∨ ∃ m : Nat, pa = some ⟨m, 0, none⟩ ∧ w3.heap[m]? = some (swpO P T t 0 0 0) ∧ (1 : Int) ≤ P) := hide (HPA.out.imp id (fun ⟨m, h1, h2, h3⟩ => ⟨m, h1, (b3.block _ (lt_of_heap h2)).trans h2, h3⟩))
  clear c0 c1 O2 HPA b3 RP
  go_wp2_with fail
  refine (HA1.out _ _ _ Loc.nought (Own.start w3)).mono ?_
  rintro e w4 ⟨qa, ra', rr, rfl, o4⟩
  have O4 := hide o4
  have B34 := hide o4.back
  have BEH : Hid (∀ u, Below w3.heap.size w3 u → Below w.heap.size w u) := hide (fun u hu => O3.out.back.trans (hu.mono O3.out.back.size))
  have hlay : w4.heap[bl]? = some (layO P T) := (B34.out.block _ (lt_of_heap (Own.boAt O3.out))).trans (Own.boAt O3.out)
  have lO : Loc (Sep (AX qa 3 2 ra' rr s0 3 [] 1 rl) Nought) := Loc.ax.sep Loc.nought
  clear ha1 HA1
  go_upto_region 7 with fail
  have hne0 : Nonempty (Over w4) := ⟨⟨_, Below.refl _ _⟩⟩
  have u0 := fun u => over_cell (show w4.cell? ⟨bl, 0, none⟩ = some (.int .i64 P) from cell_of_heap hlay) u
  have u1 := fun u => over_cell (show w4.cell? ⟨bl, 1, none⟩ = some (.int .i64 T) from cell_of_heap hlay) u
  have LA := fun u : Over w4 => hide (layoutX (O4.out.below lO u.h))
  clear hlay o4
  by_cases hP3 : P = 3
  · have dT : (T == 2) = false := by rw [beq_eq_false_iff_ne]; omega
    have dP3 : (P == 3) = true := by simp [hP3]
    refine over_region (by kernel_rfl) (by kernel_rfl) ?_
    repeat (go_big_quiet_step (first | (go_at_call 26; exact over_call _ (LA _).out)))
    refine wpQuiet_nil ?_
    rintro _ ⟨u7, rfl⟩
    have O7 := hide (O4.out.below lO u7.h)
    have IP : Hid (IdleSwp qa (.pointer pa) u7.w') := hide (by
      rcases HPA3.out with rfl | ⟨m, rfl, hm, hl⟩
      · exact swpNilIdle qa _
      · exact swpNewIdle ((u7.h.block _ (Nat.lt_of_lt_of_le (lt_of_heap hm) B34.out.size)).trans ((B34.out.block _ (lt_of_heap hm)).trans hm)) hl (ArAt.of O7.out) (by omega))
    clear u0 u1 LA hne0 O4
    generalize u7.w' = w7 at *
    go_upto_region 11 with fail
    have Z8 := heap_alloc_at w7 (.cells #[.int .i64 0, .int .i64 0, .int .u64 0, .int .u64 0] 50)
    have B8 := grown1 w7 (.cells #[.int .i64 0, .int .i64 0, .int .u64 0, .int .u64 0] 50)
    have IP8 := hide (IdleSwp.grow IP.out B8)
    have O8 := hide (O7.out.below lO B8)
    clear IP O7 B8
    generalize w7.alloc (.cells #[.int .i64 0, .int .i64 0, .int .u64 0, .int .u64 0] 50) = w8 at *
    generalize w7.heap.size = bd at *
    have hne0 : Nonempty (Over w8) := ⟨⟨_, Below.refl _ _⟩⟩
    have v0 := fun u => over_cell (show w8.cell? ⟨bd, 0, none⟩ = some (.int .i64 0) from cell_of_heap Z8) u
    have v1 := fun u => over_cell (show w8.cell? ⟨bd, 1, none⟩ = some (.int .i64 0) from cell_of_heap Z8) u
    have v2 := fun u => over_cell (show w8.cell? ⟨bd, 2, none⟩ = some (.int .u64 0) from cell_of_heap Z8) u
    have v3 := fun u => over_cell (show w8.cell? ⟨bd, 3, none⟩ = some (.int .u64 0) from cell_of_heap Z8) u
    have SP := fun (u : Over w8) (qa' : Option Addr) (hq : HandQ qa qa') => IP8.out.1.step qa' hq u.w' u.h
    unfold noDid at SP
    have HSP := hide SP
    have DP := fun u : Over w8 => hide (IP8.out.1.done u.w' u.h)
    have FP := fun u : Over w8 => hide (IP8.out.2 u.w' u.h)
    have VS := fun u : Over w8 => hide (show Calls Try.prog 30 #[.pointer (some ⟨qa, 0, none⟩)] u.w' fun e w' => e = .returned (.pointer (some ⟨ra', 0, none⟩)) ∧ Below u.w'.heap.size u.w' w' from (storeX (O8.out.below lO u.h)).mono fun _ _ ⟨h1, h2⟩ => ⟨h1, by rw [h2]; exact Below.refl _ _⟩)
    have VC := fun u : Over w8 => hide (show Calls Try.prog 31 #[.pointer (some ⟨ra', 0, none⟩)] u.w' fun e w' => e = .returned (.int .i64 0) ∧ Below u.w'.heap.size u.w' w' from (countX (O8.out.below lO u.h)).mono fun _ _ ⟨h1, h2⟩ => ⟨by rw [h1, HC3.out], by rw [h2]; exact Below.refl _ _⟩)
    clear SP
    refine over_region (by kernel_rfl) (by kernel_rfl) ?_
    repeat (go_big_quiet_step (first | (go_at_call 27; exact over_call _ (HSP.out _ _ (by simp [HandQ]))) | (go_at_call 28; exact over_call _ (DP _).out) | (go_at_call 29; exact over_call _ (FP _).out) | (go_at_call 30; exact over_call _ (VS _).out) | (go_at_call 31; exact over_call _ (VC _).out) | (go_at_call 22; exact over_call _ (HAW.out _))))
    refine wpQuiet_nil ?_
    rintro _ ⟨u9, rfl⟩
    have HB := hide (BEH.out _ (O8.out.below lO u9.h).back)
    clear v0 v1 v2 v3 HSP DP FP VS VC IP8 hne0 O8 Z8
    generalize u9.w' = w9 at *
    go_wp2
    go_ret
    exact ⟨rfl, HB.out⟩
  · have dP : (P == 3) = false := by rw [beq_eq_false_iff_ne]; omega
    refine over_region (by kernel_rfl) (by kernel_rfl) ?_
    repeat (go_big_quiet_step (first | (go_at_call 26; exact over_call _ (LA _).out)))
    refine wpQuiet_nil ?_
    rintro _ ⟨u7, rfl⟩
    have O7 := hide (O4.out.below lO u7.h)
    have IP : Hid (IdleSwp qa (.pointer pa) u7.w') := hide (by
      rcases HPA3.out with rfl | ⟨m, rfl, hm, hl⟩
      · exact swpNilIdle qa _
      · exact swpNewIdle ((u7.h.block _ (Nat.lt_of_lt_of_le (lt_of_heap hm) B34.out.size)).trans ((B34.out.block _ (lt_of_heap hm)).trans hm)) hl (ArAt.of O7.out) (by omega))
    clear u0 u1 LA hne0 O4
    generalize u7.w' = w7 at *
    go_upto_region 11 with fail
    have Z8 := heap_alloc_at w7 (.cells #[.int .i64 0, .int .i64 0, .int .u64 0, .int .u64 0] 50)
    have B8 := grown1 w7 (.cells #[.int .i64 0, .int .i64 0, .int .u64 0, .int .u64 0] 50)
    have IP8 := hide (IdleSwp.grow IP.out B8)
    have O8 := hide (O7.out.below lO B8)
    clear IP O7 B8
    generalize w7.alloc (.cells #[.int .i64 0, .int .i64 0, .int .u64 0, .int .u64 0] 50) = w8 at *
    generalize w7.heap.size = bd at *
    have hne0 : Nonempty (Over w8) := ⟨⟨_, Below.refl _ _⟩⟩
    have v0 := fun u => over_cell (show w8.cell? ⟨bd, 0, none⟩ = some (.int .i64 0) from cell_of_heap Z8) u
    have v1 := fun u => over_cell (show w8.cell? ⟨bd, 1, none⟩ = some (.int .i64 0) from cell_of_heap Z8) u
    have v2 := fun u => over_cell (show w8.cell? ⟨bd, 2, none⟩ = some (.int .u64 0) from cell_of_heap Z8) u
    have v3 := fun u => over_cell (show w8.cell? ⟨bd, 3, none⟩ = some (.int .u64 0) from cell_of_heap Z8) u
    have SP := fun (u : Over w8) (qa' : Option Addr) (hq : HandQ qa qa') => IP8.out.1.step qa' hq u.w' u.h
    unfold noDid at SP
    have HSP := hide SP
    have DP := fun u : Over w8 => hide (IP8.out.1.done u.w' u.h)
    have FP := fun u : Over w8 => hide (IP8.out.2 u.w' u.h)
    have VS := fun u : Over w8 => hide (show Calls Try.prog 30 #[.pointer (some ⟨qa, 0, none⟩)] u.w' fun e w' => e = .returned (.pointer (some ⟨ra', 0, none⟩)) ∧ Below u.w'.heap.size u.w' w' from (storeX (O8.out.below lO u.h)).mono fun _ _ ⟨h1, h2⟩ => ⟨h1, by rw [h2]; exact Below.refl _ _⟩)
    have VC := fun u : Over w8 => hide (show Calls Try.prog 31 #[.pointer (some ⟨ra', 0, none⟩)] u.w' fun e w' => e = .returned (.int .i64 0) ∧ Below u.w'.heap.size u.w' w' from (countX (O8.out.below lO u.h)).mono fun _ _ ⟨h1, h2⟩ => ⟨by rw [h1, HC3.out], by rw [h2]; exact Below.refl _ _⟩)
    clear SP
    refine over_region (by kernel_rfl) (by kernel_rfl) ?_
    repeat (go_big_quiet_step (first | (go_at_call 27; exact over_call _ (HSP.out _ _ (by simp [HandQ]))) | (go_at_call 28; exact over_call _ (DP _).out) | (go_at_call 29; exact over_call _ (FP _).out) | (go_at_call 30; exact over_call _ (VS _).out) | (go_at_call 31; exact over_call _ (VC _).out) | (go_at_call 22; exact over_call _ (HAW.out _))))
    refine wpQuiet_nil ?_
    rintro _ ⟨u9, rfl⟩
    have HB := hide (BEH.out _ (O8.out.below lO u9.h).back)
    clear v0 v1 v2 v3 HSP DP FP VS VC IP8 hne0 O8 Z8
    generalize u9.w' = w9 at *
    go_wp2
    go_ret
    exact ⟨rfl, HB.out⟩

set_option maxRecDepth 100000 in
set_option maxHeartbeats 16000000 in
theorem main1 (t : Int) (w : World) :
    Calls Try.prog 5 #[.agg #[.int .i64 3, .int .i64 2], .int .i64 t] w fun e w' => e = .returned (.bool true) ∧ Below w.heap.size w w' := by
  have NP := hide (fun u => newSw 3 2 t u)
  have RP := hide (fun u => rightSwp 3 2 t u)
  have NP2 := hide (fun u => newSw 3 4 t u)
  have HA1 := hide (fun (R : Res) (w0 u : World) (l : Loc R) (ho : Own R w0 u) => @anew R w0 u l ho 3 2 (by decide) [] (by simp) none 0 (fun _ => ⟨rfl, rfl⟩) (fun h => absurd rfl h))
  have HAW := hide (fun u => awakeSw u)
  have hc3 : (St.first (Lay.words ((3 : Nat) : Int) 2).toNat).count = 0 := rfl
  have HC3 := hide hc3
  clear hc3
  generalize St.first (Lay.words ((3 : Nat) : Int) 2).toNat = s0 at *
  rw [show ((3 : Nat) : Int) = 3 from rfl, List.length_nil] at HA1
  generalize ([(kOf 0 (3 : Nat), ([] : List Nat).getD 0 0, ())] : RL) = rl at *
  unfold mIn at RP
  generalize hmt : maySwp 3 2 t = mt at *
  clear hmt
  have b1 := heap_alloc_at w (.cells #[.int .i64 3, .int .i64 2] 26)
  have O1 := hide (Own.boNew (m := w.heap.size) (o := layO 3 2) Loc.nought (Own.start w) b1 (Nat.le_refl _) (grown1 w (.cells #[.int .i64 3, .int .i64 2] 26)))
  have c0 : (w.alloc (.cells #[.int .i64 3, .int .i64 2] 26)).cell? ⟨w.heap.size, 0, none⟩ = some (.int .i64 3) := cell_of_heap b1
  have c1 : (w.alloc (.cells #[.int .i64 3, .int .i64 2] 26)).cell? ⟨w.heap.size, 1, none⟩ = some (.int .i64 2) := cell_of_heap b1
  clear b1
  go_enter Try.func5, Try.ntmps5
  go_wp2_with fail
  clear c0 c1
  generalize w.alloc (.cells #[.int .i64 3, .int .i64 2] 26) = w1 at *
  obtain ⟨bl, hbl⟩ : ∃ bl, w.heap.size = bl := ⟨_, rfl⟩
  rw [hbl] at O1
  rw [hbl]
  clear hbl
  have lB : Loc (Sep (BO bl (layO 3 2)) Nought) := Loc.bo.sep Loc.nought
  refine (NP.out _).mono ?_
  rintro e w2 ⟨pa, rfl, ha1, ha2, b2⟩
  have O2 := hide (O1.out.below lB b2)
  have HPA := hide ha2
  clear O1 ha2 b2 NP
  have c0 : w2.cell? ⟨bl, 0, none⟩ = some (.int .i64 3) := cell_of_heap (Own.boAt O2.out)
  have c1 : w2.cell? ⟨bl, 1, none⟩ = some (.int .i64 2) := cell_of_heap (Own.boAt O2.out)
  go_wp2_with fail
  refine (RP.out _).mono ?_
  rintro e w3 ⟨rfl, b3⟩
  have O3 := hide (O2.out.below lB b3)
  have HPA3 : Hid (pa = none ∨ ∃ m : Nat, pa = some ⟨m, 0, none⟩ ∧ w3.heap[m]? = some (swpO 3 2 t 0 0 0) ∧ (1 : Int) ≤ 3) := hide (HPA.out.imp id (fun ⟨m, h1, h2, h3⟩ => ⟨m, h1, (b3.block _ (lt_of_heap h2)).trans h2, h3⟩))
  clear c0 c1 O2 HPA b3 RP
  go_wp2_with fail
  refine (HA1.out _ _ _ lB O3.out).mono ?_
  rintro e w4 ⟨qa, ra', rr, rfl, o4⟩
  have O4 := hide o4
  have BEH : Hid (∀ u, Below w.heap.size w u → Below w.heap.size w u) := hide (fun u hu => hu)
  have lO : Loc (Sep (AX qa 3 2 ra' rr s0 3 [] 1 rl) (Sep (BO bl (layO 3 2)) Nought)) := Loc.ax.sep lB
  have hlay : w4.heap[bl]? = some (layO 3 2) := O4.out.has (R := Sep (AX qa 3 2 ra' rr s0 3 [] 1 rl) Nought) (by ac_rfl)
  clear ha1 HA1
  go_upto_region 7 with fail
  have hne0 : Nonempty (Over w4) := ⟨⟨_, Below.refl _ _⟩⟩
  have u0 := fun u => over_cell (show w4.cell? ⟨bl, 0, none⟩ = some (.int .i64 3) from cell_of_heap hlay) u
  have u1 := fun u => over_cell (show w4.cell? ⟨bl, 1, none⟩ = some (.int .i64 2) from cell_of_heap hlay) u
  have LA := fun u : Over w4 => hide (layoutX (O4.out.below lO u.h))
  clear hlay o4
  refine over_region (by kernel_rfl) (by kernel_rfl) ?_
  repeat (go_big_quiet_step (first | (go_at_call 26; exact over_call _ (LA _).out)))
  refine wpQuiet_nil ?_
  rintro _ ⟨u7, rfl⟩
  have O7 := hide (O4.out.below lO u7.h)
  clear u0 u1 LA hne0 O4
  generalize u7.w' = w6 at *
  have hl6 : w6.heap[bl]? = some (layO 3 2) := O7.out.has (R := Sep (AX qa 3 2 ra' rr s0 3 [] 1 rl) Nought) (by ac_rfl)
  have f7 : ∀ o, w6.frozen? ⟨bl, o, none⟩ = false := fun o => frozen_of_heap hl6
  have k7 : w6.cell? ⟨bl, 1, none⟩ = some (.int .i64 2) := cell_of_heap hl6
  have lB2 : Loc (Sep (BO bl (layO 3 4)) Nought) := Loc.bo.sep Loc.nought
  have O8 : Hid (Own (Sep (AX qa 3 2 ra' rr s0 3 [] 1 rl) (Sep (BO bl (layO 3 4)) Nought)) w (w6.setCell ⟨bl, 1, none⟩ (.int .i64 4))) :=
    hide ((Own.boSet (Loc.ax.sep Loc.nought) (O7.out.cast (R' := Sep (BO bl (layO 3 2)) (Sep (AX qa 3 2 ra' rr s0 3 [] 1 rl) Nought)) (by ac_rfl)) 1 (.int .i64 4)).cast (R' := Sep (AX qa 3 2 ra' rr s0 3 [] 1 rl) (Sep (BO bl (layO 3 4)) Nought)) (by show Sep (BO bl (layO 3 4)) _ = _; ac_rfl))
  have e8 : (w6.setCell ⟨bl, 1, none⟩ (.int .i64 4)).heap[bl]? = some (layO 3 4) := O8.out.has (R := Sep (AX qa 3 2 ra' rr s0 3 [] 1 rl) Nought) (by ac_rfl)
  have q0 : (w6.setCell ⟨bl, 1, none⟩ (.int .i64 4)).cell? ⟨bl, 0, none⟩ = some (.int .i64 3) := cell_of_heap e8
  have q1 : (w6.setCell ⟨bl, 1, none⟩ (.int .i64 4)).cell? ⟨bl, 1, none⟩ = some (.int .i64 4) := cell_of_heap e8
  clear hl6 e8 O7 lO
  have lO : Loc (Sep (AX qa 3 2 ra' rr s0 3 [] 1 rl) (Sep (BO bl (layO 3 4)) Nought)) := Loc.ax.sep lB2
  go_wp2_with fail
  clear f7 k7 q0 q1
  generalize w6.setCell ⟨bl, 1, none⟩ (.int .i64 4) = w8 at *
  refine (NP2.out _).mono ?_
  rintro e w7 ⟨pa2, rfl, _, kv, b10⟩
  have O7 := hide (O8.out.below lO b10)
  have IP : Hid (IdleSwp qa (.pointer pa2) w7) := hide (by
    rcases kv with rfl | ⟨m, rfl, hm, _⟩
    · exact swpNilIdle qa _
    · exact swpNewIdle hm (by omega) (ArAt.of O7.out) (.inr (by omega)))
  clear b10 kv O8 NP2
  go_upto_region 11 with fail
  have Z8 := heap_alloc_at w7 (.cells #[.int .i64 0, .int .i64 0, .int .u64 0, .int .u64 0] 50)
  have B8 := grown1 w7 (.cells #[.int .i64 0, .int .i64 0, .int .u64 0, .int .u64 0] 50)
  have IP8 := hide (IdleSwp.grow IP.out B8)
  have O8 := hide (O7.out.below lO B8)
  clear IP O7 B8
  generalize w7.alloc (.cells #[.int .i64 0, .int .i64 0, .int .u64 0, .int .u64 0] 50) = w8 at *
  generalize w7.heap.size = bd at *
  have hne0 : Nonempty (Over w8) := ⟨⟨_, Below.refl _ _⟩⟩
  have v0 := fun u => over_cell (show w8.cell? ⟨bd, 0, none⟩ = some (.int .i64 0) from cell_of_heap Z8) u
  have v1 := fun u => over_cell (show w8.cell? ⟨bd, 1, none⟩ = some (.int .i64 0) from cell_of_heap Z8) u
  have v2 := fun u => over_cell (show w8.cell? ⟨bd, 2, none⟩ = some (.int .u64 0) from cell_of_heap Z8) u
  have v3 := fun u => over_cell (show w8.cell? ⟨bd, 3, none⟩ = some (.int .u64 0) from cell_of_heap Z8) u
  have SP := fun (u : Over w8) (qa' : Option Addr) (hq : HandQ qa qa') => IP8.out.1.step qa' hq u.w' u.h
  unfold noDid at SP
  have HSP := hide SP
  have DP := fun u : Over w8 => hide (IP8.out.1.done u.w' u.h)
  have FP := fun u : Over w8 => hide (IP8.out.2 u.w' u.h)
  have VS := fun u : Over w8 => hide (show Calls Try.prog 30 #[.pointer (some ⟨qa, 0, none⟩)] u.w' fun e w' => e = .returned (.pointer (some ⟨ra', 0, none⟩)) ∧ Below u.w'.heap.size u.w' w' from (storeX (O8.out.below lO u.h)).mono fun _ _ ⟨h1, h2⟩ => ⟨h1, by rw [h2]; exact Below.refl _ _⟩)
  have VC := fun u : Over w8 => hide (show Calls Try.prog 31 #[.pointer (some ⟨ra', 0, none⟩)] u.w' fun e w' => e = .returned (.int .i64 0) ∧ Below u.w'.heap.size u.w' w' from (countX (O8.out.below lO u.h)).mono fun _ _ ⟨h1, h2⟩ => ⟨by rw [h1, HC3.out], by rw [h2]; exact Below.refl _ _⟩)
  clear SP
  refine over_region (by kernel_rfl) (by kernel_rfl) ?_
  repeat (go_big_quiet_step (first | (go_at_call 27; exact over_call _ (HSP.out _ _ (by simp [HandQ]))) | (go_at_call 28; exact over_call _ (DP _).out) | (go_at_call 29; exact over_call _ (FP _).out) | (go_at_call 30; exact over_call _ (VS _).out) | (go_at_call 31; exact over_call _ (VC _).out) | (go_at_call 22; exact over_call _ (HAW.out _))))
  refine wpQuiet_nil ?_
  rintro _ ⟨u9, rfl⟩
  have HB := hide (BEH.out _ (O8.out.below lO u9.h).back)
  clear v0 v1 v2 v3 HSP DP FP VS VC IP8 hne0 O8 Z8
  generalize u9.w' = w9 at *
  go_wp2
  go_ret
  exact ⟨rfl, HB.out⟩

theorem walk (P T : Int) (_hP : -9223372036854775808 ≤ P ∧ P ≤ 9223372036854775807) (_hT : -9223372036854775808 ≤ T ∧ T ≤ 9223372036854775807) (t : Int) (_ht : -9223372036854775808 ≤ t ∧ t ≤ 9223372036854775807) (w : World) :
    Calls Try.prog 5 #[.agg #[.int .i64 P, .int .i64 T], .int .i64 t] w fun e w' => e = .returned (.bool true) ∧ Below w.heap.size w w' := by
  by_cases e : P = 3 ∧ T = 2
  · obtain ⟨rfl, rfl⟩ := e
    exact main1 t w
  · exact main0 P T t (by omega) w

set_option maxRecDepth 100000 in
theorem lifted (os : Os) (started : os.Started) (H : Type) (enc : TypeId × Value → H) :
    ReturnsInHanded {} Try.checked os 5 .any (Rows.sweepMaySpec.pre6 enc Try.prog Try.f5 Rows.sweepMayRow.domain false) (Rows.sweepMaySpec.post enc Try.prog Try.f5 false true false false) := by
  refine returnsInHanded_of_change (C := Try.checked) own started (by kernel_rfl) Try.func5
    (ChangeSpec.witness6 (enc := enc) (C := Try.checked) false ⟨#[], #[.agg #[.int .i64 0, .int .i64 0], .int .i64 0], []⟩ 8 (by kernel_rfl) (by kernel_rfl) (by kernel_rfl) (by kernel_rfl)) ?_
  intro W base args ds gs before hval0 hW _ _
  have hval : ∀ (j : Nat) t v, Try.f5.params[j]? = some t → args[j]? = some v → Value.okWide Try.prog W .any base t v := hval0
  have hW' := hW
  obtain ⟨p, q, hA0, hV, rfl, hfz, hnd⟩ := hW
  have hA : DataW.TrodAll enc Try.prog W 0 (fun _ => true) true Try.f5.params.toList args.toList ds p := hA0
  rw [Try.params5] at hA hval
  obtain ⟨v0, vs0, d0, ds0, p0, q0, hargs, rfl, rfl, h0, r0⟩ := trodAll_cons hA
  obtain ⟨v1, vs1, d1, ds1, p1, q1, rfl, rfl, rfl, h1, r1⟩ := trodAll_cons r0
  obtain ⟨rfl, rfl, rfl⟩ := trodAll_nil r1
  obtain rfl : args = #[v0, v1] := by cases args; simp_all
  obtain ⟨rfl, rfl⟩ := trodVars_none hV
  have h0k := h0
  have lt0 : ∀ x ∈ p0, x.block < W.heap.size := fun x hx => hW'.lt x (by simp [hx])
  obtain ⟨l0_0, l0_1, rfl, f0_0, f0_1⟩ := open_layout (hval 0 26 v0 rfl rfl) h0
  obtain ⟨a1, rfl, rfl, rfl, w1⟩ := open_int Try.underlying3 (hval 1 3 v1 rfl rfl) h1
  clear hA0 hval0
  have hx1 := i64_bd w1
  refine (walk l0_0 l0_1 f0_0 f0_1 a1 hx1 W).mono fun e W' ⟨he, bel⟩ => ?_
  subst he
  exact ⟨_, rfl, _, _, _, [], _, [], hW', trodAll_mk1 (shut_bool Try.underlying4 _), (trodAll_cons_mk (Below.trod laidOut (by kernel_rfl) (of_decide_eq_true (by kernel_rfl)) h0k bel lt0) (trodAll_cons_mk (shut_int Try.underlying3 w1) trodAll_mk0)), rfl, bel.frame _, fun h => by cases h⟩

end Go.Proofs.Ytafamfjgehnddaa.sweepMay
namespace Go.Proofs.Ytafamfjgehnddaa

theorem sweepMay_holds : Rows.SweepMaySaid :=
  OpenClaim.holds_of_wide 5 Try.f5 rfl rfl rfl rfl rfl rfl rfl ⟨rfl, rfl, rfl, rfl, rfl⟩ rfl rfl rfl rfl rfl (by kernel_rfl) Try.func5 (by kernel_rfl)
    (of_decide_eq_true (by kernel_rfl)) (by unfold Func.isWrapper; first | (rw [if_pos (by decide +kernel)]; kernel_rfl) | (rw [if_neg (by decide +kernel)]; exact ⟨rfl, rfl⟩))
    (fun os started H enc _ => sweepMay.lifted os started H enc)
end Go.Proofs.Ytafamfjgehnddaa
