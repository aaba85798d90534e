/- Whether there is a machine of any arguments is the document's, in no arena, or one of another layout, nothing is done, no machine does nothing: the law LockMay answers true at every input, and its arguments read behind the call as they read before. -/
import Derived.Test.YtgenkjmcddjaoaaLK
import Derived.Test.YtgenkjmcddjaoaaLckRight
import Derived.Test.YtgenkjmcddjaoaaLayOpen
namespace Go.Proofs.Ytgenkjmcddjaoaa.lockMay
open Go.ChangeShapes Go.WideShapes Go.ChangeAt Go.RowKit

def layO (P T : Int) : Obj := .cells #[.int .i64 P, .int .i64 T] 26 (0, 0)
/-- What lies on the way: the law's layout. -/
structure On (bl : Nat) (P T : Int) (w0 w : World) : Prop where
  lay : w.heap[bl]? = some (layO P T)
  below : Below w0.heap.size w0 w
theorem On.grow {bl : Nat} {P T : Int} {w0 w w' : World} (h : On bl P T w0 w) (b : Below w.heap.size w w') : On bl P T w0 w' :=
  ⟨(b.block _ (lt_of_heap h.lay)).trans h.lay, h.below.trans (b.mono h.below.size)⟩

theorem newTk (P T t : Int) (u : World) : Calls Try.prog 26 #[.agg #[.int .i64 P, .int .i64 T], .int .i64 t] u fun e w' => ∃ pa : Option Addr, e = .returned (.pointer pa) ∧ pa.isSome = mayTake P T t ∧ (pa = none ∨ ∃ m : Nat, pa = some ⟨m, 0, none⟩ ∧ w'.heap[m]? = some (takeO P T false t) ∧ Lay.may P T = true) ∧ Below u.heap.size u w' := by
  cases h : mayTake P T t
  · exact (newTakeNo P T t h u).mono fun _ _ ⟨h1, h2⟩ => ⟨none, h1, rfl, .inl rfl, h2⟩
  · exact (newTakeYes P T t h u).mono fun _ _ ⟨m, h1, h2, _, h3⟩ => ⟨_, h1, rfl, .inr ⟨m, rfl, h2, by unfold mayTake at h; simp only [Bool.and_eq_true] at h; exact h.1⟩, h3⟩
theorem newLv (P T : Int) (u : World) : Calls Try.prog 22 #[.agg #[.int .i64 P, .int .i64 T]] u fun e w' => ∃ pa : Option Addr, e = .returned (.pointer pa) ∧ pa.isSome = Lay.may P T ∧ (pa = none ∨ ∃ m : Nat, pa = some ⟨m, 0, none⟩ ∧ w'.heap[m]? = some (leaveO P T false) ∧ Lay.may P T = true) ∧ Below u.heap.size u w' := by
  cases h : Lay.may P T
  · exact (newLeaveNo P T h u).mono fun _ _ ⟨h1, h2⟩ => ⟨none, h1, rfl, .inl rfl, h2⟩
  · exact (newLeaveYes P T h u).mono fun _ _ ⟨m, h1, h2, _, h3⟩ => ⟨_, h1, rfl, .inr ⟨m, rfl, h2, rfl⟩, h3⟩
theorem held1 {R : Res} {w0 w : World} {q p r : Nat} {P T : Int} {s : St} {pg : Nat} {ds : List Nat} {dn : Nat} {L : RL} (l : Loc R) (h : Own (Sep (AX q P T p r s pg ds dn L) R) w0 w) (hs : 2 < s.words.length) (x : Nat) (hx : s.words.getD 2 0 = x) (hT : (x : Int) ≤ T) (hT2 : T ≤ 1000) (v : Int) (hv : (x : Int) - 1 = v) :
    Calls Try.prog 25 #[.pointer (some ⟨q, 0, none⟩)] w fun e w' => e = .returned (.int .i64 v) ∧ Own (Sep (AX q P T p r s pg ds dn L) R) w0 w' := by
  have := heldX l h hs x hx hT hT2
  rw [hv] at this
  exact this

set_option maxRecDepth 100000 in
set_option maxHeartbeats 16000000 in
theorem main0 (P T t : Int) (hne : P ≠ 3 ∨ T ≠ 2) (w : World) :
    Calls Try.prog 5 #[.agg #[.int .i64 P, .int .i64 T], .int .i64 t] w fun e w' => e = .returned (.bool true) ∧ Below w.heap.size w w' := by
  have NP := hide (fun u => newTk P T t u)
  have NQ := hide (fun u => newLv P T u)
  have RP := hide (fun u => rightTake P T t u)
  have RQ := hide (fun u => rightLeave P T u)
  have HA1 := hide (fun (R : Res) (w0 u : World) (l : Loc R) (ho : Own R w0 u) => @anew R w0 u l ho 3 2 (by decide) [] (by simp) none 0 (fun _ => ⟨rfl, rfl⟩) (fun h => absurd rfl h))
  have HAW := hide (fun u => awake13 u)
  have HMT := hide (fun (h : Lay.may P T = true) => (Lay.may_iff.1 h).1)
  have hs3 : 2 < (St.first (Lay.words ((3 : Nat) : Int) 2).toNat).words.length := by decide
  have hz3 : (St.first (Lay.words ((3 : Nat) : Int) 2).toNat).words.getD 2 0 = 0 := by decide
  have hc3 : (St.first (Lay.words ((3 : Nat) : Int) 2).toNat).count = 0 := rfl
  have HS3 := hide hs3
  have HZ3 := hide hz3
  have HC3 := hide hc3
  clear hs3 hz3 hc3
  generalize St.first (Lay.words ((3 : Nat) : Int) 2).toNat = s0 at *
  rw [show ((3 : Nat) : Int) = 3 from rfl, List.length_nil] at HA1
  generalize ([(kOf 0 (3 : Nat), ([] : List Nat).getD 0 0, ())] : RL) = rl at *
  unfold mIn at RP RQ
  generalize hmt : mayTake P T t = mt at *
  generalize hml : Lay.may P T = ml at *
  clear hmt hml
  have O1 : Hid (On w.heap.size P T w (w.alloc (.cells #[.int .i64 P, .int .i64 T] 26))) := hide ⟨heap_alloc_at _ _, grown1 _ _⟩
  go_enter Try.func5, Try.ntmps5
  go_wp2
  generalize w.alloc (.cells #[.int .i64 P, .int .i64 T] 26) = w1 at *
  obtain ⟨bl, hbl⟩ : ∃ bl, w.heap.size = bl := ⟨_, rfl⟩
  have HBL := hide hbl
  rw [hbl] at O1
  rw [hbl]
  clear hbl
  have J1 := hide (O1.out.grow ((Alike.drewN w1 1).below _))
  have hne0 : Nonempty (Mem (On bl P T w)) := ⟨⟨_, J1.out⟩⟩
  have U0 : ∀ u : Mem (On bl P T w), u.w'.cell? ⟨bl, 0, none⟩ = some (.int .i64 P) := fun u => cell_of_heap u.h.lay
  have U1 : ∀ u : Mem (On bl P T w), u.w'.cell? ⟨bl, 1, none⟩ = some (.int .i64 T) := fun u => cell_of_heap u.h.lay
  refine region_start (J := On bl P T w) (by kernel_rfl) ?_
  refine stretch (fuel := 4) (by kernel_rfl) (fun _ _ _ _ _ h => h) J1.out [0, 1, 3] (by kernel_rfl) ?_
  simp only [List.filterMap_cons, List.filterMap_nil, List.getElem?_toArray, List.getElem?_cons_zero, List.getElem?_cons_succ]
  show wpQuiet _ _ _ _ [_, _, _] _
  repeat (go_big_quiet_step (fail))
  refine wpQuiet_nil ?_
  refine wpAnyJ_writer (i := 2) rfl (by kernel_rfl) (fun K' hK => ?_)
  go_simp
  refine (NP.out _).mono ?_
  rintro e w2 ⟨pa, rfl, ha1, ha2, b2⟩
  have J2 := hide (J1.out.grow b2)
  have HPA := hide ha2
  refine hK _ _ J2.out ?_
  clear hK K' J1 O1 ha2 b2
  refine wpAnyJ_writer (i := 4) rfl (by kernel_rfl) (fun K' hK => ?_)
  go_simp
  refine (NQ.out _).mono ?_
  rintro e w3 ⟨pb, rfl, hb1, hb2, b3⟩
  have J3 := hide (J2.out.grow b3)
  have HPB := hide hb2
  have HPA3 : Hid (pa = none ∨ ∃ m : Nat, pa = some ⟨m, 0, none⟩ ∧ w3.heap[m]? = some (takeO P T false t) ∧ ml = true) := hide (HPA.out.imp id (fun ⟨m, h1, h2, h3⟩ => ⟨m, h1, (b3.block _ (lt_of_heap h2)).trans h2, h3⟩))
  refine hK _ _ J3.out ?_
  clear hK K' b3 J2 NP NQ hb2 HPA
  refine stretch (fuel := 0) (by kernel_rfl) (fun _ _ _ _ _ h => h) J3.out [5, 6] (by kernel_rfl) ?_
  simp only [List.filterMap_cons, List.filterMap_nil, List.getElem?_toArray, List.getElem?_cons_zero, List.getElem?_cons_succ]
  show wpQuiet _ _ _ _ [_, _] _
  repeat (go_big_quiet_step (fail))
  refine wpQuiet_nil ?_
  refine wpAnyJ_done (by kernel_rfl) ?_
  clear U0 U1 hne0
  have c0 : w3.cell? ⟨bl, 0, none⟩ = some (.int .i64 P) := cell_of_heap J3.out.lay
  have c1 : w3.cell? ⟨bl, 1, none⟩ = some (.int .i64 T) := cell_of_heap J3.out.lay
  go_wp2_with fail
  refine (RP.out _).mono ?_
  rintro e w4 ⟨rfl, b4⟩
  have J4 := hide (J3.out.grow b4)
  clear J3 c0 c1
  have c0 : w4.cell? ⟨bl, 0, none⟩ = some (.int .i64 P) := cell_of_heap J4.out.lay
  have c1 : w4.cell? ⟨bl, 1, none⟩ = some (.int .i64 T) := cell_of_heap J4.out.lay
  go_wp2_with fail
  refine (RQ.out _).mono ?_
  rintro e w5 ⟨rfl, b5⟩
  have J5 := hide (J4.out.grow b5)
  have BEH5 := hide J5.out.below
  have HB35 := hide (b4.trans (b5.mono b4.size))
  clear b4 b5 J4 c0 c1 RP RQ
  go_wp2_with fail
  refine (HA1.out _ _ _ Loc.nought (Own.start w5)).mono ?_
  rintro e w6 ⟨qa, ra', rr, rfl, o6⟩
  have O6 := hide o6
  have HB56 := hide o6.back
  have J6 := hide (J5.out.grow o6.back)
  have lO : Loc (Sep (AX qa 3 2 ra' rr s0 3 [] 1 rl) Nought) := Loc.ax.sep Loc.nought
  clear o6 J5 HA1
  clear ha1 hb1
  go_wp2
  have hne0 : Nonempty (Over w6) := ⟨⟨_, Below.refl _ _⟩⟩
  have u0 := fun u => over_cell (show w6.cell? ⟨bl, 0, none⟩ = some (.int .i64 P) from cell_of_heap J6.out.lay) u
  have u1 := fun u => over_cell (show w6.cell? ⟨bl, 1, none⟩ = some (.int .i64 T) from cell_of_heap J6.out.lay) u
  have LA := fun u : Over w6 => hide (layoutX (O6.out.below lO u.h))
  by_cases hP3 : P = 3
  · have dT : (T == 2) = false := by rw [beq_eq_false_iff_ne]; omega
    have dP3 : (P == 3) = true := by simp [hP3]
    refine over_region (by kernel_rfl) (by kernel_rfl) ?_
    repeat (go_big_quiet_step (first | (go_at_call 31; exact over_call _ (LA _).out)))
    refine wpQuiet_nil ?_
    rintro _ ⟨u7, rfl⟩
    have O7 := hide (O6.out.below lO u7.h)
    have J7 := hide (J6.out.grow u7.h)
    have HB37 := hide (HB35.out.trans ((HB56.out.trans (u7.h.mono HB56.out.size)).mono HB35.out.size))
    have IP : Hid (IdleTake qa (.pointer pa) u7.w') := hide (by
      rcases HPA3.out with rfl | ⟨m, rfl, hm, hl⟩
      · exact takeNilIdle qa _
      · exact takeNewIdle ((HB37.out.block _ (lt_of_heap hm)).trans hm) (HMT.out hl) (ArAt.of O7.out) (by omega))
    have IQ : Hid (IdleLeave qa (.pointer pb) u7.w') := hide (by
      rcases HPB.out with rfl | ⟨m, rfl, hm, hl⟩
      · exact leaveNilIdle qa _
      · exact leaveNewIdle ((HB37.out.block _ (lt_of_heap hm)).trans hm) (HMT.out hl) (ArAt.of O7.out) (by omega))
    clear u0 u1 LA hne0 O6 J6 HB37
    generalize u7.w' = w7 at *
    have BEH : Hid (∀ u, Below w5.heap.size w5 u → Below w.heap.size w u) := hide (fun u hu => BEH5.out.trans (hu.mono BEH5.out.size))
    have lN := Loc.nought
    go_wp2
    have Z8 := heap_alloc_at w7 (.cells #[.int .i64 0, .int .i64 0, .int .u64 0, .int .u64 0] 50)
    have B8 := grown1 w7 (.cells #[.int .i64 0, .int .i64 0, .int .u64 0, .int .u64 0] 50)
    have IP8 := hide (IP.out.grow B8)
    have IQ8 := hide (IQ.out.grow B8)
    have O8 := hide (O7.out.below lO B8)
    clear IP IQ O7 J7 B8
    generalize w7.alloc (.cells #[.int .i64 0, .int .i64 0, .int .u64 0, .int .u64 0] 50) = w8 at *
    generalize w7.heap.size = bd at *
    have hne0 : Nonempty (Over w8) := ⟨⟨_, Below.refl _ _⟩⟩
    have v0 := fun u => over_cell (show w8.cell? ⟨bd, 0, none⟩ = some (.int .i64 0) from cell_of_heap Z8) u
    have v1 := fun u => over_cell (show w8.cell? ⟨bd, 1, none⟩ = some (.int .i64 0) from cell_of_heap Z8) u
    have v2 := fun u => over_cell (show w8.cell? ⟨bd, 2, none⟩ = some (.int .u64 0) from cell_of_heap Z8) u
    have v3 := fun u => over_cell (show w8.cell? ⟨bd, 3, none⟩ = some (.int .u64 0) from cell_of_heap Z8) u
    have SP := fun (u : Over w8) (qa' : Option Addr) (hq : HandQ qa qa') => IP8.out.step qa' hq u.w' u.h
    have SQ := fun (u : Over w8) (qa' : Option Addr) (hq : HandQ qa qa') => IQ8.out.step qa' hq u.w' u.h
    unfold noDid at SP SQ
    have HSP := hide SP
    have HSQ := hide SQ
    have DP := fun u : Over w8 => hide (IP8.out.done u.w' u.h)
    have DQ := fun u : Over w8 => hide (IQ8.out.done u.w' u.h)
    clear SP SQ
    refine over_region (by kernel_rfl) (by kernel_rfl) ?_
    repeat (go_big_quiet_step (first | (go_at_call 27; exact over_call _ (HSP.out _ _ (by simp [HandQ]))) | (go_at_call 23; exact over_call _ (HSQ.out _ _ (by simp [HandQ]))) | (go_at_call 28; exact over_call _ (DP _).out) | (go_at_call 24; exact over_call _ (DQ _).out)))
    refine wpQuiet_nil ?_
    rintro _ ⟨u9, rfl⟩
    have O9 := hide (O8.out.below lO u9.h)
    clear v0 v1 v2 v3 HSP HSQ DP DQ IP8 IQ8 hne0 O8 Z8
    generalize u9.w' = w9 at *
    go_wp2_with fail
    refine (storeX O9.out).mono ?_
    rintro e w10 ⟨rfl, rfl⟩
    go_wp2_with fail
    refine (countX O9.out).mono ?_
    rintro e w10 ⟨rfl, rfl⟩
    rw [HC3.out]
    go_wp2_with fail
    refine (heldNil _).mono ?_
    rintro e w11 ⟨rfl, b11⟩
    have O11 := hide (O9.out.below lO b11)
    clear b11 O9
    go_wp2_with fail
    refine (held1 lN O11.out HS3.out 0 HZ3.out (by omega) (by omega) (-1) (by omega)).mono ?_
    rintro e w12 ⟨rfl, o12⟩
    have O12 := hide o12
    clear o12 O11
    go_wp2_with fail
    refine (HAW.out _).mono ?_
    rintro e w13 ⟨rfl, b13⟩
    have HB13 := hide (BEH.out _ (O12.out.below lO b13).back)
    clear b13 O12
    go_wp2
    go_ret
    exact ⟨rfl, HB13.out⟩
  · have dP : (P == 3) = false := by rw [beq_eq_false_iff_ne]; omega
    refine over_region (by kernel_rfl) (by kernel_rfl) ?_
    repeat (go_big_quiet_step (first | (go_at_call 31; exact over_call _ (LA _).out)))
    refine wpQuiet_nil ?_
    rintro _ ⟨u7, rfl⟩
    have O7 := hide (O6.out.below lO u7.h)
    have J7 := hide (J6.out.grow u7.h)
    have HB37 := hide (HB35.out.trans ((HB56.out.trans (u7.h.mono HB56.out.size)).mono HB35.out.size))
    have IP : Hid (IdleTake qa (.pointer pa) u7.w') := hide (by
      rcases HPA3.out with rfl | ⟨m, rfl, hm, hl⟩
      · exact takeNilIdle qa _
      · exact takeNewIdle ((HB37.out.block _ (lt_of_heap hm)).trans hm) (HMT.out hl) (ArAt.of O7.out) (by omega))
    have IQ : Hid (IdleLeave qa (.pointer pb) u7.w') := hide (by
      rcases HPB.out with rfl | ⟨m, rfl, hm, hl⟩
      · exact leaveNilIdle qa _
      · exact leaveNewIdle ((HB37.out.block _ (lt_of_heap hm)).trans hm) (HMT.out hl) (ArAt.of O7.out) (by omega))
    clear u0 u1 LA hne0 O6 J6 HB37
    generalize u7.w' = w7 at *
    have BEH : Hid (∀ u, Below w5.heap.size w5 u → Below w.heap.size w u) := hide (fun u hu => BEH5.out.trans (hu.mono BEH5.out.size))
    have lN := Loc.nought
    go_wp2
    have Z8 := heap_alloc_at w7 (.cells #[.int .i64 0, .int .i64 0, .int .u64 0, .int .u64 0] 50)
    have B8 := grown1 w7 (.cells #[.int .i64 0, .int .i64 0, .int .u64 0, .int .u64 0] 50)
    have IP8 := hide (IP.out.grow B8)
    have IQ8 := hide (IQ.out.grow B8)
    have O8 := hide (O7.out.below lO B8)
    clear IP IQ O7 J7 B8
    generalize w7.alloc (.cells #[.int .i64 0, .int .i64 0, .int .u64 0, .int .u64 0] 50) = w8 at *
    generalize w7.heap.size = bd at *
    have hne0 : Nonempty (Over w8) := ⟨⟨_, Below.refl _ _⟩⟩
    have v0 := fun u => over_cell (show w8.cell? ⟨bd, 0, none⟩ = some (.int .i64 0) from cell_of_heap Z8) u
    have v1 := fun u => over_cell (show w8.cell? ⟨bd, 1, none⟩ = some (.int .i64 0) from cell_of_heap Z8) u
    have v2 := fun u => over_cell (show w8.cell? ⟨bd, 2, none⟩ = some (.int .u64 0) from cell_of_heap Z8) u
    have v3 := fun u => over_cell (show w8.cell? ⟨bd, 3, none⟩ = some (.int .u64 0) from cell_of_heap Z8) u
    have SP := fun (u : Over w8) (qa' : Option Addr) (hq : HandQ qa qa') => IP8.out.step qa' hq u.w' u.h
    have SQ := fun (u : Over w8) (qa' : Option Addr) (hq : HandQ qa qa') => IQ8.out.step qa' hq u.w' u.h
    unfold noDid at SP SQ
    have HSP := hide SP
    have HSQ := hide SQ
    have DP := fun u : Over w8 => hide (IP8.out.done u.w' u.h)
    have DQ := fun u : Over w8 => hide (IQ8.out.done u.w' u.h)
    clear SP SQ
    refine over_region (by kernel_rfl) (by kernel_rfl) ?_
    repeat (go_big_quiet_step (first | (go_at_call 27; exact over_call _ (HSP.out _ _ (by simp [HandQ]))) | (go_at_call 23; exact over_call _ (HSQ.out _ _ (by simp [HandQ]))) | (go_at_call 28; exact over_call _ (DP _).out) | (go_at_call 24; exact over_call _ (DQ _).out)))
    refine wpQuiet_nil ?_
    rintro _ ⟨u9, rfl⟩
    have O9 := hide (O8.out.below lO u9.h)
    clear v0 v1 v2 v3 HSP HSQ DP DQ IP8 IQ8 hne0 O8 Z8
    generalize u9.w' = w9 at *
    go_wp2_with fail
    refine (storeX O9.out).mono ?_
    rintro e w10 ⟨rfl, rfl⟩
    go_wp2_with fail
    refine (countX O9.out).mono ?_
    rintro e w10 ⟨rfl, rfl⟩
    rw [HC3.out]
    go_wp2_with fail
    refine (heldNil _).mono ?_
    rintro e w11 ⟨rfl, b11⟩
    have O11 := hide (O9.out.below lO b11)
    clear b11 O9
    go_wp2_with fail
    refine (held1 lN O11.out HS3.out 0 HZ3.out (by omega) (by omega) (-1) (by omega)).mono ?_
    rintro e w12 ⟨rfl, o12⟩
    have O12 := hide o12
    clear o12 O11
    go_wp2_with fail
    refine (HAW.out _).mono ?_
    rintro e w13 ⟨rfl, b13⟩
    have HB13 := hide (BEH.out _ (O12.out.below lO b13).back)
    clear b13 O12
    go_wp2
    go_ret
    exact ⟨rfl, HB13.out⟩

set_option maxRecDepth 100000 in
set_option maxHeartbeats 16000000 in
theorem main1 (t : Int) (w : World) :
    Calls Try.prog 5 #[.agg #[.int .i64 3, .int .i64 2], .int .i64 t] w fun e w' => e = .returned (.bool true) ∧ Below w.heap.size w w' := by
  have NP := hide (fun u => newTk 3 2 t u)
  have NQ := hide (fun u => newLv 3 2 u)
  have RP := hide (fun u => rightTake 3 2 t u)
  have RQ := hide (fun u => rightLeave 3 2 u)
  have NP2 := hide (fun u => newTk 4 2 t u)
  have NQ2 := hide (fun u => newLv 4 2 u)
  have HA1 := hide (fun (R : Res) (w0 u : World) (l : Loc R) (ho : Own R w0 u) => @anew R w0 u l ho 3 2 (by decide) [] (by simp) none 0 (fun _ => ⟨rfl, rfl⟩) (fun h => absurd rfl h))
  have HAW := hide (fun u => awake13 u)
  have HMT := hide (fun (h : Lay.may 3 2 = true) => (Lay.may_iff.1 h).1)
  have hs3 : 2 < (St.first (Lay.words ((3 : Nat) : Int) 2).toNat).words.length := by decide
  have hz3 : (St.first (Lay.words ((3 : Nat) : Int) 2).toNat).words.getD 2 0 = 0 := by decide
  have hc3 : (St.first (Lay.words ((3 : Nat) : Int) 2).toNat).count = 0 := rfl
  have HS3 := hide hs3
  have HZ3 := hide hz3
  have HC3 := hide hc3
  clear hs3 hz3 hc3
  generalize St.first (Lay.words ((3 : Nat) : Int) 2).toNat = s0 at *
  rw [show ((3 : Nat) : Int) = 3 from rfl, List.length_nil] at HA1
  generalize ([(kOf 0 (3 : Nat), ([] : List Nat).getD 0 0, ())] : RL) = rl at *
  unfold mIn at RP RQ
  generalize hmt : mayTake 3 2 t = mt at *
  generalize hml : Lay.may 3 2 = ml at *
  clear hmt hml
  have O1 : Hid (On w.heap.size 3 2 w (w.alloc (.cells #[.int .i64 3, .int .i64 2] 26))) := hide ⟨heap_alloc_at _ _, grown1 _ _⟩
  go_enter Try.func5, Try.ntmps5
  go_wp2
  generalize w.alloc (.cells #[.int .i64 3, .int .i64 2] 26) = w1 at *
  obtain ⟨bl, hbl⟩ : ∃ bl, w.heap.size = bl := ⟨_, rfl⟩
  have HBL := hide hbl
  rw [hbl] at O1
  rw [hbl]
  clear hbl
  have J1 := hide (O1.out.grow ((Alike.drewN w1 1).below _))
  have hne0 : Nonempty (Mem (On bl 3 2 w)) := ⟨⟨_, J1.out⟩⟩
  have U0 : ∀ u : Mem (On bl 3 2 w), u.w'.cell? ⟨bl, 0, none⟩ = some (.int .i64 3) := fun u => cell_of_heap u.h.lay
  have U1 : ∀ u : Mem (On bl 3 2 w), u.w'.cell? ⟨bl, 1, none⟩ = some (.int .i64 2) := fun u => cell_of_heap u.h.lay
  refine region_start (J := On bl 3 2 w) (by kernel_rfl) ?_
  refine stretch (fuel := 4) (by kernel_rfl) (fun _ _ _ _ _ h => h) J1.out [0, 1, 3] (by kernel_rfl) ?_
  simp only [List.filterMap_cons, List.filterMap_nil, List.getElem?_toArray, List.getElem?_cons_zero, List.getElem?_cons_succ]
  show wpQuiet _ _ _ _ [_, _, _] _
  repeat (go_big_quiet_step (fail))
  refine wpQuiet_nil ?_
  refine wpAnyJ_writer (i := 2) rfl (by kernel_rfl) (fun K' hK => ?_)
  go_simp
  refine (NP.out _).mono ?_
  rintro e w2 ⟨pa, rfl, ha1, ha2, b2⟩
  have J2 := hide (J1.out.grow b2)
  have HPA := hide ha2
  refine hK _ _ J2.out ?_
  clear hK K' J1 O1 ha2 b2
  refine wpAnyJ_writer (i := 4) rfl (by kernel_rfl) (fun K' hK => ?_)
  go_simp
  refine (NQ.out _).mono ?_
  rintro e w3 ⟨pb, rfl, hb1, hb2, b3⟩
  have J3 := hide (J2.out.grow b3)
  have HPB := hide hb2
  have HPA3 : Hid (pa = none ∨ ∃ m : Nat, pa = some ⟨m, 0, none⟩ ∧ w3.heap[m]? = some (takeO 3 2 false t) ∧ ml = true) := hide (HPA.out.imp id (fun ⟨m, h1, h2, h3⟩ => ⟨m, h1, (b3.block _ (lt_of_heap h2)).trans h2, h3⟩))
  refine hK _ _ J3.out ?_
  clear hK K' b3 J2 NP NQ hb2 HPA
  refine stretch (fuel := 0) (by kernel_rfl) (fun _ _ _ _ _ h => h) J3.out [5, 6] (by kernel_rfl) ?_
  simp only [List.filterMap_cons, List.filterMap_nil, List.getElem?_toArray, List.getElem?_cons_zero, List.getElem?_cons_succ]
  show wpQuiet _ _ _ _ [_, _] _
  repeat (go_big_quiet_step (fail))
  refine wpQuiet_nil ?_
  refine wpAnyJ_done (by kernel_rfl) ?_
  clear U0 U1 hne0
  have c0 : w3.cell? ⟨bl, 0, none⟩ = some (.int .i64 3) := cell_of_heap J3.out.lay
  have c1 : w3.cell? ⟨bl, 1, none⟩ = some (.int .i64 2) := cell_of_heap J3.out.lay
  go_wp2_with fail
  refine (RP.out _).mono ?_
  rintro e w4 ⟨rfl, b4⟩
  have J4 := hide (J3.out.grow b4)
  clear J3 c0 c1
  have c0 : w4.cell? ⟨bl, 0, none⟩ = some (.int .i64 3) := cell_of_heap J4.out.lay
  have c1 : w4.cell? ⟨bl, 1, none⟩ = some (.int .i64 2) := cell_of_heap J4.out.lay
  go_wp2_with fail
  refine (RQ.out _).mono ?_
  rintro e w5 ⟨rfl, b5⟩
  have J5 := hide (J4.out.grow b5)
  have HB35 := hide (b4.trans (b5.mono b4.size))
  clear b4 b5 J4 c0 c1 RP RQ
  go_wp2_with fail
  have lB : Loc (Sep (BO bl (layO 3 2)) Nought) := Loc.bo.sep Loc.nought
  have O5 : Hid (Own (Sep (BO bl (layO 3 2)) Nought) w w5) := hide ⟨fun x => x = bl, ⟨fun x => x = bl, fun _ => False, ⟨J5.out.lay, fun _ => Iff.rfl⟩, fun _ h => h, fun _ _ h => h, fun x => ⟨.inl, fun h => h.elim id False.elim⟩⟩, fun x hx => by rw [hx, ← HBL.out]; exact Nat.le_refl _, J5.out.below⟩
  refine (HA1.out _ _ _ lB O5.out).mono ?_
  rintro e w6 ⟨qa, ra', rr, rfl, o6⟩
  have O6 := hide o6
  have J6 : Hid (On bl 3 2 w w6) := hide ⟨o6.has (R := Sep (AX qa 3 2 ra' rr s0 3 [] 1 rl) Nought) (by ac_rfl), o6.back⟩
  have lO : Loc (Sep (AX qa 3 2 ra' rr s0 3 [] 1 rl) (Sep (BO bl (layO 3 2)) Nought)) := Loc.ax.sep lB
  clear o6 J5 HA1 O5
  clear ha1 hb1
  go_wp2
  have hne0 : Nonempty (Over w6) := ⟨⟨_, Below.refl _ _⟩⟩
  have u0 := fun u => over_cell (show w6.cell? ⟨bl, 0, none⟩ = some (.int .i64 3) from cell_of_heap J6.out.lay) u
  have u1 := fun u => over_cell (show w6.cell? ⟨bl, 1, none⟩ = some (.int .i64 2) from cell_of_heap J6.out.lay) u
  have LA := fun u : Over w6 => hide (layoutX (O6.out.below lO u.h))
  refine over_region (by kernel_rfl) (by kernel_rfl) ?_
  repeat (go_big_quiet_step (first | (go_at_call 31; exact over_call _ (LA _).out)))
  refine wpQuiet_nil ?_
  rintro _ ⟨u7, rfl⟩
  have O7 := hide (O6.out.below lO u7.h)
  have J7 := hide (J6.out.grow u7.h)
  have HU7 := hide u7.h
  clear u0 u1 LA hne0 J6
  generalize u7.w' = w7 at *
  have f7 : ∀ o, w7.frozen? ⟨bl, o, none⟩ = false := fun o => frozen_of_heap J7.out.lay
  have k7 : w7.cell? ⟨bl, 0, none⟩ = some (.int .i64 3) := cell_of_heap J7.out.lay
  have e8 := heap_setCell_at (o := 0) J7.out.lay (.int .i64 4)
  have J8 : Hid (On bl 4 2 w (w7.setCell ⟨bl, 0, none⟩ (.int .i64 4))) := hide ⟨e8, J7.out.below.setCell (p := ⟨bl, 0, none⟩) (by rw [HBL.out]; exact Nat.le_refl _) _⟩
  have lB2 : Loc (Sep (BO bl (layO 4 2)) Nought) := Loc.bo.sep Loc.nought
  have O8 : Hid (Own (Sep (AX qa 3 2 ra' rr s0 3 [] 1 rl) (Sep (BO bl (layO 4 2)) Nought)) w (w7.setCell ⟨bl, 0, none⟩ (.int .i64 4))) :=
    hide ((Own.boSet (Loc.ax.sep Loc.nought) (O7.out.cast (R' := Sep (BO bl (layO 3 2)) (Sep (AX qa 3 2 ra' rr s0 3 [] 1 rl) Nought)) (by ac_rfl)) 0 (.int .i64 4)).cast (R' := Sep (AX qa 3 2 ra' rr s0 3 [] 1 rl) (Sep (BO bl (layO 4 2)) Nought)) (by show Sep (BO bl (layO 4 2)) _ = _; ac_rfl))
  clear e8 O7 O6 lO
  have lO : Loc (Sep (AX qa 3 2 ra' rr s0 3 [] 1 rl) (Sep (BO bl (layO 4 2)) Nought)) := Loc.ax.sep lB2
  go_wp2
  clear f7 k7 J7
  generalize w7.setCell ⟨bl, 0, none⟩ (.int .i64 4) = w8 at *
  have J1 := hide (J8.out.grow ((Alike.drewN w8 1).below _))
  have O1 := hide (O8.out.below lO ((Alike.drewN w8 1).below _))
  clear J8 O8
  have hne1 : Nonempty (Mem (On bl 4 2 w)) := ⟨⟨_, J1.out⟩⟩
  have U0 : ∀ u : Mem (On bl 4 2 w), u.w'.cell? ⟨bl, 0, none⟩ = some (.int .i64 4) := fun u => cell_of_heap u.h.lay
  have U1 : ∀ u : Mem (On bl 4 2 w), u.w'.cell? ⟨bl, 1, none⟩ = some (.int .i64 2) := fun u => cell_of_heap u.h.lay
  refine region_start (J := On bl 4 2 w) (by kernel_rfl) ?_
  refine stretch (fuel := 4) (by kernel_rfl) (fun _ _ _ _ _ h => h) J1.out [0, 1, 3] (by kernel_rfl) ?_
  simp only [List.filterMap_cons, List.filterMap_nil, List.getElem?_toArray, List.getElem?_cons_zero, List.getElem?_cons_succ]
  show wpQuiet _ _ _ _ [_, _, _] _
  repeat (go_big_quiet_step (fail))
  refine wpQuiet_nil ?_
  refine wpAnyJ_writer (i := 2) rfl (by kernel_rfl) (fun K' hK => ?_)
  go_simp
  refine (NP2.out _).mono ?_
  rintro e w10 ⟨pa2, rfl, _, kv, b10⟩
  have J2 := hide (J1.out.grow b10)
  have O2 := hide (O1.out.below lO b10)
  have IP2 : Hid (IdleTake qa (.pointer pa2) w10) := hide (by
    rcases kv with rfl | ⟨m, rfl, hm, _⟩
    · exact takeNilIdle qa _
    · exact takeNewIdle hm (by omega) (ArAt.of O2.out) (.inl (by omega)))
  refine hK _ _ J2.out ?_
  clear hK K' b10 J1 O1 kv
  refine wpAnyJ_writer (i := 4) rfl (by kernel_rfl) (fun K' hK => ?_)
  go_simp
  refine (NQ2.out _).mono ?_
  rintro e w11 ⟨pb2, rfl, _, kv, b11⟩
  have J7 := hide (J2.out.grow b11)
  have O7 := hide (O2.out.below lO b11)
  have IP := hide (IP2.out.grow b11)
  have IQ : Hid (IdleLeave qa (.pointer pb2) w11) := hide (by
    rcases kv with rfl | ⟨m, rfl, hm, _⟩
    · exact leaveNilIdle qa _
    · exact leaveNewIdle hm (by omega) (ArAt.of O7.out) (.inl (by omega)))
  refine hK _ _ J7.out ?_
  clear hK K' b11 J2 O2 kv IP2
  refine stretch (fuel := 0) (by kernel_rfl) (fun _ _ _ _ _ h => h) J7.out [5, 6] (by kernel_rfl) ?_
  simp only [List.filterMap_cons, List.filterMap_nil, List.getElem?_toArray, List.getElem?_cons_zero, List.getElem?_cons_succ]
  show wpQuiet _ _ _ _ [_, _] _
  repeat (go_big_quiet_step (fail))
  refine wpQuiet_nil ?_
  refine wpAnyJ_done (by kernel_rfl) ?_
  clear U0 U1 hne1 NP2 NQ2
  generalize w11 = w7 at *
  have BEH : Hid (∀ u, Below w.heap.size w u → Below w.heap.size w u) := hide (fun u hu => hu)
  have lN := lB2
  go_wp2
  have Z8 := heap_alloc_at w7 (.cells #[.int .i64 0, .int .i64 0, .int .u64 0, .int .u64 0] 50)
  have B8 := grown1 w7 (.cells #[.int .i64 0, .int .i64 0, .int .u64 0, .int .u64 0] 50)
  have IP8 := hide (IP.out.grow B8)
  have IQ8 := hide (IQ.out.grow B8)
  have O8 := hide (O7.out.below lO B8)
  clear IP IQ O7 J7 B8
  generalize w7.alloc (.cells #[.int .i64 0, .int .i64 0, .int .u64 0, .int .u64 0] 50) = w8 at *
  generalize w7.heap.size = bd at *
  have hne0 : Nonempty (Over w8) := ⟨⟨_, Below.refl _ _⟩⟩
  have v0 := fun u => over_cell (show w8.cell? ⟨bd, 0, none⟩ = some (.int .i64 0) from cell_of_heap Z8) u
  have v1 := fun u => over_cell (show w8.cell? ⟨bd, 1, none⟩ = some (.int .i64 0) from cell_of_heap Z8) u
  have v2 := fun u => over_cell (show w8.cell? ⟨bd, 2, none⟩ = some (.int .u64 0) from cell_of_heap Z8) u
  have v3 := fun u => over_cell (show w8.cell? ⟨bd, 3, none⟩ = some (.int .u64 0) from cell_of_heap Z8) u
  have SP := fun (u : Over w8) (qa' : Option Addr) (hq : HandQ qa qa') => IP8.out.step qa' hq u.w' u.h
  have SQ := fun (u : Over w8) (qa' : Option Addr) (hq : HandQ qa qa') => IQ8.out.step qa' hq u.w' u.h
  unfold noDid at SP SQ
  have HSP := hide SP
  have HSQ := hide SQ
  have DP := fun u : Over w8 => hide (IP8.out.done u.w' u.h)
  have DQ := fun u : Over w8 => hide (IQ8.out.done u.w' u.h)
  clear SP SQ
  refine over_region (by kernel_rfl) (by kernel_rfl) ?_
  repeat (go_big_quiet_step (first | (go_at_call 27; exact over_call _ (HSP.out _ _ (by simp [HandQ]))) | (go_at_call 23; exact over_call _ (HSQ.out _ _ (by simp [HandQ]))) | (go_at_call 28; exact over_call _ (DP _).out) | (go_at_call 24; exact over_call _ (DQ _).out)))
  refine wpQuiet_nil ?_
  rintro _ ⟨u9, rfl⟩
  have O9 := hide (O8.out.below lO u9.h)
  clear v0 v1 v2 v3 HSP HSQ DP DQ IP8 IQ8 hne0 O8 Z8
  generalize u9.w' = w9 at *
  go_wp2_with fail
  refine (storeX O9.out).mono ?_
  rintro e w10 ⟨rfl, rfl⟩
  go_wp2_with fail
  refine (countX O9.out).mono ?_
  rintro e w10 ⟨rfl, rfl⟩
  rw [HC3.out]
  go_wp2_with fail
  refine (heldNil _).mono ?_
  rintro e w11 ⟨rfl, b11⟩
  have O11 := hide (O9.out.below lO b11)
  clear b11 O9
  go_wp2_with fail
  refine (held1 lN O11.out HS3.out 0 HZ3.out (by omega) (by omega) (-1) (by omega)).mono ?_
  rintro e w12 ⟨rfl, o12⟩
  have O12 := hide o12
  clear o12 O11
  go_wp2_with fail
  refine (HAW.out _).mono ?_
  rintro e w13 ⟨rfl, b13⟩
  have HB13 := hide (BEH.out _ (O12.out.below lO b13).back)
  clear b13 O12
  go_wp2
  go_ret
  exact ⟨rfl, HB13.out⟩

theorem walk (P T : Int) (_hP : -9223372036854775808 ≤ P ∧ P ≤ 9223372036854775807) (_hT : -9223372036854775808 ≤ T ∧ T ≤ 9223372036854775807) (t : Int) (_ht : -9223372036854775808 ≤ t ∧ t ≤ 9223372036854775807) (w : World) :
    Calls Try.prog 5 #[.agg #[.int .i64 P, .int .i64 T], .int .i64 t] w fun e w' => e = .returned (.bool true) ∧ Below w.heap.size w w' := by
  by_cases e : P = 3 ∧ T = 2
  · obtain ⟨rfl, rfl⟩ := e
    exact main1 t w
  · exact main0 P T t (by omega) w

set_option maxRecDepth 100000 in
theorem lifted (os : Os) (started : os.Started) (H : Type) (enc : TypeId × Value → H) :
    ReturnsInHanded {} Try.checked os 5 .any (Rows.lockMaySpec.pre6 enc Try.prog Try.f5 Rows.lockMayRow.domain false) (Rows.lockMaySpec.post enc Try.prog Try.f5 false true false false) := by
  refine returnsInHanded_of_change (C := Try.checked) own started (by kernel_rfl) Try.func5
    (ChangeSpec.witness6 (enc := enc) (C := Try.checked) false ⟨#[], #[.agg #[.int .i64 0, .int .i64 0], .int .i64 0], []⟩ 8 (by kernel_rfl) (by kernel_rfl) (by kernel_rfl) (by kernel_rfl)) ?_
  intro W base args ds gs before hval0 hW _ _
  have hval : ∀ (j : Nat) t v, Try.f5.params[j]? = some t → args[j]? = some v → Value.okWide Try.prog W .any base t v := hval0
  have hW' := hW
  obtain ⟨p, q, hA0, hV, rfl, hfz, hnd⟩ := hW
  have hA : DataW.TrodAll enc Try.prog W 0 (fun _ => true) true Try.f5.params.toList args.toList ds p := hA0
  rw [Try.params5] at hA hval
  obtain ⟨v0, vs0, d0, ds0, p0, q0, hargs, rfl, rfl, h0, r0⟩ := trodAll_cons hA
  obtain ⟨v1, vs1, d1, ds1, p1, q1, rfl, rfl, rfl, h1, r1⟩ := trodAll_cons r0
  obtain ⟨rfl, rfl, rfl⟩ := trodAll_nil r1
  obtain rfl : args = #[v0, v1] := by cases args; simp_all
  obtain ⟨rfl, rfl⟩ := trodVars_none hV
  have h0k := h0
  have lt0 : ∀ x ∈ p0, x.block < W.heap.size := fun x hx => hW'.lt x (by simp [hx])
  obtain ⟨l0_0, l0_1, rfl, f0_0, f0_1⟩ := open_layout (hval 0 26 v0 rfl rfl) h0
  obtain ⟨a1, rfl, rfl, rfl, w1⟩ := open_int Try.underlying3 (hval 1 3 v1 rfl rfl) h1
  clear hA0 hval0
  have hx1 := i64_bd w1
  refine (walk l0_0 l0_1 f0_0 f0_1 a1 hx1 W).mono fun e W' ⟨he, bel⟩ => ?_
  subst he
  exact ⟨_, rfl, _, _, _, [], _, [], hW', trodAll_mk1 (shut_bool Try.underlying4 _), (trodAll_cons_mk (Below.trod laidOut (by kernel_rfl) (of_decide_eq_true (by kernel_rfl)) h0k bel lt0) (trodAll_cons_mk (shut_int Try.underlying3 w1) trodAll_mk0)), rfl, bel.frame _, fun h => by cases h⟩

end Go.Proofs.Ytgenkjmcddjaoaa.lockMay
namespace Go.Proofs.Ytgenkjmcddjaoaa

theorem lockMay_holds : Rows.LockMaySaid :=
  OpenClaim.holds_of_wide 5 Try.f5 rfl rfl rfl rfl rfl rfl rfl ⟨rfl, rfl, rfl, rfl, rfl⟩ rfl rfl rfl rfl rfl (by kernel_rfl) Try.func5 (by kernel_rfl)
    (of_decide_eq_true (by kernel_rfl)) (by unfold Func.isWrapper; first | (rw [if_pos (by decide +kernel)]; kernel_rfl) | (rw [if_neg (by decide +kernel)]; exact ⟨rfl, rfl⟩))
    (fun os started H enc _ => lockMay.lifted os started H enc)
end Go.Proofs.Ytgenkjmcddjaoaa
