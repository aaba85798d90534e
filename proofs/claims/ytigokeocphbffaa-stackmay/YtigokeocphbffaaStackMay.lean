/- Whether there is a machine of any arguments is the document's, in no arena, or one of another layout, nothing is done, no machine does nothing: the law StackMay answers true at every input, and its arguments read behind the call as they read before. -/
import Derived.Test.YtigokeocphbffaaSI
import Derived.Test.YtigokeocphbffaaLO
namespace Go.Proofs.Ytigokeocphbffaa.stackMay
open Go.ChangeShapes Go.WideShapes Go.ChangeAt Go.RowKit

def layO (P T : Int) : Obj := .cells #[.int .i64 P, .int .i64 T] 26 (0, 0)
def zero : Obj := .cells #[.int .i64 0, .int .i64 0, .int .u64 0, .int .u64 0] 50 (0, 0)

/-- What lies on the way: the law's layout, the arena, the two machines, an access that is none. -/
structure On (bl : Nat) (P T : Int) (w0 w : World) : Prop where
  lay : w.heap[bl]? = some (layO P T)
  below : Below w0.heap.size w0 w
theorem On.grow {bl : Nat} {P T : Int} {w0 w w' : World} (h : On bl P T w0 w) (b : Below w.heap.size w w') : On bl P T w0 w' :=
  ⟨(b.block _ (lt_of_heap h.lay)).trans h.lay, h.below.trans (b.mono h.below.size)⟩
theorem nilPage (w : World) : Calls Try.prog 15 #[.pointer none] w fun e w' => e = .returned (.int .i64 0) ∧ Below w.heap.size w w' :=
  (popNilPage w).mono fun _ _ hh => ⟨hh.1, by rw [hh.2]; exact Below.refl _ _⟩
theorem counted {w u : World} {pa : Nat} (h : ∃ b s, StoreAt 105 w pa b s ∧ s.count = 0) (hb : Below w.heap.size w u) :
    Calls Try.prog 31 #[.pointer (some ⟨pa, 0, none⟩)] u fun e u' => e = .returned (.int .i64 0) ∧ Below u.heap.size u u' := by
  obtain ⟨b, s, h1, h2⟩ := h
  have := count_of u pa b s (h1.below hb)
  rw [h2] at this
  exact this.mono fun _ _ hh => ⟨hh.1, by rw [hh.2]; exact Below.refl _ _⟩

set_option maxRecDepth 100000 in
set_option maxHeartbeats 16000000 in
theorem may000 (P T : Int) (h y : Int) (hy : -9223372036854775808 ≤ y ∧ y ≤ 9223372036854775807) (hne : P ≠ 3 ∨ T ≠ 2) (hh : Lay.isHead P T h = false) (w : World) :
    Calls Try.prog 6 #[.agg #[.int .i64 P, .int .i64 T], .int .i64 h, .int .i64 y] w fun e w' => e = .returned (.bool true) ∧ Below w.heap.size w w' := by
  have NP := hide (fun u => newPopNo P T h hh u)
  have NQ := hide (fun u => newPushNo P T h y (.inl hh) u)
  have RP : Hid (∀ u, Calls Try.prog 28 #[.agg (mArr 1 P T 0 0 0 0 0 h 0 0 0 false (.slice none 0 0))] u fun e w' => e = .returned (.bool false) ∧ Below u.heap.size u w') := hide (fun u => by
    cases hm : Lay.may P T
    · exact rightNo 1 P T 0 h hm u
    · have := rightPop P T h hm u
      rw [hh] at this
      exact this)
  have RQ : Hid (∀ u, Calls Try.prog 28 #[.agg (mArr 2 P T 0 y 0 0 0 h 0 0 0 false (.slice none 0 0))] u fun e w' => e = .returned (.bool false) ∧ Below u.heap.size u w') := hide (fun u => by
    cases hm : Lay.may P T
    · exact rightNo 2 P T y h hm u
    · have := rightPush P T y h hm hy u
      rw [hh] at this
      exact this)
  have HA1 := hide (fun (u : World) => @anew Nought u u Loc.nought (Own.start u) 3 2 (by decide) [] (by simp) none 0 (fun _ => ⟨rfl, rfl⟩) (fun h => absurd rfl h))
  have HAW := hide (fun u => awake12 u)
  have LN := hide (fun u => listNil12 u h)
  clear hh
  unfold mArr at RP RQ
  have O1 : Hid (On w.heap.size P T w (w.alloc (.cells #[.int .i64 P, .int .i64 T] 26))) := hide ⟨heap_alloc_at _ _, grown1 _ _⟩
  go_enter Try.func6, Try.ntmps6
  go_wp2
  generalize w.alloc (.cells #[.int .i64 P, .int .i64 T] 26) = w1 at *
  obtain ⟨bl, hbl⟩ : ∃ bl, w.heap.size = bl := ⟨_, rfl⟩
  have HBL := hide hbl
  rw [hbl] at O1
  rw [hbl]
  clear hbl
  have J1 := hide (O1.out.grow ((Alike.drewN w1 1).below _))
  have hne0 : Nonempty (Mem (On bl P T w)) := ⟨⟨_, J1.out⟩⟩
  have U0 : ∀ u : Mem (On bl P T w), u.w'.cell? ⟨bl, 0, none⟩ = some (.int .i64 P) := fun u => cell_of_heap u.h.lay
  have U1 : ∀ u : Mem (On bl P T w), u.w'.cell? ⟨bl, 1, none⟩ = some (.int .i64 T) := fun u => cell_of_heap u.h.lay
  refine region_start (J := On bl P T w) (by kernel_rfl) ?_
  refine stretch (fuel := 4) (by kernel_rfl) (fun _ _ _ _ _ h => h) J1.out [0, 1, 3, 4, 5] (by kernel_rfl) ?_
  simp only [List.filterMap_cons, List.filterMap_nil, List.getElem?_toArray, List.getElem?_cons_zero, List.getElem?_cons_succ]
  show wpQuiet _ _ _ _ [_, _, _, _, _] _
  repeat (go_big_quiet_step (fail))
  refine wpQuiet_nil ?_
  refine wpAnyJ_writer (i := 2) rfl (by kernel_rfl) (fun K' hK => ?_)
  go_simp
  refine (NP.out _).mono ?_
  rintro e w2 ⟨rfl, b2⟩
  have J2 := hide (J1.out.grow b2)
  refine hK _ _ J2.out ?_
  clear hK K' b2 J1 O1
  refine wpAnyJ_writer (i := 6) rfl (by kernel_rfl) (fun K' hK => ?_)
  go_simp
  refine (NQ.out _).mono ?_
  rintro e w3 ⟨rfl, b3⟩
  have J3 := hide (J2.out.grow b3)
  refine hK _ _ J3.out ?_
  clear hK K' b3 J2 NP NQ
  refine stretch (fuel := 0) (by kernel_rfl) (fun _ _ _ _ _ h => h) J3.out [7, 8] (by kernel_rfl) ?_
  simp only [List.filterMap_cons, List.filterMap_nil, List.getElem?_toArray, List.getElem?_cons_zero, List.getElem?_cons_succ]
  show wpQuiet _ _ _ _ [_, _] _
  repeat (go_big_quiet_step (fail))
  refine wpQuiet_nil ?_
  refine wpAnyJ_done (by kernel_rfl) ?_
  clear U0 U1 hne0
  have c0 : w3.cell? ⟨bl, 0, none⟩ = some (.int .i64 P) := cell_of_heap J3.out.lay
  have c1 : w3.cell? ⟨bl, 1, none⟩ = some (.int .i64 T) := cell_of_heap J3.out.lay
  go_wp2_with fail
  refine (RP.out _).mono ?_
  rintro e w4 ⟨rfl, b4⟩
  have J4 := hide (J3.out.grow b4)
  clear b4 J3 c0 c1
  have c0 : w4.cell? ⟨bl, 0, none⟩ = some (.int .i64 P) := cell_of_heap J4.out.lay
  have c1 : w4.cell? ⟨bl, 1, none⟩ = some (.int .i64 T) := cell_of_heap J4.out.lay
  go_wp2_with fail
  refine (RQ.out _).mono ?_
  rintro e w5 ⟨rfl, b5⟩
  have J5 := hide (J4.out.grow b5)
  clear b5 J4 c0 c1 RP RQ
  go_wp2_with fail
  refine (HA1.out _).mono ?_
  rintro e w6 ⟨qa, pa, ra, rfl, o6⟩
  have b6 := o6.back
  have HC6 : Hid (∃ b s, StoreAt 105 w6 pa b s ∧ s.count = 0) := hide (by obtain ⟨b, hS⟩ := AX.st o6; exact ⟨b, _, hS, rfl⟩)
  have LOW : Hid (w5.heap.size ≤ qa ∧ w5.heap.size ≤ pa ∧ ∃ b s, StoreAt 105 w6 pa b s ∧ s.count = 0 ∧ s.words.length = (St.first (Lay.words ((3 : Nat) : Int) 2).toNat).words.length ∧ w5.heap.size ≤ b) := hide (by obtain ⟨h1, h2, b, h3, h4⟩ := o6.arLow; exact ⟨h1, h2, b, _, h3, rfl, rfl, h4⟩)
  have HB5 : Hid (bl < w5.heap.size) := hide (lt_of_heap J5.out.lay)
  have A6 : Hid (ArAt qa 3 2 pa ra (St.first (Lay.words ((3 : Nat) : Int) 2).toNat).words.length w6) := hide (ArAt.of o6)
  generalize (St.first (Lay.words ((3 : Nat) : Int) 2).toNat).words.length = an at *
  have J6 := hide (J5.out.grow b6)
  clear b6 J5 HA1 o6
  go_wp2
  have hne0 : Nonempty (Over w6) := ⟨⟨_, Below.refl _ _⟩⟩
  have u0 := fun u => over_cell (show w6.cell? ⟨bl, 0, none⟩ = some (.int .i64 P) from cell_of_heap J6.out.lay) u
  have u1 := fun u => over_cell (show w6.cell? ⟨bl, 1, none⟩ = some (.int .i64 T) from cell_of_heap J6.out.lay) u
  have LA := fun u : Over w6 => hide (A6.out.below u.h).layout
  by_cases hP3 : P = 3
  · have dT : (T == 2) = false := by rw [beq_eq_false_iff_ne]; omega
    refine over_region (by kernel_rfl) (by kernel_rfl) ?_
    repeat (go_big_quiet_step (first | (go_at_call 29; exact over_call _ (LA _).out)))
    refine wpQuiet_nil ?_
    rintro _ ⟨u7, rfl⟩
    have A7 := hide (A6.out.below u7.h)
    have J7 := hide (J6.out.grow u7.h)
    have HC7 : Hid (∃ b s, StoreAt 105 u7.w' pa b s ∧ s.count = 0) := hide (by obtain ⟨b, s, h1, h2⟩ := HC6.out; exact ⟨b, s, h1.below u7.h, h2⟩)


    clear u0 u1 LA hne0 A6 J6 HC6

    generalize u7.w' = w7 at *
    have hT2 : T ≠ 2 := by omega
    have IP : Hid (PopIdle qa (.pointer none) w7) := hide (popNilIdle qa w7)
    have IQ : Hid (PushIdle qa (.pointer none) w7) := hide (pushNilIdle qa w7)
    go_wp2
    have Z8 := heap_alloc_at w7 (.cells #[.int .i64 0, .int .i64 0, .int .u64 0, .int .u64 0] 50)
    have B8 := grown1 w7 (.cells #[.int .i64 0, .int .i64 0, .int .u64 0, .int .u64 0] 50)
    have IP8 := hide (IP.out.grow B8)
    have IQ8 := hide (IQ.out.grow B8)
    have A8 := hide (A7.out.below B8)
    have J8 := hide (J7.out.grow B8)
    have HC8 : Hid (∃ b s, StoreAt 105 (w7.alloc (.cells #[.int .i64 0, .int .i64 0, .int .u64 0, .int .u64 0] 50)) pa b s ∧ s.count = 0) := hide (by obtain ⟨b, s, h1, h2⟩ := HC7.out; exact ⟨b, s, h1.below B8, h2⟩)
    clear IP IQ A7 J7 HC7 B8
    generalize w7.alloc (.cells #[.int .i64 0, .int .i64 0, .int .u64 0, .int .u64 0] 50) = w8 at *
    generalize w7.heap.size = bd at *
    have hne0 : Nonempty (Over w8) := ⟨⟨_, Below.refl _ _⟩⟩
    have v0 := fun u => over_cell (show w8.cell? ⟨bd, 0, none⟩ = some (.int .i64 0) from cell_of_heap Z8) u
    have v1 := fun u => over_cell (show w8.cell? ⟨bd, 1, none⟩ = some (.int .i64 0) from cell_of_heap Z8) u
    have v2 := fun u => over_cell (show w8.cell? ⟨bd, 2, none⟩ = some (.int .u64 0) from cell_of_heap Z8) u
    have v3 := fun u => over_cell (show w8.cell? ⟨bd, 3, none⟩ = some (.int .u64 0) from cell_of_heap Z8) u
    have SP := fun (u : Over w8) (qa' : Option Addr) (hq : Hand qa qa') => IP8.out.step qa' hq u.w' u.h
    have SQ := fun (u : Over w8) (qa' : Option Addr) (hq : Hand qa qa') => IQ8.out.step qa' hq u.w' u.h
    unfold noDid at SP SQ
    have HSP := hide SP
    have HSQ := hide SQ
    have DP := fun u : Over w8 => hide (IP8.out.done u.w' u.h)
    have DQ := fun u : Over w8 => hide (IQ8.out.done u.w' u.h)
    clear SP SQ
    refine over_region (by kernel_rfl) (by kernel_rfl) ?_
    repeat (go_big_quiet_step (first | (go_at_call 13; exact over_call _ (HSP.out _ _ (by simp [Hand]))) | (go_at_call 11; exact over_call _ (HSQ.out _ _ (by simp [Hand]))) | (go_at_call 14; exact over_call _ (DP _).out) | (go_at_call 12; exact over_call _ (DQ _).out)))
    refine wpQuiet_nil ?_
    rintro _ ⟨u9, rfl⟩
    have Z9 := (u9.h.block _ (lt_of_heap Z8)).trans Z8
    have A9 := hide (A8.out.below u9.h)
    have J9 := hide (J8.out.grow u9.h)
    have HC9 : Hid (∃ b s, StoreAt 105 u9.w' pa b s ∧ s.count = 0) := hide (by obtain ⟨b, s, h1, h2⟩ := HC8.out; exact ⟨b, s, h1.below u9.h, h2⟩)
    clear v0 v1 v2 v3 HSP HSQ DP DQ IP8 IQ8 hne0 A8 J8 HC8 Z8
    generalize u9.w' = w9 at *
    go_wp2
    have hne0 : Nonempty (Over w9) := ⟨⟨_, Below.refl _ _⟩⟩
    have v0 := fun u => over_cell (show w9.cell? ⟨bd, 0, none⟩ = some (.int .i64 0) from cell_of_heap Z9) u
    have v1 := fun u => over_cell (show w9.cell? ⟨bd, 1, none⟩ = some (.int .i64 0) from cell_of_heap Z9) u
    have v2 := fun u => over_cell (show w9.cell? ⟨bd, 2, none⟩ = some (.int .u64 0) from cell_of_heap Z9) u
    have v3 := fun u => over_cell (show w9.cell? ⟨bd, 3, none⟩ = some (.int .u64 0) from cell_of_heap Z9) u
    have SP := fun (u : Over w9) => hide (popNilStep u.w' (some ⟨qa, 0, none⟩))
    have SQ := fun (u : Over w9) => hide (pushNilStep u.w' (some ⟨qa, 0, none⟩))
    have DP := fun u : Over w9 => hide ((popNilIdle qa u.w').done u.w' (Below.refl _ _))
    have DQ := fun u : Over w9 => hide ((pushNilIdle qa u.w').done u.w' (Below.refl _ _))
    have GP := fun u : Over w9 => hide (nilPage u.w')
    have KS := fun u : Over w9 => hide (A9.out.below u.h).store
    have KC := fun u : Over w9 => hide (counted HC9.out u.h)
    unfold noDid at SP SQ
    refine over_region (by kernel_rfl) (by kernel_rfl) ?_
    repeat (go_big_quiet_step (first | (go_at_call 13; exact over_call _ (SP _).out) | (go_at_call 11; exact over_call _ (SQ _).out) | (go_at_call 14; exact over_call _ (DP _).out) | (go_at_call 12; exact over_call _ (DQ _).out) | (go_at_call 15; exact over_call _ (GP _).out) | (go_at_call 30; exact over_call _ (KS _).out) | (go_at_call 31; exact over_call _ (KC _).out) | (go_at_call 17; exact over_call _ (LN.out _)) | (go_at_call 21; exact over_call _ (HAW.out _))))
    refine wpQuiet_nil ?_
    rintro _ ⟨u10, rfl⟩
    have HB10 := hide ((J9.out.grow u10.h).below)
    clear v0 v1 v2 v3 SP SQ DP DQ GP KS KC hne0
    go_wp2
    go_ret
    exact ⟨rfl, HB10.out⟩
  · have dP : (P == 3) = false := by rw [beq_eq_false_iff_ne]; omega
    refine over_region (by kernel_rfl) (by kernel_rfl) ?_
    repeat (go_big_quiet_step (first | (go_at_call 29; exact over_call _ (LA _).out)))
    refine wpQuiet_nil ?_
    rintro _ ⟨u7, rfl⟩
    have A7 := hide (A6.out.below u7.h)
    have J7 := hide (J6.out.grow u7.h)
    have HC7 : Hid (∃ b s, StoreAt 105 u7.w' pa b s ∧ s.count = 0) := hide (by obtain ⟨b, s, h1, h2⟩ := HC6.out; exact ⟨b, s, h1.below u7.h, h2⟩)


    clear u0 u1 LA hne0 A6 J6 HC6

    generalize u7.w' = w7 at *
    have IP : Hid (PopIdle qa (.pointer none) w7) := hide (popNilIdle qa w7)
    have IQ : Hid (PushIdle qa (.pointer none) w7) := hide (pushNilIdle qa w7)
    go_wp2
    have Z8 := heap_alloc_at w7 (.cells #[.int .i64 0, .int .i64 0, .int .u64 0, .int .u64 0] 50)
    have B8 := grown1 w7 (.cells #[.int .i64 0, .int .i64 0, .int .u64 0, .int .u64 0] 50)
    have IP8 := hide (IP.out.grow B8)
    have IQ8 := hide (IQ.out.grow B8)
    have A8 := hide (A7.out.below B8)
    have J8 := hide (J7.out.grow B8)
    have HC8 : Hid (∃ b s, StoreAt 105 (w7.alloc (.cells #[.int .i64 0, .int .i64 0, .int .u64 0, .int .u64 0] 50)) pa b s ∧ s.count = 0) := hide (by obtain ⟨b, s, h1, h2⟩ := HC7.out; exact ⟨b, s, h1.below B8, h2⟩)
    clear IP IQ A7 J7 HC7 B8
    generalize w7.alloc (.cells #[.int .i64 0, .int .i64 0, .int .u64 0, .int .u64 0] 50) = w8 at *
    generalize w7.heap.size = bd at *
    have hne0 : Nonempty (Over w8) := ⟨⟨_, Below.refl _ _⟩⟩
    have v0 := fun u => over_cell (show w8.cell? ⟨bd, 0, none⟩ = some (.int .i64 0) from cell_of_heap Z8) u
    have v1 := fun u => over_cell (show w8.cell? ⟨bd, 1, none⟩ = some (.int .i64 0) from cell_of_heap Z8) u
    have v2 := fun u => over_cell (show w8.cell? ⟨bd, 2, none⟩ = some (.int .u64 0) from cell_of_heap Z8) u
    have v3 := fun u => over_cell (show w8.cell? ⟨bd, 3, none⟩ = some (.int .u64 0) from cell_of_heap Z8) u
    have SP := fun (u : Over w8) (qa' : Option Addr) (hq : Hand qa qa') => IP8.out.step qa' hq u.w' u.h
    have SQ := fun (u : Over w8) (qa' : Option Addr) (hq : Hand qa qa') => IQ8.out.step qa' hq u.w' u.h
    unfold noDid at SP SQ
    have HSP := hide SP
    have HSQ := hide SQ
    have DP := fun u : Over w8 => hide (IP8.out.done u.w' u.h)
    have DQ := fun u : Over w8 => hide (IQ8.out.done u.w' u.h)
    clear SP SQ
    refine over_region (by kernel_rfl) (by kernel_rfl) ?_
    repeat (go_big_quiet_step (first | (go_at_call 13; exact over_call _ (HSP.out _ _ (by simp [Hand]))) | (go_at_call 11; exact over_call _ (HSQ.out _ _ (by simp [Hand]))) | (go_at_call 14; exact over_call _ (DP _).out) | (go_at_call 12; exact over_call _ (DQ _).out)))
    refine wpQuiet_nil ?_
    rintro _ ⟨u9, rfl⟩
    have Z9 := (u9.h.block _ (lt_of_heap Z8)).trans Z8
    have A9 := hide (A8.out.below u9.h)
    have J9 := hide (J8.out.grow u9.h)
    have HC9 : Hid (∃ b s, StoreAt 105 u9.w' pa b s ∧ s.count = 0) := hide (by obtain ⟨b, s, h1, h2⟩ := HC8.out; exact ⟨b, s, h1.below u9.h, h2⟩)
    clear v0 v1 v2 v3 HSP HSQ DP DQ IP8 IQ8 hne0 A8 J8 HC8 Z8
    generalize u9.w' = w9 at *
    go_wp2
    have hne0 : Nonempty (Over w9) := ⟨⟨_, Below.refl _ _⟩⟩
    have v0 := fun u => over_cell (show w9.cell? ⟨bd, 0, none⟩ = some (.int .i64 0) from cell_of_heap Z9) u
    have v1 := fun u => over_cell (show w9.cell? ⟨bd, 1, none⟩ = some (.int .i64 0) from cell_of_heap Z9) u
    have v2 := fun u => over_cell (show w9.cell? ⟨bd, 2, none⟩ = some (.int .u64 0) from cell_of_heap Z9) u
    have v3 := fun u => over_cell (show w9.cell? ⟨bd, 3, none⟩ = some (.int .u64 0) from cell_of_heap Z9) u
    have SP := fun (u : Over w9) => hide (popNilStep u.w' (some ⟨qa, 0, none⟩))
    have SQ := fun (u : Over w9) => hide (pushNilStep u.w' (some ⟨qa, 0, none⟩))
    have DP := fun u : Over w9 => hide ((popNilIdle qa u.w').done u.w' (Below.refl _ _))
    have DQ := fun u : Over w9 => hide ((pushNilIdle qa u.w').done u.w' (Below.refl _ _))
    have GP := fun u : Over w9 => hide (nilPage u.w')
    have KS := fun u : Over w9 => hide (A9.out.below u.h).store
    have KC := fun u : Over w9 => hide (counted HC9.out u.h)
    unfold noDid at SP SQ
    refine over_region (by kernel_rfl) (by kernel_rfl) ?_
    repeat (go_big_quiet_step (first | (go_at_call 13; exact over_call _ (SP _).out) | (go_at_call 11; exact over_call _ (SQ _).out) | (go_at_call 14; exact over_call _ (DP _).out) | (go_at_call 12; exact over_call _ (DQ _).out) | (go_at_call 15; exact over_call _ (GP _).out) | (go_at_call 30; exact over_call _ (KS _).out) | (go_at_call 31; exact over_call _ (KC _).out) | (go_at_call 17; exact over_call _ (LN.out _)) | (go_at_call 21; exact over_call _ (HAW.out _))))
    refine wpQuiet_nil ?_
    rintro _ ⟨u10, rfl⟩
    have HB10 := hide ((J9.out.grow u10.h).below)
    clear v0 v1 v2 v3 SP SQ DP DQ GP KS KC hne0
    go_wp2
    go_ret
    exact ⟨rfl, HB10.out⟩

set_option maxRecDepth 100000 in
set_option maxHeartbeats 16000000 in
theorem may001 (h y : Int) (hy : -9223372036854775808 ≤ y ∧ y ≤ 9223372036854775807) (hh : Lay.isHead 3 2 h = false) (w : World) :
    Calls Try.prog 6 #[.agg #[.int .i64 3, .int .i64 2], .int .i64 h, .int .i64 y] w fun e w' => e = .returned (.bool true) ∧ Below w.heap.size w w' := by
  have NP := hide (fun u => newPopNo 3 2 h hh u)
  have NQ := hide (fun u => newPushNo 3 2 h y (.inl hh) u)
  have RP : Hid (∀ u, Calls Try.prog 28 #[.agg (mArr 1 3 2 0 0 0 0 0 h 0 0 0 false (.slice none 0 0))] u fun e w' => e = .returned (.bool false) ∧ Below u.heap.size u w') := hide (fun u => by
    cases hm : Lay.may 3 2
    · exact rightNo 1 3 2 0 h hm u
    · have := rightPop 3 2 h hm u
      rw [hh] at this
      exact this)
  have RQ : Hid (∀ u, Calls Try.prog 28 #[.agg (mArr 2 3 2 0 y 0 0 0 h 0 0 0 false (.slice none 0 0))] u fun e w' => e = .returned (.bool false) ∧ Below u.heap.size u w') := hide (fun u => by
    cases hm : Lay.may 3 2
    · exact rightNo 2 3 2 y h hm u
    · have := rightPush 3 2 y h hm hy u
      rw [hh] at this
      exact this)
  have NP2 := hide (fun u => newPop4 h u)
  have NQ2 := hide (fun u => newPush4 h y u)
  have HA1 := hide (fun (u : World) => @anew Nought u u Loc.nought (Own.start u) 3 2 (by decide) [] (by simp) none 0 (fun _ => ⟨rfl, rfl⟩) (fun h => absurd rfl h))
  have HAW := hide (fun u => awake12 u)
  have LN := hide (fun u => listNil12 u h)
  clear hh
  unfold mArr at RP RQ
  have O1 : Hid (On w.heap.size 3 2 w (w.alloc (.cells #[.int .i64 3, .int .i64 2] 26))) := hide ⟨heap_alloc_at _ _, grown1 _ _⟩
  go_enter Try.func6, Try.ntmps6
  go_wp2
  generalize w.alloc (.cells #[.int .i64 3, .int .i64 2] 26) = w1 at *
  obtain ⟨bl, hbl⟩ : ∃ bl, w.heap.size = bl := ⟨_, rfl⟩
  have HBL := hide hbl
  rw [hbl] at O1
  rw [hbl]
  clear hbl
  have J1 := hide (O1.out.grow ((Alike.drewN w1 1).below _))
  have hne0 : Nonempty (Mem (On bl 3 2 w)) := ⟨⟨_, J1.out⟩⟩
  have U0 : ∀ u : Mem (On bl 3 2 w), u.w'.cell? ⟨bl, 0, none⟩ = some (.int .i64 3) := fun u => cell_of_heap u.h.lay
  have U1 : ∀ u : Mem (On bl 3 2 w), u.w'.cell? ⟨bl, 1, none⟩ = some (.int .i64 2) := fun u => cell_of_heap u.h.lay
  refine region_start (J := On bl 3 2 w) (by kernel_rfl) ?_
  refine stretch (fuel := 4) (by kernel_rfl) (fun _ _ _ _ _ h => h) J1.out [0, 1, 3, 4, 5] (by kernel_rfl) ?_
  simp only [List.filterMap_cons, List.filterMap_nil, List.getElem?_toArray, List.getElem?_cons_zero, List.getElem?_cons_succ]
  show wpQuiet _ _ _ _ [_, _, _, _, _] _
  repeat (go_big_quiet_step (fail))
  refine wpQuiet_nil ?_
  refine wpAnyJ_writer (i := 2) rfl (by kernel_rfl) (fun K' hK => ?_)
  go_simp
  refine (NP.out _).mono ?_
  rintro e w2 ⟨rfl, b2⟩
  have J2 := hide (J1.out.grow b2)
  refine hK _ _ J2.out ?_
  clear hK K' b2 J1 O1
  refine wpAnyJ_writer (i := 6) rfl (by kernel_rfl) (fun K' hK => ?_)
  go_simp
  refine (NQ.out _).mono ?_
  rintro e w3 ⟨rfl, b3⟩
  have J3 := hide (J2.out.grow b3)
  refine hK _ _ J3.out ?_
  clear hK K' b3 J2 NP NQ
  refine stretch (fuel := 0) (by kernel_rfl) (fun _ _ _ _ _ h => h) J3.out [7, 8] (by kernel_rfl) ?_
  simp only [List.filterMap_cons, List.filterMap_nil, List.getElem?_toArray, List.getElem?_cons_zero, List.getElem?_cons_succ]
  show wpQuiet _ _ _ _ [_, _] _
  repeat (go_big_quiet_step (fail))
  refine wpQuiet_nil ?_
  refine wpAnyJ_done (by kernel_rfl) ?_
  clear U0 U1 hne0
  have c0 : w3.cell? ⟨bl, 0, none⟩ = some (.int .i64 3) := cell_of_heap J3.out.lay
  have c1 : w3.cell? ⟨bl, 1, none⟩ = some (.int .i64 2) := cell_of_heap J3.out.lay
  go_wp2_with fail
  refine (RP.out _).mono ?_
  rintro e w4 ⟨rfl, b4⟩
  have J4 := hide (J3.out.grow b4)
  clear b4 J3 c0 c1
  have c0 : w4.cell? ⟨bl, 0, none⟩ = some (.int .i64 3) := cell_of_heap J4.out.lay
  have c1 : w4.cell? ⟨bl, 1, none⟩ = some (.int .i64 2) := cell_of_heap J4.out.lay
  go_wp2_with fail
  refine (RQ.out _).mono ?_
  rintro e w5 ⟨rfl, b5⟩
  have J5 := hide (J4.out.grow b5)
  clear b5 J4 c0 c1 RP RQ
  go_wp2_with fail
  refine (HA1.out _).mono ?_
  rintro e w6 ⟨qa, pa, ra, rfl, o6⟩
  have b6 := o6.back
  have HC6 : Hid (∃ b s, StoreAt 105 w6 pa b s ∧ s.count = 0) := hide (by obtain ⟨b, hS⟩ := AX.st o6; exact ⟨b, _, hS, rfl⟩)
  have LOW : Hid (w5.heap.size ≤ qa ∧ w5.heap.size ≤ pa ∧ ∃ b s, StoreAt 105 w6 pa b s ∧ s.count = 0 ∧ s.words.length = (St.first (Lay.words ((3 : Nat) : Int) 2).toNat).words.length ∧ w5.heap.size ≤ b) := hide (by obtain ⟨h1, h2, b, h3, h4⟩ := o6.arLow; exact ⟨h1, h2, b, _, h3, rfl, rfl, h4⟩)
  have HB5 : Hid (bl < w5.heap.size) := hide (lt_of_heap J5.out.lay)
  have A6 : Hid (ArAt qa 3 2 pa ra (St.first (Lay.words ((3 : Nat) : Int) 2).toNat).words.length w6) := hide (ArAt.of o6)
  generalize (St.first (Lay.words ((3 : Nat) : Int) 2).toNat).words.length = an at *
  have J6 := hide (J5.out.grow b6)
  clear b6 J5 HA1 o6
  go_wp2
  have hne0 : Nonempty (Over w6) := ⟨⟨_, Below.refl _ _⟩⟩
  have u0 := fun u => over_cell (show w6.cell? ⟨bl, 0, none⟩ = some (.int .i64 3) from cell_of_heap J6.out.lay) u
  have u1 := fun u => over_cell (show w6.cell? ⟨bl, 1, none⟩ = some (.int .i64 2) from cell_of_heap J6.out.lay) u
  have LA := fun u : Over w6 => hide (A6.out.below u.h).layout
  refine over_region (by kernel_rfl) (by kernel_rfl) ?_
  repeat (go_big_quiet_step (first | (go_at_call 29; exact over_call _ (LA _).out)))
  refine wpQuiet_nil ?_
  rintro _ ⟨u7, rfl⟩
  have A7 := hide (A6.out.below u7.h)
  have J7 := hide (J6.out.grow u7.h)
  have HC7 : Hid (∃ b s, StoreAt 105 u7.w' pa b s ∧ s.count = 0) := hide (by obtain ⟨b, s, h1, h2⟩ := HC6.out; exact ⟨b, s, h1.below u7.h, h2⟩)


  clear u0 u1 LA hne0 A6 J6 HC6
  have HU7 := hide u7.h
  generalize u7.w' = w7 at *
  have HA7 := A7
  clear A7 HC7
  have f7 : ∀ o, w7.frozen? ⟨bl, o, none⟩ = false := fun o => frozen_of_heap J7.out.lay
  have k7 : w7.cell? ⟨bl, 0, none⟩ = some (.int .i64 3) := cell_of_heap J7.out.lay
  have e8 := heap_setCell_at (o := 0) J7.out.lay (.int .i64 4)
  have J8 : Hid (On bl 4 2 w (w7.setCell ⟨bl, 0, none⟩ (.int .i64 4))) := hide ⟨e8, J7.out.below.setCell (p := ⟨bl, 0, none⟩) (by rw [HBL.out]; exact Nat.le_refl _) _⟩
  have HO8 := hide ((Only.refl (fun k => k = bl) w7).setCell (p := ⟨bl, 0, none⟩) (.inl rfl) (.int .i64 4))
  obtain ⟨g1, g2, gb, gs, g3, g4, g5, g6⟩ := LOW.out
  have hb5 := HB5.out
  have A8 : Hid (ArAt qa 3 2 pa ra an (w7.setCell ⟨bl, 0, none⟩ (.int .i64 4))) := hide ⟨(HO8.out.block qa (lt_of_heap HA7.out.hd) (by omega)).trans HA7.out.hd, gb, gs, (g3.below HU7.out).kept HO8.out (by omega) (by omega), g5⟩
  have HC8 : Hid (∃ b s, StoreAt 105 (w7.setCell ⟨bl, 0, none⟩ (.int .i64 4)) pa b s ∧ s.count = 0) := hide ⟨gb, gs, (g3.below HU7.out).kept HO8.out (by omega) (by omega), g4⟩
  clear e8 HO8 g1 g2 g3 g4 g5 g6 hb5 LOW HB5 HA7 HU7
  have hlb := HBL.out
  clear HBL
  go_wp2
  clear f7 k7 J7
  generalize w7.setCell ⟨bl, 0, none⟩ (.int .i64 4) = w8 at *
  have J1 := hide (J8.out.grow ((Alike.drewN w8 1).below _))
  have A1 := hide (A8.out.below ((Alike.drewN w8 1).below _))
  have HC1 : Hid (∃ b s, StoreAt 105 w8.drew pa b s ∧ s.count = 0) := hide (by obtain ⟨b, s, h1, h2⟩ := HC8.out; exact ⟨b, s, h1.below ((Alike.drewN w8 1).below _), h2⟩)
  clear J8 A8 HC8
  have hne1 : Nonempty (Mem (On bl 4 2 w)) := ⟨⟨_, J1.out⟩⟩
  have U0 : ∀ u : Mem (On bl 4 2 w), u.w'.cell? ⟨bl, 0, none⟩ = some (.int .i64 4) := fun u => cell_of_heap u.h.lay
  have U1 : ∀ u : Mem (On bl 4 2 w), u.w'.cell? ⟨bl, 1, none⟩ = some (.int .i64 2) := fun u => cell_of_heap u.h.lay
  refine region_start (J := On bl 4 2 w) (by kernel_rfl) ?_
  refine stretch (fuel := 4) (by kernel_rfl) (fun _ _ _ _ _ h => h) J1.out [0, 1, 3, 4, 5] (by kernel_rfl) ?_
  simp only [List.filterMap_cons, List.filterMap_nil, List.getElem?_toArray, List.getElem?_cons_zero, List.getElem?_cons_succ]
  show wpQuiet _ _ _ _ [_, _, _, _, _] _
  repeat (go_big_quiet_step (fail))
  refine wpQuiet_nil ?_
  refine wpAnyJ_writer (i := 2) rfl (by kernel_rfl) (fun K' hK => ?_)
  go_simp
  refine (NP2.out _).mono ?_
  rintro e w10 ⟨mv, rfl, kv, b10⟩
  have J2 := hide (J1.out.grow b10)
  have A2 := hide (A1.out.below b10)
  have HC2 : Hid (∃ b s, StoreAt 105 w10 pa b s ∧ s.count = 0) := hide (by obtain ⟨b, s, h1, h2⟩ := HC1.out; exact ⟨b, s, h1.below b10, h2⟩)
  have IP2 : Hid (PopIdle qa mv w10) := hide (by
    rcases kv with rfl | ⟨m, i, rfl, hx⟩
    · exact popNilIdle qa w10
    · exact popNewIdle hx (by omega) A2.out (.inl (by omega)))
  refine hK _ _ J2.out ?_
  clear hK K' b10 J1 A1 HC1 kv
  refine wpAnyJ_writer (i := 6) rfl (by kernel_rfl) (fun K' hK => ?_)
  go_simp
  refine (NQ2.out _).mono ?_
  rintro e w11 ⟨nv, rfl, kv, b11⟩
  have J7 := hide (J2.out.grow b11)
  have A7 := hide (A2.out.below b11)
  have HC7 : Hid (∃ b s, StoreAt 105 w11 pa b s ∧ s.count = 0) := hide (by obtain ⟨b, s, h1, h2⟩ := HC2.out; exact ⟨b, s, h1.below b11, h2⟩)
  have IP := hide (IP2.out.grow b11)
  have IQ : Hid (PushIdle qa nv w11) := hide (by
    rcases kv with rfl | ⟨m, i, rfl, hx⟩
    · exact pushNilIdle qa w11
    · exact pushNewIdle hx (by omega) A7.out (.inl (by omega)))
  refine hK _ _ J7.out ?_
  clear hK K' b11 J2 A2 HC2 kv IP2
  refine stretch (fuel := 0) (by kernel_rfl) (fun _ _ _ _ _ h => h) J7.out [7, 8] (by kernel_rfl) ?_
  simp only [List.filterMap_cons, List.filterMap_nil, List.getElem?_toArray, List.getElem?_cons_zero, List.getElem?_cons_succ]
  show wpQuiet _ _ _ _ [_, _] _
  repeat (go_big_quiet_step (fail))
  refine wpQuiet_nil ?_
  refine wpAnyJ_done (by kernel_rfl) ?_
  clear U0 U1 hne1 NP2 NQ2
  generalize w11 = w7 at *
  go_wp2
  have Z8 := heap_alloc_at w7 (.cells #[.int .i64 0, .int .i64 0, .int .u64 0, .int .u64 0] 50)
  have B8 := grown1 w7 (.cells #[.int .i64 0, .int .i64 0, .int .u64 0, .int .u64 0] 50)
  have IP8 := hide (IP.out.grow B8)
  have IQ8 := hide (IQ.out.grow B8)
  have A8 := hide (A7.out.below B8)
  have J8 := hide (J7.out.grow B8)
  have HC8 : Hid (∃ b s, StoreAt 105 (w7.alloc (.cells #[.int .i64 0, .int .i64 0, .int .u64 0, .int .u64 0] 50)) pa b s ∧ s.count = 0) := hide (by obtain ⟨b, s, h1, h2⟩ := HC7.out; exact ⟨b, s, h1.below B8, h2⟩)
  clear IP IQ A7 J7 HC7 B8
  generalize w7.alloc (.cells #[.int .i64 0, .int .i64 0, .int .u64 0, .int .u64 0] 50) = w8 at *
  generalize w7.heap.size = bd at *
  have hne0 : Nonempty (Over w8) := ⟨⟨_, Below.refl _ _⟩⟩
  have v0 := fun u => over_cell (show w8.cell? ⟨bd, 0, none⟩ = some (.int .i64 0) from cell_of_heap Z8) u
  have v1 := fun u => over_cell (show w8.cell? ⟨bd, 1, none⟩ = some (.int .i64 0) from cell_of_heap Z8) u
  have v2 := fun u => over_cell (show w8.cell? ⟨bd, 2, none⟩ = some (.int .u64 0) from cell_of_heap Z8) u
  have v3 := fun u => over_cell (show w8.cell? ⟨bd, 3, none⟩ = some (.int .u64 0) from cell_of_heap Z8) u
  have SP := fun (u : Over w8) (qa' : Option Addr) (hq : Hand qa qa') => IP8.out.step qa' hq u.w' u.h
  have SQ := fun (u : Over w8) (qa' : Option Addr) (hq : Hand qa qa') => IQ8.out.step qa' hq u.w' u.h
  unfold noDid at SP SQ
  have HSP := hide SP
  have HSQ := hide SQ
  have DP := fun u : Over w8 => hide (IP8.out.done u.w' u.h)
  have DQ := fun u : Over w8 => hide (IQ8.out.done u.w' u.h)
  clear SP SQ
  refine over_region (by kernel_rfl) (by kernel_rfl) ?_
  repeat (go_big_quiet_step (first | (go_at_call 13; exact over_call _ (HSP.out _ _ (by simp [Hand]))) | (go_at_call 11; exact over_call _ (HSQ.out _ _ (by simp [Hand]))) | (go_at_call 14; exact over_call _ (DP _).out) | (go_at_call 12; exact over_call _ (DQ _).out)))
  refine wpQuiet_nil ?_
  rintro _ ⟨u9, rfl⟩
  have Z9 := (u9.h.block _ (lt_of_heap Z8)).trans Z8
  have A9 := hide (A8.out.below u9.h)
  have J9 := hide (J8.out.grow u9.h)
  have HC9 : Hid (∃ b s, StoreAt 105 u9.w' pa b s ∧ s.count = 0) := hide (by obtain ⟨b, s, h1, h2⟩ := HC8.out; exact ⟨b, s, h1.below u9.h, h2⟩)
  clear v0 v1 v2 v3 HSP HSQ DP DQ IP8 IQ8 hne0 A8 J8 HC8 Z8
  generalize u9.w' = w9 at *
  go_wp2
  have hne0 : Nonempty (Over w9) := ⟨⟨_, Below.refl _ _⟩⟩
  have v0 := fun u => over_cell (show w9.cell? ⟨bd, 0, none⟩ = some (.int .i64 0) from cell_of_heap Z9) u
  have v1 := fun u => over_cell (show w9.cell? ⟨bd, 1, none⟩ = some (.int .i64 0) from cell_of_heap Z9) u
  have v2 := fun u => over_cell (show w9.cell? ⟨bd, 2, none⟩ = some (.int .u64 0) from cell_of_heap Z9) u
  have v3 := fun u => over_cell (show w9.cell? ⟨bd, 3, none⟩ = some (.int .u64 0) from cell_of_heap Z9) u
  have SP := fun (u : Over w9) => hide (popNilStep u.w' (some ⟨qa, 0, none⟩))
  have SQ := fun (u : Over w9) => hide (pushNilStep u.w' (some ⟨qa, 0, none⟩))
  have DP := fun u : Over w9 => hide ((popNilIdle qa u.w').done u.w' (Below.refl _ _))
  have DQ := fun u : Over w9 => hide ((pushNilIdle qa u.w').done u.w' (Below.refl _ _))
  have GP := fun u : Over w9 => hide (nilPage u.w')
  have KS := fun u : Over w9 => hide (A9.out.below u.h).store
  have KC := fun u : Over w9 => hide (counted HC9.out u.h)
  unfold noDid at SP SQ
  refine over_region (by kernel_rfl) (by kernel_rfl) ?_
  repeat (go_big_quiet_step (first | (go_at_call 13; exact over_call _ (SP _).out) | (go_at_call 11; exact over_call _ (SQ _).out) | (go_at_call 14; exact over_call _ (DP _).out) | (go_at_call 12; exact over_call _ (DQ _).out) | (go_at_call 15; exact over_call _ (GP _).out) | (go_at_call 30; exact over_call _ (KS _).out) | (go_at_call 31; exact over_call _ (KC _).out) | (go_at_call 17; exact over_call _ (LN.out _)) | (go_at_call 21; exact over_call _ (HAW.out _))))
  refine wpQuiet_nil ?_
  rintro _ ⟨u10, rfl⟩
  have HB10 := hide ((J9.out.grow u10.h).below)
  clear v0 v1 v2 v3 SP SQ DP DQ GP KS KC hne0
  go_wp2
  go_ret
  exact ⟨rfl, HB10.out⟩

set_option maxRecDepth 100000 in
set_option maxHeartbeats 16000000 in
theorem may100 (P T : Int) (h y : Int) (hy : -9223372036854775808 ≤ y ∧ y ≤ 9223372036854775807) (hne : P ≠ 3 ∨ T ≠ 2) (hh : Lay.isHead P T h = true) (hp : (Lay.page P T 11 y).2 = false) (w : World) :
    Calls Try.prog 6 #[.agg #[.int .i64 P, .int .i64 T], .int .i64 h, .int .i64 y] w fun e w' => e = .returned (.bool true) ∧ Below w.heap.size w w' := by
  have hm := (Lay.isHead_iff.1 hh).1
  have hP1 := (Lay.may_iff.1 hm).1
  obtain ⟨hn0, hi0⟩ : ∃ hn0 : Nat, h = (hn0 : Int) := ⟨h.toNat, by have := (Lay.isHead_iff.1 hh).2; omega⟩
  subst hi0
  have NP := hide (fun u => newPopYes P T (hn0 : Int) hh u)
  have RP := hide (fun u => rightPop P T (hn0 : Int) hm u)
  have RQ := hide (fun u => rightPush P T y (hn0 : Int) hm hy u)
  rw [hh] at RP RQ
  rw [hp] at RQ
  simp only [Bool.and_false] at RQ
  have NQ := hide (fun u => newPushNo P T (hn0 : Int) y (.inr hp) u)
  have HA1 := hide (fun (u : World) => @anew Nought u u Loc.nought (Own.start u) 3 2 (by decide) [] (by simp) none 0 (fun _ => ⟨rfl, rfl⟩) (fun h => absurd rfl h))
  have HAW := hide (fun u => awake12 u)
  have LN := hide (fun u => listNil12 u (hn0 : Int))
  clear hh hp hm
  unfold mArr at RP RQ
  have O1 : Hid (On w.heap.size P T w (w.alloc (.cells #[.int .i64 P, .int .i64 T] 26))) := hide ⟨heap_alloc_at _ _, grown1 _ _⟩
  go_enter Try.func6, Try.ntmps6
  go_wp2
  generalize w.alloc (.cells #[.int .i64 P, .int .i64 T] 26) = w1 at *
  obtain ⟨bl, hbl⟩ : ∃ bl, w.heap.size = bl := ⟨_, rfl⟩
  have HBL := hide hbl
  rw [hbl] at O1
  rw [hbl]
  clear hbl
  have J1 := hide (O1.out.grow ((Alike.drewN w1 1).below _))
  have hne0 : Nonempty (Mem (On bl P T w)) := ⟨⟨_, J1.out⟩⟩
  have U0 : ∀ u : Mem (On bl P T w), u.w'.cell? ⟨bl, 0, none⟩ = some (.int .i64 P) := fun u => cell_of_heap u.h.lay
  have U1 : ∀ u : Mem (On bl P T w), u.w'.cell? ⟨bl, 1, none⟩ = some (.int .i64 T) := fun u => cell_of_heap u.h.lay
  refine region_start (J := On bl P T w) (by kernel_rfl) ?_
  refine stretch (fuel := 4) (by kernel_rfl) (fun _ _ _ _ _ h => h) J1.out [0, 1, 3, 4, 5] (by kernel_rfl) ?_
  simp only [List.filterMap_cons, List.filterMap_nil, List.getElem?_toArray, List.getElem?_cons_zero, List.getElem?_cons_succ]
  show wpQuiet _ _ _ _ [_, _, _, _, _] _
  repeat (go_big_quiet_step (fail))
  refine wpQuiet_nil ?_
  refine wpAnyJ_writer (i := 2) rfl (by kernel_rfl) (fun K' hK => ?_)
  go_simp
  refine (NP.out _).mono ?_
  rintro e w2 ⟨mx, rfl, hx, _, b2⟩
  have HX := hide hx
  clear hx
  have J2 := hide (J1.out.grow b2)
  refine hK _ _ J2.out ?_
  clear hK K' b2 J1 O1
  refine wpAnyJ_writer (i := 6) rfl (by kernel_rfl) (fun K' hK => ?_)
  go_simp
  refine (NQ.out _).mono ?_
  rintro e w3 ⟨rfl, b3⟩
  have HX3 := hide ((b3.block _ (lt_of_heap HX.out)).trans HX.out)
  clear HX
  have J3 := hide (J2.out.grow b3)
  refine hK _ _ J3.out ?_
  clear hK K' b3 J2 NP NQ
  refine stretch (fuel := 0) (by kernel_rfl) (fun _ _ _ _ _ h => h) J3.out [7, 8] (by kernel_rfl) ?_
  simp only [List.filterMap_cons, List.filterMap_nil, List.getElem?_toArray, List.getElem?_cons_zero, List.getElem?_cons_succ]
  show wpQuiet _ _ _ _ [_, _] _
  repeat (go_big_quiet_step (fail))
  refine wpQuiet_nil ?_
  refine wpAnyJ_done (by kernel_rfl) ?_
  clear U0 U1 hne0
  have c0 : w3.cell? ⟨bl, 0, none⟩ = some (.int .i64 P) := cell_of_heap J3.out.lay
  have c1 : w3.cell? ⟨bl, 1, none⟩ = some (.int .i64 T) := cell_of_heap J3.out.lay
  go_wp2_with fail
  refine (RP.out _).mono ?_
  rintro e w4 ⟨rfl, b4⟩
  have HX4 := hide ((b4.block _ (lt_of_heap HX3.out)).trans HX3.out)
  clear HX3
  have J4 := hide (J3.out.grow b4)
  clear b4 J3 c0 c1
  have c0 : w4.cell? ⟨bl, 0, none⟩ = some (.int .i64 P) := cell_of_heap J4.out.lay
  have c1 : w4.cell? ⟨bl, 1, none⟩ = some (.int .i64 T) := cell_of_heap J4.out.lay
  go_wp2_with fail
  refine (RQ.out _).mono ?_
  rintro e w5 ⟨rfl, b5⟩
  have HX5 := hide ((b5.block _ (lt_of_heap HX4.out)).trans HX4.out)
  clear HX4
  have J5 := hide (J4.out.grow b5)
  clear b5 J4 c0 c1 RP RQ
  go_wp2_with fail
  refine (HA1.out _).mono ?_
  rintro e w6 ⟨qa, pa, ra, rfl, o6⟩
  have b6 := o6.back
  have HC6 : Hid (∃ b s, StoreAt 105 w6 pa b s ∧ s.count = 0) := hide (by obtain ⟨b, hS⟩ := AX.st o6; exact ⟨b, _, hS, rfl⟩)
  have LOW : Hid (w5.heap.size ≤ qa ∧ w5.heap.size ≤ pa ∧ ∃ b s, StoreAt 105 w6 pa b s ∧ s.count = 0 ∧ s.words.length = (St.first (Lay.words ((3 : Nat) : Int) 2).toNat).words.length ∧ w5.heap.size ≤ b) := hide (by obtain ⟨h1, h2, b, h3, h4⟩ := o6.arLow; exact ⟨h1, h2, b, _, h3, rfl, rfl, h4⟩)
  have HB5 : Hid (bl < w5.heap.size) := hide (lt_of_heap J5.out.lay)
  have A6 : Hid (ArAt qa 3 2 pa ra (St.first (Lay.words ((3 : Nat) : Int) 2).toNat).words.length w6) := hide (ArAt.of o6)
  generalize (St.first (Lay.words ((3 : Nat) : Int) 2).toNat).words.length = an at *
  have HX6 := hide ((b6.block _ (lt_of_heap HX5.out)).trans HX5.out)
  clear HX5
  have J6 := hide (J5.out.grow b6)
  clear b6 J5 HA1 o6
  go_wp2
  have hne0 : Nonempty (Over w6) := ⟨⟨_, Below.refl _ _⟩⟩
  have u0 := fun u => over_cell (show w6.cell? ⟨bl, 0, none⟩ = some (.int .i64 P) from cell_of_heap J6.out.lay) u
  have u1 := fun u => over_cell (show w6.cell? ⟨bl, 1, none⟩ = some (.int .i64 T) from cell_of_heap J6.out.lay) u
  have LA := fun u : Over w6 => hide (A6.out.below u.h).layout
  by_cases hP3 : P = 3
  · have dT : (T == 2) = false := by rw [beq_eq_false_iff_ne]; omega
    refine over_region (by kernel_rfl) (by kernel_rfl) ?_
    repeat (go_big_quiet_step (first | (go_at_call 29; exact over_call _ (LA _).out)))
    refine wpQuiet_nil ?_
    rintro _ ⟨u7, rfl⟩
    have A7 := hide (A6.out.below u7.h)
    have J7 := hide (J6.out.grow u7.h)
    have HC7 : Hid (∃ b s, StoreAt 105 u7.w' pa b s ∧ s.count = 0) := hide (by obtain ⟨b, s, h1, h2⟩ := HC6.out; exact ⟨b, s, h1.below u7.h, h2⟩)
    have HX7 := hide ((u7.h.block _ (lt_of_heap HX6.out)).trans HX6.out)

    clear u0 u1 LA hne0 A6 J6 HC6 HX6

    generalize u7.w' = w7 at *
    have hT2 : T ≠ 2 := by omega
    have IP : Hid (PopIdle qa (.pointer (some ⟨mx, 0, none⟩)) w7) := hide (popNewIdle (i := hn0) HX7.out hP1 A7.out (by omega))
    have IQ : Hid (PushIdle qa (.pointer none) w7) := hide (pushNilIdle qa w7)
    go_wp2
    have Z8 := heap_alloc_at w7 (.cells #[.int .i64 0, .int .i64 0, .int .u64 0, .int .u64 0] 50)
    have B8 := grown1 w7 (.cells #[.int .i64 0, .int .i64 0, .int .u64 0, .int .u64 0] 50)
    have IP8 := hide (IP.out.grow B8)
    have IQ8 := hide (IQ.out.grow B8)
    have A8 := hide (A7.out.below B8)
    have J8 := hide (J7.out.grow B8)
    have HC8 : Hid (∃ b s, StoreAt 105 (w7.alloc (.cells #[.int .i64 0, .int .i64 0, .int .u64 0, .int .u64 0] 50)) pa b s ∧ s.count = 0) := hide (by obtain ⟨b, s, h1, h2⟩ := HC7.out; exact ⟨b, s, h1.below B8, h2⟩)
    clear IP IQ A7 J7 HC7 B8
    generalize w7.alloc (.cells #[.int .i64 0, .int .i64 0, .int .u64 0, .int .u64 0] 50) = w8 at *
    generalize w7.heap.size = bd at *
    have hne0 : Nonempty (Over w8) := ⟨⟨_, Below.refl _ _⟩⟩
    have v0 := fun u => over_cell (show w8.cell? ⟨bd, 0, none⟩ = some (.int .i64 0) from cell_of_heap Z8) u
    have v1 := fun u => over_cell (show w8.cell? ⟨bd, 1, none⟩ = some (.int .i64 0) from cell_of_heap Z8) u
    have v2 := fun u => over_cell (show w8.cell? ⟨bd, 2, none⟩ = some (.int .u64 0) from cell_of_heap Z8) u
    have v3 := fun u => over_cell (show w8.cell? ⟨bd, 3, none⟩ = some (.int .u64 0) from cell_of_heap Z8) u
    have SP := fun (u : Over w8) (qa' : Option Addr) (hq : Hand qa qa') => IP8.out.step qa' hq u.w' u.h
    have SQ := fun (u : Over w8) (qa' : Option Addr) (hq : Hand qa qa') => IQ8.out.step qa' hq u.w' u.h
    unfold noDid at SP SQ
    have HSP := hide SP
    have HSQ := hide SQ
    have DP := fun u : Over w8 => hide (IP8.out.done u.w' u.h)
    have DQ := fun u : Over w8 => hide (IQ8.out.done u.w' u.h)
    clear SP SQ
    refine over_region (by kernel_rfl) (by kernel_rfl) ?_
    repeat (go_big_quiet_step (first | (go_at_call 13; exact over_call _ (HSP.out _ _ (by simp [Hand]))) | (go_at_call 11; exact over_call _ (HSQ.out _ _ (by simp [Hand]))) | (go_at_call 14; exact over_call _ (DP _).out) | (go_at_call 12; exact over_call _ (DQ _).out)))
    refine wpQuiet_nil ?_
    rintro _ ⟨u9, rfl⟩
    have Z9 := (u9.h.block _ (lt_of_heap Z8)).trans Z8
    have A9 := hide (A8.out.below u9.h)
    have J9 := hide (J8.out.grow u9.h)
    have HC9 : Hid (∃ b s, StoreAt 105 u9.w' pa b s ∧ s.count = 0) := hide (by obtain ⟨b, s, h1, h2⟩ := HC8.out; exact ⟨b, s, h1.below u9.h, h2⟩)
    clear v0 v1 v2 v3 HSP HSQ DP DQ IP8 IQ8 hne0 A8 J8 HC8 Z8
    generalize u9.w' = w9 at *
    go_wp2
    have hne0 : Nonempty (Over w9) := ⟨⟨_, Below.refl _ _⟩⟩
    have v0 := fun u => over_cell (show w9.cell? ⟨bd, 0, none⟩ = some (.int .i64 0) from cell_of_heap Z9) u
    have v1 := fun u => over_cell (show w9.cell? ⟨bd, 1, none⟩ = some (.int .i64 0) from cell_of_heap Z9) u
    have v2 := fun u => over_cell (show w9.cell? ⟨bd, 2, none⟩ = some (.int .u64 0) from cell_of_heap Z9) u
    have v3 := fun u => over_cell (show w9.cell? ⟨bd, 3, none⟩ = some (.int .u64 0) from cell_of_heap Z9) u
    have SP := fun (u : Over w9) => hide (popNilStep u.w' (some ⟨qa, 0, none⟩))
    have SQ := fun (u : Over w9) => hide (pushNilStep u.w' (some ⟨qa, 0, none⟩))
    have DP := fun u : Over w9 => hide ((popNilIdle qa u.w').done u.w' (Below.refl _ _))
    have DQ := fun u : Over w9 => hide ((pushNilIdle qa u.w').done u.w' (Below.refl _ _))
    have GP := fun u : Over w9 => hide (nilPage u.w')
    have KS := fun u : Over w9 => hide (A9.out.below u.h).store
    have KC := fun u : Over w9 => hide (counted HC9.out u.h)
    unfold noDid at SP SQ
    refine over_region (by kernel_rfl) (by kernel_rfl) ?_
    repeat (go_big_quiet_step (first | (go_at_call 13; exact over_call _ (SP _).out) | (go_at_call 11; exact over_call _ (SQ _).out) | (go_at_call 14; exact over_call _ (DP _).out) | (go_at_call 12; exact over_call _ (DQ _).out) | (go_at_call 15; exact over_call _ (GP _).out) | (go_at_call 30; exact over_call _ (KS _).out) | (go_at_call 31; exact over_call _ (KC _).out) | (go_at_call 17; exact over_call _ (LN.out _)) | (go_at_call 21; exact over_call _ (HAW.out _))))
    refine wpQuiet_nil ?_
    rintro _ ⟨u10, rfl⟩
    have HB10 := hide ((J9.out.grow u10.h).below)
    clear v0 v1 v2 v3 SP SQ DP DQ GP KS KC hne0
    go_wp2
    go_ret
    exact ⟨rfl, HB10.out⟩
  · have dP : (P == 3) = false := by rw [beq_eq_false_iff_ne]; omega
    refine over_region (by kernel_rfl) (by kernel_rfl) ?_
    repeat (go_big_quiet_step (first | (go_at_call 29; exact over_call _ (LA _).out)))
    refine wpQuiet_nil ?_
    rintro _ ⟨u7, rfl⟩
    have A7 := hide (A6.out.below u7.h)
    have J7 := hide (J6.out.grow u7.h)
    have HC7 : Hid (∃ b s, StoreAt 105 u7.w' pa b s ∧ s.count = 0) := hide (by obtain ⟨b, s, h1, h2⟩ := HC6.out; exact ⟨b, s, h1.below u7.h, h2⟩)
    have HX7 := hide ((u7.h.block _ (lt_of_heap HX6.out)).trans HX6.out)

    clear u0 u1 LA hne0 A6 J6 HC6 HX6

    generalize u7.w' = w7 at *
    have IP : Hid (PopIdle qa (.pointer (some ⟨mx, 0, none⟩)) w7) := hide (popNewIdle (i := hn0) HX7.out hP1 A7.out (by omega))
    have IQ : Hid (PushIdle qa (.pointer none) w7) := hide (pushNilIdle qa w7)
    go_wp2
    have Z8 := heap_alloc_at w7 (.cells #[.int .i64 0, .int .i64 0, .int .u64 0, .int .u64 0] 50)
    have B8 := grown1 w7 (.cells #[.int .i64 0, .int .i64 0, .int .u64 0, .int .u64 0] 50)
    have IP8 := hide (IP.out.grow B8)
    have IQ8 := hide (IQ.out.grow B8)
    have A8 := hide (A7.out.below B8)
    have J8 := hide (J7.out.grow B8)
    have HC8 : Hid (∃ b s, StoreAt 105 (w7.alloc (.cells #[.int .i64 0, .int .i64 0, .int .u64 0, .int .u64 0] 50)) pa b s ∧ s.count = 0) := hide (by obtain ⟨b, s, h1, h2⟩ := HC7.out; exact ⟨b, s, h1.below B8, h2⟩)
    clear IP IQ A7 J7 HC7 B8
    generalize w7.alloc (.cells #[.int .i64 0, .int .i64 0, .int .u64 0, .int .u64 0] 50) = w8 at *
    generalize w7.heap.size = bd at *
    have hne0 : Nonempty (Over w8) := ⟨⟨_, Below.refl _ _⟩⟩
    have v0 := fun u => over_cell (show w8.cell? ⟨bd, 0, none⟩ = some (.int .i64 0) from cell_of_heap Z8) u
    have v1 := fun u => over_cell (show w8.cell? ⟨bd, 1, none⟩ = some (.int .i64 0) from cell_of_heap Z8) u
    have v2 := fun u => over_cell (show w8.cell? ⟨bd, 2, none⟩ = some (.int .u64 0) from cell_of_heap Z8) u
    have v3 := fun u => over_cell (show w8.cell? ⟨bd, 3, none⟩ = some (.int .u64 0) from cell_of_heap Z8) u
    have SP := fun (u : Over w8) (qa' : Option Addr) (hq : Hand qa qa') => IP8.out.step qa' hq u.w' u.h
    have SQ := fun (u : Over w8) (qa' : Option Addr) (hq : Hand qa qa') => IQ8.out.step qa' hq u.w' u.h
    unfold noDid at SP SQ
    have HSP := hide SP
    have HSQ := hide SQ
    have DP := fun u : Over w8 => hide (IP8.out.done u.w' u.h)
    have DQ := fun u : Over w8 => hide (IQ8.out.done u.w' u.h)
    clear SP SQ
    refine over_region (by kernel_rfl) (by kernel_rfl) ?_
    repeat (go_big_quiet_step (first | (go_at_call 13; exact over_call _ (HSP.out _ _ (by simp [Hand]))) | (go_at_call 11; exact over_call _ (HSQ.out _ _ (by simp [Hand]))) | (go_at_call 14; exact over_call _ (DP _).out) | (go_at_call 12; exact over_call _ (DQ _).out)))
    refine wpQuiet_nil ?_
    rintro _ ⟨u9, rfl⟩
    have Z9 := (u9.h.block _ (lt_of_heap Z8)).trans Z8
    have A9 := hide (A8.out.below u9.h)
    have J9 := hide (J8.out.grow u9.h)
    have HC9 : Hid (∃ b s, StoreAt 105 u9.w' pa b s ∧ s.count = 0) := hide (by obtain ⟨b, s, h1, h2⟩ := HC8.out; exact ⟨b, s, h1.below u9.h, h2⟩)
    clear v0 v1 v2 v3 HSP HSQ DP DQ IP8 IQ8 hne0 A8 J8 HC8 Z8
    generalize u9.w' = w9 at *
    go_wp2
    have hne0 : Nonempty (Over w9) := ⟨⟨_, Below.refl _ _⟩⟩
    have v0 := fun u => over_cell (show w9.cell? ⟨bd, 0, none⟩ = some (.int .i64 0) from cell_of_heap Z9) u
    have v1 := fun u => over_cell (show w9.cell? ⟨bd, 1, none⟩ = some (.int .i64 0) from cell_of_heap Z9) u
    have v2 := fun u => over_cell (show w9.cell? ⟨bd, 2, none⟩ = some (.int .u64 0) from cell_of_heap Z9) u
    have v3 := fun u => over_cell (show w9.cell? ⟨bd, 3, none⟩ = some (.int .u64 0) from cell_of_heap Z9) u
    have SP := fun (u : Over w9) => hide (popNilStep u.w' (some ⟨qa, 0, none⟩))
    have SQ := fun (u : Over w9) => hide (pushNilStep u.w' (some ⟨qa, 0, none⟩))
    have DP := fun u : Over w9 => hide ((popNilIdle qa u.w').done u.w' (Below.refl _ _))
    have DQ := fun u : Over w9 => hide ((pushNilIdle qa u.w').done u.w' (Below.refl _ _))
    have GP := fun u : Over w9 => hide (nilPage u.w')
    have KS := fun u : Over w9 => hide (A9.out.below u.h).store
    have KC := fun u : Over w9 => hide (counted HC9.out u.h)
    unfold noDid at SP SQ
    refine over_region (by kernel_rfl) (by kernel_rfl) ?_
    repeat (go_big_quiet_step (first | (go_at_call 13; exact over_call _ (SP _).out) | (go_at_call 11; exact over_call _ (SQ _).out) | (go_at_call 14; exact over_call _ (DP _).out) | (go_at_call 12; exact over_call _ (DQ _).out) | (go_at_call 15; exact over_call _ (GP _).out) | (go_at_call 30; exact over_call _ (KS _).out) | (go_at_call 31; exact over_call _ (KC _).out) | (go_at_call 17; exact over_call _ (LN.out _)) | (go_at_call 21; exact over_call _ (HAW.out _))))
    refine wpQuiet_nil ?_
    rintro _ ⟨u10, rfl⟩
    have HB10 := hide ((J9.out.grow u10.h).below)
    clear v0 v1 v2 v3 SP SQ DP DQ GP KS KC hne0
    go_wp2
    go_ret
    exact ⟨rfl, HB10.out⟩

set_option maxRecDepth 100000 in
set_option maxHeartbeats 16000000 in
theorem may101 (h y : Int) (hy : -9223372036854775808 ≤ y ∧ y ≤ 9223372036854775807) (hh : Lay.isHead 3 2 h = true) (hp : (Lay.page 3 2 11 y).2 = false) (w : World) :
    Calls Try.prog 6 #[.agg #[.int .i64 3, .int .i64 2], .int .i64 h, .int .i64 y] w fun e w' => e = .returned (.bool true) ∧ Below w.heap.size w w' := by
  have hm := (Lay.isHead_iff.1 hh).1
  have hP1 := (Lay.may_iff.1 hm).1
  obtain ⟨hn0, hi0⟩ : ∃ hn0 : Nat, h = (hn0 : Int) := ⟨h.toNat, by have := (Lay.isHead_iff.1 hh).2; omega⟩
  subst hi0
  have NP := hide (fun u => newPopYes 3 2 (hn0 : Int) hh u)
  have RP := hide (fun u => rightPop 3 2 (hn0 : Int) hm u)
  have RQ := hide (fun u => rightPush 3 2 y (hn0 : Int) hm hy u)
  rw [hh] at RP RQ
  rw [hp] at RQ
  simp only [Bool.and_false] at RQ
  have NQ := hide (fun u => newPushNo 3 2 (hn0 : Int) y (.inr hp) u)
  have NP2 := hide (fun u => newPop4 (hn0 : Int) u)
  have NQ2 := hide (fun u => newPush4 (hn0 : Int) y u)
  have HA1 := hide (fun (u : World) => @anew Nought u u Loc.nought (Own.start u) 3 2 (by decide) [] (by simp) none 0 (fun _ => ⟨rfl, rfl⟩) (fun h => absurd rfl h))
  have HAW := hide (fun u => awake12 u)
  have LN := hide (fun u => listNil12 u (hn0 : Int))
  clear hh hp hm
  unfold mArr at RP RQ
  have O1 : Hid (On w.heap.size 3 2 w (w.alloc (.cells #[.int .i64 3, .int .i64 2] 26))) := hide ⟨heap_alloc_at _ _, grown1 _ _⟩
  go_enter Try.func6, Try.ntmps6
  go_wp2
  generalize w.alloc (.cells #[.int .i64 3, .int .i64 2] 26) = w1 at *
  obtain ⟨bl, hbl⟩ : ∃ bl, w.heap.size = bl := ⟨_, rfl⟩
  have HBL := hide hbl
  rw [hbl] at O1
  rw [hbl]
  clear hbl
  have J1 := hide (O1.out.grow ((Alike.drewN w1 1).below _))
  have hne0 : Nonempty (Mem (On bl 3 2 w)) := ⟨⟨_, J1.out⟩⟩
  have U0 : ∀ u : Mem (On bl 3 2 w), u.w'.cell? ⟨bl, 0, none⟩ = some (.int .i64 3) := fun u => cell_of_heap u.h.lay
  have U1 : ∀ u : Mem (On bl 3 2 w), u.w'.cell? ⟨bl, 1, none⟩ = some (.int .i64 2) := fun u => cell_of_heap u.h.lay
  refine region_start (J := On bl 3 2 w) (by kernel_rfl) ?_
  refine stretch (fuel := 4) (by kernel_rfl) (fun _ _ _ _ _ h => h) J1.out [0, 1, 3, 4, 5] (by kernel_rfl) ?_
  simp only [List.filterMap_cons, List.filterMap_nil, List.getElem?_toArray, List.getElem?_cons_zero, List.getElem?_cons_succ]
  show wpQuiet _ _ _ _ [_, _, _, _, _] _
  repeat (go_big_quiet_step (fail))
  refine wpQuiet_nil ?_
  refine wpAnyJ_writer (i := 2) rfl (by kernel_rfl) (fun K' hK => ?_)
  go_simp
  refine (NP.out _).mono ?_
  rintro e w2 ⟨mx, rfl, hx, _, b2⟩
  have HX := hide hx
  clear hx
  have J2 := hide (J1.out.grow b2)
  refine hK _ _ J2.out ?_
  clear hK K' b2 J1 O1
  refine wpAnyJ_writer (i := 6) rfl (by kernel_rfl) (fun K' hK => ?_)
  go_simp
  refine (NQ.out _).mono ?_
  rintro e w3 ⟨rfl, b3⟩
  have HX3 := hide ((b3.block _ (lt_of_heap HX.out)).trans HX.out)
  clear HX
  have J3 := hide (J2.out.grow b3)
  refine hK _ _ J3.out ?_
  clear hK K' b3 J2 NP NQ
  refine stretch (fuel := 0) (by kernel_rfl) (fun _ _ _ _ _ h => h) J3.out [7, 8] (by kernel_rfl) ?_
  simp only [List.filterMap_cons, List.filterMap_nil, List.getElem?_toArray, List.getElem?_cons_zero, List.getElem?_cons_succ]
  show wpQuiet _ _ _ _ [_, _] _
  repeat (go_big_quiet_step (fail))
  refine wpQuiet_nil ?_
  refine wpAnyJ_done (by kernel_rfl) ?_
  clear U0 U1 hne0
  have c0 : w3.cell? ⟨bl, 0, none⟩ = some (.int .i64 3) := cell_of_heap J3.out.lay
  have c1 : w3.cell? ⟨bl, 1, none⟩ = some (.int .i64 2) := cell_of_heap J3.out.lay
  go_wp2_with fail
  refine (RP.out _).mono ?_
  rintro e w4 ⟨rfl, b4⟩
  have HX4 := hide ((b4.block _ (lt_of_heap HX3.out)).trans HX3.out)
  clear HX3
  have J4 := hide (J3.out.grow b4)
  clear b4 J3 c0 c1
  have c0 : w4.cell? ⟨bl, 0, none⟩ = some (.int .i64 3) := cell_of_heap J4.out.lay
  have c1 : w4.cell? ⟨bl, 1, none⟩ = some (.int .i64 2) := cell_of_heap J4.out.lay
  go_wp2_with fail
  refine (RQ.out _).mono ?_
  rintro e w5 ⟨rfl, b5⟩
  have HX5 := hide ((b5.block _ (lt_of_heap HX4.out)).trans HX4.out)
  clear HX4
  have J5 := hide (J4.out.grow b5)
  clear b5 J4 c0 c1 RP RQ
  go_wp2_with fail
  refine (HA1.out _).mono ?_
  rintro e w6 ⟨qa, pa, ra, rfl, o6⟩
  have b6 := o6.back
  have HC6 : Hid (∃ b s, StoreAt 105 w6 pa b s ∧ s.count = 0) := hide (by obtain ⟨b, hS⟩ := AX.st o6; exact ⟨b, _, hS, rfl⟩)
  have LOW : Hid (w5.heap.size ≤ qa ∧ w5.heap.size ≤ pa ∧ ∃ b s, StoreAt 105 w6 pa b s ∧ s.count = 0 ∧ s.words.length = (St.first (Lay.words ((3 : Nat) : Int) 2).toNat).words.length ∧ w5.heap.size ≤ b) := hide (by obtain ⟨h1, h2, b, h3, h4⟩ := o6.arLow; exact ⟨h1, h2, b, _, h3, rfl, rfl, h4⟩)
  have HB5 : Hid (bl < w5.heap.size) := hide (lt_of_heap J5.out.lay)
  have A6 : Hid (ArAt qa 3 2 pa ra (St.first (Lay.words ((3 : Nat) : Int) 2).toNat).words.length w6) := hide (ArAt.of o6)
  generalize (St.first (Lay.words ((3 : Nat) : Int) 2).toNat).words.length = an at *
  have HX6 := hide ((b6.block _ (lt_of_heap HX5.out)).trans HX5.out)
  clear HX5
  have J6 := hide (J5.out.grow b6)
  clear b6 J5 HA1 o6
  go_wp2
  have hne0 : Nonempty (Over w6) := ⟨⟨_, Below.refl _ _⟩⟩
  have u0 := fun u => over_cell (show w6.cell? ⟨bl, 0, none⟩ = some (.int .i64 3) from cell_of_heap J6.out.lay) u
  have u1 := fun u => over_cell (show w6.cell? ⟨bl, 1, none⟩ = some (.int .i64 2) from cell_of_heap J6.out.lay) u
  have LA := fun u : Over w6 => hide (A6.out.below u.h).layout
  refine over_region (by kernel_rfl) (by kernel_rfl) ?_
  repeat (go_big_quiet_step (first | (go_at_call 29; exact over_call _ (LA _).out)))
  refine wpQuiet_nil ?_
  rintro _ ⟨u7, rfl⟩
  have A7 := hide (A6.out.below u7.h)
  have J7 := hide (J6.out.grow u7.h)
  have HC7 : Hid (∃ b s, StoreAt 105 u7.w' pa b s ∧ s.count = 0) := hide (by obtain ⟨b, s, h1, h2⟩ := HC6.out; exact ⟨b, s, h1.below u7.h, h2⟩)
  have HX7 := hide ((u7.h.block _ (lt_of_heap HX6.out)).trans HX6.out)

  clear u0 u1 LA hne0 A6 J6 HC6 HX6
  have HU7 := hide u7.h
  generalize u7.w' = w7 at *
  have HA7 := A7
  clear A7 HC7
  have f7 : ∀ o, w7.frozen? ⟨bl, o, none⟩ = false := fun o => frozen_of_heap J7.out.lay
  have k7 : w7.cell? ⟨bl, 0, none⟩ = some (.int .i64 3) := cell_of_heap J7.out.lay
  have e8 := heap_setCell_at (o := 0) J7.out.lay (.int .i64 4)
  have J8 : Hid (On bl 4 2 w (w7.setCell ⟨bl, 0, none⟩ (.int .i64 4))) := hide ⟨e8, J7.out.below.setCell (p := ⟨bl, 0, none⟩) (by rw [HBL.out]; exact Nat.le_refl _) _⟩
  have HO8 := hide ((Only.refl (fun k => k = bl) w7).setCell (p := ⟨bl, 0, none⟩) (.inl rfl) (.int .i64 4))
  obtain ⟨g1, g2, gb, gs, g3, g4, g5, g6⟩ := LOW.out
  have hb5 := HB5.out
  have A8 : Hid (ArAt qa 3 2 pa ra an (w7.setCell ⟨bl, 0, none⟩ (.int .i64 4))) := hide ⟨(HO8.out.block qa (lt_of_heap HA7.out.hd) (by omega)).trans HA7.out.hd, gb, gs, (g3.below HU7.out).kept HO8.out (by omega) (by omega), g5⟩
  have HC8 : Hid (∃ b s, StoreAt 105 (w7.setCell ⟨bl, 0, none⟩ (.int .i64 4)) pa b s ∧ s.count = 0) := hide ⟨gb, gs, (g3.below HU7.out).kept HO8.out (by omega) (by omega), g4⟩
  clear e8 HO8 g1 g2 g3 g4 g5 g6 hb5 LOW HB5 HA7 HU7
  have hlb := HBL.out
  clear HBL
  go_wp2
  clear f7 k7 J7
  generalize w7.setCell ⟨bl, 0, none⟩ (.int .i64 4) = w8 at *
  have J1 := hide (J8.out.grow ((Alike.drewN w8 1).below _))
  have A1 := hide (A8.out.below ((Alike.drewN w8 1).below _))
  have HC1 : Hid (∃ b s, StoreAt 105 w8.drew pa b s ∧ s.count = 0) := hide (by obtain ⟨b, s, h1, h2⟩ := HC8.out; exact ⟨b, s, h1.below ((Alike.drewN w8 1).below _), h2⟩)
  clear J8 A8 HC8
  have hne1 : Nonempty (Mem (On bl 4 2 w)) := ⟨⟨_, J1.out⟩⟩
  have U0 : ∀ u : Mem (On bl 4 2 w), u.w'.cell? ⟨bl, 0, none⟩ = some (.int .i64 4) := fun u => cell_of_heap u.h.lay
  have U1 : ∀ u : Mem (On bl 4 2 w), u.w'.cell? ⟨bl, 1, none⟩ = some (.int .i64 2) := fun u => cell_of_heap u.h.lay
  refine region_start (J := On bl 4 2 w) (by kernel_rfl) ?_
  refine stretch (fuel := 4) (by kernel_rfl) (fun _ _ _ _ _ h => h) J1.out [0, 1, 3, 4, 5] (by kernel_rfl) ?_
  simp only [List.filterMap_cons, List.filterMap_nil, List.getElem?_toArray, List.getElem?_cons_zero, List.getElem?_cons_succ]
  show wpQuiet _ _ _ _ [_, _, _, _, _] _
  repeat (go_big_quiet_step (fail))
  refine wpQuiet_nil ?_
  refine wpAnyJ_writer (i := 2) rfl (by kernel_rfl) (fun K' hK => ?_)
  go_simp
  refine (NP2.out _).mono ?_
  rintro e w10 ⟨mv, rfl, kv, b10⟩
  have J2 := hide (J1.out.grow b10)
  have A2 := hide (A1.out.below b10)
  have HC2 : Hid (∃ b s, StoreAt 105 w10 pa b s ∧ s.count = 0) := hide (by obtain ⟨b, s, h1, h2⟩ := HC1.out; exact ⟨b, s, h1.below b10, h2⟩)
  have IP2 : Hid (PopIdle qa mv w10) := hide (by
    rcases kv with rfl | ⟨m, i, rfl, hx⟩
    · exact popNilIdle qa w10
    · exact popNewIdle hx (by omega) A2.out (.inl (by omega)))
  refine hK _ _ J2.out ?_
  clear hK K' b10 J1 A1 HC1 kv
  refine wpAnyJ_writer (i := 6) rfl (by kernel_rfl) (fun K' hK => ?_)
  go_simp
  refine (NQ2.out _).mono ?_
  rintro e w11 ⟨nv, rfl, kv, b11⟩
  have J7 := hide (J2.out.grow b11)
  have A7 := hide (A2.out.below b11)
  have HC7 : Hid (∃ b s, StoreAt 105 w11 pa b s ∧ s.count = 0) := hide (by obtain ⟨b, s, h1, h2⟩ := HC2.out; exact ⟨b, s, h1.below b11, h2⟩)
  have IP := hide (IP2.out.grow b11)
  have IQ : Hid (PushIdle qa nv w11) := hide (by
    rcases kv with rfl | ⟨m, i, rfl, hx⟩
    · exact pushNilIdle qa w11
    · exact pushNewIdle hx (by omega) A7.out (.inl (by omega)))
  refine hK _ _ J7.out ?_
  clear hK K' b11 J2 A2 HC2 kv IP2
  refine stretch (fuel := 0) (by kernel_rfl) (fun _ _ _ _ _ h => h) J7.out [7, 8] (by kernel_rfl) ?_
  simp only [List.filterMap_cons, List.filterMap_nil, List.getElem?_toArray, List.getElem?_cons_zero, List.getElem?_cons_succ]
  show wpQuiet _ _ _ _ [_, _] _
  repeat (go_big_quiet_step (fail))
  refine wpQuiet_nil ?_
  refine wpAnyJ_done (by kernel_rfl) ?_
  clear U0 U1 hne1 NP2 NQ2
  generalize w11 = w7 at *
  go_wp2
  have Z8 := heap_alloc_at w7 (.cells #[.int .i64 0, .int .i64 0, .int .u64 0, .int .u64 0] 50)
  have B8 := grown1 w7 (.cells #[.int .i64 0, .int .i64 0, .int .u64 0, .int .u64 0] 50)
  have IP8 := hide (IP.out.grow B8)
  have IQ8 := hide (IQ.out.grow B8)
  have A8 := hide (A7.out.below B8)
  have J8 := hide (J7.out.grow B8)
  have HC8 : Hid (∃ b s, StoreAt 105 (w7.alloc (.cells #[.int .i64 0, .int .i64 0, .int .u64 0, .int .u64 0] 50)) pa b s ∧ s.count = 0) := hide (by obtain ⟨b, s, h1, h2⟩ := HC7.out; exact ⟨b, s, h1.below B8, h2⟩)
  clear IP IQ A7 J7 HC7 B8
  generalize w7.alloc (.cells #[.int .i64 0, .int .i64 0, .int .u64 0, .int .u64 0] 50) = w8 at *
  generalize w7.heap.size = bd at *
  have hne0 : Nonempty (Over w8) := ⟨⟨_, Below.refl _ _⟩⟩
  have v0 := fun u => over_cell (show w8.cell? ⟨bd, 0, none⟩ = some (.int .i64 0) from cell_of_heap Z8) u
  have v1 := fun u => over_cell (show w8.cell? ⟨bd, 1, none⟩ = some (.int .i64 0) from cell_of_heap Z8) u
  have v2 := fun u => over_cell (show w8.cell? ⟨bd, 2, none⟩ = some (.int .u64 0) from cell_of_heap Z8) u
  have v3 := fun u => over_cell (show w8.cell? ⟨bd, 3, none⟩ = some (.int .u64 0) from cell_of_heap Z8) u
  have SP := fun (u : Over w8) (qa' : Option Addr) (hq : Hand qa qa') => IP8.out.step qa' hq u.w' u.h
  have SQ := fun (u : Over w8) (qa' : Option Addr) (hq : Hand qa qa') => IQ8.out.step qa' hq u.w' u.h
  unfold noDid at SP SQ
  have HSP := hide SP
  have HSQ := hide SQ
  have DP := fun u : Over w8 => hide (IP8.out.done u.w' u.h)
  have DQ := fun u : Over w8 => hide (IQ8.out.done u.w' u.h)
  clear SP SQ
  refine over_region (by kernel_rfl) (by kernel_rfl) ?_
  repeat (go_big_quiet_step (first | (go_at_call 13; exact over_call _ (HSP.out _ _ (by simp [Hand]))) | (go_at_call 11; exact over_call _ (HSQ.out _ _ (by simp [Hand]))) | (go_at_call 14; exact over_call _ (DP _).out) | (go_at_call 12; exact over_call _ (DQ _).out)))
  refine wpQuiet_nil ?_
  rintro _ ⟨u9, rfl⟩
  have Z9 := (u9.h.block _ (lt_of_heap Z8)).trans Z8
  have A9 := hide (A8.out.below u9.h)
  have J9 := hide (J8.out.grow u9.h)
  have HC9 : Hid (∃ b s, StoreAt 105 u9.w' pa b s ∧ s.count = 0) := hide (by obtain ⟨b, s, h1, h2⟩ := HC8.out; exact ⟨b, s, h1.below u9.h, h2⟩)
  clear v0 v1 v2 v3 HSP HSQ DP DQ IP8 IQ8 hne0 A8 J8 HC8 Z8
  generalize u9.w' = w9 at *
  go_wp2
  have hne0 : Nonempty (Over w9) := ⟨⟨_, Below.refl _ _⟩⟩
  have v0 := fun u => over_cell (show w9.cell? ⟨bd, 0, none⟩ = some (.int .i64 0) from cell_of_heap Z9) u
  have v1 := fun u => over_cell (show w9.cell? ⟨bd, 1, none⟩ = some (.int .i64 0) from cell_of_heap Z9) u
  have v2 := fun u => over_cell (show w9.cell? ⟨bd, 2, none⟩ = some (.int .u64 0) from cell_of_heap Z9) u
  have v3 := fun u => over_cell (show w9.cell? ⟨bd, 3, none⟩ = some (.int .u64 0) from cell_of_heap Z9) u
  have SP := fun (u : Over w9) => hide (popNilStep u.w' (some ⟨qa, 0, none⟩))
  have SQ := fun (u : Over w9) => hide (pushNilStep u.w' (some ⟨qa, 0, none⟩))
  have DP := fun u : Over w9 => hide ((popNilIdle qa u.w').done u.w' (Below.refl _ _))
  have DQ := fun u : Over w9 => hide ((pushNilIdle qa u.w').done u.w' (Below.refl _ _))
  have GP := fun u : Over w9 => hide (nilPage u.w')
  have KS := fun u : Over w9 => hide (A9.out.below u.h).store
  have KC := fun u : Over w9 => hide (counted HC9.out u.h)
  unfold noDid at SP SQ
  refine over_region (by kernel_rfl) (by kernel_rfl) ?_
  repeat (go_big_quiet_step (first | (go_at_call 13; exact over_call _ (SP _).out) | (go_at_call 11; exact over_call _ (SQ _).out) | (go_at_call 14; exact over_call _ (DP _).out) | (go_at_call 12; exact over_call _ (DQ _).out) | (go_at_call 15; exact over_call _ (GP _).out) | (go_at_call 30; exact over_call _ (KS _).out) | (go_at_call 31; exact over_call _ (KC _).out) | (go_at_call 17; exact over_call _ (LN.out _)) | (go_at_call 21; exact over_call _ (HAW.out _))))
  refine wpQuiet_nil ?_
  rintro _ ⟨u10, rfl⟩
  have HB10 := hide ((J9.out.grow u10.h).below)
  clear v0 v1 v2 v3 SP SQ DP DQ GP KS KC hne0
  go_wp2
  go_ret
  exact ⟨rfl, HB10.out⟩

set_option maxRecDepth 100000 in
set_option maxHeartbeats 16000000 in
theorem may110 (P T : Int) (h y : Int) (hy : -9223372036854775808 ≤ y ∧ y ≤ 9223372036854775807) (hne : P ≠ 3 ∨ T ≠ 2) (hh : Lay.isHead P T h = true) (hp : (Lay.page P T 11 y).2 = true) (w : World) :
    Calls Try.prog 6 #[.agg #[.int .i64 P, .int .i64 T], .int .i64 h, .int .i64 y] w fun e w' => e = .returned (.bool true) ∧ Below w.heap.size w w' := by
  have hm := (Lay.isHead_iff.1 hh).1
  have hP1 := (Lay.may_iff.1 hm).1
  obtain ⟨hn0, hi0⟩ : ∃ hn0 : Nat, h = (hn0 : Int) := ⟨h.toNat, by have := (Lay.isHead_iff.1 hh).2; omega⟩
  subst hi0
  have NP := hide (fun u => newPopYes P T (hn0 : Int) hh u)
  have RP := hide (fun u => rightPop P T (hn0 : Int) hm u)
  have RQ := hide (fun u => rightPush P T y (hn0 : Int) hm hy u)
  rw [hh] at RP RQ
  rw [hp] at RQ
  simp only [Bool.and_true] at RQ
  have NQ := hide (fun u => newPushYes P T (hn0 : Int) y hh hp u)
  have HA1 := hide (fun (u : World) => @anew Nought u u Loc.nought (Own.start u) 3 2 (by decide) [] (by simp) none 0 (fun _ => ⟨rfl, rfl⟩) (fun h => absurd rfl h))
  have HAW := hide (fun u => awake12 u)
  have LN := hide (fun u => listNil12 u (hn0 : Int))
  clear hh hp hm
  unfold mArr at RP RQ
  have O1 : Hid (On w.heap.size P T w (w.alloc (.cells #[.int .i64 P, .int .i64 T] 26))) := hide ⟨heap_alloc_at _ _, grown1 _ _⟩
  go_enter Try.func6, Try.ntmps6
  go_wp2
  generalize w.alloc (.cells #[.int .i64 P, .int .i64 T] 26) = w1 at *
  obtain ⟨bl, hbl⟩ : ∃ bl, w.heap.size = bl := ⟨_, rfl⟩
  have HBL := hide hbl
  rw [hbl] at O1
  rw [hbl]
  clear hbl
  have J1 := hide (O1.out.grow ((Alike.drewN w1 1).below _))
  have hne0 : Nonempty (Mem (On bl P T w)) := ⟨⟨_, J1.out⟩⟩
  have U0 : ∀ u : Mem (On bl P T w), u.w'.cell? ⟨bl, 0, none⟩ = some (.int .i64 P) := fun u => cell_of_heap u.h.lay
  have U1 : ∀ u : Mem (On bl P T w), u.w'.cell? ⟨bl, 1, none⟩ = some (.int .i64 T) := fun u => cell_of_heap u.h.lay
  refine region_start (J := On bl P T w) (by kernel_rfl) ?_
  refine stretch (fuel := 4) (by kernel_rfl) (fun _ _ _ _ _ h => h) J1.out [0, 1, 3, 4, 5] (by kernel_rfl) ?_
  simp only [List.filterMap_cons, List.filterMap_nil, List.getElem?_toArray, List.getElem?_cons_zero, List.getElem?_cons_succ]
  show wpQuiet _ _ _ _ [_, _, _, _, _] _
  repeat (go_big_quiet_step (fail))
  refine wpQuiet_nil ?_
  refine wpAnyJ_writer (i := 2) rfl (by kernel_rfl) (fun K' hK => ?_)
  go_simp
  refine (NP.out _).mono ?_
  rintro e w2 ⟨mx, rfl, hx, _, b2⟩
  have HX := hide hx
  clear hx
  have J2 := hide (J1.out.grow b2)
  refine hK _ _ J2.out ?_
  clear hK K' b2 J1 O1
  refine wpAnyJ_writer (i := 6) rfl (by kernel_rfl) (fun K' hK => ?_)
  go_simp
  refine (NQ.out _).mono ?_
  rintro e w3 ⟨my, rfl, hx, _, b3⟩
  have HY := hide hx
  clear hx
  have HX3 := hide ((b3.block _ (lt_of_heap HX.out)).trans HX.out)
  clear HX
  have J3 := hide (J2.out.grow b3)
  refine hK _ _ J3.out ?_
  clear hK K' b3 J2 NP NQ
  refine stretch (fuel := 0) (by kernel_rfl) (fun _ _ _ _ _ h => h) J3.out [7, 8] (by kernel_rfl) ?_
  simp only [List.filterMap_cons, List.filterMap_nil, List.getElem?_toArray, List.getElem?_cons_zero, List.getElem?_cons_succ]
  show wpQuiet _ _ _ _ [_, _] _
  repeat (go_big_quiet_step (fail))
  refine wpQuiet_nil ?_
  refine wpAnyJ_done (by kernel_rfl) ?_
  clear U0 U1 hne0
  have c0 : w3.cell? ⟨bl, 0, none⟩ = some (.int .i64 P) := cell_of_heap J3.out.lay
  have c1 : w3.cell? ⟨bl, 1, none⟩ = some (.int .i64 T) := cell_of_heap J3.out.lay
  go_wp2_with fail
  refine (RP.out _).mono ?_
  rintro e w4 ⟨rfl, b4⟩
  have HX4 := hide ((b4.block _ (lt_of_heap HX3.out)).trans HX3.out)
  clear HX3
  have HY4 := hide ((b4.block _ (lt_of_heap HY.out)).trans HY.out)
  clear HY
  have J4 := hide (J3.out.grow b4)
  clear b4 J3 c0 c1
  have c0 : w4.cell? ⟨bl, 0, none⟩ = some (.int .i64 P) := cell_of_heap J4.out.lay
  have c1 : w4.cell? ⟨bl, 1, none⟩ = some (.int .i64 T) := cell_of_heap J4.out.lay
  go_wp2_with fail
  refine (RQ.out _).mono ?_
  rintro e w5 ⟨rfl, b5⟩
  have HX5 := hide ((b5.block _ (lt_of_heap HX4.out)).trans HX4.out)
  clear HX4
  have HY5 := hide ((b5.block _ (lt_of_heap HY4.out)).trans HY4.out)
  clear HY4
  have J5 := hide (J4.out.grow b5)
  clear b5 J4 c0 c1 RP RQ
  go_wp2_with fail
  refine (HA1.out _).mono ?_
  rintro e w6 ⟨qa, pa, ra, rfl, o6⟩
  have b6 := o6.back
  have HC6 : Hid (∃ b s, StoreAt 105 w6 pa b s ∧ s.count = 0) := hide (by obtain ⟨b, hS⟩ := AX.st o6; exact ⟨b, _, hS, rfl⟩)
  have LOW : Hid (w5.heap.size ≤ qa ∧ w5.heap.size ≤ pa ∧ ∃ b s, StoreAt 105 w6 pa b s ∧ s.count = 0 ∧ s.words.length = (St.first (Lay.words ((3 : Nat) : Int) 2).toNat).words.length ∧ w5.heap.size ≤ b) := hide (by obtain ⟨h1, h2, b, h3, h4⟩ := o6.arLow; exact ⟨h1, h2, b, _, h3, rfl, rfl, h4⟩)
  have HB5 : Hid (bl < w5.heap.size) := hide (lt_of_heap J5.out.lay)
  have A6 : Hid (ArAt qa 3 2 pa ra (St.first (Lay.words ((3 : Nat) : Int) 2).toNat).words.length w6) := hide (ArAt.of o6)
  generalize (St.first (Lay.words ((3 : Nat) : Int) 2).toNat).words.length = an at *
  have HX6 := hide ((b6.block _ (lt_of_heap HX5.out)).trans HX5.out)
  clear HX5
  have HY6 := hide ((b6.block _ (lt_of_heap HY5.out)).trans HY5.out)
  clear HY5
  have J6 := hide (J5.out.grow b6)
  clear b6 J5 HA1 o6
  go_wp2
  have hne0 : Nonempty (Over w6) := ⟨⟨_, Below.refl _ _⟩⟩
  have u0 := fun u => over_cell (show w6.cell? ⟨bl, 0, none⟩ = some (.int .i64 P) from cell_of_heap J6.out.lay) u
  have u1 := fun u => over_cell (show w6.cell? ⟨bl, 1, none⟩ = some (.int .i64 T) from cell_of_heap J6.out.lay) u
  have LA := fun u : Over w6 => hide (A6.out.below u.h).layout
  by_cases hP3 : P = 3
  · have dT : (T == 2) = false := by rw [beq_eq_false_iff_ne]; omega
    refine over_region (by kernel_rfl) (by kernel_rfl) ?_
    repeat (go_big_quiet_step (first | (go_at_call 29; exact over_call _ (LA _).out)))
    refine wpQuiet_nil ?_
    rintro _ ⟨u7, rfl⟩
    have A7 := hide (A6.out.below u7.h)
    have J7 := hide (J6.out.grow u7.h)
    have HC7 : Hid (∃ b s, StoreAt 105 u7.w' pa b s ∧ s.count = 0) := hide (by obtain ⟨b, s, h1, h2⟩ := HC6.out; exact ⟨b, s, h1.below u7.h, h2⟩)
    have HX7 := hide ((u7.h.block _ (lt_of_heap HX6.out)).trans HX6.out)
    have HY7 := hide ((u7.h.block _ (lt_of_heap HY6.out)).trans HY6.out)
    clear u0 u1 LA hne0 A6 J6 HC6 HX6 HY6

    generalize u7.w' = w7 at *
    have hT2 : T ≠ 2 := by omega
    have IP : Hid (PopIdle qa (.pointer (some ⟨mx, 0, none⟩)) w7) := hide (popNewIdle (i := hn0) HX7.out hP1 A7.out (by omega))
    have IQ : Hid (PushIdle qa (.pointer (some ⟨my, 0, none⟩)) w7) := hide (pushNewIdle (i := hn0) HY7.out hP1 A7.out (by omega))
    go_wp2
    have Z8 := heap_alloc_at w7 (.cells #[.int .i64 0, .int .i64 0, .int .u64 0, .int .u64 0] 50)
    have B8 := grown1 w7 (.cells #[.int .i64 0, .int .i64 0, .int .u64 0, .int .u64 0] 50)
    have IP8 := hide (IP.out.grow B8)
    have IQ8 := hide (IQ.out.grow B8)
    have A8 := hide (A7.out.below B8)
    have J8 := hide (J7.out.grow B8)
    have HC8 : Hid (∃ b s, StoreAt 105 (w7.alloc (.cells #[.int .i64 0, .int .i64 0, .int .u64 0, .int .u64 0] 50)) pa b s ∧ s.count = 0) := hide (by obtain ⟨b, s, h1, h2⟩ := HC7.out; exact ⟨b, s, h1.below B8, h2⟩)
    clear IP IQ A7 J7 HC7 B8
    generalize w7.alloc (.cells #[.int .i64 0, .int .i64 0, .int .u64 0, .int .u64 0] 50) = w8 at *
    generalize w7.heap.size = bd at *
    have hne0 : Nonempty (Over w8) := ⟨⟨_, Below.refl _ _⟩⟩
    have v0 := fun u => over_cell (show w8.cell? ⟨bd, 0, none⟩ = some (.int .i64 0) from cell_of_heap Z8) u
    have v1 := fun u => over_cell (show w8.cell? ⟨bd, 1, none⟩ = some (.int .i64 0) from cell_of_heap Z8) u
    have v2 := fun u => over_cell (show w8.cell? ⟨bd, 2, none⟩ = some (.int .u64 0) from cell_of_heap Z8) u
    have v3 := fun u => over_cell (show w8.cell? ⟨bd, 3, none⟩ = some (.int .u64 0) from cell_of_heap Z8) u
    have SP := fun (u : Over w8) (qa' : Option Addr) (hq : Hand qa qa') => IP8.out.step qa' hq u.w' u.h
    have SQ := fun (u : Over w8) (qa' : Option Addr) (hq : Hand qa qa') => IQ8.out.step qa' hq u.w' u.h
    unfold noDid at SP SQ
    have HSP := hide SP
    have HSQ := hide SQ
    have DP := fun u : Over w8 => hide (IP8.out.done u.w' u.h)
    have DQ := fun u : Over w8 => hide (IQ8.out.done u.w' u.h)
    clear SP SQ
    refine over_region (by kernel_rfl) (by kernel_rfl) ?_
    repeat (go_big_quiet_step (first | (go_at_call 13; exact over_call _ (HSP.out _ _ (by simp [Hand]))) | (go_at_call 11; exact over_call _ (HSQ.out _ _ (by simp [Hand]))) | (go_at_call 14; exact over_call _ (DP _).out) | (go_at_call 12; exact over_call _ (DQ _).out)))
    refine wpQuiet_nil ?_
    rintro _ ⟨u9, rfl⟩
    have Z9 := (u9.h.block _ (lt_of_heap Z8)).trans Z8
    have A9 := hide (A8.out.below u9.h)
    have J9 := hide (J8.out.grow u9.h)
    have HC9 : Hid (∃ b s, StoreAt 105 u9.w' pa b s ∧ s.count = 0) := hide (by obtain ⟨b, s, h1, h2⟩ := HC8.out; exact ⟨b, s, h1.below u9.h, h2⟩)
    clear v0 v1 v2 v3 HSP HSQ DP DQ IP8 IQ8 hne0 A8 J8 HC8 Z8
    generalize u9.w' = w9 at *
    go_wp2
    have hne0 : Nonempty (Over w9) := ⟨⟨_, Below.refl _ _⟩⟩
    have v0 := fun u => over_cell (show w9.cell? ⟨bd, 0, none⟩ = some (.int .i64 0) from cell_of_heap Z9) u
    have v1 := fun u => over_cell (show w9.cell? ⟨bd, 1, none⟩ = some (.int .i64 0) from cell_of_heap Z9) u
    have v2 := fun u => over_cell (show w9.cell? ⟨bd, 2, none⟩ = some (.int .u64 0) from cell_of_heap Z9) u
    have v3 := fun u => over_cell (show w9.cell? ⟨bd, 3, none⟩ = some (.int .u64 0) from cell_of_heap Z9) u
    have SP := fun (u : Over w9) => hide (popNilStep u.w' (some ⟨qa, 0, none⟩))
    have SQ := fun (u : Over w9) => hide (pushNilStep u.w' (some ⟨qa, 0, none⟩))
    have DP := fun u : Over w9 => hide ((popNilIdle qa u.w').done u.w' (Below.refl _ _))
    have DQ := fun u : Over w9 => hide ((pushNilIdle qa u.w').done u.w' (Below.refl _ _))
    have GP := fun u : Over w9 => hide (nilPage u.w')
    have KS := fun u : Over w9 => hide (A9.out.below u.h).store
    have KC := fun u : Over w9 => hide (counted HC9.out u.h)
    unfold noDid at SP SQ
    refine over_region (by kernel_rfl) (by kernel_rfl) ?_
    repeat (go_big_quiet_step (first | (go_at_call 13; exact over_call _ (SP _).out) | (go_at_call 11; exact over_call _ (SQ _).out) | (go_at_call 14; exact over_call _ (DP _).out) | (go_at_call 12; exact over_call _ (DQ _).out) | (go_at_call 15; exact over_call _ (GP _).out) | (go_at_call 30; exact over_call _ (KS _).out) | (go_at_call 31; exact over_call _ (KC _).out) | (go_at_call 17; exact over_call _ (LN.out _)) | (go_at_call 21; exact over_call _ (HAW.out _))))
    refine wpQuiet_nil ?_
    rintro _ ⟨u10, rfl⟩
    have HB10 := hide ((J9.out.grow u10.h).below)
    clear v0 v1 v2 v3 SP SQ DP DQ GP KS KC hne0
    go_wp2
    go_ret
    exact ⟨rfl, HB10.out⟩
  · have dP : (P == 3) = false := by rw [beq_eq_false_iff_ne]; omega
    refine over_region (by kernel_rfl) (by kernel_rfl) ?_
    repeat (go_big_quiet_step (first | (go_at_call 29; exact over_call _ (LA _).out)))
    refine wpQuiet_nil ?_
    rintro _ ⟨u7, rfl⟩
    have A7 := hide (A6.out.below u7.h)
    have J7 := hide (J6.out.grow u7.h)
    have HC7 : Hid (∃ b s, StoreAt 105 u7.w' pa b s ∧ s.count = 0) := hide (by obtain ⟨b, s, h1, h2⟩ := HC6.out; exact ⟨b, s, h1.below u7.h, h2⟩)
    have HX7 := hide ((u7.h.block _ (lt_of_heap HX6.out)).trans HX6.out)
    have HY7 := hide ((u7.h.block _ (lt_of_heap HY6.out)).trans HY6.out)
    clear u0 u1 LA hne0 A6 J6 HC6 HX6 HY6

    generalize u7.w' = w7 at *
    have IP : Hid (PopIdle qa (.pointer (some ⟨mx, 0, none⟩)) w7) := hide (popNewIdle (i := hn0) HX7.out hP1 A7.out (by omega))
    have IQ : Hid (PushIdle qa (.pointer (some ⟨my, 0, none⟩)) w7) := hide (pushNewIdle (i := hn0) HY7.out hP1 A7.out (by omega))
    go_wp2
    have Z8 := heap_alloc_at w7 (.cells #[.int .i64 0, .int .i64 0, .int .u64 0, .int .u64 0] 50)
    have B8 := grown1 w7 (.cells #[.int .i64 0, .int .i64 0, .int .u64 0, .int .u64 0] 50)
    have IP8 := hide (IP.out.grow B8)
    have IQ8 := hide (IQ.out.grow B8)
    have A8 := hide (A7.out.below B8)
    have J8 := hide (J7.out.grow B8)
    have HC8 : Hid (∃ b s, StoreAt 105 (w7.alloc (.cells #[.int .i64 0, .int .i64 0, .int .u64 0, .int .u64 0] 50)) pa b s ∧ s.count = 0) := hide (by obtain ⟨b, s, h1, h2⟩ := HC7.out; exact ⟨b, s, h1.below B8, h2⟩)
    clear IP IQ A7 J7 HC7 B8
    generalize w7.alloc (.cells #[.int .i64 0, .int .i64 0, .int .u64 0, .int .u64 0] 50) = w8 at *
    generalize w7.heap.size = bd at *
    have hne0 : Nonempty (Over w8) := ⟨⟨_, Below.refl _ _⟩⟩
    have v0 := fun u => over_cell (show w8.cell? ⟨bd, 0, none⟩ = some (.int .i64 0) from cell_of_heap Z8) u
    have v1 := fun u => over_cell (show w8.cell? ⟨bd, 1, none⟩ = some (.int .i64 0) from cell_of_heap Z8) u
    have v2 := fun u => over_cell (show w8.cell? ⟨bd, 2, none⟩ = some (.int .u64 0) from cell_of_heap Z8) u
    have v3 := fun u => over_cell (show w8.cell? ⟨bd, 3, none⟩ = some (.int .u64 0) from cell_of_heap Z8) u
    have SP := fun (u : Over w8) (qa' : Option Addr) (hq : Hand qa qa') => IP8.out.step qa' hq u.w' u.h
    have SQ := fun (u : Over w8) (qa' : Option Addr) (hq : Hand qa qa') => IQ8.out.step qa' hq u.w' u.h
    unfold noDid at SP SQ
    have HSP := hide SP
    have HSQ := hide SQ
    have DP := fun u : Over w8 => hide (IP8.out.done u.w' u.h)
    have DQ := fun u : Over w8 => hide (IQ8.out.done u.w' u.h)
    clear SP SQ
    refine over_region (by kernel_rfl) (by kernel_rfl) ?_
    repeat (go_big_quiet_step (first | (go_at_call 13; exact over_call _ (HSP.out _ _ (by simp [Hand]))) | (go_at_call 11; exact over_call _ (HSQ.out _ _ (by simp [Hand]))) | (go_at_call 14; exact over_call _ (DP _).out) | (go_at_call 12; exact over_call _ (DQ _).out)))
    refine wpQuiet_nil ?_
    rintro _ ⟨u9, rfl⟩
    have Z9 := (u9.h.block _ (lt_of_heap Z8)).trans Z8
    have A9 := hide (A8.out.below u9.h)
    have J9 := hide (J8.out.grow u9.h)
    have HC9 : Hid (∃ b s, StoreAt 105 u9.w' pa b s ∧ s.count = 0) := hide (by obtain ⟨b, s, h1, h2⟩ := HC8.out; exact ⟨b, s, h1.below u9.h, h2⟩)
    clear v0 v1 v2 v3 HSP HSQ DP DQ IP8 IQ8 hne0 A8 J8 HC8 Z8
    generalize u9.w' = w9 at *
    go_wp2
    have hne0 : Nonempty (Over w9) := ⟨⟨_, Below.refl _ _⟩⟩
    have v0 := fun u => over_cell (show w9.cell? ⟨bd, 0, none⟩ = some (.int .i64 0) from cell_of_heap Z9) u
    have v1 := fun u => over_cell (show w9.cell? ⟨bd, 1, none⟩ = some (.int .i64 0) from cell_of_heap Z9) u
    have v2 := fun u => over_cell (show w9.cell? ⟨bd, 2, none⟩ = some (.int .u64 0) from cell_of_heap Z9) u
    have v3 := fun u => over_cell (show w9.cell? ⟨bd, 3, none⟩ = some (.int .u64 0) from cell_of_heap Z9) u
    have SP := fun (u : Over w9) => hide (popNilStep u.w' (some ⟨qa, 0, none⟩))
    have SQ := fun (u : Over w9) => hide (pushNilStep u.w' (some ⟨qa, 0, none⟩))
    have DP := fun u : Over w9 => hide ((popNilIdle qa u.w').done u.w' (Below.refl _ _))
    have DQ := fun u : Over w9 => hide ((pushNilIdle qa u.w').done u.w' (Below.refl _ _))
    have GP := fun u : Over w9 => hide (nilPage u.w')
    have KS := fun u : Over w9 => hide (A9.out.below u.h).store
    have KC := fun u : Over w9 => hide (counted HC9.out u.h)
    unfold noDid at SP SQ
    refine over_region (by kernel_rfl) (by kernel_rfl) ?_
    repeat (go_big_quiet_step (first | (go_at_call 13; exact over_call _ (SP _).out) | (go_at_call 11; exact over_call _ (SQ _).out) | (go_at_call 14; exact over_call _ (DP _).out) | (go_at_call 12; exact over_call _ (DQ _).out) | (go_at_call 15; exact over_call _ (GP _).out) | (go_at_call 30; exact over_call _ (KS _).out) | (go_at_call 31; exact over_call _ (KC _).out) | (go_at_call 17; exact over_call _ (LN.out _)) | (go_at_call 21; exact over_call _ (HAW.out _))))
    refine wpQuiet_nil ?_
    rintro _ ⟨u10, rfl⟩
    have HB10 := hide ((J9.out.grow u10.h).below)
    clear v0 v1 v2 v3 SP SQ DP DQ GP KS KC hne0
    go_wp2
    go_ret
    exact ⟨rfl, HB10.out⟩

set_option maxRecDepth 100000 in
set_option maxHeartbeats 16000000 in
theorem may111 (h y : Int) (hy : -9223372036854775808 ≤ y ∧ y ≤ 9223372036854775807) (hh : Lay.isHead 3 2 h = true) (hp : (Lay.page 3 2 11 y).2 = true) (w : World) :
    Calls Try.prog 6 #[.agg #[.int .i64 3, .int .i64 2], .int .i64 h, .int .i64 y] w fun e w' => e = .returned (.bool true) ∧ Below w.heap.size w w' := by
  have hm := (Lay.isHead_iff.1 hh).1
  have hP1 := (Lay.may_iff.1 hm).1
  obtain ⟨hn0, hi0⟩ : ∃ hn0 : Nat, h = (hn0 : Int) := ⟨h.toNat, by have := (Lay.isHead_iff.1 hh).2; omega⟩
  subst hi0
  have NP := hide (fun u => newPopYes 3 2 (hn0 : Int) hh u)
  have RP := hide (fun u => rightPop 3 2 (hn0 : Int) hm u)
  have RQ := hide (fun u => rightPush 3 2 y (hn0 : Int) hm hy u)
  rw [hh] at RP RQ
  rw [hp] at RQ
  simp only [Bool.and_true] at RQ
  have NQ := hide (fun u => newPushYes 3 2 (hn0 : Int) y hh hp u)
  have NP2 := hide (fun u => newPop4 (hn0 : Int) u)
  have NQ2 := hide (fun u => newPush4 (hn0 : Int) y u)
  have HA1 := hide (fun (u : World) => @anew Nought u u Loc.nought (Own.start u) 3 2 (by decide) [] (by simp) none 0 (fun _ => ⟨rfl, rfl⟩) (fun h => absurd rfl h))
  have HAW := hide (fun u => awake12 u)
  have LN := hide (fun u => listNil12 u (hn0 : Int))
  clear hh hp hm
  unfold mArr at RP RQ
  have O1 : Hid (On w.heap.size 3 2 w (w.alloc (.cells #[.int .i64 3, .int .i64 2] 26))) := hide ⟨heap_alloc_at _ _, grown1 _ _⟩
  go_enter Try.func6, Try.ntmps6
  go_wp2
  generalize w.alloc (.cells #[.int .i64 3, .int .i64 2] 26) = w1 at *
  obtain ⟨bl, hbl⟩ : ∃ bl, w.heap.size = bl := ⟨_, rfl⟩
  have HBL := hide hbl
  rw [hbl] at O1
  rw [hbl]
  clear hbl
  have J1 := hide (O1.out.grow ((Alike.drewN w1 1).below _))
  have hne0 : Nonempty (Mem (On bl 3 2 w)) := ⟨⟨_, J1.out⟩⟩
  have U0 : ∀ u : Mem (On bl 3 2 w), u.w'.cell? ⟨bl, 0, none⟩ = some (.int .i64 3) := fun u => cell_of_heap u.h.lay
  have U1 : ∀ u : Mem (On bl 3 2 w), u.w'.cell? ⟨bl, 1, none⟩ = some (.int .i64 2) := fun u => cell_of_heap u.h.lay
  refine region_start (J := On bl 3 2 w) (by kernel_rfl) ?_
  refine stretch (fuel := 4) (by kernel_rfl) (fun _ _ _ _ _ h => h) J1.out [0, 1, 3, 4, 5] (by kernel_rfl) ?_
  simp only [List.filterMap_cons, List.filterMap_nil, List.getElem?_toArray, List.getElem?_cons_zero, List.getElem?_cons_succ]
  show wpQuiet _ _ _ _ [_, _, _, _, _] _
  repeat (go_big_quiet_step (fail))
  refine wpQuiet_nil ?_
  refine wpAnyJ_writer (i := 2) rfl (by kernel_rfl) (fun K' hK => ?_)
  go_simp
  refine (NP.out _).mono ?_
  rintro e w2 ⟨mx, rfl, hx, _, b2⟩
  have HX := hide hx
  clear hx
  have J2 := hide (J1.out.grow b2)
  refine hK _ _ J2.out ?_
  clear hK K' b2 J1 O1
  refine wpAnyJ_writer (i := 6) rfl (by kernel_rfl) (fun K' hK => ?_)
  go_simp
  refine (NQ.out _).mono ?_
  rintro e w3 ⟨my, rfl, hx, _, b3⟩
  have HY := hide hx
  clear hx
  have HX3 := hide ((b3.block _ (lt_of_heap HX.out)).trans HX.out)
  clear HX
  have J3 := hide (J2.out.grow b3)
  refine hK _ _ J3.out ?_
  clear hK K' b3 J2 NP NQ
  refine stretch (fuel := 0) (by kernel_rfl) (fun _ _ _ _ _ h => h) J3.out [7, 8] (by kernel_rfl) ?_
  simp only [List.filterMap_cons, List.filterMap_nil, List.getElem?_toArray, List.getElem?_cons_zero, List.getElem?_cons_succ]
  show wpQuiet _ _ _ _ [_, _] _
  repeat (go_big_quiet_step (fail))
  refine wpQuiet_nil ?_
  refine wpAnyJ_done (by kernel_rfl) ?_
  clear U0 U1 hne0
  have c0 : w3.cell? ⟨bl, 0, none⟩ = some (.int .i64 3) := cell_of_heap J3.out.lay
  have c1 : w3.cell? ⟨bl, 1, none⟩ = some (.int .i64 2) := cell_of_heap J3.out.lay
  go_wp2_with fail
  refine (RP.out _).mono ?_
  rintro e w4 ⟨rfl, b4⟩
  have HX4 := hide ((b4.block _ (lt_of_heap HX3.out)).trans HX3.out)
  clear HX3
  have HY4 := hide ((b4.block _ (lt_of_heap HY.out)).trans HY.out)
  clear HY
  have J4 := hide (J3.out.grow b4)
  clear b4 J3 c0 c1
  have c0 : w4.cell? ⟨bl, 0, none⟩ = some (.int .i64 3) := cell_of_heap J4.out.lay
  have c1 : w4.cell? ⟨bl, 1, none⟩ = some (.int .i64 2) := cell_of_heap J4.out.lay
  go_wp2_with fail
  refine (RQ.out _).mono ?_
  rintro e w5 ⟨rfl, b5⟩
  have HX5 := hide ((b5.block _ (lt_of_heap HX4.out)).trans HX4.out)
  clear HX4
  have HY5 := hide ((b5.block _ (lt_of_heap HY4.out)).trans HY4.out)
  clear HY4
  have J5 := hide (J4.out.grow b5)
  clear b5 J4 c0 c1 RP RQ
  go_wp2_with fail
  refine (HA1.out _).mono ?_
  rintro e w6 ⟨qa, pa, ra, rfl, o6⟩
  have b6 := o6.back
  have HC6 : Hid (∃ b s, StoreAt 105 w6 pa b s ∧ s.count = 0) := hide (by obtain ⟨b, hS⟩ := AX.st o6; exact ⟨b, _, hS, rfl⟩)
  have LOW : Hid (w5.heap.size ≤ qa ∧ w5.heap.size ≤ pa ∧ ∃ b s, StoreAt 105 w6 pa b s ∧ s.count = 0 ∧ s.words.length = (St.first (Lay.words ((3 : Nat) : Int) 2).toNat).words.length ∧ w5.heap.size ≤ b) := hide (by obtain ⟨h1, h2, b, h3, h4⟩ := o6.arLow; exact ⟨h1, h2, b, _, h3, rfl, rfl, h4⟩)
  have HB5 : Hid (bl < w5.heap.size) := hide (lt_of_heap J5.out.lay)
  have A6 : Hid (ArAt qa 3 2 pa ra (St.first (Lay.words ((3 : Nat) : Int) 2).toNat).words.length w6) := hide (ArAt.of o6)
  generalize (St.first (Lay.words ((3 : Nat) : Int) 2).toNat).words.length = an at *
  have HX6 := hide ((b6.block _ (lt_of_heap HX5.out)).trans HX5.out)
  clear HX5
  have HY6 := hide ((b6.block _ (lt_of_heap HY5.out)).trans HY5.out)
  clear HY5
  have J6 := hide (J5.out.grow b6)
  clear b6 J5 HA1 o6
  go_wp2
  have hne0 : Nonempty (Over w6) := ⟨⟨_, Below.refl _ _⟩⟩
  have u0 := fun u => over_cell (show w6.cell? ⟨bl, 0, none⟩ = some (.int .i64 3) from cell_of_heap J6.out.lay) u
  have u1 := fun u => over_cell (show w6.cell? ⟨bl, 1, none⟩ = some (.int .i64 2) from cell_of_heap J6.out.lay) u
  have LA := fun u : Over w6 => hide (A6.out.below u.h).layout
  refine over_region (by kernel_rfl) (by kernel_rfl) ?_
  repeat (go_big_quiet_step (first | (go_at_call 29; exact over_call _ (LA _).out)))
  refine wpQuiet_nil ?_
  rintro _ ⟨u7, rfl⟩
  have A7 := hide (A6.out.below u7.h)
  have J7 := hide (J6.out.grow u7.h)
  have HC7 : Hid (∃ b s, StoreAt 105 u7.w' pa b s ∧ s.count = 0) := hide (by obtain ⟨b, s, h1, h2⟩ := HC6.out; exact ⟨b, s, h1.below u7.h, h2⟩)
  have HX7 := hide ((u7.h.block _ (lt_of_heap HX6.out)).trans HX6.out)
  have HY7 := hide ((u7.h.block _ (lt_of_heap HY6.out)).trans HY6.out)
  clear u0 u1 LA hne0 A6 J6 HC6 HX6 HY6
  have HU7 := hide u7.h
  generalize u7.w' = w7 at *
  have HA7 := A7
  clear A7 HC7
  have f7 : ∀ o, w7.frozen? ⟨bl, o, none⟩ = false := fun o => frozen_of_heap J7.out.lay
  have k7 : w7.cell? ⟨bl, 0, none⟩ = some (.int .i64 3) := cell_of_heap J7.out.lay
  have e8 := heap_setCell_at (o := 0) J7.out.lay (.int .i64 4)
  have J8 : Hid (On bl 4 2 w (w7.setCell ⟨bl, 0, none⟩ (.int .i64 4))) := hide ⟨e8, J7.out.below.setCell (p := ⟨bl, 0, none⟩) (by rw [HBL.out]; exact Nat.le_refl _) _⟩
  have HO8 := hide ((Only.refl (fun k => k = bl) w7).setCell (p := ⟨bl, 0, none⟩) (.inl rfl) (.int .i64 4))
  obtain ⟨g1, g2, gb, gs, g3, g4, g5, g6⟩ := LOW.out
  have hb5 := HB5.out
  have A8 : Hid (ArAt qa 3 2 pa ra an (w7.setCell ⟨bl, 0, none⟩ (.int .i64 4))) := hide ⟨(HO8.out.block qa (lt_of_heap HA7.out.hd) (by omega)).trans HA7.out.hd, gb, gs, (g3.below HU7.out).kept HO8.out (by omega) (by omega), g5⟩
  have HC8 : Hid (∃ b s, StoreAt 105 (w7.setCell ⟨bl, 0, none⟩ (.int .i64 4)) pa b s ∧ s.count = 0) := hide ⟨gb, gs, (g3.below HU7.out).kept HO8.out (by omega) (by omega), g4⟩
  clear e8 HO8 g1 g2 g3 g4 g5 g6 hb5 LOW HB5 HA7 HU7
  have hlb := HBL.out
  clear HBL
  go_wp2
  clear f7 k7 J7
  generalize w7.setCell ⟨bl, 0, none⟩ (.int .i64 4) = w8 at *
  have J1 := hide (J8.out.grow ((Alike.drewN w8 1).below _))
  have A1 := hide (A8.out.below ((Alike.drewN w8 1).below _))
  have HC1 : Hid (∃ b s, StoreAt 105 w8.drew pa b s ∧ s.count = 0) := hide (by obtain ⟨b, s, h1, h2⟩ := HC8.out; exact ⟨b, s, h1.below ((Alike.drewN w8 1).below _), h2⟩)
  clear J8 A8 HC8
  have hne1 : Nonempty (Mem (On bl 4 2 w)) := ⟨⟨_, J1.out⟩⟩
  have U0 : ∀ u : Mem (On bl 4 2 w), u.w'.cell? ⟨bl, 0, none⟩ = some (.int .i64 4) := fun u => cell_of_heap u.h.lay
  have U1 : ∀ u : Mem (On bl 4 2 w), u.w'.cell? ⟨bl, 1, none⟩ = some (.int .i64 2) := fun u => cell_of_heap u.h.lay
  refine region_start (J := On bl 4 2 w) (by kernel_rfl) ?_
  refine stretch (fuel := 4) (by kernel_rfl) (fun _ _ _ _ _ h => h) J1.out [0, 1, 3, 4, 5] (by kernel_rfl) ?_
  simp only [List.filterMap_cons, List.filterMap_nil, List.getElem?_toArray, List.getElem?_cons_zero, List.getElem?_cons_succ]
  show wpQuiet _ _ _ _ [_, _, _, _, _] _
  repeat (go_big_quiet_step (fail))
  refine wpQuiet_nil ?_
  refine wpAnyJ_writer (i := 2) rfl (by kernel_rfl) (fun K' hK => ?_)
  go_simp
  refine (NP2.out _).mono ?_
  rintro e w10 ⟨mv, rfl, kv, b10⟩
  have J2 := hide (J1.out.grow b10)
  have A2 := hide (A1.out.below b10)
  have HC2 : Hid (∃ b s, StoreAt 105 w10 pa b s ∧ s.count = 0) := hide (by obtain ⟨b, s, h1, h2⟩ := HC1.out; exact ⟨b, s, h1.below b10, h2⟩)
  have IP2 : Hid (PopIdle qa mv w10) := hide (by
    rcases kv with rfl | ⟨m, i, rfl, hx⟩
    · exact popNilIdle qa w10
    · exact popNewIdle hx (by omega) A2.out (.inl (by omega)))
  refine hK _ _ J2.out ?_
  clear hK K' b10 J1 A1 HC1 kv
  refine wpAnyJ_writer (i := 6) rfl (by kernel_rfl) (fun K' hK => ?_)
  go_simp
  refine (NQ2.out _).mono ?_
  rintro e w11 ⟨nv, rfl, kv, b11⟩
  have J7 := hide (J2.out.grow b11)
  have A7 := hide (A2.out.below b11)
  have HC7 : Hid (∃ b s, StoreAt 105 w11 pa b s ∧ s.count = 0) := hide (by obtain ⟨b, s, h1, h2⟩ := HC2.out; exact ⟨b, s, h1.below b11, h2⟩)
  have IP := hide (IP2.out.grow b11)
  have IQ : Hid (PushIdle qa nv w11) := hide (by
    rcases kv with rfl | ⟨m, i, rfl, hx⟩
    · exact pushNilIdle qa w11
    · exact pushNewIdle hx (by omega) A7.out (.inl (by omega)))
  refine hK _ _ J7.out ?_
  clear hK K' b11 J2 A2 HC2 kv IP2
  refine stretch (fuel := 0) (by kernel_rfl) (fun _ _ _ _ _ h => h) J7.out [7, 8] (by kernel_rfl) ?_
  simp only [List.filterMap_cons, List.filterMap_nil, List.getElem?_toArray, List.getElem?_cons_zero, List.getElem?_cons_succ]
  show wpQuiet _ _ _ _ [_, _] _
  repeat (go_big_quiet_step (fail))
  refine wpQuiet_nil ?_
  refine wpAnyJ_done (by kernel_rfl) ?_
  clear U0 U1 hne1 NP2 NQ2
  generalize w11 = w7 at *
  go_wp2
  have Z8 := heap_alloc_at w7 (.cells #[.int .i64 0, .int .i64 0, .int .u64 0, .int .u64 0] 50)
  have B8 := grown1 w7 (.cells #[.int .i64 0, .int .i64 0, .int .u64 0, .int .u64 0] 50)
  have IP8 := hide (IP.out.grow B8)
  have IQ8 := hide (IQ.out.grow B8)
  have A8 := hide (A7.out.below B8)
  have J8 := hide (J7.out.grow B8)
  have HC8 : Hid (∃ b s, StoreAt 105 (w7.alloc (.cells #[.int .i64 0, .int .i64 0, .int .u64 0, .int .u64 0] 50)) pa b s ∧ s.count = 0) := hide (by obtain ⟨b, s, h1, h2⟩ := HC7.out; exact ⟨b, s, h1.below B8, h2⟩)
  clear IP IQ A7 J7 HC7 B8
  generalize w7.alloc (.cells #[.int .i64 0, .int .i64 0, .int .u64 0, .int .u64 0] 50) = w8 at *
  generalize w7.heap.size = bd at *
  have hne0 : Nonempty (Over w8) := ⟨⟨_, Below.refl _ _⟩⟩
  have v0 := fun u => over_cell (show w8.cell? ⟨bd, 0, none⟩ = some (.int .i64 0) from cell_of_heap Z8) u
  have v1 := fun u => over_cell (show w8.cell? ⟨bd, 1, none⟩ = some (.int .i64 0) from cell_of_heap Z8) u
  have v2 := fun u => over_cell (show w8.cell? ⟨bd, 2, none⟩ = some (.int .u64 0) from cell_of_heap Z8) u
  have v3 := fun u => over_cell (show w8.cell? ⟨bd, 3, none⟩ = some (.int .u64 0) from cell_of_heap Z8) u
  have SP := fun (u : Over w8) (qa' : Option Addr) (hq : Hand qa qa') => IP8.out.step qa' hq u.w' u.h
  have SQ := fun (u : Over w8) (qa' : Option Addr) (hq : Hand qa qa') => IQ8.out.step qa' hq u.w' u.h
  unfold noDid at SP SQ
  have HSP := hide SP
  have HSQ := hide SQ
  have DP := fun u : Over w8 => hide (IP8.out.done u.w' u.h)
  have DQ := fun u : Over w8 => hide (IQ8.out.done u.w' u.h)
  clear SP SQ
  refine over_region (by kernel_rfl) (by kernel_rfl) ?_
  repeat (go_big_quiet_step (first | (go_at_call 13; exact over_call _ (HSP.out _ _ (by simp [Hand]))) | (go_at_call 11; exact over_call _ (HSQ.out _ _ (by simp [Hand]))) | (go_at_call 14; exact over_call _ (DP _).out) | (go_at_call 12; exact over_call _ (DQ _).out)))
  refine wpQuiet_nil ?_
  rintro _ ⟨u9, rfl⟩
  have Z9 := (u9.h.block _ (lt_of_heap Z8)).trans Z8
  have A9 := hide (A8.out.below u9.h)
  have J9 := hide (J8.out.grow u9.h)
  have HC9 : Hid (∃ b s, StoreAt 105 u9.w' pa b s ∧ s.count = 0) := hide (by obtain ⟨b, s, h1, h2⟩ := HC8.out; exact ⟨b, s, h1.below u9.h, h2⟩)
  clear v0 v1 v2 v3 HSP HSQ DP DQ IP8 IQ8 hne0 A8 J8 HC8 Z8
  generalize u9.w' = w9 at *
  go_wp2
  have hne0 : Nonempty (Over w9) := ⟨⟨_, Below.refl _ _⟩⟩
  have v0 := fun u => over_cell (show w9.cell? ⟨bd, 0, none⟩ = some (.int .i64 0) from cell_of_heap Z9) u
  have v1 := fun u => over_cell (show w9.cell? ⟨bd, 1, none⟩ = some (.int .i64 0) from cell_of_heap Z9) u
  have v2 := fun u => over_cell (show w9.cell? ⟨bd, 2, none⟩ = some (.int .u64 0) from cell_of_heap Z9) u
  have v3 := fun u => over_cell (show w9.cell? ⟨bd, 3, none⟩ = some (.int .u64 0) from cell_of_heap Z9) u
  have SP := fun (u : Over w9) => hide (popNilStep u.w' (some ⟨qa, 0, none⟩))
  have SQ := fun (u : Over w9) => hide (pushNilStep u.w' (some ⟨qa, 0, none⟩))
  have DP := fun u : Over w9 => hide ((popNilIdle qa u.w').done u.w' (Below.refl _ _))
  have DQ := fun u : Over w9 => hide ((pushNilIdle qa u.w').done u.w' (Below.refl _ _))
  have GP := fun u : Over w9 => hide (nilPage u.w')
  have KS := fun u : Over w9 => hide (A9.out.below u.h).store
  have KC := fun u : Over w9 => hide (counted HC9.out u.h)
  unfold noDid at SP SQ
  refine over_region (by kernel_rfl) (by kernel_rfl) ?_
  repeat (go_big_quiet_step (first | (go_at_call 13; exact over_call _ (SP _).out) | (go_at_call 11; exact over_call _ (SQ _).out) | (go_at_call 14; exact over_call _ (DP _).out) | (go_at_call 12; exact over_call _ (DQ _).out) | (go_at_call 15; exact over_call _ (GP _).out) | (go_at_call 30; exact over_call _ (KS _).out) | (go_at_call 31; exact over_call _ (KC _).out) | (go_at_call 17; exact over_call _ (LN.out _)) | (go_at_call 21; exact over_call _ (HAW.out _))))
  refine wpQuiet_nil ?_
  rintro _ ⟨u10, rfl⟩
  have HB10 := hide ((J9.out.grow u10.h).below)
  clear v0 v1 v2 v3 SP SQ DP DQ GP KS KC hne0
  go_wp2
  go_ret
  exact ⟨rfl, HB10.out⟩


theorem walk (P T : Int) (_hP : -9223372036854775808 ≤ P ∧ P ≤ 9223372036854775807) (_hT : -9223372036854775808 ≤ T ∧ T ≤ 9223372036854775807) (h : Int) (_hh : -9223372036854775808 ≤ h ∧ h ≤ 9223372036854775807) (y : Int) (hy : -9223372036854775808 ≤ y ∧ y ≤ 9223372036854775807) (w : World) :
    Calls Try.prog 6 #[.agg #[.int .i64 P, .int .i64 T], .int .i64 h, .int .i64 y] w fun e w' => e = .returned (.bool true) ∧ Below w.heap.size w w' := by
  by_cases e : P = 3 ∧ T = 2
  · obtain ⟨rfl, rfl⟩ := e
    cases hh : Lay.isHead 3 2 h
    · exact may001 h y hy hh w
    · cases hp : (Lay.page 3 2 11 y).2
      · exact may101 h y hy hh hp w
      · exact may111 h y hy hh hp w
  · have hne : P ≠ 3 ∨ T ≠ 2 := by omega
    cases hh : Lay.isHead P T h
    · exact may000 P T h y hy hne hh w
    · cases hp : (Lay.page P T 11 y).2
      · exact may100 P T h y hy hne hh hp w
      · exact may110 P T h y hy hne hh hp w

set_option maxRecDepth 100000 in
theorem lifted (os : Os) (started : os.Started) (H : Type) (enc : TypeId × Value → H) :
    ReturnsInHanded {} Try.checked os 6 .any (Rows.stackMaySpec.pre6 enc Try.prog Try.f6 Rows.stackMayRow.domain false) (Rows.stackMaySpec.post enc Try.prog Try.f6 false true false false) := by
  refine returnsInHanded_of_change (C := Try.checked) own started (by kernel_rfl) Try.func6
    (ChangeSpec.witness6 (enc := enc) (C := Try.checked) false ⟨#[], #[.agg #[.int .i64 0, .int .i64 0], .int .i64 0, .int .i64 0], []⟩ 8 (by kernel_rfl) (by kernel_rfl) (by kernel_rfl) (by kernel_rfl)) ?_
  intro W base args ds gs before hval0 hW _ _
  have hval : ∀ (j : Nat) t v, Try.f6.params[j]? = some t → args[j]? = some v → Value.okWide Try.prog W .any base t v := hval0
  have hW' := hW
  obtain ⟨p, q, hA0, hV, rfl, hfz, hnd⟩ := hW
  have hA : DataW.TrodAll enc Try.prog W 0 (fun _ => true) true Try.f6.params.toList args.toList ds p := hA0
  rw [Try.params6] at hA hval
  obtain ⟨v0, vs0, d0, ds0, p0, q0, hargs, rfl, rfl, h0, r0⟩ := trodAll_cons hA
  obtain ⟨v1, vs1, d1, ds1, p1, q1, rfl, rfl, rfl, h1, r1⟩ := trodAll_cons r0
  obtain ⟨v2, vs2, d2, ds2, p2, q2, rfl, rfl, rfl, h2, r2⟩ := trodAll_cons r1
  obtain ⟨rfl, rfl, rfl⟩ := trodAll_nil r2
  obtain rfl : args = #[v0, v1, v2] := by cases args; simp_all
  obtain ⟨rfl, rfl⟩ := trodVars_none hV
  have h0k := h0
  have lt0 : ∀ x ∈ p0, x.block < W.heap.size := fun x hx => hW'.lt x (by simp [hx])
  obtain ⟨l0_0, l0_1, rfl, f0_0, f0_1⟩ := open_layout (hval 0 26 v0 rfl rfl) h0
  obtain ⟨a1, rfl, rfl, rfl, w1⟩ := open_int Try.underlying3 (hval 1 3 v1 rfl rfl) h1
  obtain ⟨a2, rfl, rfl, rfl, w2⟩ := open_int Try.underlying3 (hval 2 3 v2 rfl rfl) h2
  clear hA0 hval0
  have hx1 := i64_bd w1
  have hx2 := i64_bd w2
  refine (walk l0_0 l0_1 f0_0 f0_1 a1 hx1 a2 hx2 W).mono fun e W' ⟨he, bel⟩ => ?_
  subst he
  exact ⟨_, rfl, _, _, _, [], _, [], hW', trodAll_mk1 (shut_bool Try.underlying4 _), (trodAll_cons_mk (Below.trod laidOut (by kernel_rfl) (of_decide_eq_true (by kernel_rfl)) h0k bel lt0) (trodAll_cons_mk (shut_int Try.underlying3 w1) (trodAll_cons_mk (shut_int Try.underlying3 w2) trodAll_mk0))), rfl, bel.frame _, fun h => by cases h⟩

end Go.Proofs.Ytigokeocphbffaa.stackMay
namespace Go.Proofs.Ytigokeocphbffaa

theorem stackMay_holds : Rows.StackMaySaid :=
  OpenClaim.holds_of_wide 6 Try.f6 rfl rfl rfl rfl rfl rfl rfl ⟨rfl, rfl, rfl, rfl, rfl⟩ rfl rfl rfl rfl rfl (by kernel_rfl) Try.func6 (by kernel_rfl)
    (of_decide_eq_true (by kernel_rfl)) (by unfold Func.isWrapper; first | (rw [if_pos (by decide +kernel)]; kernel_rfl) | (rw [if_neg (by decide +kernel)]; exact ⟨rfl, rfl⟩))
    (fun os started H enc _ => stackMay.lifted os started H enc)
end Go.Proofs.Ytigokeocphbffaa
