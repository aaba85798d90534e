/- A new arena; its number of the cycle; its store and its runs, turned. -/
import Derived.Test.YtafamfjgehnddaaArnSep
import Derived.Test.YtafamfjgehnddaaPhase
namespace Go.Proofs.Ytafamfjgehnddaa
open Go.RowKit

section
variable {R : Res} {w0 w : World} {q : Nat} {P T : Int} {p r : Nat} {s : St} {pg : Nat} {ds : List Nat} {dn : Nat} {L : RL}

theorem set_getD (l : List Nat) (i : Nat) : l.set i (l.getD i 0) = l := by
  apply List.ext_getElem?
  intro j
  rw [List.getElem?_set]
  split
  · rename_i e; subst e
    split
    · rename_i h; rw [List.getD_eq_getElem?_getD, List.getElem?_eq_getElem h]; simp
    · rename_i h; rw [List.getElem?_eq_none (by omega)]
  · rfl

theorem lenX (h : Own (Sep (AX q P T p r s pg ds dn L) R) w0 w) : Calls Try.prog 65 #[.pointer (some ⟨p, 0, none⟩)] w fun e w' => e = .returned (.int .i64 (s.words.length : Nat)) ∧ w' = w := by
  obtain ⟨b, hS⟩ := AX.st h
  exact len_of w p b s hS
theorem countX (h : Own (Sep (AX q P T p r s pg ds dn L) R) w0 w) : Calls Try.prog 31 #[.pointer (some ⟨p, 0, none⟩)] w fun e w' => e = .returned (.int .i64 s.count) ∧ w' = w := by
  obtain ⟨b, hS⟩ := AX.st h
  exact count_of w p b s hS
theorem putX (l : Loc R) (h : Own (Sep (AX q P T p r s pg ds dn L) R) w0 w) (i : Nat) (hi : i < s.words.length) (v : Nat) (hv : v < 18446744073709551616) :
    Calls Try.prog 38 #[.pointer (some ⟨p, 0, none⟩), .int .i64 (i : Int), .int .u64 (v : Int)] w fun e w' => e = .returned (.int .i64 0) ∧ Own (Sep (AX q P T p r (s.put i v) pg ds dn L) R) w0 w' := by
  obtain ⟨b, hS, k⟩ := (h.cast AX.toStore).store l.one
  exact (s_put w p b s hS i hi v hv).mono fun _ _ ⟨e, h1, h2⟩ => ⟨e, (k h1 h2).cast AX.toStore.symm⟩
theorem loadX (l : Loc R) (h : Own (Sep (AX q P T p r s pg ds dn L) R) w0 w) (i : Nat) (hi : i < s.words.length) :
    Calls Try.prog 42 #[.pointer (some ⟨p, 0, none⟩), .int .i64 (i : Int)] w fun e w' => e = .returned (.tuple #[.int .u64 (s.words.getD i 0 : Nat), .int .i64 0]) ∧ Own (Sep (AX q P T p r (s.load i) pg ds dn L) R) w0 w' := by
  obtain ⟨b, hS, k⟩ := (h.cast AX.toStore).store l.one
  exact (s_load w p b s hS i hi).mono fun _ _ ⟨e, h1, h2⟩ => ⟨e, (k h1 h2).cast AX.toStore.symm⟩
end

/-- A setup, boxed, and its layout. -/
structure SetAt (w : World) (b : Nat) (P T : Int) (a : Option Addr) (n c : Nat) (ds : List Nat) (u : World) : Prop where
  c0 : u.cell? ⟨b, 0, none⟩ = some (.int .i64 P)
  c1 : u.cell? ⟨b, 1, none⟩ = some (.int .i64 T)
  c2 : u.cell? ⟨b, 2, none⟩ = some (.slice a n c)
  l0 : u.cell? ⟨b + 1, 0, none⟩ = some (.int .i64 P)
  l1 : u.cell? ⟨b + 1, 1, none⟩ = some (.int .i64 T)
  row : DrawsIn u a ds
  below : Below w.heap.size w u
theorem SetAt.grow {w u v : World} {b : Nat} {P T : Int} {a : Option Addr} {n c : Nat} {ds : List Nat} (h : SetAt w b P T a n c ds u) (hb : Below u.heap.size u v) : SetAt w b P T a n c ds v :=
  ⟨(hb.cell (block_lt_of_cell h.c0)).trans h.c0, (hb.cell (block_lt_of_cell h.c1)).trans h.c1, (hb.cell (block_lt_of_cell h.c2)).trans h.c2, (hb.cell (block_lt_of_cell h.l0)).trans h.l0, (hb.cell (block_lt_of_cell h.l1)).trans h.l1, h.row.below hb (Nat.le_refl _), h.below.trans (hb.mono h.below.size)⟩
theorem SetAt.new (w : World) (P T : Int) (a : Option Addr) (n c : Nat) (ds : List Nat) (h : DrawsIn w a ds) (t1 t2 : TypeId) :
    SetAt w w.heap.size P T a n c ds ((w.alloc (.cells #[.int .i64 P, .int .i64 T, .slice a n c] t1)).alloc (.cells #[.int .i64 P, .int .i64 T] t2)) := by
  have hb : Below w.heap.size w ((w.alloc (.cells #[.int .i64 P, .int .i64 T, .slice a n c] t1)).alloc (.cells #[.int .i64 P, .int .i64 T] t2)) := ((Below.refl _ w).alloc (Nat.le_refl _) _).alloc (by simp) _
  have e1 := heap_alloc_old (o := .cells #[.int .i64 P, .int .i64 T] t2) (heap_alloc_at w (.cells #[.int .i64 P, .int .i64 T, .slice a n c] t1))
  have e2 := heap_alloc_at (w.alloc (.cells #[.int .i64 P, .int .i64 T, .slice a n c] t1)) (.cells #[.int .i64 P, .int .i64 T] t2)
  rw [show (w.alloc (.cells #[.int .i64 P, .int .i64 T, .slice a n c] t1)).heap.size = w.heap.size + 1 by simp] at e2
  exact ⟨cell_of_heap e1, cell_of_heap e1, cell_of_heap e1, cell_of_heap e2, cell_of_heap e2, h.below hb (Nat.le_refl _), hb⟩

theorem anewNil (P T : Int) (hm : Lay.may P T = false) (a : Option Addr) (n c : Nat) (w : World) :
    Calls Try.prog 25 #[.agg #[.int .i64 P, .int .i64 T, .slice a n c]] w fun e w' => e = .returned (.pointer none) ∧ Below w.heap.size w w' := by
  have M := hide (fun w => lmay P T w)
  rw [hm] at M
  have h0 : DrawsIn w a [] := fun h => absurd rfl h
  have HW := SetAt.new w P T a n c [] h0 75 26
  have c0 := HW.l0
  have c1 := HW.l1
  have HB := hide HW.below
  clear h0 HW
  go_enter Try.func25, Try.ntmps25
  go_wp2_with fail
  refine (M.out _).mono ?_
  rintro e w1 ⟨rfl, hb⟩
  have HB1 := hide (HB.out.trans (hb.mono HB.out.size))
  clear hb c0 c1
  go_wp2
  go_ret
  exact ⟨rfl, HB1.out⟩

set_option maxHeartbeats 2000000 in
theorem anew {R : Res} {w0 w : World} (l : Loc R) (ho : Own R w0 w) (pg : Nat) (T : Int) (hm : Lay.may pg T = true) (ds : List Nat) (hl : ds.length ≤ 1000000000) (a : Option Addr) (c : Nat) (hz : a = none → ds = [] ∧ c = 0) (hd : DrawsIn w a ds) :
    Calls Try.prog 25 #[.agg #[.int .i64 (pg : Int), .int .i64 T, .slice a ds.length c]] w fun e w' => ∃ q p r, e = .returned (.pointer (some ⟨q, 0, none⟩)) ∧ Own (Sep (AX q (pg : Int) T p r (St.first (Lay.words pg T).toNat) pg ds 1 [(kOf 0 pg, ds.getD 0 0, ())]) R) w0 w' := by
  have M := hide (fun w => lmay pg T w)
  rw [hm] at M
  have W := hide (fun w => words52 pg T hm w)
  obtain ⟨m1, m2, m3, m4⟩ := Lay.may_iff.1 hm
  obtain ⟨n, hn⟩ : ∃ n, ds.length = n := ⟨_, rfl⟩
  have HL := hide hn
  have HW := SetAt.new w pg T a n c ds hd 75 26
  have c0 := HW.l0
  have c1 := HW.l1
  have HW2 := hide HW
  have HO := hide ho
  clear hd HW ho hm
  rw [hn]
  clear hn
  go_enter Try.func25, Try.ntmps25
  go_wp2_with fail
  refine (M.out _).mono ?_
  rintro e w1 ⟨rfl, hb⟩
  have H1 := hide (HW2.out.grow hb)
  clear hb HW2 c0 c1
  go_wp2
  have J1 : Hid (SetAt w w.heap.size pg T a n c ds w1.drew) := hide (H1.out.grow ((Alike.drewN w1 1).below _))
  have u0 : ∀ u : Mem (SetAt w w.heap.size pg T a n c ds), u.w'.cell? ⟨w.heap.size, 0, none⟩ = some (.int .i64 (pg : Int)) := fun u => u.h.c0
  have u1 : ∀ u : Mem (SetAt w w.heap.size pg T a n c ds), u.w'.cell? ⟨w.heap.size, 1, none⟩ = some (.int .i64 T) := fun u => u.h.c1
  have u2 : ∀ u : Mem (SetAt w w.heap.size pg T a n c ds), u.w'.cell? ⟨w.heap.size, 2, none⟩ = some (.slice a n c) := fun u => u.h.c2
  have u3 : ∀ u : Mem (SetAt w w.heap.size pg T a n c ds), u.w'.cell? ⟨w.heap.size + 1, 0, none⟩ = some (.int .i64 (pg : Int)) := fun u => u.h.l0
  have u4 : ∀ u : Mem (SetAt w w.heap.size pg T a n c ds), u.w'.cell? ⟨w.heap.size + 1, 1, none⟩ = some (.int .i64 T) := fun u => u.h.l1
  have hne : Nonempty (Mem (SetAt w w.heap.size pg T a n c ds)) := ⟨⟨_, J1.out⟩⟩
  refine region_start (J := SetAt w w.heap.size pg T a n c ds) (by kernel_rfl) ?_
  refine stretch (fuel := 5) (by kernel_rfl) (fun _ _ _ _ _ h => h) J1.out [0, 1, 3, 4, 5, 6] (by kernel_rfl) ?_
  simp only [List.filterMap_cons, List.filterMap_nil, List.getElem?_toArray, List.getElem?_cons_zero, List.getElem?_cons_succ]
  show wpQuiet _ _ _ _ [_, _, _, _, _, _] _
  repeat (go_big_quiet_step (fail))
  refine wpQuiet_nil ?_
  refine wpAnyJ_writer (i := 2) rfl (by kernel_rfl) (fun K hK => ?_)
  go_simp
  refine (W.out _).mono ?_
  rintro e w2 ⟨p, b, rfl, hS, hp, hb1, hb2⟩
  have J2 := hide (J1.out.grow hb2)
  have O2 := hide (Own.fresh (R1 := SS p (St.first (Lay.words pg T).toNat)) l (HO.out.below l J1.out.below) (G := fun x => x = p ∨ x = b) ⟨b, hS, fun _ => Iff.rfl⟩ (by rintro x (rfl | rfl) <;> assumption) hb2)
  clear hS hp hb1 hb2 W
  refine hK _ _ J2.out ?_
  clear hK K
  refine wpAnyJ_writer (i := 7) rfl (by kernel_rfl) (fun K hK => ?_)
  go_simp
  have HN := new10 w2 pg (by omega) (by omega) ds hl a c hz J2.out.row
  rw [HL.out] at HN
  refine HN.mono ?_
  rintro e w3 ⟨r, t, T', va, vc, rfl, hR, hn3, hb3⟩
  have J3 := hide (J2.out.grow hb3)
  have O3 := hide (O2.out.runsNew (Loc.ss.sep l) hR hn3 hb3)
  clear hR hn3 hb3 HN
  refine hK _ _ J3.out ?_
  clear hK K
  refine stretch (fuel := 2) (by kernel_rfl) (fun _ _ _ _ _ h => h) J3.out [8] (by kernel_rfl) ?_
  simp only [List.filterMap_cons, List.filterMap_nil, List.getElem?_toArray, List.getElem?_cons_zero, List.getElem?_cons_succ]
  show wpQuiet _ _ _ _ [_] _
  repeat (go_big_quiet_step (fail))
  refine wpQuiet_nil ?_
  refine wpAnyJ_writer (i := 9) rfl (by kernel_rfl) (fun K hK => ?_)
  go_simp
  have J4 := hide (J3.out.grow (grown1 w3 (.cells #[.int .i64 (pg : Int), .int .i64 T, .pointer (some ⟨p, 0, none⟩), .pointer (some ⟨r, 0, none⟩)] 117)))
  have O4 := hide (Own.fresh (R1 := AH w3.heap.size pg T p r) (Loc.rr.sep (Loc.ss.sep l)) O3.out (G := fun x => x = w3.heap.size) ⟨heap_alloc_at _ _, fun _ => Iff.rfl⟩ (fun x hx => by rw [hx]; exact Nat.le_refl _) (grown1 w3 _))
  refine hK _ _ J4.out ?_
  clear hK K
  refine stretch (fuel := 0) (by kernel_rfl) (fun _ _ _ _ _ h => h) J4.out [10] (by kernel_rfl) ?_
  simp only [List.filterMap_cons, List.filterMap_nil, List.getElem?_toArray, List.getElem?_cons_zero, List.getElem?_cons_succ]
  show wpQuiet _ _ _ _ [_] _
  repeat (go_big_quiet_step (fail))
  refine wpQuiet_nil ?_
  refine wpAnyJ_done (by kernel_rfl) ?_
  clear u0 u1 u2 u3 u4 hne J1 J2 J3 J4 O2 O3 H1
  go_wp2
  go_ret
  exact ⟨_, p, r, rfl, O4.out.cast (by unfold AX; ac_rfl)⟩
end Go.Proofs.Ytafamfjgehnddaa
