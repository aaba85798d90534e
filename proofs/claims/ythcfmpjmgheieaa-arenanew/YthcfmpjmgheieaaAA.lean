/- Package arena: the arena in memory, its calls. A store, an arena's head, as such things. A new arena; its number of the cycle; its store and its runs, turned. The document's example of an arena. What ArenaOwn wants: numbers, and a block that lies beside. -/
import Derived.Test.YthcfmpjmgheieaaLayFns
import Derived.Test.YthcfmpjmgheieaaStoreMade
import Derived.Test.YthcfmpjmgheieaaRunOwn
import Derived.Test.YthcfmpjmgheieaaSepAc
import Derived.Test.YthcfmpjmgheieaaPhase
import Derived.Test.YthcfmpjmgheieaaRunAwake
namespace Go.Proofs.Ythcfmpjmgheieaa
open Go.RowKit

theorem StoreAt.copy {T : TypeId} {w : World} {p b : Nat} {s : St} (h : StoreAt T w p b s) :
    StoreAt T (w.alloc (.cells #[.slice (some ⟨b, 0, none⟩) s.words.length s.words.length, .int .i64 s.kind, .int .i64 s.place, .int .u64 s.old, .int .u64 s.new, .int .i64 s.count] T)) w.heap.size b s :=
  ⟨heap_alloc_at _ _, heap_alloc_old h.row, by have := lt_of_heap h.row; omega, h.len, h.bd⟩

/-- A store of n words, all 0 but the first. -/
def St.first (n : Nat) : St := ⟨(List.replicate n 0).set 0 1, 0, 0, 0, 0, 0⟩

theorem Lay.words_nat {P T : Int} (hm : Lay.may P T = true) : ∃ n : Nat, Lay.words P T = (n : Int) ∧ 1 ≤ n ∧ n ≤ 65536 := by
  obtain ⟨m1, m2, m3, m4⟩ := Lay.may_iff.1 hm
  obtain ⟨n1, n2, _⟩ := Lay.maps_bd m1 m2
  refine ⟨(Lay.words P T).toNat, ?_⟩
  unfold Lay.words Lay.total
  simp only [hm, if_true]
  omega

set_option maxHeartbeats 2000000 in
theorem words52 (P T : Int) (hm : Lay.may P T = true) (w : World) :
    Calls Try.prog 52 #[.agg #[.int .i64 P, .int .i64 T]] w fun e w' => ∃ p b, e = .returned (.pointer (some ⟨p, 0, none⟩)) ∧ StoreAt 106 w' p b (St.first (Lay.words P T).toNat) ∧ w.heap.size ≤ p ∧ w.heap.size ≤ b ∧ Below w.heap.size w w' := by
  obtain ⟨n, hn, n1, n2⟩   := Lay.words_nat hm
  have M := hide (fun w => lwords P T w)
  rw [hn] at M ⊢
  clear hn hm
  go_enter Try.func52, Try.ntmps52
  have B0 := LBox.new w P T 46
  have b0 := B0.c0
  have b1 := B0.c1
  go_wp2_with fail
  refine (M.out _).mono ?_
  rintro e w1 ⟨rfl, hb⟩
  have B1 := LBox.grow (by assumption) hb
  go_wp2_with fail
  refine (new_in _ n n1 n2).mono ?_
  rintro e w2 ⟨p, b, rfl, hS, hp, hb1, hb2⟩
  have B2 := B1.below.trans (hb2.mono B1.below.size)
  have c0 : w2.cell? ⟨p, 0, none⟩ = _ := cell_of_heap hS.head
  have c1 : w2.cell? ⟨p, 1, none⟩ = _ := cell_of_heap hS.head
  have c2 : w2.cell? ⟨p, 2, none⟩ = _ := cell_of_heap hS.head
  have c3 : w2.cell? ⟨p, 3, none⟩ = _ := cell_of_heap hS.head
  have c4 : w2.cell? ⟨p, 4, none⟩ = _ := cell_of_heap hS.head
  have c5 : w2.cell? ⟨p, 5, none⟩ = _ := cell_of_heap hS.head
  simp [St.zero] at c0 c1 c2 c3 c4 c5
  have HS := hide hS
  have HB2 := hide B2
  have p0 : w.heap.size ≤ p := Nat.le_trans B1.below.size hp
  have q0 : w.heap.size ≤ b := Nat.le_trans B1.below.size hb1
  clear hb hb2 B0 b0 b1 B2 hS B1 M hp hb1
  have HC := hide (HS.out.copy)
  have hpl : p < w2.heap.size := lt_of_heap HS.out.head
  have hbl : b < w2.heap.size := lt_of_heap HS.out.row
  have hrl : (List.replicate n 0).length = n := by simp
  unfold St.zero at HC
  simp only [hrl] at HC
  go_wp2_with fail
  refine (s_put _ _ b _ HC.out 0 (by simp; omega) 1 (by omega)).mono ?_
  rintro e w3 ⟨rfl, hS3, ho⟩
  have HS3 := hide hS3
  have HO := hide ho
  clear hS3 ho c0 c1 c2 c3 c4 c5
  go_wp2
  go_ret
  refine ⟨p, b, rfl, ⟨?_, ?_, HS.out.ne, ?_, ?_⟩, p0, q0, ?_⟩
  · rw [HO.out.block p (by simp; omega) (by rintro (e | e); omega; exact HS.out.ne e), Below.heap_alloc _ _ _ hpl, HS.out.head]
    simp [St.first, St.zero]
  · rw [HS3.out.row]; simp [St.first, St.put, St.access]
  · simpa [St.first] using n2
  · simp only [St.first]; exact set_lt _ (by intro x hx; rw [List.eq_of_mem_replicate hx]; omega) 0 1 (by omega)
  · refine (HB2.out.alloc (by have := HB2.out.size; omega) _).trans (HO.out.below (by have := HB2.out.size; simp; omega) (fun i hi => ?_))
    have := HB2.out.size
    rcases hi with rfl | rfl <;> omega
end Go.Proofs.Ythcfmpjmgheieaa

namespace Go.Proofs.Ythcfmpjmgheieaa
open Go.RowKit

/-- The program's store at p. -/
def SS (p : Nat) (s : St) : Res := fun w G => ∃ b, StoreAt 106 w p b s ∧ ∀ x, G x ↔ x = p ∨ x = b
theorem Loc.ss {p : Nat} {s : St} : Loc (SS p s) :=
  ⟨fun ⟨b, h, e⟩ o hn => ⟨b, h.kept o (hn p ((e p).2 (.inl rfl))) (hn b ((e b).2 (.inr rfl))), e⟩, fun {w G x} ⟨b, h, e⟩ hx => by
    rcases (e x).1 hx with rfl | rfl
    · exact lt_of_heap h.head
    · exact lt_of_heap h.row⟩
theorem Own.store {p : Nat} {s : St} {R : Res} {w0 w : World} (l : Loc R) (h : Own (Sep (SS p s) R) w0 w) :
    ∃ b, StoreAt 106 w p b s ∧ ∀ {w' s'}, StoreAt 106 w' p b s' → Only (fun k => k = p ∨ k = b) w w' → Own (Sep (SS p s') R) w0 w' := by
  obtain ⟨G, ⟨G1, G2, ⟨b, h1, e⟩, r, c, d⟩, h2, h3⟩ := h
  refine ⟨b, h1, fun {w' s'} g1 g2 => ?_⟩
  exact Own.step (G1 := G1) (G1' := G1) (G2 := G2) l h3 (fun x hx => h2 x ((d x).2 hx)) r c ⟨b, g1, e⟩ (g2.mono (fun x _ hx => (e x).2 hx)) (fun x hx => .inl hx)

/-- The arena's head at q. -/
def AH (q : Nat) (P T : Int) (p r : Nat) : Res := fun w G => w.heap[q]? = some (.cells #[.int .i64 P, .int .i64 T, .pointer (some ⟨p, 0, none⟩), .pointer (some ⟨r, 0, none⟩)] 102 (0, 0)) ∧ ∀ x, G x ↔ x = q
theorem Loc.ah {q : Nat} {P T : Int} {p r : Nat} : Loc (AH q P T p r) :=
  ⟨fun ⟨h, e⟩ o hn => ⟨(o.block q (lt_of_heap h) (hn q ((e q).2 rfl))).trans h, e⟩, fun {w G x} ⟨h, e⟩ hx => by rw [(e x).1 hx]; exact lt_of_heap h⟩

/-- An arena. -/
def AX (q : Nat) (P T : Int) (p r : Nat) (s : St) (pg : Nat) (ds : List Nat) (dn : Nat) (L : RL) : Res := Sep (AH q P T p r) (Sep (SS p s) (RR r pg ds dn L))
theorem Loc.ax {q : Nat} {P T : Int} {p r : Nat} {s : St} {pg : Nat} {ds : List Nat} {dn : Nat} {L : RL} : Loc (AX q P T p r s pg ds dn L) := Loc.ah.sep (Loc.ss.sep Loc.rr)

section
variable {R : Res} {w0 w : World} {q : Nat} {P T : Int} {p r : Nat} {s : St} {pg : Nat} {ds : List Nat} {dn : Nat} {L : RL}
theorem AX.toStore : Sep (AX q P T p r s pg ds dn L) R = Sep (SS p s) (Sep (AH q P T p r) (Sep (RR r pg ds dn L) R)) := by unfold AX; ac_rfl
theorem AX.toRuns : Sep (AX q P T p r s pg ds dn L) R = Sep (RR r pg ds dn L) (Sep (AH q P T p r) (Sep (SS p s) R)) := by unfold AX; ac_rfl
theorem Loc.one (l : Loc R) : Loc (Sep (AH q P T p r) (Sep (RR r pg ds dn L) R)) := Loc.ah.sep (Loc.rr.sep l)
theorem Loc.two (l : Loc R) : Loc (Sep (AH q P T p r) (Sep (SS p s) R)) := Loc.ah.sep (Loc.ss.sep l)
theorem AX.head (h : Own (Sep (AX q P T p r s pg ds dn L) R) w0 w) : w.heap[q]? = some (.cells #[.int .i64 P, .int .i64 T, .pointer (some ⟨p, 0, none⟩), .pointer (some ⟨r, 0, none⟩)] 102 (0, 0)) := by
  obtain ⟨_, ⟨_, _, ⟨_, _, a, _⟩, _⟩, _⟩ := h
  exact a.1
theorem AX.st (h : Own (Sep (AX q P T p r s pg ds dn L) R) w0 w) : ∃ b, StoreAt 106 w p b s := by
  obtain ⟨_, ⟨_, _, ⟨_, _, _, ⟨_, _, ⟨b, a, _⟩, _⟩, _⟩, _⟩, _⟩ := h
  exact ⟨b, a⟩

theorem storeX (h : Own (Sep (AX q P T p r s pg ds dn L) R) w0 w) : Calls Try.prog 25 #[.pointer (some ⟨q, 0, none⟩)] w fun e w' => e = .returned (.pointer (some ⟨p, 0, none⟩)) ∧ w' = w := by
  have c2 : w.cell? ⟨q, 2, none⟩ = some (.pointer (some ⟨p, 0, none⟩)) := cell_of_heap (AX.head h)
  clear h
  go_enter Try.func25, Try.ntmps25
  go_wp2
  go_ret
  exact ⟨rfl, rfl⟩
theorem runsX (h : Own (Sep (AX q P T p r s pg ds dn L) R) w0 w) : Calls Try.prog 29 #[.pointer (some ⟨q, 0, none⟩)] w fun e w' => e = .returned (.pointer (some ⟨r, 0, none⟩)) ∧ w' = w := by
  have c2 : w.cell? ⟨q, 3, none⟩ = some (.pointer (some ⟨r, 0, none⟩)) := cell_of_heap (AX.head h)
  clear h
  go_enter Try.func29, Try.ntmps29
  go_wp2
  go_ret
  exact ⟨rfl, rfl⟩
theorem layoutX (h : Own (Sep (AX q P T p r s pg ds dn L) R) w0 w) : Calls Try.prog 22 #[.pointer (some ⟨q, 0, none⟩)] w fun e w' => e = .returned (.agg #[.int .i64 P, .int .i64 T]) ∧ Below w.heap.size w w' := by
  have c0 : w.cell? ⟨q, 0, none⟩ = some (.int .i64 P) := cell_of_heap (AX.head h)
  have c1 : w.cell? ⟨q, 1, none⟩ = some (.int .i64 T) := cell_of_heap (AX.head h)
  have d0 : ∀ o, (w.alloc o).cell? ⟨q, 0, none⟩ = some (.int .i64 P) := fun o => cell_of_heap (heap_alloc_old (AX.head h))
  have d1 : ∀ o, (w.alloc o).cell? ⟨q, 1, none⟩ = some (.int .i64 T) := fun o => cell_of_heap (heap_alloc_old (AX.head h))
  clear h
  go_enter Try.func22, Try.ntmps22
  go_wp2
  go_returns
  exact ⟨rfl, grown1 _ _⟩
end

theorem layoutNil (w : World) : Calls Try.prog 22 #[.pointer none] w fun e w' => e = .returned (.agg #[.int .i64 0, .int .i64 0]) ∧ Below w.heap.size w w' := by
  go_enter Try.func22, Try.ntmps22
  go_wp2
  go_returns
  exact ⟨rfl, grown1 _ _⟩
theorem storeNil (w : World) : Calls Try.prog 25 #[.pointer none] w fun e w' => e = .returned (.pointer none) ∧ w' = w := by
  go_enter Try.func25, Try.ntmps25
  go_wp2
  go_ret
  exact ⟨rfl, rfl⟩
theorem runsNil (w : World) : Calls Try.prog 29 #[.pointer none] w fun e w' => e = .returned (.pointer none) ∧ w' = w := by
  go_enter Try.func29, Try.ntmps29
  go_wp2
  go_ret
  exact ⟨rfl, rfl⟩
theorem genNil (w : World) : Calls Try.prog 23 #[.pointer none] w fun e w' => e = .returned (.int .i64 0) ∧ w' = w := by
  go_enter Try.func23, Try.ntmps23
  go_wp2
  go_ret
  exact ⟨rfl, rfl⟩
end Go.Proofs.Ythcfmpjmgheieaa

namespace Go.Proofs.Ythcfmpjmgheieaa
open Go.RowKit

section
variable {R : Res} {w0 w : World} {q : Nat} {P T : Int} {p r : Nat} {s : St} {pg : Nat} {ds : List Nat} {dn : Nat} {L : RL}

theorem set_getD (l : List Nat) (i : Nat) : l.set i (l.getD i 0) = l := by
  apply List.ext_getElem?
  intro j
  rw [List.getElem?_set]
  split
  · rename_i e; subst e
    split
    · rename_i h; rw [List.getD_eq_getElem?_getD, List.getElem?_eq_getElem h]; simp
    · rename_i h; rw [List.getElem?_eq_none (by omega)]
  · rfl

set_option maxHeartbeats 1000000 in
theorem genX (h : Own (Sep (AX q P T p r s pg ds dn L) R) w0 w) (hs : 0 < s.words.length) (g : Nat) (hg : s.words.getD 0 0 = g) (hb : g < 9223372036854775808) :
    Calls Try.prog 23 #[.pointer (some ⟨q, 0, none⟩)] w fun e w' => e = .returned (.int .i64 (g : Int)) ∧ Below w.heap.size w w' := by
  have e2 : w.cell? ⟨q, 2, none⟩ = some (.pointer (some ⟨p, 0, none⟩)) := cell_of_heap (AX.head h)
  obtain ⟨b, hS⟩ := AX.st h
  have c0 : w.cell? ⟨p, 0, none⟩ = some (.slice (some ⟨b, 0, none⟩) s.words.length s.words.length) := cell_of_heap hS.head
  have c1 : w.cell? ⟨p, 1, none⟩ = some (.int .i64 s.kind) := cell_of_heap hS.head
  have c2 : w.cell? ⟨p, 2, none⟩ = some (.int .i64 s.place) := cell_of_heap hS.head
  have c3 : w.cell? ⟨p, 3, none⟩ = some (.int .u64 s.old) := cell_of_heap hS.head
  have c4 : w.cell? ⟨p, 4, none⟩ = some (.int .u64 s.new) := cell_of_heap hS.head
  have c5 : w.cell? ⟨p, 5, none⟩ = some (.int .i64 s.count) := cell_of_heap hS.head
  have HS := hide hS
  have HC := hide (s_load _ _ b _ hS.copy 0 hs)
  rw [hg] at HC
  have HG := hide hg
  have hbl : b < w.heap.size := lt_of_heap hS.row
  clear h hS hg hs
  go_enter Try.func23, Try.ntmps23
  go_wp2_with fail
  refine HC.out.mono ?_
  rintro e w3 ⟨rfl, hS3, ho⟩
  have HS3 := hide hS3
  have HO := hide ho
  clear hS3 ho c0 c1 c2 c3 c4 c5
  go_wp2
  go_ret
  refine ⟨ret_int (by first | rfl | omega | (rw [IntKind.wrap_i64]; omega)), ?_⟩
  refine ⟨HO.out.os, HO.out.tape, HO.out.output, Nat.le_trans (by simp) HO.out.size, fun k hk => ?_⟩
  by_cases e : k = b
  · subst e
    rw [HS3.out.row, HS.out.row]
    simp only [St.load, St.access]
    rw [set_getD]
  · rw [HO.out.block k (by simp; omega) (by rintro (e' | e'); omega; exact e e'), Below.heap_alloc _ _ _ hk]

theorem lenX (h : Own (Sep (AX q P T p r s pg ds dn L) R) w0 w) : Calls Try.prog 35 #[.pointer (some ⟨p, 0, none⟩)] w fun e w' => e = .returned (.int .i64 (s.words.length : Nat)) ∧ w' = w := by
  obtain ⟨b, hS⟩ := AX.st h
  exact len_of w p b s hS
theorem countX (h : Own (Sep (AX q P T p r s pg ds dn L) R) w0 w) : Calls Try.prog 27 #[.pointer (some ⟨p, 0, none⟩)] w fun e w' => e = .returned (.int .i64 s.count) ∧ w' = w := by
  obtain ⟨b, hS⟩ := AX.st h
  exact count_of w p b s hS
theorem putX (l : Loc R) (h : Own (Sep (AX q P T p r s pg ds dn L) R) w0 w) (i : Nat) (hi : i < s.words.length) (v : Nat) (hv : v < 18446744073709551616) :
    Calls Try.prog 36 #[.pointer (some ⟨p, 0, none⟩), .int .i64 (i : Int), .int .u64 (v : Int)] w fun e w' => e = .returned (.int .i64 0) ∧ Own (Sep (AX q P T p r (s.put i v) pg ds dn L) R) w0 w' := by
  obtain ⟨b, hS, k⟩ := (h.cast AX.toStore).store l.one
  exact (s_put w p b s hS i hi v hv).mono fun _ _ ⟨e, h1, h2⟩ => ⟨e, (k h1 h2).cast AX.toStore.symm⟩
theorem loadX (l : Loc R) (h : Own (Sep (AX q P T p r s pg ds dn L) R) w0 w) (i : Nat) (hi : i < s.words.length) :
    Calls Try.prog 37 #[.pointer (some ⟨p, 0, none⟩), .int .i64 (i : Int)] w fun e w' => e = .returned (.tuple #[.int .u64 (s.words.getD i 0 : Nat), .int .i64 0]) ∧ Own (Sep (AX q P T p r (s.load i) pg ds dn L) R) w0 w' := by
  obtain ⟨b, hS, k⟩ := (h.cast AX.toStore).store l.one
  exact (s_load w p b s hS i hi).mono fun _ _ ⟨e, h1, h2⟩ => ⟨e, (k h1 h2).cast AX.toStore.symm⟩
theorem takeX (l : Loc R) (h : Own (Sep (AX q P T p r s pg ds dn L) R) w0 w) (hf : Fine pg ds dn L) (n : Int) :
    Calls Try.prog 11 #[.pointer (some ⟨r, 0, none⟩), .int .i64 n] w fun e w' => e = .returned (.tuple #[.int .i64 (takeA n L).1, .int .i64 (takeA n L).2]) ∧ Own (Sep (AX q P T p r s pg ds (takeS ds n dn L).1 (takeS ds n dn L).2) R) w0 w' :=
  (takeP l.two (h.cast AX.toRuns) hf n).mono fun _ _ ⟨e, h1⟩ => ⟨e, h1.cast AX.toRuns.symm⟩
theorem totalX (l : Loc R) (h : Own (Sep (AX q P T p r s pg ds dn L) R) w0 w) (hf : Fine pg ds dn L) :
    Calls Try.prog 38 #[.pointer (some ⟨r, 0, none⟩)] w fun e w' => e = .returned (.int .i64 (totL L)) ∧ Own (Sep (AX q P T p r s pg ds dn L) R) w0 w' :=
  (totalP l.two (h.cast AX.toRuns) hf).mono fun _ _ ⟨e, h1⟩ => ⟨e, h1.cast AX.toRuns.symm⟩
theorem listX (l : Loc R) (h : Own (Sep (AX q P T p r s pg ds dn L) R) w0 w) (hf : Fine pg ds dn L) :
    Calls Try.prog 30 #[.pointer (some ⟨r, 0, none⟩)] w fun e w' => ∃ v, e = .returned v ∧ Own (Sep (AX q P T p r s pg ds dn L) (Sep (RV v (runsOf L)) R)) w0 w' :=
  (listP l.two (h.cast AX.toRuns) hf).mono fun _ _ ⟨v, e, h1⟩ => ⟨v, e, h1.cast (by unfold AX; ac_rfl)⟩
theorem shapeX (l : Loc R) (h : Own (Sep (AX q P T p r s pg ds dn L) R) w0 w) (hf : Fine pg ds dn L) :
    Calls Try.prog 33 #[.pointer (some ⟨r, 0, none⟩)] w fun e w' => ∃ v, e = .returned v ∧ Own (Sep (AX q P T p r s pg ds dn L) (Sep (NV v (shp L)) R)) w0 w' :=
  (shapeP l.two (h.cast AX.toRuns) hf).mono fun _ _ ⟨v, e, h1⟩ => ⟨v, e, h1.cast (by unfold AX; ac_rfl)⟩
end

/-- A setup, boxed, and its layout. -/
structure SetAt (w : World) (b : Nat) (P T : Int) (a : Option Addr) (n c : Nat) (ds : List Nat) (u : World) : Prop where
  c0 : u.cell? ⟨b, 0, none⟩ = some (.int .i64 P)
  c1 : u.cell? ⟨b, 1, none⟩ = some (.int .i64 T)
  c2 : u.cell? ⟨b, 2, none⟩ = some (.slice a n c)
  l0 : u.cell? ⟨b + 1, 0, none⟩ = some (.int .i64 P)
  l1 : u.cell? ⟨b + 1, 1, none⟩ = some (.int .i64 T)
  row : DrawsIn u a ds
  below : Below w.heap.size w u
theorem SetAt.grow {w u v : World} {b : Nat} {P T : Int} {a : Option Addr} {n c : Nat} {ds : List Nat} (h : SetAt w b P T a n c ds u) (hb : Below u.heap.size u v) : SetAt w b P T a n c ds v :=
  ⟨(hb.cell (block_lt_of_cell h.c0)).trans h.c0, (hb.cell (block_lt_of_cell h.c1)).trans h.c1, (hb.cell (block_lt_of_cell h.c2)).trans h.c2, (hb.cell (block_lt_of_cell h.l0)).trans h.l0, (hb.cell (block_lt_of_cell h.l1)).trans h.l1, h.row.below hb (Nat.le_refl _), h.below.trans (hb.mono h.below.size)⟩
theorem SetAt.new (w : World) (P T : Int) (a : Option Addr) (n c : Nat) (ds : List Nat) (h : DrawsIn w a ds) (t1 t2 : TypeId) :
    SetAt w w.heap.size P T a n c ds ((w.alloc (.cells #[.int .i64 P, .int .i64 T, .slice a n c] t1)).alloc (.cells #[.int .i64 P, .int .i64 T] t2)) := by
  have hb : Below w.heap.size w ((w.alloc (.cells #[.int .i64 P, .int .i64 T, .slice a n c] t1)).alloc (.cells #[.int .i64 P, .int .i64 T] t2)) := ((Below.refl _ w).alloc (Nat.le_refl _) _).alloc (by simp) _
  have e1 := heap_alloc_old (o := .cells #[.int .i64 P, .int .i64 T] t2) (heap_alloc_at w (.cells #[.int .i64 P, .int .i64 T, .slice a n c] t1))
  have e2 := heap_alloc_at (w.alloc (.cells #[.int .i64 P, .int .i64 T, .slice a n c] t1)) (.cells #[.int .i64 P, .int .i64 T] t2)
  rw [show (w.alloc (.cells #[.int .i64 P, .int .i64 T, .slice a n c] t1)).heap.size = w.heap.size + 1 by simp] at e2
  exact ⟨cell_of_heap e1, cell_of_heap e1, cell_of_heap e1, cell_of_heap e2, cell_of_heap e2, h.below hb (Nat.le_refl _), hb⟩

theorem anewNil (P T : Int) (hm : Lay.may P T = false) (a : Option Addr) (n c : Nat) (w : World) :
    Calls Try.prog 19 #[.agg #[.int .i64 P, .int .i64 T, .slice a n c]] w fun e w' => e = .returned (.pointer none) ∧ Below w.heap.size w w' := by
  have M := hide (fun w => lmay P T w)
  rw [hm] at M
  have h0 : DrawsIn w a [] := fun h => absurd rfl h
  have HW := SetAt.new w P T a n c [] h0 40 46
  have c0 := HW.l0
  have c1 := HW.l1
  have HB := hide HW.below
  clear h0 HW
  go_enter Try.func19, Try.ntmps19
  go_wp2_with fail
  refine (M.out _).mono ?_
  rintro e w1 ⟨rfl, hb⟩
  have HB1 := hide (HB.out.trans (hb.mono HB.out.size))
  clear hb c0 c1
  go_wp2
  go_ret
  exact ⟨rfl, HB1.out⟩

set_option maxHeartbeats 2000000 in
theorem anew {R : Res} {w0 w : World} (l : Loc R) (ho : Own R w0 w) (pg : Nat) (T : Int) (hm : Lay.may pg T = true) (ds : List Nat) (hl : ds.length ≤ 1000000000) (a : Option Addr) (c : Nat) (hz : a = none → ds = [] ∧ c = 0) (hd : DrawsIn w a ds) :
    Calls Try.prog 19 #[.agg #[.int .i64 (pg : Int), .int .i64 T, .slice a ds.length c]] w fun e w' => ∃ q p r, e = .returned (.pointer (some ⟨q, 0, none⟩)) ∧ Own (Sep (AX q (pg : Int) T p r (St.first (Lay.words pg T).toNat) pg ds 1 [(kOf 0 pg, ds.getD 0 0, ())]) R) w0 w' := by
  have M := hide (fun w => lmay pg T w)
  rw [hm] at M
  have W := hide (fun w => words52 pg T hm w)
  obtain ⟨m1, m2, m3, m4⟩ := Lay.may_iff.1 hm
  obtain ⟨n, hn⟩ : ∃ n, ds.length = n := ⟨_, rfl⟩
  have HL := hide hn
  have HW := SetAt.new w pg T a n c ds hd 40 46
  have c0 := HW.l0
  have c1 := HW.l1
  have HW2 := hide HW
  have HO := hide ho
  clear hd HW ho hm
  rw [hn]
  clear hn
  go_enter Try.func19, Try.ntmps19
  go_wp2_with fail
  refine (M.out _).mono ?_
  rintro e w1 ⟨rfl, hb⟩
  have H1 := hide (HW2.out.grow hb)
  clear hb HW2 c0 c1
  go_wp2
  have J1 : Hid (SetAt w w.heap.size pg T a n c ds w1.drew) := hide (H1.out.grow ((Alike.drewN w1 1).below _))
  have u0 : ∀ u : Mem (SetAt w w.heap.size pg T a n c ds), u.w'.cell? ⟨w.heap.size, 0, none⟩ = some (.int .i64 (pg : Int)) := fun u => u.h.c0
  have u1 : ∀ u : Mem (SetAt w w.heap.size pg T a n c ds), u.w'.cell? ⟨w.heap.size, 1, none⟩ = some (.int .i64 T) := fun u => u.h.c1
  have u2 : ∀ u : Mem (SetAt w w.heap.size pg T a n c ds), u.w'.cell? ⟨w.heap.size, 2, none⟩ = some (.slice a n c) := fun u => u.h.c2
  have u3 : ∀ u : Mem (SetAt w w.heap.size pg T a n c ds), u.w'.cell? ⟨w.heap.size + 1, 0, none⟩ = some (.int .i64 (pg : Int)) := fun u => u.h.l0
  have u4 : ∀ u : Mem (SetAt w w.heap.size pg T a n c ds), u.w'.cell? ⟨w.heap.size + 1, 1, none⟩ = some (.int .i64 T) := fun u => u.h.l1
  have hne : Nonempty (Mem (SetAt w w.heap.size pg T a n c ds)) := ⟨⟨_, J1.out⟩⟩
  refine region_start (J := SetAt w w.heap.size pg T a n c ds) (by kernel_rfl) ?_
  refine stretch (fuel := 5) (by kernel_rfl) (fun _ _ _ _ _ h => h) J1.out [0, 1, 3, 4, 5, 6] (by kernel_rfl) ?_
  simp only [List.filterMap_cons, List.filterMap_nil, List.getElem?_toArray, List.getElem?_cons_zero, List.getElem?_cons_succ]
  show wpQuiet _ _ _ _ [_, _, _, _, _, _] _
  repeat (go_big_quiet_step (fail))
  refine wpQuiet_nil ?_
  refine wpAnyJ_writer (i := 2) rfl (by kernel_rfl) (fun K hK => ?_)
  go_simp
  refine (W.out _).mono ?_
  rintro e w2 ⟨p, b, rfl, hS, hp, hb1, hb2⟩
  have J2 := hide (J1.out.grow hb2)
  have O2 := hide (Own.fresh (R1 := SS p (St.first (Lay.words pg T).toNat)) l (HO.out.below l J1.out.below) (G := fun x => x = p ∨ x = b) ⟨b, hS, fun _ => Iff.rfl⟩ (by rintro x (rfl | rfl) <;> assumption) hb2)
  clear hS hp hb1 hb2 W
  refine hK _ _ J2.out ?_
  clear hK K
  refine wpAnyJ_writer (i := 7) rfl (by kernel_rfl) (fun K hK => ?_)
  go_simp
  have HN := new10 w2 pg (by omega) (by omega) ds hl a c hz J2.out.row
  rw [HL.out] at HN
  refine HN.mono ?_
  rintro e w3 ⟨r, t, T', va, vc, rfl, hR, hn3, hb3⟩
  have J3 := hide (J2.out.grow hb3)
  have O3 := hide (O2.out.runsNew (Loc.ss.sep l) hR hn3 hb3)
  clear hR hn3 hb3 HN
  refine hK _ _ J3.out ?_
  clear hK K
  refine stretch (fuel := 2) (by kernel_rfl) (fun _ _ _ _ _ h => h) J3.out [8] (by kernel_rfl) ?_
  simp only [List.filterMap_cons, List.filterMap_nil, List.getElem?_toArray, List.getElem?_cons_zero, List.getElem?_cons_succ]
  show wpQuiet _ _ _ _ [_] _
  repeat (go_big_quiet_step (fail))
  refine wpQuiet_nil ?_
  refine wpAnyJ_writer (i := 9) rfl (by kernel_rfl) (fun K hK => ?_)
  go_simp
  have J4 := hide (J3.out.grow (grown1 w3 (.cells #[.int .i64 (pg : Int), .int .i64 T, .pointer (some ⟨p, 0, none⟩), .pointer (some ⟨r, 0, none⟩)] 102)))
  have O4 := hide (Own.fresh (R1 := AH w3.heap.size pg T p r) (Loc.rr.sep (Loc.ss.sep l)) O3.out (G := fun x => x = w3.heap.size) ⟨heap_alloc_at _ _, fun _ => Iff.rfl⟩ (fun x hx => by rw [hx]; exact Nat.le_refl _) (grown1 w3 _))
  refine hK _ _ J4.out ?_
  clear hK K
  refine stretch (fuel := 0) (by kernel_rfl) (fun _ _ _ _ _ h => h) J4.out [10] (by kernel_rfl) ?_
  simp only [List.filterMap_cons, List.filterMap_nil, List.getElem?_toArray, List.getElem?_cons_zero, List.getElem?_cons_succ]
  show wpQuiet _ _ _ _ [_] _
  repeat (go_big_quiet_step (fail))
  refine wpQuiet_nil ?_
  refine wpAnyJ_done (by kernel_rfl) ?_
  clear u0 u1 u2 u3 u4 hne J1 J2 J3 J4 O2 O3 H1
  go_wp2
  go_ret
  exact ⟨_, p, r, rfl, O4.out.cast (by unfold AX; ac_rfl)⟩
end Go.Proofs.Ythcfmpjmgheieaa

namespace Go.Proofs.Ythcfmpjmgheieaa
open Go.RowKit

theorem St.first_len (n : Nat) : (St.first n).words.length = n := by simp [St.first]
theorem St.first_zero (n : Nat) (h : 1 ≤ n) : (St.first n).words.getD 0 0 = 1 := by
  obtain ⟨m, rfl⟩ : ∃ m, n = m + 1 := ⟨n - 1, by omega⟩
  simp [St.first, List.replicate_succ]
theorem St.first_last (n i : Nat) (h : 1 ≤ i) : (St.first n).words.getD i 0 = 0 := by
  simp only [St.first, List.getD_eq_getElem?_getD, List.getElem?_set]
  rw [if_neg (by omega)]
  by_cases h : i < n
  · simp [h]
  · simp [h]

set_option maxHeartbeats 2000000 in
set_option maxRecDepth 100000 in
theorem awake11 (w : World) : Calls Try.prog 21 #[] w fun e w' => e = .returned (.bool true) ∧ Below w.heap.size w w' := by
  have e90 : (Lay.words 1 1).toNat = 90 := by decide
  have N0 := anew Loc.nought (Own.start w) 1 1 (by decide) [] (by simp) none 0 (fun _ => ⟨rfl, rfl⟩) (fun h => absurd rfl h)
  rw [show ((1 : Nat) : Int) = 1 from rfl, e90] at N0
  simp only [List.length_nil] at N0
  have F : Fine 1 [] 1 [(kOf 0 1, ([] : List Nat).getD 0 0, ())] := (Fit.new (by omega) (by omega) (by simp)).fine (by omega)
  have E5 : runsOf [(kOf 0 1, ([] : List Nat).getD 0 0, ())] = [(0, 1)] := by simp [runsOf, rOf, rA, rN, kOf]
  obtain ⟨L, hL⟩ : ∃ L, [(kOf 0 1, ([] : List Nat).getD 0 0, ())] = L := ⟨_, rfl⟩
  obtain ⟨s, hs⟩ : ∃ s, St.first 90 = s := ⟨_, rfl⟩
  rw [hL] at N0 F E5
  rw [hs] at N0
  have s1 : s.words.length = 90 := by rw [← hs]; exact St.first_len 90
  have s2 : s.words.getD 0 0 = 1 := by rw [← hs]; exact St.first_zero 90 (by omega)
  have HE := hide E5
  have HF := hide F
  have H1 := hide s1
  have H2 := hide s2
  have HN := hide N0
  clear N0 E5 F hL hs s1 s2 e90
  go_enter Try.func21, Try.ntmps21
  go_wp2_with fail
  refine HN.out.mono ?_
  rintro e w1 ⟨q, p, r, rfl, o1⟩
  have O1 := hide o1
  clear o1 HN
  go_wp2_with fail
  refine (genX O1.out (by rw [H1.out]; omega) 1 H2.out (by omega)).mono ?_
  rintro e w2 ⟨rfl, b2⟩
  have O2 := hide (O1.out.below (Loc.ax.sep Loc.nought) b2)
  clear b2 O1
  go_wp2_with fail
  refine (storeX O2.out).mono ?_
  rintro e w3 ⟨rfl, rfl⟩
  go_wp2_with fail
  refine (lenX O2.out).mono ?_
  rintro e w3 ⟨rfl, rfl⟩
  rw [H1.out]
  go_wp2_with fail
  refine (runsX O2.out).mono ?_
  rintro e w3 ⟨rfl, rfl⟩
  go_wp2_with fail
  refine (listX Loc.nought O2.out HF.out).mono ?_
  rintro e w4 ⟨v, rfl, o4⟩
  have HV : Hid (RunsV w4 v (runsOf L)) := hide (by obtain ⟨_, h, _⟩ := o4.mid; exact h)
  have HB := hide o4.back
  clear o4 O2
  go_wp2_with fail
  have hA : Below w4.heap.size w4 (w4.alloc (.cells #[.int .i64 0, .int .i64 1] 84)) := (Below.refl _ w4).alloc (Nat.le_refl _) _
  have hc := heap_alloc_at w4 (.cells #[.int .i64 0, .int .i64 1] 84)
  have hW2 : RunsV (w4.alloc (.cells #[.int .i64 0, .int .i64 1] 84)) (.slice (some ⟨w4.heap.size, 0, none⟩) 1 1) (runsOf L) := by
    rw [HE.out]
    refine ⟨_, _, rfl, fun _ => ⟨w4.heap.size, rfl, lt_of_heap hc, fun i hi => ?_⟩⟩
    match i, hi with
    | 0, _ => exact ⟨cell_of_heap hc, cell_of_heap hc⟩
  refine (sameRuns _ v _ _ (HV.out.below hA) hW2 (by rw [HE.out]; decide)).mono ?_
  rintro e w7 ⟨rfl, h7⟩
  have HB7 : Hid (Below w.heap.size w w7) := hide ((HB.out.trans (hA.mono HB.out.size)).trans (h7.below _))
  clear h7 hW2 hc hA
  go_wp2
  go_ret
  exact ⟨rfl, HB7.out⟩
end Go.Proofs.Ythcfmpjmgheieaa

namespace Go.Proofs.Ythcfmpjmgheieaa
open Go.RowKit

/-- A block. -/
def BO (B : Nat) (o : Obj) : Res := fun w G => w.heap[B]? = some o ∧ ∀ x, G x ↔ x = B
theorem Loc.bo {B : Nat} {o : Obj} : Loc (BO B o) := ⟨fun ⟨h, e⟩ k hn => ⟨(k.block B (lt_of_heap h) (hn B ((e B).2 rfl))).trans h, e⟩, fun {w G x} ⟨h, e⟩ hx => by rw [(e x).1 hx]; exact lt_of_heap h⟩
theorem Own.bo {A1 A2 : Res} {B : Nat} {o : Obj} {w0 w : World} (h : Own (Sep A1 (Sep A2 (BO B o))) w0 w) : w.heap[B]? = some o := by
  obtain ⟨_, ⟨_, _, _, ⟨_, _, _, a, _⟩, _⟩, _⟩ := h
  exact a.1
theorem Own.bo1 {A1 : Res} {B : Nat} {o : Obj} {w0 w : World} (h : Own (Sep A1 (BO B o)) w0 w) : w.heap[B]? = some o := by
  obtain ⟨_, ⟨_, _, _, a, _⟩, _⟩ := h
  exact a.1
/-- A block as the class of worlds. -/
def BkAt (B : Nat) (o : Obj) (w : World) : Prop := w.heap[B]? = some o

theorem one_fit {pg : Nat} {n : Int} {d : Nat} (_h1 : 1 ≤ n) (h2 : n ≤ pg) : fitL n [(kOf 0 pg, d, ())] = some (kOf 0 pg, d, ()) := by
  unfold fitL ceilL
  have : ¬ (kOf 0 pg < kOf 0 n) := by unfold kOf; omega
  simp [this]
theorem one_take {pg : Nat} {n : Int} {d : Nat} (h1 : 1 ≤ n) (h2 : n ≤ pg) : takeA n [(kOf 0 pg, d, ())] = (0, 0) := by
  unfold takeA
  rw [if_neg (by omega), one_fit h1 h2]
  simp [rA_k (a := 0) (n := pg) (by omega) (by omega)]
theorem one_left {pg : Nat} {n : Int} {d dn : Nat} {ds : List Nat} (h1 : 1 ≤ n) (h2 : n ≤ pg) (h3 : pg ≤ 4096) : totL (takeS ds n dn [(kOf 0 pg, d, ())]).2 = pg - n := by
  unfold takeS
  rw [if_neg (by omega), one_fit h1 h2]
  simp only [cutL, rA_k (a := 0) (n := (pg : Int)) (by omega) (by omega), rN_k (a := 0) (n := (pg : Int)) (by omega) (by omega)]
  split
  · simp [delL, insL, totL]
    exact rN_k (by omega) (by omega)
  · simp [delL, totL]
    omega
theorem one_tot {pg : Nat} {d : Nat} : totL [(kOf 0 pg, d, ())] = pg := by
  simp [totL]
  exact rN_k (by omega) (by omega)
theorem put_len (s : St) (i v : Nat) : (s.put i v).words.length = s.words.length := by simp [St.put, St.access]
theorem load_words (s : St) (i : Nat) : (s.load i).words = s.words := by simp only [St.load, St.access]; exact set_getD _ _
theorem put_same (s : St) (i v : Nat) (h : i < s.words.length) : (s.put i v).words.getD i 0 = v := by simp [St.put, St.access, h]
theorem put_other (s : St) (i j v : Nat) (h : i ≠ j) : (s.put i v).words.getD j 0 = s.words.getD j 0 := by
  simp [St.put, St.access, List.getD_eq_getElem?_getD, h]
end Go.Proofs.Ythcfmpjmgheieaa
