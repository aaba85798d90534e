/- Machines that have nothing to do, of any kind: in no arena, in one of another layout; no machine. Sweeps that have nothing to do: in no arena, or in one of another layout; none at all. What a machine of the document may be made of: the machine's cells as it is handed in. What a sweep of the document may be made of. -/
import Derived.Test.YtafamfjgehnddaaPA
import Derived.Test.YtafamfjgehnddaaLayRef
namespace Go.Proofs.Ytafamfjgehnddaa
open Go.RowKit

/-- Two arenas at hand: none, and the one at q. -/
def HandQ (q : Nat) (qa : Option Addr) : Prop := qa = none ∨ qa = some ⟨q, 0, none⟩
/-- The machine v (its Step fs, its Done fd) has nothing to do in any world above w. -/
structure Idle (fs fd : FuncId) (q : Nat) (v : Value) (w : World) : Prop where
  step : ∀ (qa : Option Addr), HandQ q qa → ∀ u : World, Below w.heap.size w u → Calls Try.prog fs #[v, .pointer qa] u fun e u' => e = .returned noDid ∧ Below u.heap.size u u'
  done : ∀ u : World, Below w.heap.size w u → Calls Try.prog fd #[v] u fun e u' => e = .returned (.bool false) ∧ Below u.heap.size u u'
theorem Idle.grow {fs fd : FuncId} {q : Nat} {v : Value} {w w' : World} (h : Idle fs fd q v w) (b : Below w.heap.size w w') : Idle fs fd q v w' :=
  ⟨fun qa hq u hu => h.step qa hq u (b.trans (hu.mono b.size)), fun u hu => h.done u (b.trans (hu.mono b.size))⟩

/-- An arena that a call made lies in new blocks. -/
theorem Own.arNew {R : Res} {w0 w : World} {q : Nat} {P T : Int} {p r : Nat} {s : St} {pg : Nat} {ds : List Nat} {dn : Nat} {L : RL} (h : Own (Sep (AX q P T p r s pg ds dn L) R) w0 w) :
    w0.heap.size ≤ q ∧ w0.heap.size ≤ p ∧ ∃ b, StoreAt 104 w p b s ∧ w0.heap.size ≤ b := by
  obtain ⟨G, ⟨G1, G2, ⟨A1, A2, ⟨_, e⟩, ⟨B1, B2, ⟨b, hS, eS⟩, _, _, dB⟩, _, dA⟩, _, _, d⟩, h2, _⟩ := h
  exact ⟨h2 q ((d q).2 (.inl ((dA q).2 (.inl ((e q).2 rfl))))), h2 p ((d p).2 (.inl ((dA p).2 (.inr ((dB p).2 (.inl ((eS p).2 (.inl rfl)))))))), b, hS, h2 b ((d b).2 (.inl ((dA b).2 (.inr ((dB b).2 (.inl ((eS b).2 (.inr rfl))))))))⟩
theorem countAt {w u : World} {pa : Nat} (h : ∃ b s, StoreAt 104 w pa b s ∧ s.count = 0) (hb : Below w.heap.size w u) :
    Calls Try.prog 31 #[.pointer (some ⟨pa, 0, none⟩)] u fun e u' => e = .returned (.int .i64 0) ∧ Below u.heap.size u u' := by
  obtain ⟨b, s, h1, h2⟩ := h
  have := count_of u pa b s (h1.below hb)
  rw [h2] at this
  exact this.mono fun _ _ hh => ⟨hh.1, by rw [hh.2]; exact Below.refl _ _⟩
end Go.Proofs.Ytafamfjgehnddaa

namespace Go.Proofs.Ytafamfjgehnddaa
open Go Go.RowKit

/-- The arena handed over is none, or has another layout. -/
def Foreign (q : Nat) (P T : Int) (qa : Option Addr) (u : World) : Prop := qa = none ∨ (qa = some ⟨q, 0, none⟩ ∧ ∃ P' T' p r n, ArAt q P' T' p r n u ∧ (P' ≠ P ∨ T' ≠ T))
theorem Foreign.layout {q : Nat} {P T : Int} {qa : Option Addr} {u : World} (h : Foreign q P T qa u) (hP : 1 ≤ P) :
    ∃ P' T' : Int, (P' ≠ P ∨ T' ≠ T) ∧ ∀ u' : World, Below u.heap.size u u' → Calls Try.prog 26 #[.pointer qa] u' fun e w' => e = .returned (.agg #[.int .i64 P', .int .i64 T']) ∧ Below u'.heap.size u' w' := by
  rcases h with rfl | ⟨rfl, P', T', p, r, n, k, e⟩
  · exact ⟨0, 0, .inl (by omega), fun u' _ => layoutNil u'⟩
  · exact ⟨P', T', e, fun u' b => (k.below b).layout⟩

set_option maxRecDepth 100000 in
set_option maxHeartbeats 4000000 in
theorem swpNo {P T pg : Int} {m q : Nat} {qa : Option Addr} {w : World} (hS : Foreign q P T qa w) (hP : 1 ≤ P) (hm : w.heap[m]? = some (swpO P T pg 0 0 0)) :
    Calls Try.prog 27 #[.pointer (some ⟨m, 0, none⟩), .pointer qa] w fun e w' => e = .returned noDid ∧ Below w.heap.size w w' := by
  obtain ⟨P', T', hne, hL⟩ := hS.layout hP
  have HL := hide hL
  have HA1 := hide (heap_alloc_at w (.cells #[.int .i64 0, .int .i64 0, .int .u64 0, .int .u64 0] 50))
  have HB1 := hide (grown1 w (.cells #[.int .i64 0, .int .i64 0, .int .u64 0, .int .u64 0] 50))
  have HM1 := hide (((grown1 w (.cells #[.int .i64 0, .int .i64 0, .int .u64 0, .int .u64 0] 50)).block _ (lt_of_heap hm)).trans hm)
  have HNE := hide hne
  clear hS hm hL hne
  go_enter Try.func27, Try.ntmps27
  go_upto_region 1 with fail
  generalize w.alloc (.cells #[.int .i64 0, .int .i64 0, .int .u64 0, .int .u64 0] 50) = w1 at *
  have hne : Nonempty (Over w1) := ⟨⟨_, Below.refl _ _⟩⟩
  have v0 := fun u => over_cell (show w1.cell? ⟨m, 0, none⟩ = some (.int .i64 P) from cell_of_heap HM1.out) u
  have v1 := fun u => over_cell (show w1.cell? ⟨m, 1, none⟩ = some (.int .i64 T) from cell_of_heap HM1.out) u
  have VL := fun u : Over w1 => hide (HL.out u.w' (HB1.out.trans (u.h.mono HB1.out.size)))
  have VD := fun u : Over w1 => hide (show Calls Try.prog 28 #[.pointer (some ⟨m, 0, none⟩)] u.w' fun e w' => e = .returned (.bool false) ∧ Below u.w'.heap.size u.w' w' from (swpDone u.w' m P T pg 0 0 0 ((u.h.block _ (lt_of_heap HM1.out)).trans HM1.out) false (by decide)).mono fun _ _ ⟨h1, h2⟩ => ⟨h1, by rw [h2]; exact Below.refl _ _⟩)
  by_cases hp : P' = P
  · have dt : (T' == T) = false := by rw [beq_eq_false_iff_ne]; exact HNE.out.resolve_left (fun h => h hp)
    have dp : (P' == P) = true := by simp [hp]
    have HP' := hide hp
    clear hp
    refine over_region (by kernel_rfl) (by kernel_rfl) ?_
    repeat (go_big_quiet_step (first | (go_at_call 28; exact over_call _ (VD _).out) | (go_at_call 26; exact over_call _ (VL _).out)))
    refine wpQuiet_nil ?_
    rintro _ ⟨u, rfl⟩
    have HB3 := hide (HB1.out.trans (u.h.mono HB1.out.size))
    have A3 := (u.h.block _ (lt_of_heap HA1.out)).trans HA1.out
    clear HB1 HA1 HM1 v0 v1 hne VL VD
    generalize u.w' = w3 at *
    clear u
    have hl := Nat.le_refl w.heap.size
    generalize hrb : w.heap.size = rb at *
    have r0 : w3.cell? ⟨rb, 0, none⟩ = some (.int .i64 0) := cell_of_heap A3
    have r1 : w3.cell? ⟨rb, 1, none⟩ = some (.int .i64 0) := cell_of_heap A3
    have r2 : w3.cell? ⟨rb, 2, none⟩ = some (.int .u64 0) := cell_of_heap A3
    have r3 : w3.cell? ⟨rb, 3, none⟩ = some (.int .u64 0) := cell_of_heap A3
    have fr : ∀ o, w3.frozen? ⟨rb, o, none⟩ = false := fun o => frozen_of_heap A3
    have e := heap_setCell_at (o := 3) (heap_setCell_at (o := 2) (heap_setCell_at (o := 1) (heap_setCell_at (o := 0) A3 (.int .i64 0)) (.int .i64 0)) (.int .u64 0)) (.int .u64 0)
    have HE := hide e
    have B4 : Hid (Below rb w ((((w3.setCell ⟨rb, 0, none⟩ (.int .i64 0)).setCell ⟨rb, 1, none⟩ (.int .i64 0)).setCell ⟨rb, 2, none⟩ (.int .u64 0)).setCell ⟨rb, 3, none⟩ (.int .u64 0))) :=
      hide ((((HB3.out.setCell (p := ⟨rb, 0, none⟩) hl _).setCell (p := ⟨rb, 1, none⟩) hl _).setCell (p := ⟨rb, 2, none⟩) hl _).setCell (p := ⟨rb, 3, none⟩) hl _)
    have HRB := hide hrb
    clear e hrb A3
    go_wp2
    clear r0 r1 r2 r3 fr HB3
    generalize ((((w3.setCell ⟨rb, 0, none⟩ (.int .i64 0)).setCell ⟨rb, 1, none⟩ (.int .i64 0)).setCell ⟨rb, 2, none⟩ (.int .u64 0)).setCell ⟨rb, 3, none⟩ (.int .u64 0)) = w4 at *
    have z0 : w4.cell? ⟨rb, 0, none⟩ = some (.int .i64 0) := cell_of_heap HE.out
    have z1 : w4.cell? ⟨rb, 1, none⟩ = some (.int .i64 0) := cell_of_heap HE.out
    have z2 : w4.cell? ⟨rb, 2, none⟩ = some (.int .u64 0) := cell_of_heap HE.out
    have z3 : w4.cell? ⟨rb, 3, none⟩ = some (.int .u64 0) := cell_of_heap HE.out
    refine bodyPost_ret (by simp [results, Try.results27, z0, z1, z2, z3, go_sem]; try rfl) rfl ?_
    exact ⟨rfl, by rw [HRB.out]; exact B4.out⟩
  · have dp : (P' == P) = false := by rw [beq_eq_false_iff_ne]; exact hp
    clear hp
    refine over_region (by kernel_rfl) (by kernel_rfl) ?_
    repeat (go_big_quiet_step (first | (go_at_call 28; exact over_call _ (VD _).out) | (go_at_call 26; exact over_call _ (VL _).out)))
    refine wpQuiet_nil ?_
    rintro _ ⟨u, rfl⟩
    have HB3 := hide (HB1.out.trans (u.h.mono HB1.out.size))
    have A3 := (u.h.block _ (lt_of_heap HA1.out)).trans HA1.out
    clear HB1 HA1 HM1 v0 v1 hne VL VD
    generalize u.w' = w3 at *
    clear u
    have hl := Nat.le_refl w.heap.size
    generalize hrb : w.heap.size = rb at *
    have r0 : w3.cell? ⟨rb, 0, none⟩ = some (.int .i64 0) := cell_of_heap A3
    have r1 : w3.cell? ⟨rb, 1, none⟩ = some (.int .i64 0) := cell_of_heap A3
    have r2 : w3.cell? ⟨rb, 2, none⟩ = some (.int .u64 0) := cell_of_heap A3
    have r3 : w3.cell? ⟨rb, 3, none⟩ = some (.int .u64 0) := cell_of_heap A3
    have fr : ∀ o, w3.frozen? ⟨rb, o, none⟩ = false := fun o => frozen_of_heap A3
    have e := heap_setCell_at (o := 3) (heap_setCell_at (o := 2) (heap_setCell_at (o := 1) (heap_setCell_at (o := 0) A3 (.int .i64 0)) (.int .i64 0)) (.int .u64 0)) (.int .u64 0)
    have HE := hide e
    have B4 : Hid (Below rb w ((((w3.setCell ⟨rb, 0, none⟩ (.int .i64 0)).setCell ⟨rb, 1, none⟩ (.int .i64 0)).setCell ⟨rb, 2, none⟩ (.int .u64 0)).setCell ⟨rb, 3, none⟩ (.int .u64 0))) :=
      hide ((((HB3.out.setCell (p := ⟨rb, 0, none⟩) hl _).setCell (p := ⟨rb, 1, none⟩) hl _).setCell (p := ⟨rb, 2, none⟩) hl _).setCell (p := ⟨rb, 3, none⟩) hl _)
    have HRB := hide hrb
    clear e hrb A3
    go_wp2
    clear r0 r1 r2 r3 fr HB3
    generalize ((((w3.setCell ⟨rb, 0, none⟩ (.int .i64 0)).setCell ⟨rb, 1, none⟩ (.int .i64 0)).setCell ⟨rb, 2, none⟩ (.int .u64 0)).setCell ⟨rb, 3, none⟩ (.int .u64 0)) = w4 at *
    have z0 : w4.cell? ⟨rb, 0, none⟩ = some (.int .i64 0) := cell_of_heap HE.out
    have z1 : w4.cell? ⟨rb, 1, none⟩ = some (.int .i64 0) := cell_of_heap HE.out
    have z2 : w4.cell? ⟨rb, 2, none⟩ = some (.int .u64 0) := cell_of_heap HE.out
    have z3 : w4.cell? ⟨rb, 3, none⟩ = some (.int .u64 0) := cell_of_heap HE.out
    refine bodyPost_ret (by simp [results, Try.results27, z0, z1, z2, z3, go_sem]; try rfl) rfl ?_
    exact ⟨rfl, by rw [HRB.out]; exact B4.out⟩
theorem swpNilStep (w : World) (qa : Option Addr) :
    Calls Try.prog 27 #[.pointer none, .pointer qa] w fun e w' => e = .returned noDid ∧ Below w.heap.size w w' := by
  have HA1 := hide (heap_alloc_at w (.cells #[.int .i64 0, .int .i64 0, .int .u64 0, .int .u64 0] 50))
  have HB1 := hide (grown1 w (.cells #[.int .i64 0, .int .i64 0, .int .u64 0, .int .u64 0] 50))
  go_enter Try.func27, Try.ntmps27
  go_upto_region 1 with fail
  generalize w.alloc (.cells #[.int .i64 0, .int .i64 0, .int .u64 0, .int .u64 0] 50) = w1 at *
  have hne : Nonempty (Over w1) := ⟨⟨_, Below.refl _ _⟩⟩
  refine over_region (by kernel_rfl) (by kernel_rfl) ?_
  repeat (go_big_quiet_step (fail))
  refine wpQuiet_nil ?_
  rintro _ ⟨u, rfl⟩
  have HB3 := hide (HB1.out.trans (u.h.mono HB1.out.size))
  have A3 := (u.h.block _ (lt_of_heap HA1.out)).trans HA1.out
  clear HB1 HA1 hne
  generalize u.w' = w3 at *
  clear u
  have hl := Nat.le_refl w.heap.size
  generalize hrb : w.heap.size = rb at *
  have r0 : w3.cell? ⟨rb, 0, none⟩ = some (.int .i64 0) := cell_of_heap A3
  have r1 : w3.cell? ⟨rb, 1, none⟩ = some (.int .i64 0) := cell_of_heap A3
  have r2 : w3.cell? ⟨rb, 2, none⟩ = some (.int .u64 0) := cell_of_heap A3
  have r3 : w3.cell? ⟨rb, 3, none⟩ = some (.int .u64 0) := cell_of_heap A3
  have fr : ∀ o, w3.frozen? ⟨rb, o, none⟩ = false := fun o => frozen_of_heap A3
  have e := heap_setCell_at (o := 3) (heap_setCell_at (o := 2) (heap_setCell_at (o := 1) (heap_setCell_at (o := 0) A3 (.int .i64 0)) (.int .i64 0)) (.int .u64 0)) (.int .u64 0)
  have HE := hide e
  have B4 : Hid (Below rb w ((((w3.setCell ⟨rb, 0, none⟩ (.int .i64 0)).setCell ⟨rb, 1, none⟩ (.int .i64 0)).setCell ⟨rb, 2, none⟩ (.int .u64 0)).setCell ⟨rb, 3, none⟩ (.int .u64 0))) :=
    hide ((((HB3.out.setCell (p := ⟨rb, 0, none⟩) hl _).setCell (p := ⟨rb, 1, none⟩) hl _).setCell (p := ⟨rb, 2, none⟩) hl _).setCell (p := ⟨rb, 3, none⟩) hl _)
  have HRB := hide hrb
  clear e hrb A3
  go_wp2
  clear r0 r1 r2 r3 fr HB3
  generalize ((((w3.setCell ⟨rb, 0, none⟩ (.int .i64 0)).setCell ⟨rb, 1, none⟩ (.int .i64 0)).setCell ⟨rb, 2, none⟩ (.int .u64 0)).setCell ⟨rb, 3, none⟩ (.int .u64 0)) = w4 at *
  have z0 : w4.cell? ⟨rb, 0, none⟩ = some (.int .i64 0) := cell_of_heap HE.out
  have z1 : w4.cell? ⟨rb, 1, none⟩ = some (.int .i64 0) := cell_of_heap HE.out
  have z2 : w4.cell? ⟨rb, 2, none⟩ = some (.int .u64 0) := cell_of_heap HE.out
  have z3 : w4.cell? ⟨rb, 3, none⟩ = some (.int .u64 0) := cell_of_heap HE.out
  refine bodyPost_ret (by simp [results, Try.results27, z0, z1, z2, z3, go_sem]; try rfl) rfl ?_
  exact ⟨rfl, by rw [HRB.out]; exact B4.out⟩
abbrev IdleSwp (q : Nat) (v : Value) (w : World) : Prop := Idle 27 28 q v w ∧ ∀ u : World, Below w.heap.size w u → Calls Try.prog 29 #[v] u fun e u' => e = .returned (.int .u64 0) ∧ Below u.heap.size u u'
theorem swpNilIdle (q : Nat) (w : World) : IdleSwp q (.pointer none) w :=
  ⟨⟨fun qa _ u _ => swpNilStep u qa, fun u _ => (swpDoneNil u).mono fun _ _ ⟨h1, h2⟩ => ⟨h1, by rw [h2]; exact Below.refl _ _⟩⟩, fun u _ => (swpFreedNil u).mono fun _ _ ⟨h1, h2⟩ => ⟨h1, by rw [h2]; exact Below.refl _ _⟩⟩
theorem swpNewIdle {P T pg : Int} {q m : Nat} {w : World} (k : w.heap[m]? = some (swpO P T pg 0 0 0)) (hP : 1 ≤ P) {p r l : Nat} {P' T' : Int} (ka : ArAt q P' T' p r l w) (hne : P' ≠ P ∨ T' ≠ T) : IdleSwp q (.pointer (some ⟨m, 0, none⟩)) w := by
  refine ⟨⟨fun qa hq u hu => ?_, fun u hu => ?_⟩, fun u hu => ?_⟩
  · refine swpNo (q := q) ?_ hP ((hu.block _ (lt_of_heap k)).trans k)
    rcases hq with rfl | rfl
    · exact .inl rfl
    · exact .inr ⟨rfl, P', T', p, r, l, ka.below hu, hne⟩
  · exact (swpDone u m P T pg 0 0 0 ((hu.block _ (lt_of_heap k)).trans k) false (by decide)).mono fun _ _ ⟨h1, h2⟩ => ⟨h1, by rw [h2]; exact Below.refl _ _⟩
  · exact swpFreed u m P T pg 0 0 0 (by omega) (by omega) ((hu.block _ (lt_of_heap k)).trans k) 0 rfl
theorem IdleSwp.grow {q : Nat} {v : Value} {w w' : World} (h : IdleSwp q v w) (b : Below w.heap.size w w') : IdleSwp q v w' :=
  ⟨h.1.grow b, fun u hu => h.2 u (b.trans (hu.mono b.size))⟩
end Go.Proofs.Ytafamfjgehnddaa

namespace Go.Proofs.Ytafamfjgehnddaa
open Go.RowKit

/-- A machine as it is handed in. -/
def mIn (what P T thread page cls pages gen head size most : Int) (mask : Nat) (drop : Bool) (list : Value) : Array Value :=
  #[.int .i64 what, .int .i64 P, .int .i64 T, .int .i64 thread, .int .i64 page, .int .i64 cls, .int .i64 pages, .int .i64 gen, .int .i64 head, .int .i64 size, .int .i64 most, .int .u64 (mask : Int), .bool drop, list,
    .slice none 0 0, .bool false, .int .i64 0, .bool false, .pointer none, .int .i64 0, .int .i64 0, .int .u64 0, .int .u64 0, .int .i64 0, .int .i64 0, .int .i64 0, .int .i64 0, .int .u64 0, .slice none 0 0, .slice none 0 0, .int .i64 0, .int .i64 0]
/-- It lies in block b. -/
structure MBx (w0 w : World) (b : Nat) (what P T thread page pages gen most : Int) : Prop where
  below : Below w0.heap.size w0 w
  c0 : w.cell? ⟨b, 0, none⟩ = some (.int .i64 what)
  c1 : w.cell? ⟨b, 1, none⟩ = some (.int .i64 P)
  c2 : w.cell? ⟨b, 2, none⟩ = some (.int .i64 T)
  c3 : w.cell? ⟨b, 3, none⟩ = some (.int .i64 thread)
  c4 : w.cell? ⟨b, 4, none⟩ = some (.int .i64 page)
  c6 : w.cell? ⟨b, 6, none⟩ = some (.int .i64 pages)
  c7 : w.cell? ⟨b, 7, none⟩ = some (.int .i64 gen)
  c10 : w.cell? ⟨b, 10, none⟩ = some (.int .i64 most)
theorem MBx.new (w : World) (what P T thread page cls pages gen head size most : Int) (mask : Nat) (drop : Bool) (list : Value) : MBx w (w.alloc (.cells (mIn what P T thread page cls pages gen head size most mask drop list) 71)) w.heap.size what P T thread page pages gen most := by
  have h := heap_alloc_at w (.cells (mIn what P T thread page cls pages gen head size most mask drop list) 71)
  exact ⟨grown1 _ _, cell_of_heap h, cell_of_heap h, cell_of_heap h, cell_of_heap h, cell_of_heap h, cell_of_heap h, cell_of_heap h, cell_of_heap h⟩
theorem MBx.grow {w0 w w' : World} {b : Nat} {what P T thread page pages gen most : Int} (h : MBx w0 w b what P T thread page pages gen most) (hb : Below w.heap.size w w') : MBx w0 w' b what P T thread page pages gen most :=
  ⟨h.below.trans (hb.mono h.below.size), (hb.cell (block_lt_of_cell h.c0)).trans h.c0, (hb.cell (block_lt_of_cell h.c1)).trans h.c1, (hb.cell (block_lt_of_cell h.c2)).trans h.c2, (hb.cell (block_lt_of_cell h.c3)).trans h.c3, (hb.cell (block_lt_of_cell h.c4)).trans h.c4, (hb.cell (block_lt_of_cell h.c6)).trans h.c6, (hb.cell (block_lt_of_cell h.c7)).trans h.c7, (hb.cell (block_lt_of_cell h.c10)).trans h.c10⟩

set_option maxRecDepth 100000 in
set_option maxHeartbeats 2000000 in
theorem rightOut (what P T thread page cls pages gen head size most : Int) (mask : Nat) (drop : Bool) (list : Value) (hm : Lay.may P T = false) (w : World) :
    Calls Try.prog 24 #[.agg (mIn what P T thread page cls pages gen head size most mask drop list)] w fun e w' => e = .returned (.bool false) ∧ Below w.heap.size w w' := by
  have M := hide (fun w => rlmay P T w)
  rw [hm] at M
  clear hm
  have B0 := MBx.new w what P T thread page cls pages gen head size most mask drop list
  have c1 := B0.c1
  have c2 := B0.c2
  unfold mIn at *
  go_enter Try.func24, Try.ntmps24
  go_wp2_with fail
  refine (M.out _).mono ?_
  rintro e w1 ⟨rfl, hb⟩
  have B1 := MBx.grow (by assumption) hb
  go_wp2
  go_ret
  exact ⟨rfl, B1.below⟩
end Go.Proofs.Ytafamfjgehnddaa

namespace Go.Proofs.Ytafamfjgehnddaa
open Go.RowKit

set_option maxRecDepth 100000 in
set_option maxHeartbeats 2000000 in
theorem rightSwp (P T t : Int) (w : World) :
    Calls Try.prog 24 #[.agg (mIn 7 P T 0 t 0 0 0 0 0 0 0 false (.slice none 0 0))] w fun e w' => e = .returned (.bool (maySwp P T t)) ∧ Below w.heap.size w w' := by
  unfold maySwp
  cases hm : Lay.may P T
  · exact rightOut 7 P T 0 t 0 0 0 0 0 0 0 false (.slice none 0 0) hm w
  · have M := hide (fun w => rlmay P T w)
    rw [hm] at M
    obtain ⟨m1, m2, m3, m4⟩ := Lay.may_iff.1 hm
    have d2 : decide ((0 : Int) < T) = true := by simp; omega
    clear hm m1 m2 m3 m4
    rw [Bool.true_and]
    by_cases h0 : 0 ≤ t
    · have e0 : decide (0 ≤ t) = true := by simpa using h0
      have e0' : decide (t ≥ 0) = true := by simpa using h0
      rw [e0, Bool.true_and]
      by_cases h1 : t < P
      · have e1 : decide (t < P) = true := by simpa using h1
        rw [e1]
        clear h0 h1
        have B0 := MBx.new w 7 P T 0 t 0 0 0 0 0 0 0 false (.slice none 0 0)
        have c0 := B0.c0
        have c1 := B0.c1
        have c2 := B0.c2
        unfold mIn at *
        go_enter Try.func24, Try.ntmps24
        go_wp2_with fail
        refine (M.out _).mono ?_
        rintro e w1 ⟨rfl, hb⟩
        have B1 := MBx.grow (by assumption) hb
        clear c0 c1 c2
        have c0 := B1.c0
        have c1 := B1.c1
        have c2 := B1.c2
        have c3 := B1.c3
        have c4 := B1.c4
        have c6 := B1.c6
        have c7 := B1.c7
        have c10 := B1.c10
        go_wp2
        go_ret
        exact ⟨rfl, B1.below⟩
      · have e1 : decide (t < P) = false := by simpa using h1
        rw [e1]
        clear h0 h1
        have B0 := MBx.new w 7 P T 0 t 0 0 0 0 0 0 0 false (.slice none 0 0)
        have c0 := B0.c0
        have c1 := B0.c1
        have c2 := B0.c2
        unfold mIn at *
        go_enter Try.func24, Try.ntmps24
        go_wp2_with fail
        refine (M.out _).mono ?_
        rintro e w1 ⟨rfl, hb⟩
        have B1 := MBx.grow (by assumption) hb
        clear c0 c1 c2
        have c0 := B1.c0
        have c1 := B1.c1
        have c2 := B1.c2
        have c3 := B1.c3
        have c4 := B1.c4
        have c6 := B1.c6
        have c7 := B1.c7
        have c10 := B1.c10
        go_wp2
        go_ret
        exact ⟨rfl, B1.below⟩
    · have e0 : decide (0 ≤ t) = false := by simpa using h0
      have e0' : decide (t ≥ 0) = false := by simpa using h0
      rw [e0, Bool.false_and]
      clear h0
      have B0 := MBx.new w 7 P T 0 t 0 0 0 0 0 0 0 false (.slice none 0 0)
      have c0 := B0.c0
      have c1 := B0.c1
      have c2 := B0.c2
      unfold mIn at *
      go_enter Try.func24, Try.ntmps24
      go_wp2_with fail
      refine (M.out _).mono ?_
      rintro e w1 ⟨rfl, hb⟩
      have B1 := MBx.grow (by assumption) hb
      clear c0 c1 c2
      have c0 := B1.c0
      have c1 := B1.c1
      have c2 := B1.c2
      have c3 := B1.c3
      have c4 := B1.c4
      have c6 := B1.c6
      have c7 := B1.c7
      have c10 := B1.c10
      go_wp2
      go_ret
      exact ⟨rfl, B1.below⟩
end Go.Proofs.Ytafamfjgehnddaa
