/- Package stack: where a head's word is, where the word is that names what lies below a page; new machines. Package stack: what a pop and a push have in common, beside an arena. What lies of an arena, as facts that worlds above keep. Whether a pop, or a push, has a step to do in an arena. Package stack: the load of a head, and its swap, by a machine in memory beside an arena. A pop's step, each way. A push's step, each way; a step that is none; Done, Page (printed by gen/stkpush.py). List: the pages that lie in a stack. A pop's step, the other ways (printed by gen/stkpop.py). -/
import Derived.Test.YtafamfjgehnddaaLayName
import Derived.Test.YtafamfjgehnddaaPS
import Derived.Test.YtafamfjgehnddaaPG
import Derived.Test.YtafamfjgehnddaaPhaseL
import Derived.Test.YtafamfjgehnddaaBo
import Derived.Test.YtafamfjgehnddaaOver
import Derived.RangeFuncBox
namespace Go.Proofs.Ytafamfjgehnddaa
open Go.RowKit

theorem knext (P T p : Int) (w : World) :
    Calls Try.prog 37 #[.agg #[.int .i64 P, .int .i64 T], .int .i64 p] w fun e w' => e = .returned (.tuple #[.int .i64 (Lay.page P T 11 p).1, .bool (Lay.page P T 11 p).2]) ∧ Below w.heap.size w w' := by
  have M := hide (fun w => lpage P T 11 p w)
  generalize Lay.page P T 11 p = a at *
  obtain ⟨a1, a2⟩ := a
  go_enter Try.func37, Try.ntmps37
  have B0 := LBox.new w P T 26
  have c0 := B0.c0
  have c1 := B0.c1
  go_wp2_with fail
  refine (M.out _).mono ?_
  rintro e w1 ⟨rfl, hb⟩
  have B1 := LBox.grow (by assumption) hb
  go_wp2
  go_ret2
  exact ⟨rfl, B1.below⟩

/-- A head's word is at a. -/
def Lay.isHead (P T a : Int) : Bool := (Lay.name P T a).2 && decide ((Lay.name P T a).1.1 = 7)
theorem Lay.isHead_iff {P T a : Int} : Lay.isHead P T a = true ↔ Lay.may P T = true ∧ 8 ≤ a ∧ a < 68 := by
  unfold Lay.isHead Lay.name Lay.spot
  cases hm : Lay.may P T
  · rw [Lay.words_out hm]
    have : Lay.below a 0 = false := Lay.below_false.2 (by omega)
    simp [this]
  · have h90 := (Lay.words_bd hm).1
    cases hb : Lay.below a (Lay.words P T)
    · have := Lay.below_false.1 hb
      simp only [Bool.false_eq_true, if_false, Bool.false_and, false_iff]
      omega
    · have := Lay.below_iff.1 hb
      simp only [if_true, Bool.true_and, decide_eq_true_eq, true_and]
      unfold Lay.states Lay.index Lay.used Lay.gone
      by_cases h8 : a < 8
      · rw [if_pos h8]
        dsimp only
        split <;> omega
      · rw [if_neg h8]
        by_cases h68 : a < 68
        · rw [if_pos h68]; dsimp only; omega
        · rw [if_neg h68]
          split
          · dsimp only; omega
          · split
            · dsimp only; omega
            · split
              · dsimp only; omega
              · split
                · dsimp only; omega
                · dsimp only; omega

set_option maxHeartbeats 1000000 in
theorem khead (P T a : Int) (w : World) :
    Calls Try.prog 44 #[.agg #[.int .i64 P, .int .i64 T], .int .i64 a] w fun e w' => e = .returned (.bool (Lay.isHead P T a)) ∧ Below w.heap.size w w' := by
  have M := hide (fun w => lname P T a w)
  unfold Lay.isHead
  generalize Lay.name P T a = x at *
  obtain ⟨⟨a1, a2, a3⟩, b⟩ := x
  cases b
  · go_enter Try.func44, Try.ntmps44
    have B0 := LBox.new w P T 26
    have c0 := B0.c0
    have c1 := B0.c1
    go_wp2_with fail
    refine (M.out _).mono ?_
    rintro e w1 ⟨rfl, hb⟩
    have B1 := LBox.grow (by assumption) hb
    have hB := B1.below
    have hZ := hide hB.size
    go_wp2
    go_ret
    refine ⟨rfl, ?_⟩
    exact hB.alloc hZ.out _
  · by_cases h7 : a1 = 7
    · have d7 : (a1 == 7) = true := by simp [h7]
      simp only [h7, decide_true, Bool.and_true]
      clear h7
      go_enter Try.func44, Try.ntmps44
      have B0 := LBox.new w P T 26
      have c0 := B0.c0
      have c1 := B0.c1
      go_wp2_with fail
      refine (M.out _).mono ?_
      rintro e w1 ⟨rfl, hb⟩
      have B1 := LBox.grow (by assumption) hb
      have hB := B1.below
      have hZ := hide hB.size
      go_wp2
      go_ret
      refine ⟨rfl, ?_⟩
      exact hB.alloc hZ.out _
    · have d7 : (a1 == 7) = false := by rw [beq_eq_false_iff_ne]; exact h7
      simp only [h7, decide_false, Bool.and_false]
      clear h7
      go_enter Try.func44, Try.ntmps44
      have B0 := LBox.new w P T 26
      have c0 := B0.c0
      have c1 := B0.c1
      go_wp2_with fail
      refine (M.out _).mono ?_
      rintro e w1 ⟨rfl, hb⟩
      have B1 := LBox.grow (by assumption) hb
      have hB := B1.below
      have hZ := hide hB.size
      go_wp2
      go_ret
      refine ⟨rfl, ?_⟩
      exact hB.alloc hZ.out _

theorem knamed (x : Nat) (hx : x < 18446744073709551616) (w : World) :
    Calls Try.prog 43 #[.int .u64 (x : Int)] w fun e w' => e = .returned (.int .i64 (if x ≤ 4096 then (x : Int) - 1 else -1)) ∧ w' = w := by
  by_cases h : x ≤ 4096
  · rw [if_pos h]
    go_enter Try.func43, Try.ntmps43
    go_wp2
    go_ret
    exact ⟨rfl, rfl⟩
  · rw [if_neg h]
    go_enter Try.func43, Try.ntmps43
    go_wp2
    go_ret
    exact ⟨rfl, rfl⟩

/-- What a pop, a push holds. -/
def popC (P T h g : Int) (was : Nat) (page below : Int) : Array Value := #[.int .i64 P, .int .i64 T, .int .i64 h, .int .i64 g, .int .u64 (was : Int), .int .i64 page, .int .i64 below]
def pushC (P T h g : Int) (was : Nat) (page : Int) : Array Value := #[.int .i64 P, .int .i64 T, .int .i64 h, .int .i64 g, .int .u64 (was : Int), .int .i64 page]
def popO (P T h g : Int) (was : Nat) (page below : Int) : Obj := .cells (popC P T h g was page below) 100 (0, 0)
def pushO (P T h g : Int) (was : Nat) (page : Int) : Obj := .cells (pushC P T h g was page) 91 (0, 0)

theorem newPopNo (P T a : Int) (h : Lay.isHead P T a = false) (w : World) :
    Calls Try.prog 63 #[.agg #[.int .i64 P, .int .i64 T], .int .i64 a] w fun e w' => e = .returned (.pointer none) ∧ Below w.heap.size w w' := by
  have M := hide (fun w => khead P T a w)
  rw [h] at M
  clear h
  go_enter Try.func63, Try.ntmps63
  have B0 := LBox.new w P T 26
  have c0 := B0.c0
  have c1 := B0.c1
  go_wp2_with fail
  refine (M.out _).mono ?_
  rintro e w1 ⟨rfl, hb⟩
  have B1 := LBox.grow (by assumption) hb
  go_wp2
  go_ret
  exact ⟨rfl, B1.below⟩
theorem newPopYes (P T a : Int) (h : Lay.isHead P T a = true) (w : World) :
    Calls Try.prog 63 #[.agg #[.int .i64 P, .int .i64 T], .int .i64 a] w fun e w' => ∃ m, e = .returned (.pointer (some ⟨m, 0, none⟩)) ∧ w'.heap[m]? = some (popO P T a 0 0 0 0) ∧ w.heap.size ≤ m ∧ Below w.heap.size w w' := by
  have M := hide (fun w => khead P T a w)
  rw [h] at M
  clear h
  go_enter Try.func63, Try.ntmps63
  have B0 := LBox.new w P T 26
  have c0 := B0.c0
  have c1 := B0.c1
  go_wp2_with fail
  refine (M.out _).mono ?_
  rintro e w1 ⟨rfl, hb⟩
  have B1 := LBox.grow (by assumption) hb
  have c0 := B1.c0
  have c1 := B1.c1
  go_wp2
  go_ret
  exact ⟨_, rfl, heap_alloc_at _ _, B1.below.size, B1.below.alloc B1.below.size _⟩

theorem newPushNo (P T a p : Int) (h : Lay.isHead P T a = false ∨ (Lay.page P T 11 p).2 = false) (w : World) :
    Calls Try.prog 47 #[.agg #[.int .i64 P, .int .i64 T], .int .i64 a, .int .i64 p] w fun e w' => e = .returned (.pointer none) ∧ Below w.heap.size w w' := by
  have M := hide (fun w => khead P T a w)
  have N := hide (fun w => knext P T p w)
  generalize Lay.page P T 11 p = x at *
  obtain ⟨x1, x2⟩ := x
  cases x2
  · clear h
    go_enter Try.func47, Try.ntmps47
    have B0 := LBox.new w P T 26
    have c0 := B0.c0
    have c1 := B0.c1
    go_wp2_with fail
    refine (N.out _).mono ?_
    rintro e w1 ⟨rfl, hb⟩
    have B1 := LBox.grow (by assumption) hb
    go_wp2
    go_ret
    exact ⟨rfl, B1.below⟩
  · rw [h.resolve_right (by simp)] at M
    clear h
    go_enter Try.func47, Try.ntmps47
    have B0 := LBox.new w P T 26
    have c0 := B0.c0
    have c1 := B0.c1
    go_wp2_with fail
    refine (N.out _).mono ?_
    rintro e w1 ⟨rfl, hb⟩
    have B1 := LBox.grow (by assumption) hb
    have c0 := B1.c0
    have c1 := B1.c1
    go_wp2_with fail
    refine (M.out _).mono ?_
    rintro e w2 ⟨rfl, hb⟩
    have B2 := LBox.grow B1 hb
    go_wp2
    go_ret
    exact ⟨rfl, B2.below⟩
theorem newPushYes (P T a p : Int) (h1 : Lay.isHead P T a = true) (h2 : (Lay.page P T 11 p).2 = true) (w : World) :
    Calls Try.prog 47 #[.agg #[.int .i64 P, .int .i64 T], .int .i64 a, .int .i64 p] w fun e w' => ∃ m, e = .returned (.pointer (some ⟨m, 0, none⟩)) ∧ w'.heap[m]? = some (pushO P T a 0 0 p) ∧ w.heap.size ≤ m ∧ Below w.heap.size w w' := by
  have M := hide (fun w => khead P T a w)
  have N := hide (fun w => knext P T p w)
  generalize Lay.page P T 11 p = x at *
  obtain ⟨x1, x2⟩ := x
  dsimp only at h2
  subst h2
  rw [h1] at M
  clear h1
  go_enter Try.func47, Try.ntmps47
  have B0 := LBox.new w P T 26
  have c0 := B0.c0
  have c1 := B0.c1
  go_wp2_with fail
  refine (N.out _).mono ?_
  rintro e w1 ⟨rfl, hb⟩
  have B1 := LBox.grow (by assumption) hb
  have c0 := B1.c0
  have c1 := B1.c1
  go_wp2_with fail
  refine (M.out _).mono ?_
  rintro e w2 ⟨rfl, hb⟩
  have B2 := LBox.grow B1 hb
  have c0 := B2.c0
  have c1 := B2.c1
  go_wp2
  go_ret
  exact ⟨_, rfl, heap_alloc_at _ _, B2.below.size, B2.below.alloc B2.below.size _⟩
end Go.Proofs.Ytafamfjgehnddaa

namespace Go.Proofs.Ytafamfjgehnddaa
open Go.RowKit

section
variable {R : Res} {w0 w : World} {q : Nat} {P T : Int} {p r : Nat} {s : St} {pg : Nat} {ds : List Nat} {dn : Nat} {L : RL}
theorem casX (l : Loc R) (h : Own (Sep (AX q P T p r s pg ds dn L) R) w0 w) (i : Nat) (hi : i < s.words.length) (o n : Nat) (hn : n < 18446744073709551616) :
    Calls Try.prog 69 #[.pointer (some ⟨p, 0, none⟩), .int .i64 (i : Int), .int .u64 (o : Int), .int .u64 (n : Int)] w fun e w' => e = .returned (.tuple #[.int .u64 (s.words.getD i 0 : Nat), .int .i64 (s.casCode i o)]) ∧ Own (Sep (AX q P T p r (s.cas i o n) pg ds dn L) R) w0 w' := by
  obtain ⟨b, hS, k⟩ := (h.cast AX.toStore).store l.one
  exact (s_cas w p b s hS i hi o n hn).mono fun _ _ ⟨e, h1, h2⟩ => ⟨e, (k h1 h2).cast AX.toStore.symm⟩
theorem lastX (l : Loc R) (h : Own (Sep (AX q P T p r s pg ds dn L) R) w0 w) :
    Calls Try.prog 41 #[.pointer (some ⟨p, 0, none⟩)] w fun e w' => e = .returned s.did ∧ Own (Sep (AX q P T p r s pg ds dn L) R) w0 w' := by
  obtain ⟨b, hS⟩ := AX.st h
  exact (last_of w p b s hS).mono fun _ _ ⟨e, h1⟩ => ⟨e, h.below (Loc.ax.sep l) h1⟩
end

/-- The five cells that a pop and a push have in common, in block m. -/
structure TurnAt (m : Nat) (P T h g : Int) (was : Nat) (w : World) : Prop where
  c0 : w.cell? ⟨m, 0, none⟩ = some (.int .i64 P)
  c1 : w.cell? ⟨m, 1, none⟩ = some (.int .i64 T)
  c2 : w.cell? ⟨m, 2, none⟩ = some (.int .i64 h)
  c3 : w.cell? ⟨m, 3, none⟩ = some (.int .i64 g)
  c4 : w.cell? ⟨m, 4, none⟩ = some (.int .u64 (was : Int))
theorem TurnAt.pop {w : World} {m : Nat} {P T h g : Int} {was : Nat} {page below : Int} (e : w.heap[m]? = some (popO P T h g was page below)) : TurnAt m P T h g was w :=
  ⟨cell_of_heap e, cell_of_heap e, cell_of_heap e, cell_of_heap e, cell_of_heap e⟩
theorem TurnAt.push {w : World} {m : Nat} {P T h g : Int} {was : Nat} {page : Int} (e : w.heap[m]? = some (pushO P T h g was page)) : TurnAt m P T h g was w :=
  ⟨cell_of_heap e, cell_of_heap e, cell_of_heap e, cell_of_heap e, cell_of_heap e⟩
theorem TurnAt.below {w w' : World} {m : Nat} {P T h g : Int} {was : Nat} (k : TurnAt m P T h g was w) (b : Below w.heap.size w w') : TurnAt m P T h g was w' :=
  ⟨(b.cell (block_lt_of_cell k.c0)).trans k.c0, (b.cell (block_lt_of_cell k.c1)).trans k.c1, (b.cell (block_lt_of_cell k.c2)).trans k.c2, (b.cell (block_lt_of_cell k.c3)).trans k.c3, (b.cell (block_lt_of_cell k.c4)).trans k.c4⟩

theorem mayDone (w : World) (m : Nat) (P T h : Int) (was : Nat) (k : TurnAt m P T h 3 was w) (qa : Option Addr) :
    Calls Try.prog 35 #[.pointer (some ⟨m, 0, none⟩), .pointer qa] w fun e w' => e = .returned (.bool false) ∧ Below w.heap.size w w' := by
  have hz : Below w.heap.size w w.drew := (Below.refl _ w).drew
  have c3 := k.c3
  have c0 := k.c0
  have c1 := k.c1
  clear k
  have hne : Nonempty (Over w) := ⟨⟨_, Below.refl _ _⟩⟩
  have u3 := fun u => over_cell c3 u
  go_enter Try.func35, Try.ntmps35
  go_wp2
  refine over_region (by kernel_rfl) (by kernel_rfl) ?_
  repeat (go_big_quiet_step (fail))
  refine wpQuiet_nil ?_
  rintro _ ⟨u, rfl⟩
  go_wp2
  go_ret
  exact ⟨rfl, u.h⟩

theorem mayNil (w : World) (m : Nat) (P T h g : Int) (was : Nat) (k : TurnAt m P T h g was w) (hg : g = 0 ∨ g = 1 ∨ g = 2) (hP : 1 ≤ P) :
    Calls Try.prog 35 #[.pointer (some ⟨m, 0, none⟩), .pointer none] w fun e w' => e = .returned (.bool false) ∧ Below w.heap.size w w' := by
  have c3 := k.c3
  have c0 := k.c0
  have c1 := k.c1
  clear k
  have d3 : (g != 3) = true := by rw [bne_iff_ne]; omega
  have dP : ((0 : Int) == P) = false := by rw [beq_eq_false_iff_ne]; omega
  clear hg hP
  have hne : Nonempty (Over w) := ⟨⟨_, Below.refl _ _⟩⟩
  have u0 := fun u => over_cell c0 u
  have u1 := fun u => over_cell c1 u
  have u3 := fun u => over_cell c3 u
  go_enter Try.func35, Try.ntmps35
  go_wp2
  refine over_region (by kernel_rfl) (by kernel_rfl) ?_
  repeat (go_big_quiet_step (first | (go_at_call 26; exact over_call _ (layoutNil _))))
  refine wpQuiet_nil ?_
  rintro _ ⟨u, rfl⟩
  go_wp2
  go_ret
  exact ⟨rfl, u.h⟩
end Go.Proofs.Ytafamfjgehnddaa

namespace Go.Proofs.Ytafamfjgehnddaa
open Go.RowKit

/-- What lies of an arena, as facts that worlds above keep. -/
structure ArAt (q : Nat) (P T : Int) (p r n : Nat) (w : World) : Prop where
  hd : w.heap[q]? = some (.cells #[.int .i64 P, .int .i64 T, .pointer (some ⟨p, 0, none⟩), .pointer (some ⟨r, 0, none⟩)] 117 (0, 0))
  st : ∃ b s, StoreAt 104 w p b s ∧ s.words.length = n
theorem ArAt.below {q : Nat} {P T : Int} {p r n : Nat} {w w' : World} (k : ArAt q P T p r n w) (b : Below w.heap.size w w') : ArAt q P T p r n w' := by
  obtain ⟨c, s, h, e⟩ := k.st
  exact ⟨(b.block _ (lt_of_heap k.hd)).trans k.hd, c, s, h.below b, e⟩
theorem ArAt.of {R : Res} {w0 w : World} {q : Nat} {P T : Int} {p r : Nat} {s : St} {pg : Nat} {ds : List Nat} {dn : Nat} {L : RL} (h : Own (Sep (AX q P T p r s pg ds dn L) R) w0 w) : ArAt q P T p r s.words.length w := by
  obtain ⟨b, hS⟩ := AX.st h
  exact ⟨AX.head h, b, s, hS, rfl⟩
theorem ArAt.layout {q : Nat} {P T : Int} {p r n : Nat} {w : World} (k : ArAt q P T p r n w) :
    Calls Try.prog 26 #[.pointer (some ⟨q, 0, none⟩)] w fun e w' => e = .returned (.agg #[.int .i64 P, .int .i64 T]) ∧ Below w.heap.size w w' := by
  have c0 : w.cell? ⟨q, 0, none⟩ = some (.int .i64 P) := cell_of_heap k.hd
  have c1 : w.cell? ⟨q, 1, none⟩ = some (.int .i64 T) := cell_of_heap k.hd
  have d0 : ∀ o, (w.alloc o).cell? ⟨q, 0, none⟩ = some (.int .i64 P) := fun o => cell_of_heap (heap_alloc_old k.hd)
  have d1 : ∀ o, (w.alloc o).cell? ⟨q, 1, none⟩ = some (.int .i64 T) := fun o => cell_of_heap (heap_alloc_old k.hd)
  clear k
  go_enter Try.func26, Try.ntmps26
  go_wp2
  go_returns
  exact ⟨rfl, grown1 _ _⟩
theorem ArAt.store {q : Nat} {P T : Int} {p r n : Nat} {w : World} (k : ArAt q P T p r n w) :
    Calls Try.prog 30 #[.pointer (some ⟨q, 0, none⟩)] w fun e w' => e = .returned (.pointer (some ⟨p, 0, none⟩)) ∧ Below w.heap.size w w' := by
  have c2 : w.cell? ⟨q, 2, none⟩ = some (.pointer (some ⟨p, 0, none⟩)) := cell_of_heap k.hd
  clear k
  go_enter Try.func30, Try.ntmps30
  go_wp2
  go_ret
  exact ⟨rfl, Below.refl _ _⟩
theorem ArAt.len {q : Nat} {P T : Int} {p r n : Nat} {w : World} (k : ArAt q P T p r n w) :
    Calls Try.prog 65 #[.pointer (some ⟨p, 0, none⟩)] w fun e w' => e = .returned (.int .i64 (n : Int)) ∧ Below w.heap.size w w' := by
  obtain ⟨b, s, h, e⟩ := k.st
  rw [← e]
  exact (len_of w p b s h).mono fun _ _ ⟨h1, h2⟩ => ⟨h1, by rw [h2]; exact Below.refl _ _⟩
end Go.Proofs.Ytafamfjgehnddaa

namespace Go.Proofs.Ytafamfjgehnddaa
open Go.RowKit

set_option maxHeartbeats 2000000 in
theorem mayYes (w : World) (m : Nat) (P T h g : Int) (was : Nat) (k : TurnAt m P T h g was w) (hg : g = 0 ∨ g = 1 ∨ g = 2) (q p r n : Nat) (ka : ArAt q P T p r n w) (hn : 1 ≤ n) :
    Calls Try.prog 35 #[.pointer (some ⟨m, 0, none⟩), .pointer (some ⟨q, 0, none⟩)] w fun e w' => e = .returned (.bool true) ∧ Below w.heap.size w w' := by
  have KA := fun u : Over w => hide (ka.below u.h)
  have c3 := k.c3
  have c0 := k.c0
  have c1 := k.c1
  clear k ka
  have d3 : (g != 3) = true := by rw [bne_iff_ne]; omega
  have dn : decide ((n : Int) > 0) = true := by simp; omega
  have dn' : decide (0 < n) = true := by simp; omega
  clear hg
  have hne : Nonempty (Over w) := ⟨⟨_, Below.refl _ _⟩⟩
  have u0 := fun u => over_cell c0 u
  have u1 := fun u => over_cell c1 u
  have u3 := fun u => over_cell c3 u
  go_enter Try.func35, Try.ntmps35
  go_wp2
  refine over_region (by kernel_rfl) (by kernel_rfl) ?_
  repeat (go_big_quiet_step (first | (go_at_call 26; exact over_call _ (KA _).out.layout) | (go_at_call 30; exact over_call _ (KA _).out.store) | (go_at_call 65; exact over_call _ (KA _).out.len)))
  refine wpQuiet_nil ?_
  rintro _ ⟨u, rfl⟩
  go_wp2
  go_ret
  exact ⟨rfl, u.h⟩
set_option maxHeartbeats 2000000 in
theorem mayNo (w : World) (m : Nat) (P T h g : Int) (was : Nat) (k : TurnAt m P T h g was w) (hg : g = 0 ∨ g = 1 ∨ g = 2) (q p r n : Nat) (P' T' : Int) (ka : ArAt q P' T' p r n w) (hn : P' ≠ P ∨ T' ≠ T) :
    Calls Try.prog 35 #[.pointer (some ⟨m, 0, none⟩), .pointer (some ⟨q, 0, none⟩)] w fun e w' => e = .returned (.bool false) ∧ Below w.heap.size w w' := by
  have KA := fun u : Over w => hide (ka.below u.h)
  have c3 := k.c3
  have c0 := k.c0
  have c1 := k.c1
  clear k ka
  have d3 : (g != 3) = true := by rw [bne_iff_ne]; omega
  clear hg
  have hne : Nonempty (Over w) := ⟨⟨_, Below.refl _ _⟩⟩
  have u0 := fun u => over_cell c0 u
  have u1 := fun u => over_cell c1 u
  have u3 := fun u => over_cell c3 u
  by_cases hp : P' = P
  · subst hp
    have dt : (T' == T) = false := by rw [beq_eq_false_iff_ne]; exact hn.resolve_left (fun h => h rfl)
    clear hn
    go_enter Try.func35, Try.ntmps35
    go_wp2
    refine over_region (by kernel_rfl) (by kernel_rfl) ?_
    repeat (go_big_quiet_step (first | (go_at_call 26; exact over_call _ (KA _).out.layout)))
    refine wpQuiet_nil ?_
    rintro _ ⟨u, rfl⟩
    go_wp2
    go_ret
    exact ⟨rfl, u.h⟩
  · have dp : (P' == P) = false := by rw [beq_eq_false_iff_ne]; exact hp
    clear hn hp
    go_enter Try.func35, Try.ntmps35
    go_wp2
    refine over_region (by kernel_rfl) (by kernel_rfl) ?_
    repeat (go_big_quiet_step (first | (go_at_call 26; exact over_call _ (KA _).out.layout)))
    refine wpQuiet_nil ?_
    rintro _ ⟨u, rfl⟩
    go_wp2
    go_ret
    exact ⟨rfl, u.h⟩
end Go.Proofs.Ytafamfjgehnddaa

namespace Go.Proofs.Ytafamfjgehnddaa
open Go.RowKit

/-- The third cell of block m holds i. -/
def Third (m : Nat) (ty : TypeId) (i : Int) (w : World) : Prop := ∃ c : Array Value, w.heap[m]? = some (.cells c ty (0, 0)) ∧ c[2]? = some (.int .i64 i)
theorem Third.set {m : Nat} {ty : TypeId} {i : Int} {w : World} (h : Third m ty i w) (v : Value) : Third m ty i (w.setCell ⟨m, 4, none⟩ v) := by
  obtain ⟨c, h1, h2⟩ := h
  exact ⟨_, heap_setCell_at h1 v, by rw [Array.getElem?_setIfInBounds]; simpa using h2⟩

section
variable {R : Res} {w0 w : World} {m : Nat} {c : Array Value} {ty : TypeId} {q : Nat} {P T : Int} {p r : Nat} {s : St} {pg : Nat} {ds : List Nat} {dn : Nat} {L : RL}

/-- The machine's block, as it is turned by the load. -/
def loaded (c : Array Value) (x : Nat) : Array Value := (c.setIfInBounds 4 (.int .u64 (x : Int))).setIfInBounds 3 (.int .i64 1)

set_option maxHeartbeats 4000000 in
theorem tload (l : Loc R) (h : Own (Sep (BO m (.cells c ty (0, 0))) (Sep (AX q P T p r s pg ds dn L) R)) w0 w) {P' T' g : Int} {was : Nat} (i : Nat) (k : ∀ u : World, u.heap[m]? = some (.cells c ty (0, 0)) → TurnAt m P' T' (i : Int) g was u) (hi : i < s.words.length) (x : Nat) (hx : s.words.getD i 0 = x) :
    Calls Try.prog 36 #[.pointer (some ⟨m, 0, none⟩), .pointer (some ⟨q, 0, none⟩)] w fun e w' => e = .returned (.tuple #[]) ∧ Own (Sep (BO m (.cells (loaded c x) ty (0, 0))) (Sep (AX q P T p r (s.load i) pg ds dn L) R)) w0 w' := by
  have lM : Loc (Sep (BO m (.cells c ty (0, 0))) R) := Loc.bo.sep l
  have hb := Own.boAt h
  have k2 : c[2]? = some (.int .i64 (i : Int)) := (cell_of_heap hb).symm.trans (k _ hb).c2
  have k3 : c[3]? = some (.int .i64 g) := (cell_of_heap hb).symm.trans (k _ hb).c3
  have k4 : c[4]? = some (.int .u64 (was : Int)) := (cell_of_heap hb).symm.trans (k _ hb).c4
  have HO := hide h
  have UC2 : ∀ u : Mem (Third m ty (i : Int)), u.w'.cell? ⟨m, 2, none⟩ = some (.int .i64 (i : Int)) := fun u => by
    obtain ⟨c', h1, h2⟩ := u.h
    exact (cell_of_heap h1).trans h2
  have HX := hide hx
  have HI := hide hi
  have K2 := hide k2
  have K3 := hide k3
  have K4 := hide k4
  clear h k hx hi hb k2 k3 k4
  go_enter Try.func36, Try.ntmps36
  go_wp2
  have HO1 := hide (HO.out.below (Loc.bo.sep (Loc.ax.sep l)) ((Alike.drewN w 1).below _))
  have J1 : Hid (Third m ty (i : Int) w.drew) := hide ⟨_, Own.boAt HO1.out, K2.out⟩
  have hne : Nonempty (Mem (Third m ty (i : Int))) := ⟨⟨_, J1.out⟩⟩
  refine region_start (J := Third m ty (i : Int)) (by kernel_rfl) ?_
  refine stretch (fuel := 8) (by kernel_rfl) (fun _ _ _ _ _ h => h) J1.out [0, 1, 3, 4, 5, 6] (by kernel_rfl) ?_
  simp only [List.filterMap_cons, List.filterMap_nil, List.getElem?_toArray, List.getElem?_cons_zero, List.getElem?_cons_succ]
  show wpQuiet _ _ _ _ [_, _, _, _, _, _] _
  repeat (go_big_quiet_step (fail))
  refine wpQuiet_nil ?_
  refine wpAnyJ_writer (i := 2) rfl (by kernel_rfl) (fun K' hK => ?_)
  go_simp
  refine (storeX (HO1.out.cast BO.swap)).mono ?_
  rintro e w1 ⟨rfl, rfl⟩
  refine hK _ _ J1.out ?_
  clear hK K'
  refine wpAnyJ_writer (i := 7) rfl (by kernel_rfl) (fun K' hK => ?_)
  go_simp
  refine (loadX lM (HO1.out.cast BO.swap) i HI.out).mono ?_
  rintro e w2 ⟨rfl, o2⟩
  rw [HX.out]
  have HO2 := hide (o2.cast BO.swap.symm)
  have J2 : Hid (Third m ty (i : Int) w2) := hide ⟨_, Own.boAt HO2.out, K2.out⟩
  refine hK _ _ J2.out ?_
  clear hK K' o2
  refine stretch (fuel := 1) (by kernel_rfl) (fun _ _ _ _ _ h => h) J2.out [8, 9, 10, 11, 12] (by kernel_rfl) ?_
  simp only [List.filterMap_cons, List.filterMap_nil, List.getElem?_toArray, List.getElem?_cons_zero, List.getElem?_cons_succ]
  show wpQuiet _ _ _ _ [_, _, _, _, _] _
  repeat (go_big_quiet_step (fail))
  refine wpQuiet_nil ?_
  have y4 : w2.cell? ⟨m, 4, none⟩ = some (.int .u64 (was : Int)) := (cell_of_heap (Own.boAt HO2.out)).trans K4.out
  have f2 : ∀ o, w2.frozen? ⟨m, o, none⟩ = false := fun o => frozen_of_heap (Own.boAt HO2.out)
  have O3 : Hid (Own (Sep (BO m (.cells (c.setIfInBounds 4 (.int .u64 (x : Int))) ty (0, 0))) (Sep (AX q P T p r (s.load i) pg ds dn L) R)) w0 (w2.setCell ⟨m, 4, none⟩ (.int .u64 (x : Int)))) :=
    hide (Own.boSet (Loc.ax.sep l) HO2.out 4 (.int .u64 (x : Int)))
  refine wpAnyJ_writer (i := 13) rfl (by kernel_rfl) (fun K' hK => ?_)
  go_simp
  refine hK _ _ (J2.out.set _) ?_
  clear hK K'
  refine wpAnyJ_done (by kernel_rfl) ?_
  clear y4 f2 J2 J1 HO1 HO2 HO
  generalize w2.setCell ⟨m, 4, none⟩ (.int .u64 (x : Int)) = w3 at *
  have y3 : w3.cell? ⟨m, 3, none⟩ = some (.int .i64 g) := (cell_of_heap (Own.boAt O3.out)).trans (by rw [Array.getElem?_setIfInBounds]; simpa using K3.out)
  have f3 : ∀ o, w3.frozen? ⟨m, o, none⟩ = false := fun o => frozen_of_heap (Own.boAt O3.out)
  have O4 : Hid (Own (Sep (BO m (.cells (loaded c x) ty (0, 0))) (Sep (AX q P T p r (s.load i) pg ds dn L) R)) w0 (w3.setCell ⟨m, 3, none⟩ (.int .i64 1))) :=
    hide (Own.boSet (Loc.ax.sep l) O3.out 3 (.int .i64 1))
  go_wp2
  go_end0
  exact ⟨rfl, O4.out⟩

/-- The machine's block behind a swap. -/
def swapped (c : Array Value) (won : Bool) : Array Value := if won = true then c.setIfInBounds 3 (.int .i64 3) else (c.setIfInBounds 3 (.int .i64 3)).setIfInBounds 3 (.int .i64 0)

set_option maxHeartbeats 4000000 in
theorem tswap (l : Loc R) (h : Own (Sep (BO m (.cells c ty (0, 0))) (Sep (AX q P T p r s pg ds dn L) R)) w0 w) {P' T' g : Int} {was : Nat} (i : Nat) (k : ∀ u : World, u.heap[m]? = some (.cells c ty (0, 0)) → TurnAt m P' T' (i : Int) g was u) (hi : i < s.words.length) (hw : was < 18446744073709551616) (y : Int) (n : Nat) (hn : (Tg.next was y).1 = n) (hn2 : n < 18446744073709551616) :
    Calls Try.prog 40 #[.pointer (some ⟨m, 0, none⟩), .pointer (some ⟨q, 0, none⟩), .int .i64 y] w fun e w' => e = .returned (.tuple #[]) ∧ Own (Sep (BO m (.cells (swapped c (decide (s.words.getD i 0 = was))) ty (0, 0))) (Sep (AX q P T p r (s.cas i was n) pg ds dn L) R)) w0 w' := by
  have lM : Loc (Sep (BO m (.cells c ty (0, 0))) R) := Loc.bo.sep l
  have hb := Own.boAt h
  have k2 : c[2]? = some (.int .i64 (i : Int)) := (cell_of_heap hb).symm.trans (k _ hb).c2
  have k3 : c[3]? = some (.int .i64 g) := (cell_of_heap hb).symm.trans (k _ hb).c3
  have k4 : c[4]? = some (.int .u64 (was : Int)) := (cell_of_heap hb).symm.trans (k _ hb).c4
  have HO := hide h
  have UC2 : ∀ u : Mem (BkAt m (.cells c ty (0, 0))), u.w'.cell? ⟨m, 2, none⟩ = some (.int .i64 (i : Int)) := fun u => (cell_of_heap u.h).trans k2
  have UC4 : ∀ u : Mem (BkAt m (.cells c ty (0, 0))), u.w'.cell? ⟨m, 4, none⟩ = some (.int .u64 (was : Int)) := fun u => (cell_of_heap u.h).trans k4
  have c4 : w.cell? ⟨m, 4, none⟩ = some (.int .u64 (was : Int)) := (cell_of_heap hb).trans k4
  have HN := hide (fun w => next9 was hw y w)
  generalize hx : Tg.next was y = x at *
  obtain ⟨x1, x2⟩ := x
  dsimp only at hn
  subst hn
  have HI := hide hi
  have K3 := hide k3
  have HC := hide (show s.casCode i was = if s.words.getD i 0 = was then 0 else 5 from rfl)
  generalize s.casCode i was = cc at *
  have H2 := hide hn2
  generalize hsw : swapped c (decide (s.words.getD i 0 = was)) = sw at *
  have HSW := hide hsw
  clear hsw
  clear h k hi hb k2 k3 k4 hw hx hn2
  go_enter Try.func40, Try.ntmps40
  go_wp2_with fail
  refine (HN.out _).mono ?_
  rintro e w1 ⟨rfl, q1, rfl⟩
  have HO1 := hide (HO.out.below (Loc.bo.sep (Loc.ax.sep l)) ((Alike.drewN w q1).below _))
  clear HO HN c4
  generalize w.drewN q1 = w1 at *
  go_wp2
  have HO2 := hide (HO1.out.below (Loc.bo.sep (Loc.ax.sep l)) ((Alike.drewN w1 1).below _))
  have J1 : Hid (BkAt m (.cells c ty (0, 0)) w1.drew) := hide (Own.boAt HO2.out)
  have hne : Nonempty (Mem (BkAt m (.cells c ty (0, 0)))) := ⟨⟨_, J1.out⟩⟩
  refine region_start (J := BkAt m (.cells c ty (0, 0))) (by kernel_rfl) ?_
  refine stretch (fuel := 7) (by kernel_rfl) (fun _ _ _ _ _ h => h) J1.out [0, 2, 3, 4, 5, 6, 7, 8, 9, 10] (by kernel_rfl) ?_
  simp only [List.filterMap_cons, List.filterMap_nil, List.getElem?_toArray, List.getElem?_cons_zero, List.getElem?_cons_succ]
  show wpQuiet _ _ _ _ [_, _, _, _, _, _, _, _, _, _] _
  repeat (go_big_quiet_step (fail))
  refine wpQuiet_nil ?_
  refine wpAnyJ_writer (i := 1) rfl (by kernel_rfl) (fun K' hK => ?_)
  go_simp
  refine (storeX (HO2.out.cast BO.swap)).mono ?_
  rintro e w2 ⟨rfl, rfl⟩
  refine hK _ _ J1.out ?_
  clear hK K'
  refine wpAnyJ_writer (i := 11) rfl (by kernel_rfl) (fun K' hK => ?_)
  go_simp
  refine (casX lM (HO2.out.cast BO.swap) i HI.out was x1 H2.out).mono ?_
  rintro e w3 ⟨rfl, o3⟩
  have hcc : s.casCode i was = cc := HC.out.symm
  rw [hcc]
  clear hcc
  have HO3 := hide (o3.cast BO.swap.symm)
  have J2 : Hid (BkAt m (.cells c ty (0, 0)) w3) := hide (Own.boAt HO3.out)
  refine hK _ _ J2.out ?_
  clear hK K' o3
  refine stretch (fuel := 0) (by kernel_rfl) (fun _ _ _ _ _ h => h) J2.out [12, 13, 14, 15, 16] (by kernel_rfl) ?_
  simp only [List.filterMap_cons, List.filterMap_nil, List.getElem?_toArray, List.getElem?_cons_zero, List.getElem?_cons_succ]
  show wpQuiet _ _ _ _ [_, _, _, _, _] _
  repeat (go_big_quiet_step (fail))
  refine wpQuiet_nil ?_
  refine wpAnyJ_done (by kernel_rfl) ?_
  have y3 : w3.cell? ⟨m, 3, none⟩ = some (.int .i64 g) := (cell_of_heap (Own.boAt HO3.out)).trans K3.out
  have f3 : ∀ o, w3.frozen? ⟨m, o, none⟩ = false := fun o => frozen_of_heap (Own.boAt HO3.out)
  have O4 : Hid (Own (Sep (BO m (.cells (c.setIfInBounds 3 (.int .i64 3)) ty (0, 0))) (Sep (AX q P T p r (s.cas i was x1) pg ds dn L) R)) w0 (w3.setCell ⟨m, 3, none⟩ (.int .i64 3))) :=
    hide (Own.boSet (Loc.ax.sep l) HO3.out 3 (.int .i64 3))
  have z3 : (w3.setCell ⟨m, 3, none⟩ (.int .i64 3)).cell? ⟨m, 3, none⟩ = some (.int .i64 3) := (cell_of_heap (Own.boAt O4.out)).trans (by
    rw [Array.getElem?_setIfInBounds]
    have : 3 < c.size := by
      have := K3.out
      by_cases h : 3 < c.size
      · exact h
      · rw [Array.getElem?_eq_none (by omega)] at this; cases this
    simp [this])
  have g3 : ∀ o, (w3.setCell ⟨m, 3, none⟩ (.int .i64 3)).frozen? ⟨m, o, none⟩ = false := fun o => frozen_of_heap (Own.boAt O4.out)
  have O5 : Hid (Own (Sep (BO m (.cells ((c.setIfInBounds 3 (.int .i64 3)).setIfInBounds 3 (.int .i64 0)) ty (0, 0))) (Sep (AX q P T p r (s.cas i was x1) pg ds dn L) R)) w0 ((w3.setCell ⟨m, 3, none⟩ (.int .i64 3)).setCell ⟨m, 3, none⟩ (.int .i64 0))) :=
    hide (Own.boSet (Loc.ax.sep l) O4.out 3 (.int .i64 0))
  by_cases hs : s.words.getD i 0 = was
  · have e0 : cc = 0 := by have := HC.out; rw [if_pos hs] at this; exact this
    have es : sw = c.setIfInBounds 3 (.int .i64 3) := by rw [← HSW.out]; unfold swapped; rw [if_pos (by simpa using hs)]
    rw [← es] at O4
    have hs' := hide hs
    clear hs O5 HC es HSW
    subst e0
    go_wp2
    go_end0
    exact ⟨rfl, O4.out⟩
  · have e0 : cc = 5 := by have := HC.out; rw [if_neg hs] at this; exact this
    have es : sw = (c.setIfInBounds 3 (.int .i64 3)).setIfInBounds 3 (.int .i64 0) := by rw [← HSW.out]; unfold swapped; rw [if_neg (by simpa using hs)]
    rw [← es] at O5
    have hs' := hide hs
    clear hs HC es HSW
    subst e0
    go_wp2
    go_end0
    exact ⟨rfl, O5.out⟩
end
end Go.Proofs.Ytafamfjgehnddaa

namespace Go.Proofs.Ytafamfjgehnddaa
open Go.RowKit

def didO : Obj := .cells #[.int .i64 0, .int .i64 0, .int .u64 0, .int .u64 0] 50 (0, 0)

section
variable {R : Res} {w0 w : World} {m : Nat} {q : Nat} {P T : Int} {p r : Nat} {s : St} {pg : Nat} {ds : List Nat} {dn : Nat} {L : RL}

set_option maxHeartbeats 4000000 in
theorem pop2 (l : Loc R) {was : Nat} {page y : Int} (i : Nat) (h : Own (Sep (BO m (popO P T (i : Int) 2 was page y)) (Sep (AX q P T p r s pg ds dn L) R)) w0 w) (hi : i < s.words.length) (hw : was < 18446744073709551616) (n : Nat) (hn : (Tg.next was y).1 = n) (hn2 : n < 18446744073709551616) (g' : Int) (hb : (if s.words.getD i 0 = was then 3 else 0) = g') (s' : St) (hs : s.cas i was n = s') :
    Calls Try.prog 12 #[.pointer (some ⟨m, 0, none⟩), .pointer (some ⟨q, 0, none⟩)] w fun e w' => e = .returned s'.did ∧ Own (Sep (BO m (popO P T (i : Int) g' was page y)) (Sep (AX q P T p r s' pg ds dn L) R)) w0 w' := by
  have lR : Loc (Sep (BO w.heap.size didO) R) := Loc.bo.sep l
  have O1 := hide ((Own.boNew (m := w.heap.size) (o := didO) (Loc.bo.sep (Loc.ax.sep l)) h (heap_alloc_at w didO) (Nat.le_refl _) (grown1 w _)).cast (R' := Sep (BO m (popO P T (i : Int) 2 was page y)) (Sep (AX q P T p r s pg ds dn L) (Sep (BO w.heap.size didO) R))) (by ac_rfl))
  clear h
  have HI := hide hi
  have HW := hide hw
  have HN := hide hn
  have HN2 := hide hn2
  have HB := hide hb
  have HS := hide hs
  clear hi hw hn hn2 hb hs
  unfold didO at O1
  go_enter Try.func12, Try.ntmps12
  go_wp2_with fail
  generalize w.alloc (.cells #[.int .i64 0, .int .i64 0, .int .u64 0, .int .u64 0] 50) = w1 at *
  generalize w.heap.size = rb at *
  refine (mayYes w1 m P T i 2 was (.pop (Own.boAt O1.out)) (by omega) q p r s.words.length (ArAt.of (O1.out.cast BO.swap)) (by have := HI.out; omega)).mono ?_
  rintro e w2 ⟨rfl, b2⟩
  have O2 := hide (O1.out.below (Loc.bo.sep (Loc.ax.sep lR)) b2)
  clear O1 b2
  have c3 : w2.cell? ⟨m, 3, none⟩ = some (.int .i64 2) := cell_of_heap (Own.boAt O2.out)
  go_wp2
  have O3 := hide (O2.out.below (Loc.bo.sep (Loc.ax.sep lR)) ((Alike.drewN w2 1).below _))
  have J1 : Hid (Cel m 6 (.int .i64 y) w2.drew) := hide (cell_of_heap (Own.boAt O3.out))
  have hne : Nonempty (Mem (Cel m 6 (.int .i64 y))) := ⟨⟨_, J1.out⟩⟩
  have UC6 : ∀ u : Mem (Cel m 6 (.int .i64 y)), u.w'.cell? ⟨m, 6, none⟩ = some (.int .i64 y) := fun u => u.h
  refine region_start (J := Cel m 6 (.int .i64 y)) (by kernel_rfl) ?_
  refine stretch (fuel := 1) (by kernel_rfl) (fun _ _ _ _ _ h => h) J1.out [0, 1, 2, 3, 4, 5, 6, 7] (by kernel_rfl) ?_
  simp only [List.filterMap_cons, List.filterMap_nil, List.getElem?_toArray, List.getElem?_cons_zero, List.getElem?_cons_succ]
  show wpQuiet _ _ _ _ [_, _, _, _, _, _, _, _] _
  repeat (go_big_quiet_step (fail))
  refine wpQuiet_nil ?_
  refine wpAnyJ_writer (i := 8) rfl (by kernel_rfl) (fun K' hK => ?_)
  go_simp
  refine (tswap lR O3.out i (fun u hu => .pop hu) HI.out HW.out y n HN.out HN2.out).mono ?_
  rintro e w3 ⟨rfl, o4⟩
  have e4 : (Obj.cells (swapped (popC P T (i : Int) 2 was page y) (decide (s.words.getD i 0 = was))) 100 (0, 0)) = popO P T (i : Int) g' was page y := by
    rw [← HB.out]
    by_cases hd : s.words.getD i 0 = was
    · rw [if_pos hd, decide_eq_true hd]; rfl
    · rw [if_neg hd, decide_eq_false hd]; rfl
  rw [e4, HS.out] at o4
  have O4 := hide o4
  refine hK _ _ (cell_of_heap (Own.boAt O4.out)) ?_
  clear hK K' o4 e4 O2 O3
  refine wpAnyJ_done (by kernel_rfl) ?_
  go_wp2_with fail
  refine (storeX (O4.out.cast BO.swap)).mono ?_
  rintro e w4 ⟨rfl, rfl⟩
  go_wp2_with fail
  refine (lastX (Loc.bo.sep lR) (O4.out.cast BO.swap)).mono ?_
  rintro e w5 ⟨rfl, o5⟩
  have O5 := hide (o5.cast (R' := Sep (BO rb (.cells #[.int .i64 0, .int .i64 0, .int .u64 0, .int .u64 0] 50 (0, 0))) (Sep (BO m (popO P T (i : Int) g' was page y)) (Sep (AX q P T p r s' pg ds dn L) R))) (by ac_rfl))
  clear o5 O4
  have r0 : w5.cell? ⟨rb, 0, none⟩ = some (.int .i64 0) := cell_of_heap (Own.boAt O5.out)
  have r1 : w5.cell? ⟨rb, 1, none⟩ = some (.int .i64 0) := cell_of_heap (Own.boAt O5.out)
  have r2 : w5.cell? ⟨rb, 2, none⟩ = some (.int .u64 0) := cell_of_heap (Own.boAt O5.out)
  have r3 : w5.cell? ⟨rb, 3, none⟩ = some (.int .u64 0) := cell_of_heap (Own.boAt O5.out)
  have fr : ∀ o, w5.frozen? ⟨rb, o, none⟩ = false := fun o => frozen_of_heap (Own.boAt O5.out)
  unfold St.did
  go_wp2
  refine Own.putDid (Q := bodyPost _ _ _ _ _) (Loc.bo.sep (Loc.ax.sep l)) O5.out ?_
  intro W hW z0 z1 z2 z3
  refine bodyPost_ret (by simp [results, Try.results12, z0, z1, z2, z3, go_sem]; try rfl) rfl ?_
  exact ⟨rfl, hW⟩
end
end Go.Proofs.Ytafamfjgehnddaa

namespace Go.Proofs.Ytafamfjgehnddaa
open Go.RowKit

section
variable {R : Res} {w0 w : World} {m : Nat} {q : Nat} {P T : Int} {p r : Nat} {s : St} {pg : Nat} {ds : List Nat} {dn : Nat} {L : RL}

set_option maxHeartbeats 4000000 in
theorem push0 (l : Loc R) {was : Nat} {page : Int} (i : Nat) (h : Own (Sep (BO m (pushO P T (i : Int) 0 was page)) (Sep (AX q P T p r s pg ds dn L) R)) w0 w) (hi : i < s.words.length) (x : Nat) (hx : s.words.getD i 0 = x) (s' : St) (hs : s.load i = s') :
    Calls Try.prog 10 #[.pointer (some ⟨m, 0, none⟩), .pointer (some ⟨q, 0, none⟩)] w fun e w' => e = .returned (s').did ∧ Own (Sep (BO m (pushO P T (i : Int) 1 x page)) (Sep (AX q P T p r (s') pg ds dn L) R)) w0 w' := by
  have HX := hide hx
  have HS := hide hs
  clear hx hs
  have lR : Loc (Sep (BO w.heap.size didO) R) := Loc.bo.sep l
  have O1 := hide ((Own.boNew (m := w.heap.size) (o := didO) (Loc.bo.sep (Loc.ax.sep l)) h (heap_alloc_at w didO) (Nat.le_refl _) (grown1 w _)).cast (R' := Sep (BO m (pushO P T (i : Int) 0 was page)) (Sep (AX q P T p r s pg ds dn L) (Sep (BO w.heap.size didO) R))) (by ac_rfl))
  clear h
  have HI := hide hi
  clear hi
  unfold didO at O1
  go_enter Try.func10, Try.ntmps10
  go_wp2_with fail
  generalize w.alloc (.cells #[.int .i64 0, .int .i64 0, .int .u64 0, .int .u64 0] 50) = w1 at *
  generalize w.heap.size = rb at *
  refine (mayYes w1 m P T i 0 was (.push (Own.boAt O1.out)) (by omega) q p r s.words.length (ArAt.of (O1.out.cast BO.swap)) (by have := HI.out; omega)).mono ?_
  rintro e w2 ⟨rfl, b2⟩
  have O2 := hide (O1.out.below (Loc.bo.sep (Loc.ax.sep lR)) b2)
  clear O1 b2
  have c3 : w2.cell? ⟨m, 3, none⟩ = some (.int .i64 0) := cell_of_heap (Own.boAt O2.out)
  go_wp2_with fail
  refine (tload lR O2.out i (fun u hu => .push hu) HI.out x HX.out).mono ?_
  rintro e w3 ⟨rfl, o3⟩
  have O3 : Hid (Own (Sep (BO m (pushO P T (i : Int) 1 x page)) (Sep (AX q P T p r s' pg ds dn L) (Sep (BO rb (.cells #[.int .i64 0, .int .i64 0, .int .u64 0, .int .u64 0] 50 (0, 0))) R))) w0 w3) := hide (by rw [HS.out] at o3; exact o3)
  clear o3 O2 c3
  go_wp2_with fail
  refine (storeX (O3.out.cast BO.swap)).mono ?_
  rintro e w91 ⟨rfl, rfl⟩
  go_wp2_with fail
  refine (lastX (Loc.bo.sep lR) (O3.out.cast BO.swap)).mono ?_
  rintro e w95 ⟨rfl, o95⟩
  have O95 := hide (o95.cast (R' := Sep (BO rb (.cells #[.int .i64 0, .int .i64 0, .int .u64 0, .int .u64 0] 50 (0, 0))) (Sep (BO m (pushO P T (i : Int) 1 x page)) (Sep (AX q P T p r (s') pg ds dn L) R))) (by ac_rfl))
  clear o95 O3
  have r0 : w95.cell? ⟨rb, 0, none⟩ = some (.int .i64 0) := cell_of_heap (Own.boAt O95.out)
  have r1 : w95.cell? ⟨rb, 1, none⟩ = some (.int .i64 0) := cell_of_heap (Own.boAt O95.out)
  have r2 : w95.cell? ⟨rb, 2, none⟩ = some (.int .u64 0) := cell_of_heap (Own.boAt O95.out)
  have r3 : w95.cell? ⟨rb, 3, none⟩ = some (.int .u64 0) := cell_of_heap (Own.boAt O95.out)
  have fr : ∀ o, w95.frozen? ⟨rb, o, none⟩ = false := fun o => frozen_of_heap (Own.boAt O95.out)
  unfold St.did
  go_wp2
  refine Own.putDid (Q := bodyPost _ _ _ _ _) (Loc.bo.sep (Loc.ax.sep l)) O95.out ?_
  intro W hW z0 z1 z2 z3
  refine bodyPost_ret (by simp [results, Try.results10, z0, z1, z2, z3, go_sem]; try rfl) rfl ?_
  exact ⟨rfl, hW⟩

set_option maxHeartbeats 4000000 in
theorem push1 (l : Loc R) {was : Nat} {page : Int} (i : Nat) (h : Own (Sep (BO m (pushO P T (i : Int) 1 was page)) (Sep (AX q P T p r s pg ds dn L) R)) w0 w) (hi : i < s.words.length) (hw : was < 18446744073709551616) (j : Nat) (hj : (Lay.page P T 11 page).1 = (j : Int)) (hjl : j < s.words.length) (v : Nat) (hv : Tg.page was = (v : Int) - 1) (s' : St) (hs : s.put j v = s') :
    Calls Try.prog 10 #[.pointer (some ⟨m, 0, none⟩), .pointer (some ⟨q, 0, none⟩)] w fun e w' => e = .returned (s').did ∧ Own (Sep (BO m (pushO P T (i : Int) 2 was page)) (Sep (AX q P T p r (s') pg ds dn L) R)) w0 w' := by
  have HS := hide hs
  have HJL := hide hjl
  have HPG := hide (fun w => page11 was hw w)
  have vb : v ≤ 4096 := by have := Tg.page_may was; omega
  rw [hv] at HPG
  have HK := hide (fun w => knext P T page w)
  rw [hj] at HK
  generalize (Lay.page P T 11 page).2 = ok' at *
  clear hs hv hj hjl
  have lR : Loc (Sep (BO w.heap.size didO) R) := Loc.bo.sep l
  have O1 := hide ((Own.boNew (m := w.heap.size) (o := didO) (Loc.bo.sep (Loc.ax.sep l)) h (heap_alloc_at w didO) (Nat.le_refl _) (grown1 w _)).cast (R' := Sep (BO m (pushO P T (i : Int) 1 was page)) (Sep (AX q P T p r s pg ds dn L) (Sep (BO w.heap.size didO) R))) (by ac_rfl))
  clear h
  have HI := hide hi
  clear hi
  unfold didO at O1
  go_enter Try.func10, Try.ntmps10
  go_wp2_with fail
  generalize w.alloc (.cells #[.int .i64 0, .int .i64 0, .int .u64 0, .int .u64 0] 50) = w1 at *
  generalize w.heap.size = rb at *
  refine (mayYes w1 m P T i 1 was (.push (Own.boAt O1.out)) (by omega) q p r s.words.length (ArAt.of (O1.out.cast BO.swap)) (by have := HI.out; omega)).mono ?_
  rintro e w2 ⟨rfl, b2⟩
  have O2 := hide (O1.out.below (Loc.bo.sep (Loc.ax.sep lR)) b2)
  clear O1 b2
  have c3 : w2.cell? ⟨m, 3, none⟩ = some (.int .i64 1) := cell_of_heap (Own.boAt O2.out)
  go_wp2_with fail
  have hne : Nonempty (Over w2) := ⟨⟨_, Below.refl _ _⟩⟩
  have u0 := fun u => over_cell (show w2.cell? ⟨m, 0, none⟩ = some (.int .i64 P) from cell_of_heap (Own.boAt O2.out)) u
  have u1 := fun u => over_cell (show w2.cell? ⟨m, 1, none⟩ = some (.int .i64 T) from cell_of_heap (Own.boAt O2.out)) u
  have u5 := fun u => over_cell (show w2.cell? ⟨m, 5, none⟩ = some (.int .i64 page) from cell_of_heap (Own.boAt O2.out)) u
  refine over_region (by kernel_rfl) (by kernel_rfl) ?_
  repeat (go_big_quiet_step (first | (go_at_call 37; exact over_call _ (HK.out _))))
  refine wpQuiet_nil ?_
  rintro _ ⟨u, rfl⟩
  have O3 := hide (O2.out.below (Loc.bo.sep (Loc.ax.sep lR)) u.h)
  clear u0 u1 u5 O2 hne c3
  generalize u.w' = w3 at *
  go_wp2
  have O4 := hide (O3.out.below (Loc.bo.sep (Loc.ax.sep lR)) ((Alike.drewN w3 1).below _))
  clear O3
  have J1 : Hid (Cel m 4 (.int .u64 (was : Int)) w3.drew) := hide (cell_of_heap (Own.boAt O4.out))
  have hne : Nonempty (Mem (Cel m 4 (.int .u64 (was : Int)))) := ⟨⟨_, J1.out⟩⟩
  have UC4 : ∀ u : Mem (Cel m 4 (.int .u64 (was : Int))), u.w'.cell? ⟨m, 4, none⟩ = some (.int .u64 (was : Int)) := fun u => u.h
  refine region_start (J := Cel m 4 (.int .u64 (was : Int))) (by kernel_rfl) ?_
  refine stretch (fuel := 5) (by kernel_rfl) (fun _ _ _ _ _ h => h) J1.out [0, 2, 3, 4, 5, 6, 7] (by kernel_rfl) ?_
  simp only [List.filterMap_cons, List.filterMap_nil, List.getElem?_toArray, List.getElem?_cons_zero, List.getElem?_cons_succ]
  show wpQuiet _ _ _ _ [_, _, _, _, _, _, _] _
  repeat (go_big_quiet_step (fail))
  refine wpQuiet_nil ?_
  refine wpAnyJ_writer (i := 1) rfl (by kernel_rfl) (fun K' hK => ?_)
  go_simp
  refine (storeX (O4.out.cast BO.swap)).mono ?_
  rintro e w4 ⟨rfl, rfl⟩
  refine hK _ _ J1.out ?_
  clear hK K'
  refine wpAnyJ_writer (i := 8) rfl (by kernel_rfl) (fun K' hK => ?_)
  go_simp
  refine (HPG.out _).mono ?_
  rintro e w4 ⟨rfl, qq, rfl⟩
  have O5 := hide (Own.below (w := w3.drewN 1) (Loc.bo.sep (Loc.ax.sep lR)) O4.out ((Alike.drewN (w3.drewN 1) qq).below _))
  clear O4 J1
  generalize (w3.drewN 1).drewN qq = w4 at *
  have J2 : Hid (Cel m 4 (.int .u64 (was : Int)) w4) := hide (cell_of_heap (Own.boAt O5.out))
  refine hK _ _ J2.out ?_
  clear hK K'
  refine stretch (fuel := 1) (by kernel_rfl) (fun _ _ _ _ _ h => h) J2.out [9, 10] (by kernel_rfl) ?_
  simp only [List.filterMap_cons, List.filterMap_nil, List.getElem?_toArray, List.getElem?_cons_zero, List.getElem?_cons_succ]
  show wpQuiet _ _ _ _ [_, _] _
  repeat (go_big_quiet_step (fail))
  refine wpQuiet_nil ?_
  refine wpAnyJ_writer (i := 11) rfl (by kernel_rfl) (fun K' hK => ?_)
  go_simp
  refine (putX (Loc.bo.sep lR) (O5.out.cast BO.swap) j HJL.out v (by omega)).mono ?_
  rintro e w5 ⟨rfl, o5⟩
  have O6 : Hid (Own (Sep (BO m (pushO P T (i : Int) 1 was page)) (Sep (AX q P T p r s' pg ds dn L) (Sep (BO rb (.cells #[.int .i64 0, .int .i64 0, .int .u64 0, .int .u64 0] 50 (0, 0))) R))) w0 w5) := hide (by rw [HS.out] at o5; exact o5.cast BO.swap.symm)
  clear o5 O5
  refine hK _ _ (cell_of_heap (Own.boAt O6.out)) ?_
  clear hK K'
  refine wpAnyJ_done (by kernel_rfl) ?_
  have k3 : w5.cell? ⟨m, 3, none⟩ = some (.int .i64 1) := cell_of_heap (Own.boAt O6.out)
  have kf : ∀ o, w5.frozen? ⟨m, o, none⟩ = false := fun o => frozen_of_heap (Own.boAt O6.out)
  have O8 : Hid (Own (Sep (BO m (pushO P T (i : Int) 2 was page)) (Sep (AX q P T p r s' pg ds dn L) (Sep (BO rb (.cells #[.int .i64 0, .int .i64 0, .int .u64 0, .int .u64 0] 50 (0, 0))) R))) w0 (w5.setCell ⟨m, 3, none⟩ (.int .i64 2))) := hide (Own.boSet (Loc.ax.sep lR) O6.out 3 (.int .i64 2))
  go_wp2_with fail
  clear k3 kf O6
  generalize w5.setCell ⟨m, 3, none⟩ (.int .i64 2) = w8 at *
  refine (storeX (O8.out.cast BO.swap)).mono ?_
  rintro e w91 ⟨rfl, rfl⟩
  go_wp2_with fail
  refine (lastX (Loc.bo.sep lR) (O8.out.cast BO.swap)).mono ?_
  rintro e w95 ⟨rfl, o95⟩
  have O95 := hide (o95.cast (R' := Sep (BO rb (.cells #[.int .i64 0, .int .i64 0, .int .u64 0, .int .u64 0] 50 (0, 0))) (Sep (BO m (pushO P T (i : Int) 2 was page)) (Sep (AX q P T p r (s') pg ds dn L) R))) (by ac_rfl))
  clear o95 O8
  have r0 : w95.cell? ⟨rb, 0, none⟩ = some (.int .i64 0) := cell_of_heap (Own.boAt O95.out)
  have r1 : w95.cell? ⟨rb, 1, none⟩ = some (.int .i64 0) := cell_of_heap (Own.boAt O95.out)
  have r2 : w95.cell? ⟨rb, 2, none⟩ = some (.int .u64 0) := cell_of_heap (Own.boAt O95.out)
  have r3 : w95.cell? ⟨rb, 3, none⟩ = some (.int .u64 0) := cell_of_heap (Own.boAt O95.out)
  have fr : ∀ o, w95.frozen? ⟨rb, o, none⟩ = false := fun o => frozen_of_heap (Own.boAt O95.out)
  unfold St.did
  go_wp2
  refine Own.putDid (Q := bodyPost _ _ _ _ _) (Loc.bo.sep (Loc.ax.sep l)) O95.out ?_
  intro W hW z0 z1 z2 z3
  refine bodyPost_ret (by simp [results, Try.results10, z0, z1, z2, z3, go_sem]; try rfl) rfl ?_
  exact ⟨rfl, hW⟩

set_option maxHeartbeats 4000000 in
theorem push2 (l : Loc R) {was : Nat} {page : Int} (i : Nat) (h : Own (Sep (BO m (pushO P T (i : Int) 2 was page)) (Sep (AX q P T p r s pg ds dn L) R)) w0 w) (hi : i < s.words.length) (hw : was < 18446744073709551616) (n : Nat) (hn : (Tg.next was page).1 = n) (hn2 : n < 18446744073709551616) (g' : Int) (hb : (if s.words.getD i 0 = was then 3 else 0) = g') (s' : St) (hs : s.cas i was n = s') :
    Calls Try.prog 10 #[.pointer (some ⟨m, 0, none⟩), .pointer (some ⟨q, 0, none⟩)] w fun e w' => e = .returned (s').did ∧ Own (Sep (BO m (pushO P T (i : Int) g' was page)) (Sep (AX q P T p r (s') pg ds dn L) R)) w0 w' := by
  have HW := hide hw
  have HN := hide hn
  have HN2 := hide hn2
  have HB := hide hb
  have HS := hide hs
  clear hw hn hn2 hb hs
  have lR : Loc (Sep (BO w.heap.size didO) R) := Loc.bo.sep l
  have O1 := hide ((Own.boNew (m := w.heap.size) (o := didO) (Loc.bo.sep (Loc.ax.sep l)) h (heap_alloc_at w didO) (Nat.le_refl _) (grown1 w _)).cast (R' := Sep (BO m (pushO P T (i : Int) 2 was page)) (Sep (AX q P T p r s pg ds dn L) (Sep (BO w.heap.size didO) R))) (by ac_rfl))
  clear h
  have HI := hide hi
  clear hi
  unfold didO at O1
  go_enter Try.func10, Try.ntmps10
  go_wp2_with fail
  generalize w.alloc (.cells #[.int .i64 0, .int .i64 0, .int .u64 0, .int .u64 0] 50) = w1 at *
  generalize w.heap.size = rb at *
  refine (mayYes w1 m P T i 2 was (.push (Own.boAt O1.out)) (by omega) q p r s.words.length (ArAt.of (O1.out.cast BO.swap)) (by have := HI.out; omega)).mono ?_
  rintro e w2 ⟨rfl, b2⟩
  have O2 := hide (O1.out.below (Loc.bo.sep (Loc.ax.sep lR)) b2)
  clear O1 b2
  have c3 : w2.cell? ⟨m, 3, none⟩ = some (.int .i64 2) := cell_of_heap (Own.boAt O2.out)
  go_wp2
  have O3 := hide (O2.out.below (Loc.bo.sep (Loc.ax.sep lR)) ((Alike.drewN w2 1).below _))
  have J1 : Hid (Cel m 5 (.int .i64 page) w2.drew) := hide (cell_of_heap (Own.boAt O3.out))
  have hne : Nonempty (Mem (Cel m 5 (.int .i64 page))) := ⟨⟨_, J1.out⟩⟩
  have UC5 : ∀ u : Mem (Cel m 5 (.int .i64 page)), u.w'.cell? ⟨m, 5, none⟩ = some (.int .i64 page) := fun u => u.h
  refine region_start (J := Cel m 5 (.int .i64 page)) (by kernel_rfl) ?_
  refine stretch (fuel := 1) (by kernel_rfl) (fun _ _ _ _ _ h => h) J1.out [0, 1, 2, 3, 4, 5, 6, 7] (by kernel_rfl) ?_
  simp only [List.filterMap_cons, List.filterMap_nil, List.getElem?_toArray, List.getElem?_cons_zero, List.getElem?_cons_succ]
  show wpQuiet _ _ _ _ [_, _, _, _, _, _, _, _] _
  repeat (go_big_quiet_step (fail))
  refine wpQuiet_nil ?_
  refine wpAnyJ_writer (i := 8) rfl (by kernel_rfl) (fun K' hK => ?_)
  go_simp
  refine (tswap lR O3.out i (fun u hu => .push hu) HI.out HW.out page n HN.out HN2.out).mono ?_
  rintro e w3 ⟨rfl, o4⟩
  have e4 : (Obj.cells (swapped (pushC P T (i : Int) 2 was page) (decide (s.words.getD i 0 = was))) 91 (0, 0)) = pushO P T (i : Int) g' was page := by
    rw [← HB.out]
    by_cases hd : s.words.getD i 0 = was
    · rw [if_pos hd, decide_eq_true hd]; rfl
    · rw [if_neg hd, decide_eq_false hd]; rfl
  rw [e4, HS.out] at o4
  have O4 := hide o4
  refine hK _ _ (cell_of_heap (Own.boAt O4.out)) ?_
  clear hK K' o4 e4 O2 O3
  refine wpAnyJ_done (by kernel_rfl) ?_
  go_wp2_with fail
  refine (storeX (O4.out.cast BO.swap)).mono ?_
  rintro e w91 ⟨rfl, rfl⟩
  go_wp2_with fail
  refine (lastX (Loc.bo.sep lR) (O4.out.cast BO.swap)).mono ?_
  rintro e w95 ⟨rfl, o95⟩
  have O95 := hide (o95.cast (R' := Sep (BO rb (.cells #[.int .i64 0, .int .i64 0, .int .u64 0, .int .u64 0] 50 (0, 0))) (Sep (BO m (pushO P T (i : Int) g' was page)) (Sep (AX q P T p r (s') pg ds dn L) R))) (by ac_rfl))
  clear o95 O4
  have r0 : w95.cell? ⟨rb, 0, none⟩ = some (.int .i64 0) := cell_of_heap (Own.boAt O95.out)
  have r1 : w95.cell? ⟨rb, 1, none⟩ = some (.int .i64 0) := cell_of_heap (Own.boAt O95.out)
  have r2 : w95.cell? ⟨rb, 2, none⟩ = some (.int .u64 0) := cell_of_heap (Own.boAt O95.out)
  have r3 : w95.cell? ⟨rb, 3, none⟩ = some (.int .u64 0) := cell_of_heap (Own.boAt O95.out)
  have fr : ∀ o, w95.frozen? ⟨rb, o, none⟩ = false := fun o => frozen_of_heap (Own.boAt O95.out)
  unfold St.did
  go_wp2
  refine Own.putDid (Q := bodyPost _ _ _ _ _) (Loc.bo.sep (Loc.ax.sep l)) O95.out ?_
  intro W hW z0 z1 z2 z3
  refine bodyPost_ret (by simp [results, Try.results10, z0, z1, z2, z3, go_sem]; try rfl) rfl ?_
  exact ⟨rfl, hW⟩

end

/-- A step that is none. -/
theorem popNo (w : World) (m : Nat) (qa : Option Addr) (hM : ∀ u : World, Below w.heap.size w u → Calls Try.prog 35 #[.pointer (some ⟨m, 0, none⟩), .pointer qa] u fun e u' => e = .returned (.bool false) ∧ Below u.heap.size u u') :
    Calls Try.prog 12 #[.pointer (some ⟨m, 0, none⟩), .pointer qa] w fun e w' => e = .returned noDid ∧ Below w.heap.size w w' := by
  have A1 := heap_alloc_at w (.cells #[.int .i64 0, .int .i64 0, .int .u64 0, .int .u64 0] 50)
  have B1 := grown1 w (.cells #[.int .i64 0, .int .i64 0, .int .u64 0, .int .u64 0] 50)
  have HM := hide (hM _ B1)
  clear hM
  go_enter Try.func12, Try.ntmps12
  go_wp2_with fail
  generalize w.alloc (.cells #[.int .i64 0, .int .i64 0, .int .u64 0, .int .u64 0] 50) = w1 at *
  refine HM.out.mono ?_
  rintro e w2 ⟨rfl, b2⟩
  have A2 := (b2.block _ (lt_of_heap A1)).trans A1
  have B2 := hide (B1.trans (b2.mono B1.size))
  clear A1 B1 HM b2
  have hl := Nat.le_refl w.heap.size
  generalize hrb : w.heap.size = rb at *
  have r0 : w2.cell? ⟨rb, 0, none⟩ = some (.int .i64 0) := cell_of_heap A2
  have r1 : w2.cell? ⟨rb, 1, none⟩ = some (.int .i64 0) := cell_of_heap A2
  have r2 : w2.cell? ⟨rb, 2, none⟩ = some (.int .u64 0) := cell_of_heap A2
  have r3 : w2.cell? ⟨rb, 3, none⟩ = some (.int .u64 0) := cell_of_heap A2
  have fr : ∀ o, w2.frozen? ⟨rb, o, none⟩ = false := fun o => frozen_of_heap A2
  have e := heap_setCell_at (o := 3) (heap_setCell_at (o := 2) (heap_setCell_at (o := 1) (heap_setCell_at (o := 0) A2 (.int .i64 0)) (.int .i64 0)) (.int .u64 0)) (.int .u64 0)
  have HE := hide e
  have B3 : Hid (Below rb w ((((w2.setCell ⟨rb, 0, none⟩ (.int .i64 0)).setCell ⟨rb, 1, none⟩ (.int .i64 0)).setCell ⟨rb, 2, none⟩ (.int .u64 0)).setCell ⟨rb, 3, none⟩ (.int .u64 0))) :=
    hide ((((B2.out.setCell (p := ⟨rb, 0, none⟩) hl _).setCell (p := ⟨rb, 1, none⟩) hl _).setCell (p := ⟨rb, 2, none⟩) hl _).setCell (p := ⟨rb, 3, none⟩) hl _)
  have HRB := hide hrb
  clear e hrb
  go_wp2
  clear r0 r1 r2 r3 fr A2 B2
  generalize ((((w2.setCell ⟨rb, 0, none⟩ (.int .i64 0)).setCell ⟨rb, 1, none⟩ (.int .i64 0)).setCell ⟨rb, 2, none⟩ (.int .u64 0)).setCell ⟨rb, 3, none⟩ (.int .u64 0)) = w4 at *
  have z0 : w4.cell? ⟨rb, 0, none⟩ = some (.int .i64 0) := cell_of_heap HE.out
  have z1 : w4.cell? ⟨rb, 1, none⟩ = some (.int .i64 0) := cell_of_heap HE.out
  have z2 : w4.cell? ⟨rb, 2, none⟩ = some (.int .u64 0) := cell_of_heap HE.out
  have z3 : w4.cell? ⟨rb, 3, none⟩ = some (.int .u64 0) := cell_of_heap HE.out
  refine bodyPost_ret (by simp [results, Try.results12, z0, z1, z2, z3, go_sem]; try rfl) rfl ?_
  exact ⟨rfl, by rw [HRB.out]; exact B3.out⟩

theorem popNilStep (w : World) (qa : Option Addr) :
    Calls Try.prog 12 #[.pointer none, .pointer qa] w fun e w' => e = .returned noDid ∧ Below w.heap.size w w' := by
  have A2 := heap_alloc_at w (.cells #[.int .i64 0, .int .i64 0, .int .u64 0, .int .u64 0] 50)
  have B2 := hide (grown1 w (.cells #[.int .i64 0, .int .i64 0, .int .u64 0, .int .u64 0] 50))
  go_enter Try.func12, Try.ntmps12
  go_wp2_with fail
  exact bodyPost_ret (v := noDid) (by simp [results, Try.results12, go_sem, noDid]; try rfl) rfl ⟨rfl, B2.out⟩

theorem popDone (w : World) (m : Nat) (P T h g : Int) (was : Nat) (page below : Int) (k : w.heap[m]? = some (popO P T h g was page below)) (d : Bool) (hd : (g == 3) = d) :
    Calls Try.prog 13 #[.pointer (some ⟨m, 0, none⟩)] w fun e w' => e = .returned (.bool d) ∧ w' = w := by
  have c3 : w.cell? ⟨m, 3, none⟩ = some (.int .i64 g) := cell_of_heap k
  clear k
  go_enter Try.func13, Try.ntmps13
  go_wp2
  go_ret
  exact ⟨rfl, rfl⟩
theorem popNilDone (w : World) :
    Calls Try.prog 13 #[.pointer none] w fun e w' => e = .returned (.bool false) ∧ w' = w := by
  go_enter Try.func13, Try.ntmps13
  go_wp2
  go_ret
  exact ⟨rfl, rfl⟩

/-- A step that is none. -/
theorem pushNo (w : World) (m : Nat) (qa : Option Addr) (hM : ∀ u : World, Below w.heap.size w u → Calls Try.prog 35 #[.pointer (some ⟨m, 0, none⟩), .pointer qa] u fun e u' => e = .returned (.bool false) ∧ Below u.heap.size u u') :
    Calls Try.prog 10 #[.pointer (some ⟨m, 0, none⟩), .pointer qa] w fun e w' => e = .returned noDid ∧ Below w.heap.size w w' := by
  have A1 := heap_alloc_at w (.cells #[.int .i64 0, .int .i64 0, .int .u64 0, .int .u64 0] 50)
  have B1 := grown1 w (.cells #[.int .i64 0, .int .i64 0, .int .u64 0, .int .u64 0] 50)
  have HM := hide (hM _ B1)
  clear hM
  go_enter Try.func10, Try.ntmps10
  go_wp2_with fail
  generalize w.alloc (.cells #[.int .i64 0, .int .i64 0, .int .u64 0, .int .u64 0] 50) = w1 at *
  refine HM.out.mono ?_
  rintro e w2 ⟨rfl, b2⟩
  have A2 := (b2.block _ (lt_of_heap A1)).trans A1
  have B2 := hide (B1.trans (b2.mono B1.size))
  clear A1 B1 HM b2
  have hl := Nat.le_refl w.heap.size
  generalize hrb : w.heap.size = rb at *
  have r0 : w2.cell? ⟨rb, 0, none⟩ = some (.int .i64 0) := cell_of_heap A2
  have r1 : w2.cell? ⟨rb, 1, none⟩ = some (.int .i64 0) := cell_of_heap A2
  have r2 : w2.cell? ⟨rb, 2, none⟩ = some (.int .u64 0) := cell_of_heap A2
  have r3 : w2.cell? ⟨rb, 3, none⟩ = some (.int .u64 0) := cell_of_heap A2
  have fr : ∀ o, w2.frozen? ⟨rb, o, none⟩ = false := fun o => frozen_of_heap A2
  have e := heap_setCell_at (o := 3) (heap_setCell_at (o := 2) (heap_setCell_at (o := 1) (heap_setCell_at (o := 0) A2 (.int .i64 0)) (.int .i64 0)) (.int .u64 0)) (.int .u64 0)
  have HE := hide e
  have B3 : Hid (Below rb w ((((w2.setCell ⟨rb, 0, none⟩ (.int .i64 0)).setCell ⟨rb, 1, none⟩ (.int .i64 0)).setCell ⟨rb, 2, none⟩ (.int .u64 0)).setCell ⟨rb, 3, none⟩ (.int .u64 0))) :=
    hide ((((B2.out.setCell (p := ⟨rb, 0, none⟩) hl _).setCell (p := ⟨rb, 1, none⟩) hl _).setCell (p := ⟨rb, 2, none⟩) hl _).setCell (p := ⟨rb, 3, none⟩) hl _)
  have HRB := hide hrb
  clear e hrb
  go_wp2
  clear r0 r1 r2 r3 fr A2 B2
  generalize ((((w2.setCell ⟨rb, 0, none⟩ (.int .i64 0)).setCell ⟨rb, 1, none⟩ (.int .i64 0)).setCell ⟨rb, 2, none⟩ (.int .u64 0)).setCell ⟨rb, 3, none⟩ (.int .u64 0)) = w4 at *
  have z0 : w4.cell? ⟨rb, 0, none⟩ = some (.int .i64 0) := cell_of_heap HE.out
  have z1 : w4.cell? ⟨rb, 1, none⟩ = some (.int .i64 0) := cell_of_heap HE.out
  have z2 : w4.cell? ⟨rb, 2, none⟩ = some (.int .u64 0) := cell_of_heap HE.out
  have z3 : w4.cell? ⟨rb, 3, none⟩ = some (.int .u64 0) := cell_of_heap HE.out
  refine bodyPost_ret (by simp [results, Try.results10, z0, z1, z2, z3, go_sem]; try rfl) rfl ?_
  exact ⟨rfl, by rw [HRB.out]; exact B3.out⟩

theorem pushNilStep (w : World) (qa : Option Addr) :
    Calls Try.prog 10 #[.pointer none, .pointer qa] w fun e w' => e = .returned noDid ∧ Below w.heap.size w w' := by
  have A2 := heap_alloc_at w (.cells #[.int .i64 0, .int .i64 0, .int .u64 0, .int .u64 0] 50)
  have B2 := hide (grown1 w (.cells #[.int .i64 0, .int .i64 0, .int .u64 0, .int .u64 0] 50))
  go_enter Try.func10, Try.ntmps10
  go_wp2_with fail
  exact bodyPost_ret (v := noDid) (by simp [results, Try.results10, go_sem, noDid]; try rfl) rfl ⟨rfl, B2.out⟩

theorem pushDone (w : World) (m : Nat) (P T h g : Int) (was : Nat) (page : Int) (k : w.heap[m]? = some (pushO P T h g was page)) (d : Bool) (hd : (g == 3) = d) :
    Calls Try.prog 11 #[.pointer (some ⟨m, 0, none⟩)] w fun e w' => e = .returned (.bool d) ∧ w' = w := by
  have c3 : w.cell? ⟨m, 3, none⟩ = some (.int .i64 g) := cell_of_heap k
  clear k
  go_enter Try.func11, Try.ntmps11
  go_wp2
  go_ret
  exact ⟨rfl, rfl⟩
theorem pushNilDone (w : World) :
    Calls Try.prog 11 #[.pointer none] w fun e w' => e = .returned (.bool false) ∧ w' = w := by
  go_enter Try.func11, Try.ntmps11
  go_wp2
  go_ret
  exact ⟨rfl, rfl⟩

theorem popPageNo (w : World) (m : Nat) (P T h g : Int) (was : Nat) (page below : Int) (k : w.heap[m]? = some (popO P T h g was page below)) (hd : g ≠ 3) :
    Calls Try.prog 14 #[.pointer (some ⟨m, 0, none⟩)] w fun e w' => e = .returned (.int .i64 (-1)) ∧ w' = w := by
  have c3 : w.cell? ⟨m, 3, none⟩ = some (.int .i64 g) := cell_of_heap k
  have d : (g != 3) = true := by rw [bne_iff_ne]; exact hd
  clear k hd
  go_enter Try.func14, Try.ntmps14
  go_wp2
  go_ret
  exact ⟨rfl, rfl⟩
theorem popPage (w : World) (m : Nat) (P T h : Int) (was : Nat) (page below : Int) (k : w.heap[m]? = some (popO P T h 3 was page below)) :
    Calls Try.prog 14 #[.pointer (some ⟨m, 0, none⟩)] w fun e w' => e = .returned (.int .i64 page) ∧ w' = w := by
  have c3 : w.cell? ⟨m, 3, none⟩ = some (.int .i64 3) := cell_of_heap k
  have c5 : w.cell? ⟨m, 5, none⟩ = some (.int .i64 page) := cell_of_heap k
  clear k
  go_enter Try.func14, Try.ntmps14
  go_wp2
  go_ret
  exact ⟨rfl, rfl⟩
theorem popNilPage (w : World) :
    Calls Try.prog 14 #[.pointer none] w fun e w' => e = .returned (.int .i64 0) ∧ w' = w := by
  go_enter Try.func14, Try.ntmps14
  go_wp2
  go_ret
  exact ⟨rfl, rfl⟩
end Go.Proofs.Ytafamfjgehnddaa

namespace Go.Proofs.Ytafamfjgehnddaa
open Go.RowKit

/-- The page that a word names. -/
def nmd (x : Nat) : Int := if x ≤ 4096 then (x : Int) - 1 else -1
theorem nmd_bd (x : Nat) : -1 ≤ nmd x ∧ nmd x ≤ 4095 := by unfold nmd; split <;> omega
/-- What lies from page p on. -/
def lst (ws : List Nat) (P T : Int) : Nat → Int → List Int
  | 0, _ => []
  | n + 1, p => if (Lay.page P T 11 p).2 = true then p :: lst ws P T n (nmd (ws.getD (Lay.page P T 11 p).1.toNat 0)) else []
theorem lst_len (ws : List Nat) (P T : Int) : ∀ (n : Nat) (p : Int), (lst ws P T n p).length ≤ n
  | 0, _ => by simp [lst]
  | n + 1, p => by
    unfold lst
    split
    · have := lst_len ws P T n (nmd (ws.getD (Lay.page P T 11 p).1.toNat 0)); rw [List.length_cons]; omega
    · simp
theorem next_may {P T p : Int} (h : (Lay.page P T 11 p).2 = true) : Lay.may P T = true ∧ 0 ≤ p ∧ p < P ∧ (Lay.page P T 11 p).1 = 70 + 14 * T + 5 * p := by
  unfold Lay.page at h ⊢
  split at h
  · rename_i hc
    rw [if_pos hc]
    simp only [Bool.and_eq_true, Lay.below_iff] at hc
    refine ⟨hc.1.1, hc.1.2.1, hc.1.2.2, ?_⟩
    simp only [Lay.states]
    rw [if_neg (by omega)]
    omega
  · cases h
theorem next_in {P T p : Int} (hm : Lay.may P T = true) (h1 : 0 ≤ p) (h2 : p < P) : Lay.page P T 11 p = (70 + 14 * T + 5 * p, true) := by
  unfold Lay.page
  rw [if_pos (by simp [hm, Lay.below_iff, h1, h2])]
  simp only [Lay.states]
  rw [if_neg (by omega)]
  congr 1
  omega
theorem next_out {P T p : Int} (h : p < 0 ∨ P ≤ p) : Lay.page P T 11 p = (0, false) := by
  unfold Lay.page
  rw [if_neg]
  simp only [Bool.and_eq_true, Lay.below_iff]
  omega
theorem next_lt {P T p : Int} (h : (Lay.page P T 11 p).2 = true) : (Lay.page P T 11 p).1.toNat < (Lay.words P T).toNat ∧ ((Lay.page P T 11 p).1.toNat : Int) = (Lay.page P T 11 p).1 := by
  obtain ⟨h1, h2, h3, h4⟩ := next_may h
  obtain ⟨m1, m2, m3, m4⟩ := Lay.may_iff.1 h1
  have := Lay.maps_bd m1 m2
  rw [h4, Lay.words_in h1]
  unfold Lay.total
  omega

/-- A load of a store's copy turns the copy's head alone. -/
theorem s_load1 (w : World) (p b : Nat) (s : St) (h : StoreAt 104 w p b s) (i : Nat) (hi : i < s.words.length) :
    Calls Try.prog 42 #[.pointer (some ⟨p, 0, none⟩), .int .i64 (i : Int)] w fun e w' => e = .returned (.tuple #[.int .u64 (s.words.getD i 0 : Nat), .int .i64 0]) ∧ StoreAt 104 w' p b (s.load i) ∧ Only (fun k => k = p) w w' := by
  refine (s_load w p b s h i hi).mono fun e w' ⟨h1, h2, h3⟩ => ⟨h1, h2, h3.os, h3.tape, h3.output, h3.size, fun k hk hn => ?_⟩
  by_cases e : k = b
  · subst e
    rw [h2.row, h.row, load_words]
  · exact h3.block k hk (by rintro (h | h); exact hn h; exact e h)

/-- How long a slice is. -/
def lenV : Value → Nat | .slice _ n _ => n | _ => 0

/-- What List has on the way. -/
structure LstAt (w wr : World) (b5 b6 b : Nat) (P T : Int) (ws : List Nat) (v : Value) (l : List Int) : Prop where
  box : w.heap.size ≤ b5 ∧ b5 < b6 ∧ b6 < wr.heap.size
  bk : b < w.heap.size
  l0 : wr.heap[b5]? = some (.cells #[.int .i64 P, .int .i64 T] 26 (0, 0))
  st : ∃ s, StoreAt 104 wr b6 b s ∧ s.words = ws
  row : wr.ownsRow (b6 + 1) 3 1 v l.length (intVals l)
  below : Below w.heap.size w wr

theorem LstAt.grow {w wr w' : World} {b5 b6 b : Nat} {P T : Int} {ws : List Nat} {v : Value} {l : List Int} (h : LstAt w wr b5 b6 b P T ws v l) (hb : Below wr.heap.size wr w') : LstAt w w' b5 b6 b P T ws v l := by
  obtain ⟨s, h1, h2⟩ := h.st
  exact ⟨⟨h.box.1, h.box.2.1, Nat.lt_of_lt_of_le h.box.2.2 hb.size⟩, h.bk, (hb.block _ (lt_of_heap h.l0)).trans h.l0, ⟨s, h1.below hb, h2⟩, ownsRow_only h.row (Below.only hb (fun _ => False)) (fun _ f => f.elim), h.below.trans (hb.mono h.below.size)⟩
theorem LstAt.load {w wr w' : World} {b5 b6 b : Nat} {P T : Int} {ws : List Nat} {v : Value} {l : List Int} (h : LstAt w wr b5 b6 b P T ws v l) {s : St} (hs : StoreAt 104 w' b6 b s) (hw : s.words = ws) (ho : Only (fun k => k = b6) wr w') : LstAt w w' b5 b6 b P T ws v l := by
  refine ⟨⟨h.box.1, h.box.2.1, Nat.lt_of_lt_of_le h.box.2.2 ho.size⟩, h.bk, (ho.block _ (lt_of_heap h.l0) (by have := h.box.2.1; omega)).trans h.l0, ⟨s, hs, hw⟩, ownsRow_only h.row ho (fun k hk => by omega), h.below.trans (ho.below h.below.size (fun i hi => by have := h.box; omega))⟩

theorem below_row {N : Nat} {W w3 : World} {tmp : Obj} {v : Value} {t : TypeId} {size k : Nat} {xs : List Value} (hN : N ≤ W.heap.size) (hrow : W.ownsRow N t size v k xs)
    (hgrow : (W.alloc tmp).grownBy w3 v.ownBlock) : Below N W w3 := by
  refine ((Below.refl N W).alloc hN tmp).grown hgrow (by simp; omega) (fun j ej => ?_)
  rcases hrow.2 with ⟨rfl, _⟩ | ⟨g, cap, cur, rfl, hb, _, _⟩
  · simp [Value.ownBlock] at ej
  · obtain rfl : g = j := by simpa [Value.ownBlock] using ej
    exact hb
theorem LstAt.push {w wr w3 : World} {b5 b6 b : Nat} {P T : Int} {ws : List Nat} {v v' : Value} {l : List Int} {x : Int} {tmp : Obj} (h : LstAt w wr b5 b6 b P T ws v l) (hown : w3.ownsRow (b6 + 1) 3 1 v' (l.length + 1) (intVals l ++ [.int .i64 x]))
    (hgrow : (wr.alloc tmp).grownBy w3 v.ownBlock) : LstAt w w3 b5 b6 b P T ws v' (l ++ [x]) := by
  have hb : Below (b6 + 1) wr w3 := below_row (by have := h.box; omega) h.row hgrow
  obtain ⟨s, h1, h2⟩ := h.st
  have hb6 := h.box
  have hk := h.bk
  refine ⟨⟨h.box.1, h.box.2.1, Nat.lt_of_lt_of_le h.box.2.2 hb.size⟩, h.bk, (hb.block _ (by omega)).trans h.l0, ⟨s, ⟨(hb.block _ (by omega)).trans h1.head, (hb.block _ (by omega)).trans h1.row, h1.ne, h1.len, h1.bd⟩, h2⟩, ?_, h.below.trans (hb.mono (by omega))⟩
  have e : intVals (l ++ [x]) = intVals l ++ [.int .i64 x] := by simp [intVals]
  rw [e, List.length_append, List.length_singleton]
  exact hown
theorem infoI12 : (Try.prog.info? 3).map (fun i => (i.zero, i.size, i.bytes)) = some (some (.int .i64 0), 1, 8) := by kernel_rfl

set_option maxRecDepth 100000 in
set_option maxHeartbeats 4000000 in
theorem stackList {R : Res} {w0 w : World} {q : Nat} {P T : Int} {p r : Nat} {s : St} {pg : Nat} {ds : List Nat} {dn : Nat} {L : RL} (h : Own (Sep (AX q P T p r s pg ds dn L) R) w0 w)
    (i : Nat) (hh : Lay.isHead P T (i : Int) = true) (hl : s.words.length = (Lay.words P T).toNat) (n : Nat) (hP : P = (n : Int)) (l : List Int) (hlst : lst s.words P T n (Tg.page (s.words.getD i 0)) = l) :
    Calls Try.prog 16 #[.pointer (some ⟨q, 0, none⟩), .int .i64 (i : Int)] w fun e w' => ∃ v, e = .returned v ∧ IntsV w' v l ∧ Below w.heap.size w w' := by
  obtain ⟨i0, hi, hz0, hz1, hz2⟩ := info_parts infoI12
  have hA := ArAt.of h
  obtain ⟨b, hS⟩ := AX.st h
  obtain ⟨a1, a2, a3⟩ := Lay.isHead_iff.1 hh
  obtain ⟨m1, m2, m3, m4⟩ := Lay.may_iff.1 a1
  have hil : i < s.words.length := by have := Lay.words_bd a1; omega
  obtain ⟨x, hx⟩ : ∃ x, s.words.getD i 0 = x := ⟨_, rfl⟩
  have hxb : x < 18446744073709551616 := by rw [← hx]; exact getD_lt _ hS.bd i
  have HBD := hide hS.bd
  have HA := hide hA
  have HS := hide hS
  have HH := hide (fun w => khead P T i w)
  rw [hh] at HH
  have HPG := hide (fun w => page11 x hxb w)
  rw [hx] at hlst
  have HX := hide hx
  have HL := hide hl
  have HLST := hide hlst
  have HIL := hide hil
  have HN := hide hP
  have hpb := Tg.page_may x
  generalize Tg.page x = y at *
  have n1 : n ≤ 4096 := by omega
  clear h hA hS hl hlst hh hil hx a1 a2 a3 m1 m2 m3 m4 hP
  go_enter Try.func16, Try.ntmps16
  go_wp2_with fail
  refine (HA.out.layout).mono ?_
  rintro e w1 ⟨rfl, b1⟩
  have HA1 := hide (HA.out.below b1)
  have HS1 := hide (HS.out.below b1)
  have HB1 := hide b1
  have hbk : b < w.heap.size := lt_of_heap HS.out.row
  clear HA HS b1
  have l0 := heap_alloc_at w1 (.cells #[.int .i64 P, .int .i64 T] 26)
  have B2 := hide (grown1 w1 (.cells #[.int .i64 P, .int .i64 T] 26))
  have HL0 := hide l0
  clear l0
  have k0 : (w1.alloc (.cells #[.int .i64 P, .int .i64 T] 26)).cell? ⟨w1.heap.size, 0, none⟩ = some (.int .i64 P) := cell_of_heap HL0.out
  have k1 : (w1.alloc (.cells #[.int .i64 P, .int .i64 T] 26)).cell? ⟨w1.heap.size, 1, none⟩ = some (.int .i64 T) := cell_of_heap HL0.out
  go_wp2_with fail
  have hb5 : w.heap.size ≤ w1.heap.size := HB1.out.size
  have hb5' : w1.heap.size < (w1.alloc (.cells #[.int .i64 P, .int .i64 T] 26)).heap.size := by simp
  have HA2 := hide (HA1.out.below B2.out)
  have HS2 := hide (HS1.out.below B2.out)
  have HB2 := hide (HB1.out.trans (B2.out.mono HB1.out.size))
  clear HA1 HS1 HB1 B2
  generalize w1.alloc (.cells #[.int .i64 P, .int .i64 T] 26) = w2 at *
  generalize w1.heap.size = b5 at *
  refine (HH.out _).mono ?_
  rintro e w3 ⟨rfl, b3⟩
  have HA3 := hide (HA2.out.below b3)
  have HS3 := hide (HS2.out.below b3)
  have HB3 := hide (HB2.out.trans (b3.mono HB2.out.size))
  have HL3 := hide ((b3.block _ (lt_of_heap HL0.out)).trans HL0.out)
  have hs3 := b3.size
  clear HA2 HS2 HB2 HL0 b3 k0 k1
  go_wp2_with fail
  refine (HA3.out.store).mono ?_
  rintro e w4 ⟨rfl, b4⟩
  have HA4 := hide (HA3.out.below b4)
  have HS4 := hide (HS3.out.below b4)
  have HB4 := hide (HB3.out.trans (b4.mono HB3.out.size))
  have HL4 := hide ((b4.block _ (lt_of_heap HL3.out)).trans HL3.out)
  have hs4 := b4.size
  clear HA3 HS3 HB3 HL3 b4
  have c0 : w4.cell? ⟨p, 0, none⟩ = some (.slice (some ⟨b, 0, none⟩) s.words.length s.words.length) := cell_of_heap HS4.out.head
  have c1 : w4.cell? ⟨p, 1, none⟩ = some (.int .i64 s.kind) := cell_of_heap HS4.out.head
  have c2 : w4.cell? ⟨p, 2, none⟩ = some (.int .i64 s.place) := cell_of_heap HS4.out.head
  have c3 : w4.cell? ⟨p, 3, none⟩ = some (.int .u64 s.old) := cell_of_heap HS4.out.head
  have c4 : w4.cell? ⟨p, 4, none⟩ = some (.int .u64 s.new) := cell_of_heap HS4.out.head
  have c5 : w4.cell? ⟨p, 5, none⟩ = some (.int .i64 s.count) := cell_of_heap HS4.out.head
  have HC := hide HS4.out.copy
  have HB5 := hide (HB4.out.alloc (o := (.cells #[.slice (some ⟨b, 0, none⟩) s.words.length s.words.length, .int .i64 s.kind, .int .i64 s.place, .int .u64 s.old, .int .u64 s.new, .int .i64 s.count] 104)) HB4.out.size)
  have HL5 := hide (heap_alloc_old (o := (.cells #[.slice (some ⟨b, 0, none⟩) s.words.length s.words.length, .int .i64 s.kind, .int .i64 s.place, .int .u64 s.old, .int .u64 s.new, .int .i64 s.count] 104)) HL4.out)
  have hs5 : w4.heap.size < (w4.alloc (.cells #[.slice (some ⟨b, 0, none⟩) s.words.length s.words.length, .int .i64 s.kind, .int .i64 s.place, .int .u64 s.old, .int .u64 s.new, .int .i64 s.count] 104)).heap.size := by simp
  go_wp2_with fail
  clear c0 c1 c2 c3 c4 c5 HA4 HS4 HB4 HL4
  generalize w4.alloc (.cells #[.slice (some ⟨b, 0, none⟩) s.words.length s.words.length, .int .i64 s.kind, .int .i64 s.place, .int .u64 s.old, .int .u64 s.new, .int .i64 s.count] 104) = w5 at *
  have hb6 : b5 < w4.heap.size := by omega
  generalize w4.heap.size = b6 at *
  refine (s_load1 _ _ _ _ HC.out i HIL.out).mono ?_
  rintro e w6 ⟨rfl, h6, o6⟩
  rw [HX.out]
  have HI6 : Hid (LstAt w w6 b5 b6 b P T s.words (.slice none 0 0) []) := hide
    (LstAt.load (wr := w5) ⟨⟨hb5, hb6, hs5⟩, hbk, HL5.out, ⟨s, HC.out, rfl⟩, World.ownsRow_nil _ _ _ _, HB5.out⟩ h6 (load_words s i) o6)
  clear h6 o6 HC HB5 HL5 hb5 hb5' hs3 hs4 hs5
  go_wp2_with fail
  refine (HPG.out _).mono ?_
  rintro e w7 ⟨rfl, qq, rfl⟩
  have HI7 := hide (HI6.out.grow ((Alike.drewN w6 qq).below _))
  clear HI6 HPG
  generalize w6.drewN qq = w7 at *
  go_wp2
  go_loopw [9, 10] (fun v y' wr => ∃ (pre : List Int) (z : Int), y' = .int .i64 z ∧ pre.length ≤ n ∧ Hid (LstAt w wr b5 b6 b P T s.words v pre ∧ pre ++ lst s.words P T (n - pre.length) z = l ∧ -1 ≤ z ∧ z ≤ 4095)) (fun v _ _ => n - lenV v)
  case atStart => exact ⟨[], y, rfl, Nat.zero_le _, HI7.out, by simpa using HLST.out, by omega, by omega⟩
  case round =>
    obtain ⟨pre, z, rfl, hpl, hH⟩ := hrel
    obtain ⟨hI, hE, z1, z2⟩ := hH.out
    obtain ⟨va, vc, hva⟩ := ownsRow_slice hI.row
    subst hva
    have k0 : wr.cell? ⟨b5, 0, none⟩ = some (.int .i64 P) := cell_of_heap hI.l0
    have k1 : wr.cell? ⟨b5, 1, none⟩ = some (.int .i64 T) := cell_of_heap hI.l0
    have HI := hide hI
    clear hH
    by_cases hlt : pre.length < n
    · have d1 : decide ((pre.length : Int) < P) = true := by rw [HN.out]; simp; exact hlt
      obtain ⟨k, hk⟩ : ∃ k, n - pre.length = k + 1 := ⟨n - pre.length - 1, by omega⟩
      rw [hk] at hE
      unfold lst at hE
      have HK := hide (fun w => knext P T z w)
      cases hp : (Lay.page P T 11 z).2 with
      | false =>
        rw [hp] at HK hE
        rw [if_neg (by simp), List.append_nil] at hE
        have HE := hide hE
        generalize (Lay.page P T 11 z).1 = at' at *
        have HP := hide hI
        clear hI hE hk hp
        go_wp2_with fail
        refine (HK.out _).mono ?_
        rintro e w8 ⟨rfl, b8⟩
        have HI8 := hide (HI.out.grow b8)
        go_wp2
        go_ret
        refine ⟨_, rfl, ?_, HI8.out.below⟩
        rw [← HE.out]
        exact ints_of_owns HI8.out.row
      | true =>
        obtain ⟨q1, q2⟩ := next_lt hp
        rw [hp] at HK hE
        rw [if_pos rfl] at hE
        obtain ⟨j, hj⟩ : ∃ j : Nat, (Lay.page P T 11 z).1.toNat = j := ⟨_, rfl⟩
        rw [hj] at q1 q2 hE
        rw [← q2] at HK
        obtain ⟨xx, hxx⟩ : ∃ xx, s.words.getD j 0 = xx := ⟨_, rfl⟩
        rw [hxx] at hE
        have xxb : xx < 18446744073709551616 := by rw [← hxx]; exact getD_lt _ HBD.out j
        have HJ := hide (show j < s.words.length by rw [HL.out]; exact q1)
        have HXX := hide hxx
        have HE := hide hE
        have HKK := hide hk
        have HNM := hide (fun w => knamed xx xxb w)
        have HZ := hide (nmd_bd xx)
        have hnm : (if xx ≤ 4096 then (xx : Int) - 1 else -1) = nmd xx := rfl
        rw [hnm] at HNM
        generalize nmd xx = z' at *
        clear hI hE hk hp hj q1 q2 hxx hnm
        go_wp2_with fail
        refine (HK.out _).mono ?_
        rintro e w8 ⟨rfl, b8⟩
        have HI8 := hide (HI.out.grow b8)
        have hz8 := HI8.out.box
        clear HI b8
        go_wp2_with (at_builtin; refine wpList_append_own _ rfl _ _ 54 rfl (b6 + 1) 3 i0 (.int .i64 0) 1 8 Try.underlying54 hi hz0 hz1 hz2 rfl (by decide) _ _ _ rfl (HI8.out.row.alloc _) ⟨_, 0, none⟩ 1 1 [.int .i64 z] rfl rfl (cell_one_new _ _ _) (by simp [Value.oneCell']) (by unfold maxLen; omega) (by omega) (by simp; omega) ?_; intro v' w9 hown' hgrow' _)
        have HI9 := hide (LstAt.push HI8.out hown' hgrow')
        clear HI8 hown' hgrow' hz8
        obtain ⟨s9, g1, g2⟩ := HI9.out.st
        have G1 := hide g1
        have G2 := hide g2
        clear g1 g2
        refine (s_load1 _ _ _ _ G1.out j (by rw [G2.out]; exact HJ.out)).mono ?_
        rintro e w10 ⟨rfl, h10, o10⟩
        have HI10 := hide (LstAt.load HI9.out h10 (by rw [load_words]; exact G2.out) o10)
        have ex : s9.words.getD j 0 = xx := by rw [G2.out]; exact HXX.out
        rw [ex]
        clear ex h10 o10 HI9 G1 G2
        go_wp2_with fail
        refine (HNM.out _).mono ?_
        rintro e w11 ⟨rfl, rfl⟩
        go_wp2
        go_roundw
        case rel =>
          refine ⟨pre ++ [z], z', rfl, by rw [List.length_append, List.length_singleton]; omega, HI10.out, ?_, HZ.out⟩
          rw [List.append_assoc, List.singleton_append, List.length_append, List.length_singleton, show n - (pre.length + 1) = k by have := HKK.out; omega]
          exact HE.out
        case measure =>
          obtain ⟨va', vc', hva'⟩ := ownsRow_slice HI10.out.row
          rw [hva']
          simp only [lenV, List.length_append, List.length_singleton]
          omega
    · have d1 : decide ((pre.length : Int) < P) = false := by rw [HN.out]; simp; omega
      rw [show n - pre.length = 0 by omega] at hE
      unfold lst at hE
      rw [List.append_nil] at hE
      have HE := hide hE
      clear hI hE
      go_wp2
      go_ret
      refine ⟨_, rfl, ?_, HI.out.below⟩
      rw [← HE.out]
      exact ints_of_owns HI.out.row
end Go.Proofs.Ytafamfjgehnddaa

namespace Go.Proofs.Ytafamfjgehnddaa
open Go.RowKit

section
variable {R : Res} {w0 w : World} {m : Nat} {q : Nat} {P T : Int} {p r : Nat} {s : St} {pg : Nat} {ds : List Nat} {dn : Nat} {L : RL}

set_option maxHeartbeats 4000000 in
theorem pop0a (l : Loc R) {was : Nat} {page y : Int} (i : Nat) (h : Own (Sep (BO m (popO P T (i : Int) 0 was page y)) (Sep (AX q P T p r s pg ds dn L) R)) w0 w) (hi : i < s.words.length) (x : Nat) (hx : s.words.getD i 0 = x) (hxb : x < 18446744073709551616) (pv : Int) (hp : Tg.page x = pv) (hok : (Lay.page P T 11 pv).2 = true) (s' : St) (hs : s.load i = s') :
    Calls Try.prog 12 #[.pointer (some ⟨m, 0, none⟩), .pointer (some ⟨q, 0, none⟩)] w fun e w' => e = .returned (s').did ∧ Own (Sep (BO m (popO P T (i : Int) 1 x pv y)) (Sep (AX q P T p r (s') pg ds dn L) R)) w0 w' := by
  have HX := hide hx
  have HS := hide hs
  have HPG := hide (fun w => page11 x hxb w)
  rw [hp] at HPG
  have HK := hide (fun w => knext P T pv w)
  rw [hok] at HK
  generalize (Lay.page P T 11 pv).1 = at' at *
  clear hx hs hp hok hxb
  have lR : Loc (Sep (BO w.heap.size didO) R) := Loc.bo.sep l
  have O1 := hide ((Own.boNew (m := w.heap.size) (o := didO) (Loc.bo.sep (Loc.ax.sep l)) h (heap_alloc_at w didO) (Nat.le_refl _) (grown1 w _)).cast (R' := Sep (BO m (popO P T (i : Int) 0 was page y)) (Sep (AX q P T p r s pg ds dn L) (Sep (BO w.heap.size didO) R))) (by ac_rfl))
  clear h
  have HI := hide hi
  clear hi
  unfold didO at O1
  go_enter Try.func12, Try.ntmps12
  go_wp2_with fail
  generalize w.alloc (.cells #[.int .i64 0, .int .i64 0, .int .u64 0, .int .u64 0] 50) = w1 at *
  generalize w.heap.size = rb at *
  refine (mayYes w1 m P T i 0 was (.pop (Own.boAt O1.out)) (by omega) q p r s.words.length (ArAt.of (O1.out.cast BO.swap)) (by have := HI.out; omega)).mono ?_
  rintro e w2 ⟨rfl, b2⟩
  have O2 := hide (O1.out.below (Loc.bo.sep (Loc.ax.sep lR)) b2)
  clear O1 b2
  have c3 : w2.cell? ⟨m, 3, none⟩ = some (.int .i64 0) := cell_of_heap (Own.boAt O2.out)
  go_wp2_with fail
  refine (tload lR O2.out i (fun u hu => .pop hu) HI.out x HX.out).mono ?_
  rintro e w3 ⟨rfl, o3⟩
  have O3 : Hid (Own (Sep (BO m (popO P T (i : Int) 1 x page y)) (Sep (AX q P T p r s' pg ds dn L) (Sep (BO rb (.cells #[.int .i64 0, .int .i64 0, .int .u64 0, .int .u64 0] 50 (0, 0))) R))) w0 w3) := hide (by rw [HS.out] at o3; exact o3)
  clear o3 O2 c3
  have c4 : w3.cell? ⟨m, 4, none⟩ = some (.int .u64 (x : Int)) := cell_of_heap (Own.boAt O3.out)
  go_wp2_with fail
  refine (HPG.out _).mono ?_
  rintro e w4 ⟨rfl, qq, rfl⟩
  have O4 := hide (O3.out.below (Loc.bo.sep (Loc.ax.sep lR)) ((Alike.drewN w3 qq).below _))
  clear O3 c4
  generalize w3.drewN qq = w4 at *
  have c5 : w4.cell? ⟨m, 5, none⟩ = some (.int .i64 page) := cell_of_heap (Own.boAt O4.out)
  have f5 : ∀ o, w4.frozen? ⟨m, o, none⟩ = false := fun o => frozen_of_heap (Own.boAt O4.out)
  have O5 : Hid (Own (Sep (BO m (popO P T (i : Int) 1 x pv y)) (Sep (AX q P T p r s' pg ds dn L) (Sep (BO rb (.cells #[.int .i64 0, .int .i64 0, .int .u64 0, .int .u64 0] 50 (0, 0))) R))) w0 (w4.setCell ⟨m, 5, none⟩ (.int .i64 pv))) := hide (Own.boSet (Loc.ax.sep lR) O4.out 5 (.int .i64 pv))
  go_wp2
  clear O4 c5 f5
  generalize w4.setCell ⟨m, 5, none⟩ (.int .i64 pv) = w5 at *
  have hne : Nonempty (Over w5) := ⟨⟨_, Below.refl _ _⟩⟩
  have u0 := fun u => over_cell (show w5.cell? ⟨m, 0, none⟩ = some (.int .i64 P) from cell_of_heap (Own.boAt O5.out)) u
  have u1 := fun u => over_cell (show w5.cell? ⟨m, 1, none⟩ = some (.int .i64 T) from cell_of_heap (Own.boAt O5.out)) u
  have u5 := fun u => over_cell (show w5.cell? ⟨m, 5, none⟩ = some (.int .i64 pv) from cell_of_heap (Own.boAt O5.out)) u
  refine over_region (by kernel_rfl) (by kernel_rfl) ?_
  repeat (go_big_quiet_step (first | (go_at_call 37; exact over_call _ (HK.out _))))
  refine wpQuiet_nil ?_
  rintro _ ⟨u, rfl⟩
  have O6 := hide (O5.out.below (Loc.bo.sep (Loc.ax.sep lR)) u.h)
  clear u0 u1 u5 O5 hne
  generalize u.w' = w6 at *
  go_wp2_with fail
  refine (storeX (O6.out.cast BO.swap)).mono ?_
  rintro e w91 ⟨rfl, rfl⟩
  go_wp2_with fail
  refine (lastX (Loc.bo.sep lR) (O6.out.cast BO.swap)).mono ?_
  rintro e w95 ⟨rfl, o95⟩
  have O95 := hide (o95.cast (R' := Sep (BO rb (.cells #[.int .i64 0, .int .i64 0, .int .u64 0, .int .u64 0] 50 (0, 0))) (Sep (BO m (popO P T (i : Int) 1 x pv y)) (Sep (AX q P T p r (s') pg ds dn L) R))) (by ac_rfl))
  clear o95 O6
  have r0 : w95.cell? ⟨rb, 0, none⟩ = some (.int .i64 0) := cell_of_heap (Own.boAt O95.out)
  have r1 : w95.cell? ⟨rb, 1, none⟩ = some (.int .i64 0) := cell_of_heap (Own.boAt O95.out)
  have r2 : w95.cell? ⟨rb, 2, none⟩ = some (.int .u64 0) := cell_of_heap (Own.boAt O95.out)
  have r3 : w95.cell? ⟨rb, 3, none⟩ = some (.int .u64 0) := cell_of_heap (Own.boAt O95.out)
  have fr : ∀ o, w95.frozen? ⟨rb, o, none⟩ = false := fun o => frozen_of_heap (Own.boAt O95.out)
  unfold St.did
  go_wp2
  refine Own.putDid (Q := bodyPost _ _ _ _ _) (Loc.bo.sep (Loc.ax.sep l)) O95.out ?_
  intro W hW z0 z1 z2 z3
  refine bodyPost_ret (by simp [results, Try.results12, z0, z1, z2, z3, go_sem]; try rfl) rfl ?_
  exact ⟨rfl, hW⟩

set_option maxHeartbeats 4000000 in
theorem pop0b (l : Loc R) {was : Nat} {page y : Int} (i : Nat) (h : Own (Sep (BO m (popO P T (i : Int) 0 was page y)) (Sep (AX q P T p r s pg ds dn L) R)) w0 w) (hi : i < s.words.length) (x : Nat) (hx : s.words.getD i 0 = x) (hxb : x < 18446744073709551616) (pv : Int) (hp : Tg.page x = pv) (hok : (Lay.page P T 11 pv).2 = false) (s' : St) (hs : s.load i = s') :
    Calls Try.prog 12 #[.pointer (some ⟨m, 0, none⟩), .pointer (some ⟨q, 0, none⟩)] w fun e w' => e = .returned (s').did ∧ Own (Sep (BO m (popO P T (i : Int) 3 x (-1) y)) (Sep (AX q P T p r (s') pg ds dn L) R)) w0 w' := by
  have HX := hide hx
  have HS := hide hs
  have HPG := hide (fun w => page11 x hxb w)
  rw [hp] at HPG
  have HK := hide (fun w => knext P T pv w)
  rw [hok] at HK
  generalize (Lay.page P T 11 pv).1 = at' at *
  clear hx hs hp hok hxb
  have lR : Loc (Sep (BO w.heap.size didO) R) := Loc.bo.sep l
  have O1 := hide ((Own.boNew (m := w.heap.size) (o := didO) (Loc.bo.sep (Loc.ax.sep l)) h (heap_alloc_at w didO) (Nat.le_refl _) (grown1 w _)).cast (R' := Sep (BO m (popO P T (i : Int) 0 was page y)) (Sep (AX q P T p r s pg ds dn L) (Sep (BO w.heap.size didO) R))) (by ac_rfl))
  clear h
  have HI := hide hi
  clear hi
  unfold didO at O1
  go_enter Try.func12, Try.ntmps12
  go_wp2_with fail
  generalize w.alloc (.cells #[.int .i64 0, .int .i64 0, .int .u64 0, .int .u64 0] 50) = w1 at *
  generalize w.heap.size = rb at *
  refine (mayYes w1 m P T i 0 was (.pop (Own.boAt O1.out)) (by omega) q p r s.words.length (ArAt.of (O1.out.cast BO.swap)) (by have := HI.out; omega)).mono ?_
  rintro e w2 ⟨rfl, b2⟩
  have O2 := hide (O1.out.below (Loc.bo.sep (Loc.ax.sep lR)) b2)
  clear O1 b2
  have c3 : w2.cell? ⟨m, 3, none⟩ = some (.int .i64 0) := cell_of_heap (Own.boAt O2.out)
  go_wp2_with fail
  refine (tload lR O2.out i (fun u hu => .pop hu) HI.out x HX.out).mono ?_
  rintro e w3 ⟨rfl, o3⟩
  have O3 : Hid (Own (Sep (BO m (popO P T (i : Int) 1 x page y)) (Sep (AX q P T p r s' pg ds dn L) (Sep (BO rb (.cells #[.int .i64 0, .int .i64 0, .int .u64 0, .int .u64 0] 50 (0, 0))) R))) w0 w3) := hide (by rw [HS.out] at o3; exact o3)
  clear o3 O2 c3
  have c4 : w3.cell? ⟨m, 4, none⟩ = some (.int .u64 (x : Int)) := cell_of_heap (Own.boAt O3.out)
  go_wp2_with fail
  refine (HPG.out _).mono ?_
  rintro e w4 ⟨rfl, qq, rfl⟩
  have O4 := hide (O3.out.below (Loc.bo.sep (Loc.ax.sep lR)) ((Alike.drewN w3 qq).below _))
  clear O3 c4
  generalize w3.drewN qq = w4 at *
  have c5 : w4.cell? ⟨m, 5, none⟩ = some (.int .i64 page) := cell_of_heap (Own.boAt O4.out)
  have f5 : ∀ o, w4.frozen? ⟨m, o, none⟩ = false := fun o => frozen_of_heap (Own.boAt O4.out)
  have O5 : Hid (Own (Sep (BO m (popO P T (i : Int) 1 x pv y)) (Sep (AX q P T p r s' pg ds dn L) (Sep (BO rb (.cells #[.int .i64 0, .int .i64 0, .int .u64 0, .int .u64 0] 50 (0, 0))) R))) w0 (w4.setCell ⟨m, 5, none⟩ (.int .i64 pv))) := hide (Own.boSet (Loc.ax.sep lR) O4.out 5 (.int .i64 pv))
  go_wp2
  clear O4 c5 f5
  generalize w4.setCell ⟨m, 5, none⟩ (.int .i64 pv) = w5 at *
  have hne : Nonempty (Over w5) := ⟨⟨_, Below.refl _ _⟩⟩
  have u0 := fun u => over_cell (show w5.cell? ⟨m, 0, none⟩ = some (.int .i64 P) from cell_of_heap (Own.boAt O5.out)) u
  have u1 := fun u => over_cell (show w5.cell? ⟨m, 1, none⟩ = some (.int .i64 T) from cell_of_heap (Own.boAt O5.out)) u
  have u5 := fun u => over_cell (show w5.cell? ⟨m, 5, none⟩ = some (.int .i64 pv) from cell_of_heap (Own.boAt O5.out)) u
  refine over_region (by kernel_rfl) (by kernel_rfl) ?_
  repeat (go_big_quiet_step (first | (go_at_call 37; exact over_call _ (HK.out _))))
  refine wpQuiet_nil ?_
  rintro _ ⟨u, rfl⟩
  have O6 := hide (O5.out.below (Loc.bo.sep (Loc.ax.sep lR)) u.h)
  clear u0 u1 u5 O5 hne
  generalize u.w' = w6 at *
  have k5 : w6.cell? ⟨m, 5, none⟩ = some (.int .i64 pv) := cell_of_heap (Own.boAt O6.out)
  have kf : ∀ o, w6.frozen? ⟨m, o, none⟩ = false := fun o => frozen_of_heap (Own.boAt O6.out)
  have O7 : Hid (Own (Sep (BO m (popO P T (i : Int) 1 x (-1) y)) (Sep (AX q P T p r s' pg ds dn L) (Sep (BO rb (.cells #[.int .i64 0, .int .i64 0, .int .u64 0, .int .u64 0] 50 (0, 0))) R))) w0 (w6.setCell ⟨m, 5, none⟩ (.int .i64 (-1)))) := hide (Own.boSet (Loc.ax.sep lR) O6.out 5 (.int .i64 (-1)))
  have k3 : (w6.setCell ⟨m, 5, none⟩ (.int .i64 (-1))).cell? ⟨m, 3, none⟩ = some (.int .i64 1) := cell_of_heap (Own.boAt O7.out)
  have kf7 : ∀ o, (w6.setCell ⟨m, 5, none⟩ (.int .i64 (-1))).frozen? ⟨m, o, none⟩ = false := fun o => frozen_of_heap (Own.boAt O7.out)
  have O8 : Hid (Own (Sep (BO m (popO P T (i : Int) 3 x (-1) y)) (Sep (AX q P T p r s' pg ds dn L) (Sep (BO rb (.cells #[.int .i64 0, .int .i64 0, .int .u64 0, .int .u64 0] 50 (0, 0))) R))) w0 ((w6.setCell ⟨m, 5, none⟩ (.int .i64 (-1))).setCell ⟨m, 3, none⟩ (.int .i64 3))) := hide (Own.boSet (Loc.ax.sep lR) O7.out 3 (.int .i64 3))
  go_wp2_with fail
  clear k5 kf k3 kf7 O6 O7
  generalize (w6.setCell ⟨m, 5, none⟩ (.int .i64 (-1))).setCell ⟨m, 3, none⟩ (.int .i64 3) = w8 at *
  refine (storeX (O8.out.cast BO.swap)).mono ?_
  rintro e w91 ⟨rfl, rfl⟩
  go_wp2_with fail
  refine (lastX (Loc.bo.sep lR) (O8.out.cast BO.swap)).mono ?_
  rintro e w95 ⟨rfl, o95⟩
  have O95 := hide (o95.cast (R' := Sep (BO rb (.cells #[.int .i64 0, .int .i64 0, .int .u64 0, .int .u64 0] 50 (0, 0))) (Sep (BO m (popO P T (i : Int) 3 x (-1) y)) (Sep (AX q P T p r (s') pg ds dn L) R))) (by ac_rfl))
  clear o95 O8
  have r0 : w95.cell? ⟨rb, 0, none⟩ = some (.int .i64 0) := cell_of_heap (Own.boAt O95.out)
  have r1 : w95.cell? ⟨rb, 1, none⟩ = some (.int .i64 0) := cell_of_heap (Own.boAt O95.out)
  have r2 : w95.cell? ⟨rb, 2, none⟩ = some (.int .u64 0) := cell_of_heap (Own.boAt O95.out)
  have r3 : w95.cell? ⟨rb, 3, none⟩ = some (.int .u64 0) := cell_of_heap (Own.boAt O95.out)
  have fr : ∀ o, w95.frozen? ⟨rb, o, none⟩ = false := fun o => frozen_of_heap (Own.boAt O95.out)
  unfold St.did
  go_wp2
  refine Own.putDid (Q := bodyPost _ _ _ _ _) (Loc.bo.sep (Loc.ax.sep l)) O95.out ?_
  intro W hW z0 z1 z2 z3
  refine bodyPost_ret (by simp [results, Try.results12, z0, z1, z2, z3, go_sem]; try rfl) rfl ?_
  exact ⟨rfl, hW⟩

set_option maxHeartbeats 4000000 in
theorem pop1 (l : Loc R) {was : Nat} {page y : Int} (i : Nat) (h : Own (Sep (BO m (popO P T (i : Int) 1 was page y)) (Sep (AX q P T p r s pg ds dn L) R)) w0 w) (hi : i < s.words.length) (j : Nat) (hj : (Lay.page P T 11 page).1 = (j : Int)) (hjl : j < s.words.length) (x : Nat) (hx : s.words.getD j 0 = x) (hxb : x < 18446744073709551616) (pv : Int) (hp : (if x ≤ 4096 then (x : Int) - 1 else -1) = pv) (s' : St) (hs : s.load j = s') :
    Calls Try.prog 12 #[.pointer (some ⟨m, 0, none⟩), .pointer (some ⟨q, 0, none⟩)] w fun e w' => e = .returned (s').did ∧ Own (Sep (BO m (popO P T (i : Int) 2 was page pv)) (Sep (AX q P T p r (s') pg ds dn L) R)) w0 w' := by
  have HX := hide hx
  have HS := hide hs
  have HJL := hide hjl
  have HNM := hide (fun w => knamed x hxb w)
  rw [hp] at HNM
  have HK := hide (fun w => knext P T page w)
  rw [hj] at HK
  generalize (Lay.page P T 11 page).2 = ok' at *
  clear hx hs hp hj hjl hxb
  have lR : Loc (Sep (BO w.heap.size didO) R) := Loc.bo.sep l
  have O1 := hide ((Own.boNew (m := w.heap.size) (o := didO) (Loc.bo.sep (Loc.ax.sep l)) h (heap_alloc_at w didO) (Nat.le_refl _) (grown1 w _)).cast (R' := Sep (BO m (popO P T (i : Int) 1 was page y)) (Sep (AX q P T p r s pg ds dn L) (Sep (BO w.heap.size didO) R))) (by ac_rfl))
  clear h
  have HI := hide hi
  clear hi
  unfold didO at O1
  go_enter Try.func12, Try.ntmps12
  go_wp2_with fail
  generalize w.alloc (.cells #[.int .i64 0, .int .i64 0, .int .u64 0, .int .u64 0] 50) = w1 at *
  generalize w.heap.size = rb at *
  refine (mayYes w1 m P T i 1 was (.pop (Own.boAt O1.out)) (by omega) q p r s.words.length (ArAt.of (O1.out.cast BO.swap)) (by have := HI.out; omega)).mono ?_
  rintro e w2 ⟨rfl, b2⟩
  have O2 := hide (O1.out.below (Loc.bo.sep (Loc.ax.sep lR)) b2)
  clear O1 b2
  have c3 : w2.cell? ⟨m, 3, none⟩ = some (.int .i64 1) := cell_of_heap (Own.boAt O2.out)
  go_wp2_with fail
  have hne : Nonempty (Over w2) := ⟨⟨_, Below.refl _ _⟩⟩
  have u0 := fun u => over_cell (show w2.cell? ⟨m, 0, none⟩ = some (.int .i64 P) from cell_of_heap (Own.boAt O2.out)) u
  have u1 := fun u => over_cell (show w2.cell? ⟨m, 1, none⟩ = some (.int .i64 T) from cell_of_heap (Own.boAt O2.out)) u
  have u5 := fun u => over_cell (show w2.cell? ⟨m, 5, none⟩ = some (.int .i64 page) from cell_of_heap (Own.boAt O2.out)) u
  refine over_region (by kernel_rfl) (by kernel_rfl) ?_
  repeat (go_big_quiet_step (first | (go_at_call 37; exact over_call _ (HK.out _))))
  refine wpQuiet_nil ?_
  rintro _ ⟨u, rfl⟩
  have O3 := hide (O2.out.below (Loc.bo.sep (Loc.ax.sep lR)) u.h)
  clear u0 u1 u5 O2 hne
  generalize u.w' = w3 at *
  go_wp2_with fail
  refine (storeX (O3.out.cast BO.swap)).mono ?_
  rintro e w4 ⟨rfl, rfl⟩
  go_wp2_with fail
  refine (loadX (Loc.bo.sep lR) (O3.out.cast BO.swap) j HJL.out).mono ?_
  rintro e w4 ⟨rfl, o4⟩
  rw [HX.out]
  have O4 : Hid (Own (Sep (BO m (popO P T (i : Int) 1 was page y)) (Sep (AX q P T p r s' pg ds dn L) (Sep (BO rb (.cells #[.int .i64 0, .int .i64 0, .int .u64 0, .int .u64 0] 50 (0, 0))) R))) w0 w4) := hide (by rw [HS.out] at o4; exact o4.cast BO.swap.symm)
  clear o4 O3 c3
  go_wp2_with fail
  refine (HNM.out _).mono ?_
  rintro e w4 ⟨rfl, rfl⟩
  have k6 : w4.cell? ⟨m, 6, none⟩ = some (.int .i64 y) := cell_of_heap (Own.boAt O4.out)
  have kf : ∀ o, w4.frozen? ⟨m, o, none⟩ = false := fun o => frozen_of_heap (Own.boAt O4.out)
  have O7 : Hid (Own (Sep (BO m (popO P T (i : Int) 1 was page pv)) (Sep (AX q P T p r s' pg ds dn L) (Sep (BO rb (.cells #[.int .i64 0, .int .i64 0, .int .u64 0, .int .u64 0] 50 (0, 0))) R))) w0 (w4.setCell ⟨m, 6, none⟩ (.int .i64 pv))) := hide (Own.boSet (Loc.ax.sep lR) O4.out 6 (.int .i64 pv))
  have k3 : (w4.setCell ⟨m, 6, none⟩ (.int .i64 pv)).cell? ⟨m, 3, none⟩ = some (.int .i64 1) := cell_of_heap (Own.boAt O7.out)
  have kf7 : ∀ o, (w4.setCell ⟨m, 6, none⟩ (.int .i64 pv)).frozen? ⟨m, o, none⟩ = false := fun o => frozen_of_heap (Own.boAt O7.out)
  have O8 : Hid (Own (Sep (BO m (popO P T (i : Int) 2 was page pv)) (Sep (AX q P T p r s' pg ds dn L) (Sep (BO rb (.cells #[.int .i64 0, .int .i64 0, .int .u64 0, .int .u64 0] 50 (0, 0))) R))) w0 ((w4.setCell ⟨m, 6, none⟩ (.int .i64 pv)).setCell ⟨m, 3, none⟩ (.int .i64 2))) := hide (Own.boSet (Loc.ax.sep lR) O7.out 3 (.int .i64 2))
  go_wp2_with fail
  clear k6 kf k3 kf7 O4 O7
  generalize (w4.setCell ⟨m, 6, none⟩ (.int .i64 pv)).setCell ⟨m, 3, none⟩ (.int .i64 2) = w8 at *
  refine (storeX (O8.out.cast BO.swap)).mono ?_
  rintro e w91 ⟨rfl, rfl⟩
  go_wp2_with fail
  refine (lastX (Loc.bo.sep lR) (O8.out.cast BO.swap)).mono ?_
  rintro e w95 ⟨rfl, o95⟩
  have O95 := hide (o95.cast (R' := Sep (BO rb (.cells #[.int .i64 0, .int .i64 0, .int .u64 0, .int .u64 0] 50 (0, 0))) (Sep (BO m (popO P T (i : Int) 2 was page pv)) (Sep (AX q P T p r (s') pg ds dn L) R))) (by ac_rfl))
  clear o95 O8
  have r0 : w95.cell? ⟨rb, 0, none⟩ = some (.int .i64 0) := cell_of_heap (Own.boAt O95.out)
  have r1 : w95.cell? ⟨rb, 1, none⟩ = some (.int .i64 0) := cell_of_heap (Own.boAt O95.out)
  have r2 : w95.cell? ⟨rb, 2, none⟩ = some (.int .u64 0) := cell_of_heap (Own.boAt O95.out)
  have r3 : w95.cell? ⟨rb, 3, none⟩ = some (.int .u64 0) := cell_of_heap (Own.boAt O95.out)
  have fr : ∀ o, w95.frozen? ⟨rb, o, none⟩ = false := fun o => frozen_of_heap (Own.boAt O95.out)
  unfold St.did
  go_wp2
  refine Own.putDid (Q := bodyPost _ _ _ _ _) (Loc.bo.sep (Loc.ax.sep l)) O95.out ?_
  intro W hW z0 z1 z2 z3
  refine bodyPost_ret (by simp [results, Try.results12, z0, z1, z2, z3, go_sem]; try rfl) rfl ?_
  exact ⟨rfl, hW⟩

end
end Go.Proofs.Ytafamfjgehnddaa
