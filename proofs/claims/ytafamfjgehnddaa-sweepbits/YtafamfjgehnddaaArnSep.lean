/- A store, an arena's head, as such things. -/
import Derived.Test.YtafamfjgehnddaaArn
import Derived.Test.YtafamfjgehnddaaSepAc
namespace Go.Proofs.Ytafamfjgehnddaa
open Go.RowKit

/-- The program's store at p. -/
def SS (p : Nat) (s : St) : Res := fun w G => ∃ b, StoreAt 104 w p b s ∧ ∀ x, G x ↔ x = p ∨ x = b
theorem Loc.ss {p : Nat} {s : St} : Loc (SS p s) :=
  ⟨fun ⟨b, h, e⟩ o hn => ⟨b, h.kept o (hn p ((e p).2 (.inl rfl))) (hn b ((e b).2 (.inr rfl))), e⟩, fun {w G x} ⟨b, h, e⟩ hx => by
    rcases (e x).1 hx with rfl | rfl
    · exact lt_of_heap h.head
    · exact lt_of_heap h.row⟩
theorem Own.store {p : Nat} {s : St} {R : Res} {w0 w : World} (l : Loc R) (h : Own (Sep (SS p s) R) w0 w) :
    ∃ b, StoreAt 104 w p b s ∧ ∀ {w' s'}, StoreAt 104 w' p b s' → Only (fun k => k = p ∨ k = b) w w' → Own (Sep (SS p s') R) w0 w' := by
  obtain ⟨G, ⟨G1, G2, ⟨b, h1, e⟩, r, c, d⟩, h2, h3⟩ := h
  refine ⟨b, h1, fun {w' s'} g1 g2 => ?_⟩
  exact Own.step (G1 := G1) (G1' := G1) (G2 := G2) l h3 (fun x hx => h2 x ((d x).2 hx)) r c ⟨b, g1, e⟩ (g2.mono (fun x _ hx => (e x).2 hx)) (fun x hx => .inl hx)

/-- The arena's head at q. -/
def AH (q : Nat) (P T : Int) (p r : Nat) : Res := fun w G => w.heap[q]? = some (.cells #[.int .i64 P, .int .i64 T, .pointer (some ⟨p, 0, none⟩), .pointer (some ⟨r, 0, none⟩)] 117 (0, 0)) ∧ ∀ x, G x ↔ x = q
theorem Loc.ah {q : Nat} {P T : Int} {p r : Nat} : Loc (AH q P T p r) :=
  ⟨fun ⟨h, e⟩ o hn => ⟨(o.block q (lt_of_heap h) (hn q ((e q).2 rfl))).trans h, e⟩, fun {w G x} ⟨h, e⟩ hx => by rw [(e x).1 hx]; exact lt_of_heap h⟩

/-- An arena. -/
def AX (q : Nat) (P T : Int) (p r : Nat) (s : St) (pg : Nat) (ds : List Nat) (dn : Nat) (L : RL) : Res := Sep (AH q P T p r) (Sep (SS p s) (RR r pg ds dn L))
theorem Loc.ax {q : Nat} {P T : Int} {p r : Nat} {s : St} {pg : Nat} {ds : List Nat} {dn : Nat} {L : RL} : Loc (AX q P T p r s pg ds dn L) := Loc.ah.sep (Loc.ss.sep Loc.rr)

section
variable {R : Res} {w0 w : World} {q : Nat} {P T : Int} {p r : Nat} {s : St} {pg : Nat} {ds : List Nat} {dn : Nat} {L : RL}
theorem AX.toStore : Sep (AX q P T p r s pg ds dn L) R = Sep (SS p s) (Sep (AH q P T p r) (Sep (RR r pg ds dn L) R)) := by unfold AX; ac_rfl
theorem AX.toRuns : Sep (AX q P T p r s pg ds dn L) R = Sep (RR r pg ds dn L) (Sep (AH q P T p r) (Sep (SS p s) R)) := by unfold AX; ac_rfl
theorem Loc.one (l : Loc R) : Loc (Sep (AH q P T p r) (Sep (RR r pg ds dn L) R)) := Loc.ah.sep (Loc.rr.sep l)
theorem Loc.two (l : Loc R) : Loc (Sep (AH q P T p r) (Sep (SS p s) R)) := Loc.ah.sep (Loc.ss.sep l)
theorem AX.head (h : Own (Sep (AX q P T p r s pg ds dn L) R) w0 w) : w.heap[q]? = some (.cells #[.int .i64 P, .int .i64 T, .pointer (some ⟨p, 0, none⟩), .pointer (some ⟨r, 0, none⟩)] 117 (0, 0)) := by
  obtain ⟨_, ⟨_, _, ⟨_, _, a, _⟩, _⟩, _⟩ := h
  exact a.1
theorem AX.st (h : Own (Sep (AX q P T p r s pg ds dn L) R) w0 w) : ∃ b, StoreAt 104 w p b s := by
  obtain ⟨_, ⟨_, _, ⟨_, _, _, ⟨_, _, ⟨b, a, _⟩, _⟩, _⟩, _⟩, _⟩ := h
  exact ⟨b, a⟩

theorem storeX (h : Own (Sep (AX q P T p r s pg ds dn L) R) w0 w) : Calls Try.prog 30 #[.pointer (some ⟨q, 0, none⟩)] w fun e w' => e = .returned (.pointer (some ⟨p, 0, none⟩)) ∧ w' = w := by
  have c2 : w.cell? ⟨q, 2, none⟩ = some (.pointer (some ⟨p, 0, none⟩)) := cell_of_heap (AX.head h)
  clear h
  go_enter Try.func30, Try.ntmps30
  go_wp2
  go_ret
  exact ⟨rfl, rfl⟩
theorem runsX (h : Own (Sep (AX q P T p r s pg ds dn L) R) w0 w) : Calls Try.prog 62 #[.pointer (some ⟨q, 0, none⟩)] w fun e w' => e = .returned (.pointer (some ⟨r, 0, none⟩)) ∧ w' = w := by
  have c2 : w.cell? ⟨q, 3, none⟩ = some (.pointer (some ⟨r, 0, none⟩)) := cell_of_heap (AX.head h)
  clear h
  go_enter Try.func62, Try.ntmps62
  go_wp2
  go_ret
  exact ⟨rfl, rfl⟩
theorem layoutX (h : Own (Sep (AX q P T p r s pg ds dn L) R) w0 w) : Calls Try.prog 26 #[.pointer (some ⟨q, 0, none⟩)] w fun e w' => e = .returned (.agg #[.int .i64 P, .int .i64 T]) ∧ Below w.heap.size w w' := by
  have c0 : w.cell? ⟨q, 0, none⟩ = some (.int .i64 P) := cell_of_heap (AX.head h)
  have c1 : w.cell? ⟨q, 1, none⟩ = some (.int .i64 T) := cell_of_heap (AX.head h)
  have d0 : ∀ o, (w.alloc o).cell? ⟨q, 0, none⟩ = some (.int .i64 P) := fun o => cell_of_heap (heap_alloc_old (AX.head h))
  have d1 : ∀ o, (w.alloc o).cell? ⟨q, 1, none⟩ = some (.int .i64 T) := fun o => cell_of_heap (heap_alloc_old (AX.head h))
  clear h
  go_enter Try.func26, Try.ntmps26
  go_wp2
  go_returns
  exact ⟨rfl, grown1 _ _⟩
end

theorem layoutNil (w : World) : Calls Try.prog 26 #[.pointer none] w fun e w' => e = .returned (.agg #[.int .i64 0, .int .i64 0]) ∧ Below w.heap.size w w' := by
  go_enter Try.func26, Try.ntmps26
  go_wp2
  go_returns
  exact ⟨rfl, grown1 _ _⟩
theorem storeNil (w : World) : Calls Try.prog 30 #[.pointer none] w fun e w' => e = .returned (.pointer none) ∧ w' = w := by
  go_enter Try.func30, Try.ntmps30
  go_wp2
  go_ret
  exact ⟨rfl, rfl⟩
theorem runsNil (w : World) : Calls Try.prog 62 #[.pointer none] w fun e w' => e = .returned (.pointer none) ∧ w' = w := by
  go_enter Try.func62, Try.ntmps62
  go_wp2
  go_ret
  exact ⟨rfl, rfl⟩
end Go.Proofs.Ytafamfjgehnddaa
