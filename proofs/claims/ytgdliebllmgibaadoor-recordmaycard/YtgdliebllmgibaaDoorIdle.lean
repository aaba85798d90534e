/- Machines that have nothing to do, of any kind: in no arena, in one of another layout; no machine. -/
import Derived.Test.YtgdliebllmgibaaDoorPS
namespace Go.Proofs.YtgdliebllmgibaaDoor
open Go.RowKit

/-- Two arenas at hand: none, and the one at q. -/
def HandQ (q : Nat) (qa : Option Addr) : Prop := qa = none ∨ qa = some ⟨q, 0, none⟩
/-- The machine v (its Step fs, its Done fd) has nothing to do in any world above w. -/
structure Idle (fs fd : FuncId) (q : Nat) (v : Value) (w : World) : Prop where
  step : ∀ (qa : Option Addr), HandQ q qa → ∀ u : World, Below w.heap.size w u → Calls Tryd.prog fs #[v, .pointer qa] u fun e u' => e = .returned noDid ∧ Below u.heap.size u u'
  done : ∀ u : World, Below w.heap.size w u → Calls Tryd.prog fd #[v] u fun e u' => e = .returned (.bool false) ∧ Below u.heap.size u u'
theorem Idle.grow {fs fd : FuncId} {q : Nat} {v : Value} {w w' : World} (h : Idle fs fd q v w) (b : Below w.heap.size w w') : Idle fs fd q v w' :=
  ⟨fun qa hq u hu => h.step qa hq u (b.trans (hu.mono b.size)), fun u hu => h.done u (b.trans (hu.mono b.size))⟩

/-- An arena that a call made lies in new blocks. -/
theorem Own.arNew {R : Res} {w0 w : World} {q : Nat} {P T : Int} {p r : Nat} {s : St} {pg : Nat} {ds : List Nat} {dn : Nat} {L : RL} (h : Own (Sep (AX q P T p r s pg ds dn L) R) w0 w) :
    w0.heap.size ≤ q ∧ w0.heap.size ≤ p ∧ ∃ b, StoreAt 104 w p b s ∧ w0.heap.size ≤ b := by
  obtain ⟨G, ⟨G1, G2, ⟨A1, A2, ⟨_, e⟩, ⟨B1, B2, ⟨b, hS, eS⟩, _, _, dB⟩, _, dA⟩, _, _, d⟩, h2, _⟩ := h
  exact ⟨h2 q ((d q).2 (.inl ((dA q).2 (.inl ((e q).2 rfl))))), h2 p ((d p).2 (.inl ((dA p).2 (.inr ((dB p).2 (.inl ((eS p).2 (.inl rfl)))))))), b, hS, h2 b ((d b).2 (.inl ((dA b).2 (.inr ((dB b).2 (.inl ((eS b).2 (.inr rfl))))))))⟩
theorem countAt {w u : World} {pa : Nat} (h : ∃ b s, StoreAt 104 w pa b s ∧ s.count = 0) (hb : Below w.heap.size w u) :
    Calls Tryd.prog 27 #[.pointer (some ⟨pa, 0, none⟩)] u fun e u' => e = .returned (.int .i64 0) ∧ Below u.heap.size u u' := by
  obtain ⟨b, s, h1, h2⟩ := h
  have := count_of u pa b s (h1.below hb)
  rw [h2] at this
  exact this.mono fun _ _ hh => ⟨hh.1, by rw [hh.2]; exact Below.refl _ _⟩
end Go.Proofs.YtgdliebllmgibaaDoor
