/- Things beside one another, in any order. (Of any program.) -/
import Derived.Test.YtafamfjgehnddaaTreSep
namespace Go.Proofs.Ytafamfjgehnddaa
open Go.RowKit

theorem Sep.comm' (A B : Res) : Sep A B = Sep B A := by
  funext w G
  apply propext
  constructor <;> (rintro ⟨G1, G2, a, b, c, d⟩; exact ⟨G2, G1, b, a, fun x hx h => c x h hx, fun x => (d x).trans or_comm⟩)
theorem Sep.assoc' (A B C : Res) : Sep (Sep A B) C = Sep A (Sep B C) := by
  funext w G
  apply propext
  constructor
  · rintro ⟨G12, G3, ⟨G1, G2, a, b, c, d⟩, e, f, g⟩
    refine ⟨G1, fun x => G2 x ∨ G3 x, a, ⟨G2, G3, b, e, fun x hx h => f x ((d x).2 (.inr hx)) h, fun _ => Iff.rfl⟩, fun x hx h => h.elim (c x hx) (f x ((d x).2 (.inl hx))), fun x => ?_⟩
    rw [g x, d x, or_assoc]
  · rintro ⟨G1, G23, a, ⟨G2, G3, b, e, f, g⟩, c, d⟩
    refine ⟨fun x => G1 x ∨ G2 x, G3, ⟨G1, G2, a, b, fun x hx h => c x hx ((g x).2 (.inl h)), fun _ => Iff.rfl⟩, e, fun x hx h => hx.elim (fun q => c x q ((g x).2 (.inr h))) (fun q => f x q h), fun x => ?_⟩
    rw [d x, g x, or_assoc]
instance : Std.Commutative Sep := ⟨Sep.comm'⟩
instance : Std.Associative Sep := ⟨Sep.assoc'⟩

theorem Own.cast {R R' : Res} {w0 w : World} (h : Own R w0 w) (e : R = R') : Own R' w0 w := e ▸ h

/-- Something new. -/
theorem Own.fresh {R1 R : Res} {w0 w w' : World} {G : Nat → Prop} (l : Loc R) (h : Own R w0 w) (h1 : R1 w' G) (hn : ∀ x, G x → w.heap.size ≤ x) (b : Below w.heap.size w w') : Own (Sep R1 R) w0 w' := by
  obtain ⟨G2, a2, h2, h3⟩ := h
  refine ⟨fun x => G x ∨ G2 x, ⟨G, G2, h1, l.kept a2 (Below.only b (fun _ => False)) (fun _ _ h => h), fun x hx q => ?_, fun _ => Iff.rfl⟩, fun x hx => ?_, h3.trans (b.mono h3.size)⟩
  · have := l.lt a2 q; have := hn x hx; omega
  · rcases hx with hx | hx
    · exact Nat.le_trans h3.size (hn x hx)
    · exact h2 x hx
end Go.Proofs.Ytafamfjgehnddaa
