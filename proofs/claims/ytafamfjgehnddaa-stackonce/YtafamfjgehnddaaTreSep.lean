/- Several things in memory, each in blocks of its own. (Of any program.) -/
import Derived.Test.YtafamfjgehnddaaTreList
namespace Go.Proofs.Ytafamfjgehnddaa
open Go.RowKit

/-- What lies in a world, in the blocks G. -/
abbrev Res := World → (Nat → Prop) → Prop
structure Loc (R : Res) : Prop where
  kept : ∀ {w w' : World} {M G : Nat → Prop}, R w G → Only M w w' → (∀ x, G x → ¬ M x) → R w' G
  lt : ∀ {w : World} {G : Nat → Prop} {x : Nat}, R w G → G x → x < w.heap.size
def Sep (R1 R2 : Res) : Res := fun w G => ∃ G1 G2, R1 w G1 ∧ R2 w G2 ∧ (∀ x, G1 x → ¬ G2 x) ∧ (∀ x, G x ↔ G1 x ∨ G2 x)
theorem Loc.sep {R1 R2 : Res} (h1 : Loc R1) (h2 : Loc R2) : Loc (Sep R1 R2) :=
  ⟨fun ⟨G1, G2, a, b, c, d⟩ o hn => ⟨G1, G2, h1.kept a o (fun x hx => hn x ((d x).2 (.inl hx))), h2.kept b o (fun x hx => hn x ((d x).2 (.inr hx))), c, d⟩,
   fun ⟨_, _, a, b, _, d⟩ hx => ((d _).1 hx).elim (h1.lt a) (h2.lt b)⟩
/-- The tree at t, of the items L. -/
def RT {α : Type} (S : Sh α) (TT : TypeId) (t : Nat) (L : List (It α)) : Res := fun w G => ∃ T, TAt S TT w t T L ∧ ∀ x, G x ↔ Ftp t T x
theorem Loc.rt {α : Type} {S : Sh α} {TT : TypeId} {t : Nat} {L : List (It α)} : Loc (RT S TT t L) :=
  ⟨fun ⟨T, a, b⟩ o hn => ⟨T, a.kept o (fun x hx => hn x ((b x).2 hx)), b⟩, fun ⟨_, a, b⟩ hx => a.lt ((b _).1 hx)⟩

/-- What a call has of its own. -/
def Own (R : Res) (w0 w : World) : Prop := ∃ G, R w G ∧ (∀ x, G x → w0.heap.size ≤ x) ∧ Below w0.heap.size w0 w
theorem Own.below {R : Res} {w0 w w' : World} (l : Loc R) (h : Own R w0 w) (b : Below w.heap.size w w') : Own R w0 w' := by
  obtain ⟨G, h1, h2, h3⟩ := h
  exact ⟨G, l.kept h1 (Below.only b (fun _ => False)) (fun _ _ h => h), h2, h3.trans (b.mono h3.size)⟩
theorem Own.back {R : Res} {w0 w : World} (h : Own R w0 w) : Below w0.heap.size w0 w := by obtain ⟨_, _, _, h⟩ := h; exact h
theorem Own.comm {R1 R2 : Res} {w0 w : World} (h : Own (Sep R1 R2) w0 w) : Own (Sep R2 R1) w0 w := by
  obtain ⟨G, ⟨G1, G2, a, b, c, d⟩, h2, h3⟩ := h
  exact ⟨G, ⟨G2, G1, b, a, fun x hx h => c x h hx, fun x => (d x).trans or_comm⟩, h2, h3⟩
theorem Own.rot {R1 R2 R3 : Res} {w0 w : World} (h : Own (Sep R1 (Sep R2 R3)) w0 w) : Own (Sep R2 (Sep R3 R1)) w0 w := by
  obtain ⟨G, ⟨G1, _, a, ⟨G2, G3, b1, b2, b3, b4⟩, c, d⟩, h2, h3⟩ := h
  refine ⟨G, ⟨G2, fun x => G3 x ∨ G1 x, b1, ⟨G3, G1, b2, a, fun x hx h => c x h ((b4 x).2 (.inr hx)), fun x => Iff.rfl⟩, fun x hx h => ?_, fun x => ?_⟩, h2, h3⟩
  · rcases h with h | h
    · exact b3 x hx h
    · exact c x h ((b4 x).2 (.inl hx))
  · rw [d x, b4 x]
    constructor
    · rintro (h | h | h)
      · exact .inr (.inr h)
      · exact .inl h
      · exact .inr (.inl h)
    · rintro (h | h | h)
      · exact .inr (.inl h)
      · exact .inr (.inr h)
      · exact .inl h
/-- One thing is turned, the rest stays. -/
theorem Own.step {R R1' : Res} {w0 w w' : World} {G1 G1' G2 : Nat → Prop} (l : Loc R) (hb : Below w0.heap.size w0 w) (hg : ∀ x, G1 x ∨ G2 x → w0.heap.size ≤ x) (h2 : R w G2) (hd : ∀ x, G1 x → ¬ G2 x)
    (h1 : R1' w' G1') (ho : Only G1 w w') (hs : ∀ x, G1' x → G1 x ∨ w.heap.size ≤ x) : Own (Sep R1' R) w0 w' := by
  refine ⟨fun x => G1' x ∨ G2 x, ⟨G1', G2, h1, l.kept h2 ho (fun x hx h => hd x h hx), fun x hx h => ?_, fun x => Iff.rfl⟩, fun x hx => ?_, hb.trans (ho.below hb.size (fun x hx => hg x (.inl hx)))⟩
  · rcases hs x hx with q | q
    · exact hd x q h
    · have := l.lt h2 h; omega
  · rcases hx with hx | hx
    · rcases hs x hx with q | q
      · exact hg x (.inl q)
      · exact Nat.le_trans hb.size q
    · exact hg x (.inr hx)
theorem Own.turned {α : Type} {S : Sh α} {TT : TypeId} {t : Nat} {L : List (It α)} {R : Res} {w0 w : World} (l : Loc R) (h : Own (Sep (RT S TT t L) R) w0 w) :
    ∃ T, TAt S TT w t T L ∧ ∀ {w' L'}, Turned S TT w w' t T L' → Own (Sep (RT S TT t L') R) w0 w' := by
  obtain ⟨G, ⟨G1, G2, ⟨T, a, e⟩, b, c, d⟩, h2, h3⟩ := h
  refine ⟨T, a, fun {w' L'} ⟨T', g1, g2, g3⟩ => ?_⟩
  exact Own.step (G1 := G1) (G1' := Ftp t T') (G2 := G2) l h3 (fun x hx => h2 x ((d x).2 hx)) b c ⟨T', g1, fun _ => Iff.rfl⟩ (g2.mono (fun x _ hx => (e x).2 hx)) (fun x hx => (g3 x hx).imp (fun q => (e x).2 q) (fun q => q))
theorem Own.new {α : Type} {S : Sh α} {TT : TypeId} {R : Res} {w0 w w' : World} (l : Loc R) (h : Own R w0 w) (hT : TAt S TT w' w.heap.size .nil []) (b : Below w.heap.size w w') : Own (Sep (RT S TT w.heap.size []) R) w0 w' := by
  obtain ⟨G, h1, h2, h3⟩ := h
  refine ⟨fun x => x = w.heap.size ∨ G x, ⟨fun x => x = w.heap.size, G, ⟨.nil, hT, fun x => ⟨.inl, fun q => q.elim (fun q => q) (fun q => q.elim)⟩⟩, l.kept h1 (Below.only b (fun _ => False)) (fun _ _ h => h), fun x hx h => ?_, fun _ => Iff.rfl⟩, fun x hx => ?_, h3.trans (b.mono h3.size)⟩
  · have := l.lt h1 h; omega
  · rcases hx with rfl | hx
    · exact h3.size
    · exact h2 x hx
/-- Nothing. -/
def Nought : Res := fun _ G => ∀ x, ¬ G x
theorem Loc.nought : Loc Nought := ⟨fun h _ _ => h, fun h hx => absurd hx (h _)⟩
theorem Own.start (w : World) : Own Nought w w := ⟨fun _ => False, fun _ h => h, fun _ h => h.elim, Below.refl _ _⟩
theorem Own.unit {R : Res} {w0 w : World} (h : Own (Sep R Nought) w0 w) : Own R w0 w := by
  obtain ⟨G, ⟨G1, G2, a, b, _, d⟩, h2, h3⟩ := h
  exact ⟨G1, a, fun x hx => h2 x ((d x).2 (.inl hx)), h3⟩
theorem Own.ris {α : Type} {S : Sh α} {TT : TypeId} {t : Nat} {L : List (It α)} {R : Res} {w0 w : World} (h : Own (Sep (RT S TT t L) R) w0 w) : Rising L := by
  obtain ⟨G, ⟨G1, G2, ⟨T, a, _⟩, _⟩, _⟩ := h
  exact a.ris
end Go.Proofs.Ytafamfjgehnddaa
