/- One tree, in a world that has grown. (Of any program.) -/
import Derived.Test.YtafamfjgehnddaaTreSame
namespace Go.Proofs.Ytafamfjgehnddaa
open Go.RowKit
section
variable {α : Type} {S : Sh α}

/-- The tree at t has the items L; it lies in blocks of A, as does whatever is new; but for A the world is w0. -/
structure One (S : Sh α) (TT : TypeId) (A : Nat → Prop) (w0 w : World) (t : Nat) (L : List (It α)) : Prop where
  tree : ∃ T, TAt S TT w t T L ∧ ∀ x, Ftp t T x → A x
  new : ∀ x, w.heap.size ≤ x → A x
  only : Only A w0 w

theorem One.below {TT : TypeId} {A : Nat → Prop} {w0 w w' : World} {t : Nat} {L : List (It α)} (h : One S TT A w0 w t L) (b : Below w.heap.size w w') : One S TT A w0 w' t L := by
  obtain ⟨⟨T, h1, h2⟩, h3, h4⟩ := h
  exact ⟨⟨T, h1.below b, h2⟩, fun x hx => h3 x (Nat.le_trans b.size hx), h4.trans (Below.only b _)⟩
theorem One.alike {TT : TypeId} {A : Nat → Prop} {w0 w w' : World} {t : Nat} {L : List (It α)} (h : One S TT A w0 w t L) (b : Alike w w') : One S TT A w0 w' t L := h.below (b.below _)
theorem One.turned {TT : TypeId} {A : Nat → Prop} {w0 w w' : World} {t : Nat} {T : Tr α} {L L' : List (It α)} (h : One S TT A w0 w t L) (hT : ∀ x, Ftp t T x → A x) (g : Turned S TT w w' t T L') : One S TT A w0 w' t L' := by
  obtain ⟨T', g1, g2, g3⟩ := g
  exact ⟨⟨T', g1, fun x hx => (g3 x hx).elim (hT x) (h.new x)⟩, fun x hx => h.new x (Nat.le_trans g2.size hx), h.only.trans (g2.mono (fun x _ hx => hT x hx))⟩
/-- From now on block g is kept. -/
theorem One.from {TT : TypeId} {A B : Nat → Prop} {w0 w w' : World} {t : Nat} {L : List (It α)} (h : One S TT A w0 w t L) (b : Below w.heap.size w w') (hB : ∀ x, A x → x < w.heap.size → B x) (hn : ∀ x, w'.heap.size ≤ x → B x) : One S TT B w' w' t L := by
  obtain ⟨⟨T, h1, h2⟩, _, _⟩ := h
  exact ⟨⟨T, h1.below b, fun x hx => hB x (h2 x hx) (h1.lt hx)⟩, hn, Only.refl _ _⟩
theorem One.ris {TT : TypeId} {A : Nat → Prop} {w0 w : World} {t : Nat} {L : List (It α)} (h : One S TT A w0 w t L) : Rising L := by
  obtain ⟨⟨T, h1, _⟩, _⟩ := h; exact h1.ris
theorem One.start {TT : TypeId} {w w' : World} {t : Nat} (h : TAt S TT w' t .nil []) (b : Below w.heap.size w w') (ht : w.heap.size ≤ t) : One S TT (fun x => w.heap.size ≤ x) w w' t [] :=
  ⟨⟨.nil, h, fun x hx => by rcases hx with rfl | hx; exact ht; exact hx.elim⟩, fun x hx => Nat.le_trans b.size hx, Below.only b _⟩
theorem One.back {TT : TypeId} {w0 w : World} {t : Nat} {L : List (It α)} (h : One S TT (fun x => w0.heap.size ≤ x) w0 w t L) : Below w0.heap.size w0 w := h.only.below (Nat.le_refl _) (fun _ h => h)

theorem shp_one (k : Int) (d : Nat) (v : α) : shp [(k, d, v)] = [(k, 0)] := rfl

def putL (key : Int) (d : Nat) (v : α) (L : List (It α)) : List (It α) := if (getL key L).isNone then insL key d v L else L
theorem putL_no {key : Int} {d : Nat} {v : α} {L : List (It α)} (h : getL key L = none) : putL key d v L = insL key d v L := by simp [putL, h]
theorem putL_yes {key : Int} {d : Nat} {v : α} {L : List (It α)} {i : It α} (h : getL key L = some i) : putL key d v L = L := by simp [putL, h]
theorem putL_length {key : Int} {d : Nat} {v : α} {L : List (It α)} : (putL key d v L).length = L.length + (if (getL key L).isNone then 1 else 0) := by
  unfold putL; split <;> simp [insL_length]
theorem putL_le {key : Int} {d : Nat} {v : α} {L : List (It α)} : (putL key d v L).length ≤ L.length + 1 := by
  rw [putL_length]; split <;> omega
theorem putL_rising {key : Int} {d : Nat} {v : α} {L : List (It α)} (h : Rising L) : Rising (putL key d v L) := by
  unfold putL
  cases hg : getL key L with
  | none => exact insL_rising h (getL_none hg)
  | some i => exact h
end
end Go.Proofs.Ytafamfjgehnddaa
