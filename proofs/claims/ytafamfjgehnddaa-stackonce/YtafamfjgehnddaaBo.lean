/- A block that lies by itself: read, turned, made, left. (Of any program.) -/
import Derived.Test.YtafamfjgehnddaaPS
namespace Go.Proofs.Ytafamfjgehnddaa
open Go.RowKit

theorem Own.boSet {R : Res} {w0 w : World} {m : Nat} {c : Array Value} {ty : TypeId} (l : Loc R) (h : Own (Sep (BO m (.cells c ty (0, 0))) R) w0 w) (k : Nat) (v : Value) :
    Own (Sep (BO m (.cells (c.setIfInBounds k v) ty (0, 0))) R) w0 (w.setCell ⟨m, k, none⟩ v) := by
  obtain ⟨G, ⟨G1, G2, ⟨h1, e⟩, r, cc, d⟩, h2, h3⟩ := h
  exact Own.step (G1 := G1) (G1' := G1) (G2 := G2) l h3 (fun x hx => h2 x ((d x).2 hx)) r cc ⟨heap_setCell_at h1 v, e⟩ ((Only.refl _ w).setCell (.inl ((e m).2 rfl)) v) (fun x hx => .inl hx)
theorem Own.boNew {R : Res} {w0 w w' : World} {m : Nat} {o : Obj} (l : Loc R) (h : Own R w0 w) (h1 : w'.heap[m]? = some o) (hm : w.heap.size ≤ m) (b : Below w.heap.size w w') : Own (Sep (BO m o) R) w0 w' :=
  Own.fresh (R1 := BO m o) l h (G := fun x => x = m) ⟨h1, fun _ => Iff.rfl⟩ (fun x hx => by rw [hx]; exact hm) b
theorem Own.boAt {R : Res} {w0 w : World} {m : Nat} {o : Obj} (h : Own (Sep (BO m o) R) w0 w) : w.heap[m]? = some o := by
  obtain ⟨_, ⟨_, _, a, _⟩, _⟩ := h
  exact a.1
theorem BO.swap {m : Nat} {o : Obj} {A R : Res} : Sep (BO m o) (Sep A R) = Sep A (Sep (BO m o) R) := by ac_rfl
theorem Own.drop {A R : Res} {w0 w : World} (h : Own (Sep A R) w0 w) : Own R w0 w := by
  obtain ⟨G, ⟨G1, G2, _, b, _, d⟩, h2, h3⟩ := h
  exact ⟨G2, b, fun x hx => h2 x ((d x).2 (.inr hx)), h3⟩
/-- What lies beside. -/
theorem Own.has {R R' : Res} {w0 w : World} {m : Nat} {o : Obj} (h : Own R' w0 w) (e : R' = Sep (BO m o) R) : w.heap[m]? = some o := Own.boAt (h.cast e)
theorem Own.putDid {A : Res} {w0 w : World} {rb : Nat} {u0 u1 u2 u3 : Value} (l : Loc A) (h : Own (Sep (BO rb (.cells #[u0, u1, u2, u3] 50 (0, 0))) A) w0 w) {v0 v1 v2 v3 : Value} {Q : World → Prop}
    (k : ∀ W : World, Own A w0 W → W.cell? ⟨rb, 0, none⟩ = some v0 → W.cell? ⟨rb, 1, none⟩ = some v1 → W.cell? ⟨rb, 2, none⟩ = some v2 → W.cell? ⟨rb, 3, none⟩ = some v3 → Q W) :
    Q ((((w.setCell ⟨rb, 0, none⟩ v0).setCell ⟨rb, 1, none⟩ v1).setCell ⟨rb, 2, none⟩ v2).setCell ⟨rb, 3, none⟩ v3) := by
  have h4 := Own.boSet l (Own.boSet l (Own.boSet l (Own.boSet l h 0 v0) 1 v1) 2 v2) 3 v3
  have e := Own.boAt h4
  exact k _ h4.drop (cell_of_heap e) (cell_of_heap e) (cell_of_heap e) (cell_of_heap e)
/-- A cell of block m holds v. -/
def Cel (m k : Nat) (v : Value) (w : World) : Prop := w.cell? ⟨m, k, none⟩ = some v
end Go.Proofs.Ytafamfjgehnddaa
