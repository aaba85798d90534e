/- has, right: what the laws read off a list of runs. -/
import Derived.Test.YthcfmpjmgheieaaRunLaw
import Derived.Deep.LoopGhost
namespace Go.Proofs.Ythcfmpjmgheieaa
open Go.RowKit

theorem RunsV.cells {W : World} {v : Value} {l : List (Int × Int)} (h : RunsV W v l) : ∃ a c, v = .slice a l.length c ∧ ∀ j, j < l.length → ∃ g, a = some ⟨g, 0, none⟩ ∧ W.cell? ⟨g, j * 2, none⟩ = some (.int .i64 (l.getD j (0, 0)).1) ∧ W.cell? ⟨g, j * 2 + 1, none⟩ = some (.int .i64 (l.getD j (0, 0)).2) := by
  obtain ⟨a, c, e, h⟩ := h
  refine ⟨a, c, e, fun j hj => ?_⟩
  obtain ⟨g, e2, _, h3⟩ := h (fun e => by rw [e] at hj; simp at hj)
  exact ⟨g, e2, h3 j hj⟩

/-- Runs that are small numbers. -/
def Small (l : List (Int × Int)) : Prop := ∀ j, j < l.length → 0 ≤ (l.getD j (0, 0)).1 ∧ (l.getD j (0, 0)).1 < 8192 ∧ 1 ≤ (l.getD j (0, 0)).2 ∧ (l.getD j (0, 0)).2 ≤ 4096
theorem small_of {m pg : Nat} {ds : List Nat} {dn : Nat} {L : RL} (hf : Fit m pg ds dn L) : Small (runsOf L) := fun j hj => by
  obtain ⟨i, hi, e⟩ := lst_get hj
  rw [e]
  have h1 := hf.good.ran i hi
  have h2 := rA_bd i.1
  have h3 := hf.most
  simp only
  omega
theorem any_upto {l : List (Int × Int)} {f : Int × Int → Bool} {j : Nat} (h : ∀ i, i < j → f (l.getD i (0, 0)) = false) (hj : j = l.length) : l.any f = false := by
  rw [← Bool.not_eq_true, List.any_eq_true]
  rintro ⟨x, hx, hf⟩
  obtain ⟨i, hi, rfl⟩ := List.getElem_of_mem hx
  have := h i (by omega)
  rw [List.getD_eq_getElem?_getD, List.getElem?_eq_getElem hi] at this
  simp at this
  rw [this] at hf; cases hf
theorem any_at {l : List (Int × Int)} {f : Int × Int → Bool} {j : Nat} (hj : j < l.length) (h : f (l.getD j (0, 0)) = true) : l.any f = true := by
  rw [List.any_eq_true]
  refine ⟨l.getD j (0, 0), ?_, h⟩
  rw [List.getD_eq_getElem?_getD, List.getElem?_eq_getElem hj]
  exact List.getElem_mem _

/-- Something lies between. -/
def Gaps (l : List (Int × Int)) : Prop := ∀ j, j + 1 < l.length → (l.getD j (0, 0)).1 + (l.getD j (0, 0)).2 < (l.getD (j + 1) (0, 0)).1
theorem gaps_of {pg : Int} {L : RL} (h : Good pg L) : Gaps (runsOf L) := fun j hj => by
  have hu := List.pairwise_iff_getElem.1 (runsOf_up h) j (j + 1) (by omega) hj (by omega)
  obtain ⟨i, hi, e⟩ := lst_get (L := L) (j := j) (by omega)
  obtain ⟨i', hi', e'⟩ := lst_get (L := L) (j := j + 1) hj
  have u1 : (runsOf L)[j] = (runsOf L).getD j (0, 0) := by simp [List.getD, show j < (runsOf L).length by omega]
  have u2 : (runsOf L)[j + 1] = (runsOf L).getD (j + 1) (0, 0) := by simp [List.getD, hj]
  rw [u1, u2, e, e'] at hu
  rw [e, e']
  simp only at hu ⊢
  have hne : i.1 ≠ i'.1 := fun q => by rw [q] at hu; omega
  have := h.sep i hi i' hi' hne
  have := h.ran i hi; have := h.ran i' hi'
  omega

end Go.Proofs.Ythcfmpjmgheieaa
