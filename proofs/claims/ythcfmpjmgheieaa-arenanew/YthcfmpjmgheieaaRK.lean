/- What follows of taking and putting. (Numbers alone.) has, right: what the laws read off a list of runs. -/
import Derived.Test.YthcfmpjmgheieaaRunOwn
import Derived.Deep.LoopGhost
namespace Go.Proofs.Ythcfmpjmgheieaa
open Go.RowKit

theorem take_some {n : Int} {L : RL} {i : It Unit} (hn : 1 ≤ n) (hg : fitL n L = some i) (ds : List Nat) (dn : Nat) : takeA n L = (rA i.1, 0) ∧ takeS ds n dn L = (if n < rN i.1 then dn + 1 else dn, cutL i n (ds.getD dn 0) L) := by
  have h1 : ¬ n < 1 := by omega
  unfold takeA takeS
  simp [h1, hg]
theorem take_none {n : Int} {L : RL} (hn : 1 ≤ n) (hg : fitL n L = none) (ds : List Nat) (dn : Nat) : takeA n L = (0, 3) ∧ takeS ds n dn L = (dn, L) := by
  have h1 : ¬ n < 1 := by omega
  unfold takeA takeS
  simp [h1, hg]
theorem tot_cut {pg : Int} {L : RL} (h : Good pg L) (hq : pg ≤ 4096) {i : It Unit} (hi : i ∈ L) {n : Int} (hn : 1 ≤ n) (hl : n ≤ rN i.1) (d : Nat) : totL (cutL i n d L) = totL L - n := by
  have hr := h.ran i hi
  have ha := rA_bd i.1
  have hs := sum_del h.ris hi
  unfold totL cutL
  split
  · next hlt => rw [sum_ins, rN_k (by omega) (by omega)]; omega
  · omega
theorem tot_keys {L M : RL} (h : L.map (·.1) = M.map (·.1)) : totL L = totL M := sum_keys h
theorem putV_yes {pg : Nat} {x n : Int} (h1 : 1 ≤ n) (h2 : 0 ≤ x) (h3 : n ≤ (pg : Int) - x) : putV pg x n = true := by simp [putV, h1, h2, h3]
theorem putA_of {pg : Nat} {x n : Int} {L : RL} (hv : putV pg x n = true) (hh : ∀ i ∈ L, hits x n i.1 = false) : putA pg x n L = 0 := by
  have ha : L.any (fun i => hits x n i.1) = false := by rw [← Bool.not_eq_true, List.any_eq_true]; rintro ⟨i, hi, u⟩; rw [hh i hi] at u; cases u
  simp [putA, hv, ha]
theorem putA_hit {pg : Nat} {x n : Int} {L : RL} (hv : putV pg x n = true) {i : It Unit} (hi : i ∈ L) (hh : hits x n i.1 = true) : putA pg x n L = 4 := by
  have ha : L.any (fun i => hits x n i.1) = true := List.any_eq_true.2 ⟨i, hi, hh⟩
  simp [putA, hv, ha]

/-- What is taken, and put back. -/
theorem back_math {m pg : Nat} {ds : List Nat} {dn : Nat} {L : RL} (hf : Fit m pg ds dn L) {n : Int} (hn : 1 ≤ n) {i : It Unit} (hg : fitL n L = some i) :
    ∃ dn1 L1 dn2 L2, takeS ds n dn L = (dn1, L1) ∧ totL L1 = totL L - n ∧ putA pg (rA i.1) n L1 = 0 ∧ putS pg ds (rA i.1) n dn1 L1 = (dn2, L2) ∧ L2.map (·.1) = L.map (·.1) ∧ putA pg (rA i.1) 1 L2 = 4 ∧ putS pg ds (rA i.1) 1 dn2 L2 = (dn2, L2) := by
  obtain ⟨q1, q2, _⟩ := fit_some hf.good.ris hg
  have hq : (pg : Int) ≤ 4096 := by have := hf.most; omega
  have hr := hf.good.ran i q1
  have ha := rA_bd i.1
  have e0 := (take_some hn hg ds dn).2
  have g1 := hf.good.cut hq q1 hn (ds.getD dn 0)
  have f1 := fr_cut hf.good hq q1 hn q2 (ds.getD dn 0)
  have nohit : ∀ j ∈ cutL i n (ds.getD dn 0) L, hits (rA i.1) n j.1 = false := fun j hj => by
    rw [← Bool.not_eq_true]
    intro hh
    obtain ⟨p, p1, p2, p3⟩ := (hit_fr g1 hn).1 ⟨j, hj, hh⟩
    exact ((f1 p).1 p3).2 ⟨p1, p2⟩
  have v1 := putV_yes (pg := pg) hn ha.1 (by omega)
  have a1 := putA_of v1 nohit
  have s1 : putS pg ds (rA i.1) n (if n < rN i.1 then dn + 1 else dn) (cutL i n (ds.getD dn 0) L) = ((if n < rN i.1 then dn + 1 else dn) + 1, laidL (rA i.1) n (ds.getD (if n < rN i.1 then dn + 1 else dn) 0) (cutL i n (ds.getD dn 0) L)) := by
    unfold putS; rw [a1]; simp
  have g2 := g1.put hq ha.1 hn (by omega) nohit (ds.getD (if n < rN i.1 then dn + 1 else dn) 0)
  have f2 := fr_put g1 hq ha.1 hn (by omega) nohit (ds.getD (if n < rN i.1 then dn + 1 else dn) 0)
  generalize (if n < rN i.1 then dn + 1 else dn) = dn1 at *
  generalize laidL (rA i.1) n (ds.getD dn1 0) (cutL i n (ds.getD dn 0) L) = L2 at *
  have hfr : ∀ p, fr L2 p ↔ fr L p := fun p => by
    rw [f2, f1]
    constructor
    · rintro (⟨h, _⟩ | h)
      · exact h
      · exact ⟨i, q1, by omega, by omega⟩
    · intro h
      by_cases hp : rA i.1 ≤ p ∧ p < rA i.1 + n
      · exact .inr hp
      · exact .inl ⟨h, hp⟩
  have hk := keys_eq g2 hf.good hfr
  have hit : ∃ j ∈ L2, hits (rA i.1) 1 j.1 = true := (hit_fr g2 (by omega)).2 ⟨rA i.1, by omega, by omega, (hfr _).2 ⟨i, q1, by omega, by omega⟩⟩
  obtain ⟨j, hj, hh⟩ := hit
  have a2 := putA_hit (pg := pg) (putV_yes (n := 1) (by omega) ha.1 (by omega)) hj hh
  refine ⟨dn1, _, dn1 + 1, L2, e0, tot_cut hf.good hq q1 hn q2 _, a1, s1, hk, a2, ?_⟩
  unfold putS
  rw [a2]; simp

/-- Is a page in one of them? -/
def hasB (l : List (Int × Int)) (p : Int) : Bool := l.any fun x => decide (x.1 ≤ p) && decide (p < x.1 + x.2)
theorem has_fr {L : RL} (p : Int) : hasB (runsOf L) p = true ↔ fr L p := by
  unfold hasB fr
  rw [List.any_eq_true]
  constructor
  · rintro ⟨x, hx, h⟩
    obtain ⟨i, hi, rfl⟩ := runsOf_mem.1 hx
    exact ⟨i, hi, by simpa using h⟩
  · rintro ⟨i, hi, h⟩
    exact ⟨_, runsOf_mem.2 ⟨i, hi, rfl⟩, by simpa using h⟩
/-- Which pages a take turns. -/
theorem take_pages {m pg : Nat} {ds : List Nat} {dn : Nat} {L : RL} (hf : Fit m pg ds dn L) {n : Int} (hn : 1 ≤ n) (p : Int) :
    (fr (takeS ds n dn L).2 p ↔ fr L p ∧ ¬ ((takeA n L).2 = 0 ∧ (takeA n L).1 ≤ p ∧ p < (takeA n L).1 + n)) ∧ ((takeA n L).2 = 0 ∧ (takeA n L).1 ≤ p ∧ p < (takeA n L).1 + n → fr L p) := by
  have hq : (pg : Int) ≤ 4096 := by have := hf.most; omega
  cases hg : fitL n L with
  | none =>
    obtain ⟨e1, e2⟩ := take_none hn hg ds dn
    rw [e1, e2]
    simp
  | some i =>
    obtain ⟨q1, q2, _⟩ := fit_some hf.good.ris hg
    obtain ⟨e1, e2⟩ := take_some hn hg ds dn
    rw [e1, e2]
    simp only [true_and]
    exact ⟨fr_cut hf.good hq q1 hn q2 _ p, fun h => ⟨i, q1, by omega, by omega⟩⟩
/-- Which pages a put turns. -/
theorem put_pages {m pg : Nat} {ds : List Nat} {dn : Nat} {L : RL} (hf : Fit m pg ds dn L) (x n p : Int) :
    (fr (putS pg ds x n dn L).2 p ↔ fr L p ∨ (putA pg x n L = 0 ∧ x ≤ p ∧ p < x + n)) ∧ (putA pg x n L = 0 ∧ x ≤ p ∧ p < x + n → ¬ fr L p) := by
  have hq : (pg : Int) ≤ 4096 := by have := hf.most; omega
  unfold putS
  by_cases h0 : putA pg x n L = 0
  · obtain ⟨q1, q2, q3, q4⟩ := put_zero h0
    simp only [h0, if_true, true_and]
    refine ⟨fr_put hf.good hq q2 q1 (by omega) q4 _ p, fun h u => ?_⟩
    obtain ⟨i, hi, hh⟩ := (hit_fr (n := n) hf.good q1).2 ⟨p, h.1, h.2, u⟩
    rw [q4 i hi] at hh; cases hh
  · simp [h0]
theorem lst_get {L : RL} {j : Nat} (hj : j < (runsOf L).length) : ∃ i ∈ L, (runsOf L).getD j (0, 0) = (rA i.1, rN i.1) := by
  have : (runsOf L).getD j (0, 0) ∈ runsOf L := by rw [List.getD_eq_getElem?_getD, List.getElem?_eq_getElem hj]; exact List.getElem_mem _
  obtain ⟨i, hi, e⟩ := runsOf_mem.1 this
  exact ⟨i, hi, e⟩
end Go.Proofs.Ythcfmpjmgheieaa

namespace Go.Proofs.Ythcfmpjmgheieaa
open Go.RowKit

theorem RunsV.cells {W : World} {v : Value} {l : List (Int × Int)} (h : RunsV W v l) : ∃ a c, v = .slice a l.length c ∧ ∀ j, j < l.length → ∃ g, a = some ⟨g, 0, none⟩ ∧ W.cell? ⟨g, j * 2, none⟩ = some (.int .i64 (l.getD j (0, 0)).1) ∧ W.cell? ⟨g, j * 2 + 1, none⟩ = some (.int .i64 (l.getD j (0, 0)).2) := by
  obtain ⟨a, c, e, h⟩ := h
  refine ⟨a, c, e, fun j hj => ?_⟩
  obtain ⟨g, e2, _, h3⟩ := h (fun e => by rw [e] at hj; simp at hj)
  exact ⟨g, e2, h3 j hj⟩

/-- Runs that are small numbers. -/
def Small (l : List (Int × Int)) : Prop := ∀ j, j < l.length → 0 ≤ (l.getD j (0, 0)).1 ∧ (l.getD j (0, 0)).1 < 8192 ∧ 1 ≤ (l.getD j (0, 0)).2 ∧ (l.getD j (0, 0)).2 ≤ 4096
theorem small_of {m pg : Nat} {ds : List Nat} {dn : Nat} {L : RL} (hf : Fit m pg ds dn L) : Small (runsOf L) := fun j hj => by
  obtain ⟨i, hi, e⟩ := lst_get hj
  rw [e]
  have h1 := hf.good.ran i hi
  have h2 := rA_bd i.1
  have h3 := hf.most
  simp only
  omega
theorem any_upto {l : List (Int × Int)} {f : Int × Int → Bool} {j : Nat} (h : ∀ i, i < j → f (l.getD i (0, 0)) = false) (hj : j = l.length) : l.any f = false := by
  rw [← Bool.not_eq_true, List.any_eq_true]
  rintro ⟨x, hx, hf⟩
  obtain ⟨i, hi, rfl⟩ := List.getElem_of_mem hx
  have := h i (by omega)
  rw [List.getD_eq_getElem?_getD, List.getElem?_eq_getElem hi] at this
  simp at this
  rw [this] at hf; cases hf
theorem any_at {l : List (Int × Int)} {f : Int × Int → Bool} {j : Nat} (hj : j < l.length) (h : f (l.getD j (0, 0)) = true) : l.any f = true := by
  rw [List.any_eq_true]
  refine ⟨l.getD j (0, 0), ?_, h⟩
  rw [List.getD_eq_getElem?_getD, List.getElem?_eq_getElem hj]
  exact List.getElem_mem _

/-- Something lies between. -/
def Gaps (l : List (Int × Int)) : Prop := ∀ j, j + 1 < l.length → (l.getD j (0, 0)).1 + (l.getD j (0, 0)).2 < (l.getD (j + 1) (0, 0)).1
theorem gaps_of {pg : Int} {L : RL} (h : Good pg L) : Gaps (runsOf L) := fun j hj => by
  have hu := List.pairwise_iff_getElem.1 (runsOf_up h) j (j + 1) (by omega) hj (by omega)
  obtain ⟨i, hi, e⟩ := lst_get (L := L) (j := j) (by omega)
  obtain ⟨i', hi', e'⟩ := lst_get (L := L) (j := j + 1) hj
  have u1 : (runsOf L)[j] = (runsOf L).getD j (0, 0) := by simp [List.getD, show j < (runsOf L).length by omega]
  have u2 : (runsOf L)[j + 1] = (runsOf L).getD (j + 1) (0, 0) := by simp [List.getD, hj]
  rw [u1, u2, e, e'] at hu
  rw [e, e']
  simp only at hu ⊢
  have hne : i.1 ≠ i'.1 := fun q => by rw [q] at hu; omega
  have := h.sep i hi i' hi' hne
  have := h.ran i hi; have := h.ran i' hi'
  omega

end Go.Proofs.Ythcfmpjmgheieaa
