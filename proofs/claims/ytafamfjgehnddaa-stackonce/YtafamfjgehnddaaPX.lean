/- What follows of taking and putting. (Numbers alone.) has, right: what the laws read off a list of runs. Rows with the same keys: whatever the draws, taking and putting go alike. (Numbers alone.) The document's tree: a row of items, rising. The document's tree: Put, Drop. The document's tree: Drop. The document's tree: Shape. The document's tree: the recursion of Shape. The document's tree beside other things (in a block of its own). The document's runs, out of which pages are free. The document's runs in memory: which pages are free, the tree, the draws; Total, List. The document's runs: List. The document's runs: what calls turn; add, Shape. The document's runs: best, Find. The document's runs: Take. -/
import Derived.Test.YtafamfjgehnddaaPS
import Derived.Deep.LoopGhost
import Derived.Test.YtafamfjgehnddaaTreSep
import Derived.Test.YtafamfjgehnddaaPhaseL
import Derived.Handy
import Derived.OwnWalk
import Derived.WalkSmall
import Derived.Test.YtafamfjgehnddaaTreSame
import Derived.Laws.AppendOwn
namespace Go.Proofs.Ytafamfjgehnddaa
open Go.RowKit

theorem take_some {n : Int} {L : RL} {i : It Unit} (hn : 1 ≤ n) (hg : fitL n L = some i) (ds : List Nat) (dn : Nat) : takeA n L = (rA i.1, 0) ∧ takeS ds n dn L = (if n < rN i.1 then dn + 1 else dn, cutL i n (ds.getD dn 0) L) := by
  have h1 : ¬ n < 1 := by omega
  unfold takeA takeS
  simp [h1, hg]
theorem take_none {n : Int} {L : RL} (hn : 1 ≤ n) (hg : fitL n L = none) (ds : List Nat) (dn : Nat) : takeA n L = (0, 3) ∧ takeS ds n dn L = (dn, L) := by
  have h1 : ¬ n < 1 := by omega
  unfold takeA takeS
  simp [h1, hg]
theorem tot_cut {pg : Int} {L : RL} (h : Good pg L) (hq : pg ≤ 4096) {i : It Unit} (hi : i ∈ L) {n : Int} (hn : 1 ≤ n) (hl : n ≤ rN i.1) (d : Nat) : totL (cutL i n d L) = totL L - n := by
  have hr := h.ran i hi
  have ha := rA_bd i.1
  have hs := sum_del h.ris hi
  unfold totL cutL
  split
  · next hlt => rw [sum_ins, rN_k (by omega) (by omega)]; omega
  · omega
theorem tot_keys {L M : RL} (h : L.map (·.1) = M.map (·.1)) : totL L = totL M := sum_keys h
theorem putV_yes {pg : Nat} {x n : Int} (h1 : 1 ≤ n) (h2 : 0 ≤ x) (h3 : n ≤ (pg : Int) - x) : putV pg x n = true := by simp [putV, h1, h2, h3]
theorem putA_of {pg : Nat} {x n : Int} {L : RL} (hv : putV pg x n = true) (hh : ∀ i ∈ L, hits x n i.1 = false) : putA pg x n L = 0 := by
  have ha : L.any (fun i => hits x n i.1) = false := by rw [← Bool.not_eq_true, List.any_eq_true]; rintro ⟨i, hi, u⟩; rw [hh i hi] at u; cases u
  simp [putA, hv, ha]
theorem putA_hit {pg : Nat} {x n : Int} {L : RL} (hv : putV pg x n = true) {i : It Unit} (hi : i ∈ L) (hh : hits x n i.1 = true) : putA pg x n L = 4 := by
  have ha : L.any (fun i => hits x n i.1) = true := List.any_eq_true.2 ⟨i, hi, hh⟩
  simp [putA, hv, ha]

/-- What is taken, and put back. -/
theorem back_math {m pg : Nat} {ds : List Nat} {dn : Nat} {L : RL} (hf : Fit m pg ds dn L) {n : Int} (hn : 1 ≤ n) {i : It Unit} (hg : fitL n L = some i) :
    ∃ dn1 L1 dn2 L2, takeS ds n dn L = (dn1, L1) ∧ totL L1 = totL L - n ∧ putA pg (rA i.1) n L1 = 0 ∧ putS pg ds (rA i.1) n dn1 L1 = (dn2, L2) ∧ L2.map (·.1) = L.map (·.1) ∧ putA pg (rA i.1) 1 L2 = 4 ∧ putS pg ds (rA i.1) 1 dn2 L2 = (dn2, L2) := by
  obtain ⟨q1, q2, _⟩ := fit_some hf.good.ris hg
  have hq : (pg : Int) ≤ 4096 := by have := hf.most; omega
  have hr := hf.good.ran i q1
  have ha := rA_bd i.1
  have e0 := (take_some hn hg ds dn).2
  have g1 := hf.good.cut hq q1 hn (ds.getD dn 0)
  have f1 := fr_cut hf.good hq q1 hn q2 (ds.getD dn 0)
  have nohit : ∀ j ∈ cutL i n (ds.getD dn 0) L, hits (rA i.1) n j.1 = false := fun j hj => by
    rw [← Bool.not_eq_true]
    intro hh
    obtain ⟨p, p1, p2, p3⟩ := (hit_fr g1 hn).1 ⟨j, hj, hh⟩
    exact ((f1 p).1 p3).2 ⟨p1, p2⟩
  have v1 := putV_yes (pg := pg) hn ha.1 (by omega)
  have a1 := putA_of v1 nohit
  have s1 : putS pg ds (rA i.1) n (if n < rN i.1 then dn + 1 else dn) (cutL i n (ds.getD dn 0) L) = ((if n < rN i.1 then dn + 1 else dn) + 1, laidL (rA i.1) n (ds.getD (if n < rN i.1 then dn + 1 else dn) 0) (cutL i n (ds.getD dn 0) L)) := by
    unfold putS; rw [a1]; simp
  have g2 := g1.put hq ha.1 hn (by omega) nohit (ds.getD (if n < rN i.1 then dn + 1 else dn) 0)
  have f2 := fr_put g1 hq ha.1 hn (by omega) nohit (ds.getD (if n < rN i.1 then dn + 1 else dn) 0)
  generalize (if n < rN i.1 then dn + 1 else dn) = dn1 at *
  generalize laidL (rA i.1) n (ds.getD dn1 0) (cutL i n (ds.getD dn 0) L) = L2 at *
  have hfr : ∀ p, fr L2 p ↔ fr L p := fun p => by
    rw [f2, f1]
    constructor
    · rintro (⟨h, _⟩ | h)
      · exact h
      · exact ⟨i, q1, by omega, by omega⟩
    · intro h
      by_cases hp : rA i.1 ≤ p ∧ p < rA i.1 + n
      · exact .inr hp
      · exact .inl ⟨h, hp⟩
  have hk := keys_eq g2 hf.good hfr
  have hit : ∃ j ∈ L2, hits (rA i.1) 1 j.1 = true := (hit_fr g2 (by omega)).2 ⟨rA i.1, by omega, by omega, (hfr _).2 ⟨i, q1, by omega, by omega⟩⟩
  obtain ⟨j, hj, hh⟩ := hit
  have a2 := putA_hit (pg := pg) (putV_yes (n := 1) (by omega) ha.1 (by omega)) hj hh
  refine ⟨dn1, _, dn1 + 1, L2, e0, tot_cut hf.good hq q1 hn q2 _, a1, s1, hk, a2, ?_⟩
  unfold putS
  rw [a2]; simp

/-- Is a page in one of them? -/
def hasB (l : List (Int × Int)) (p : Int) : Bool := l.any fun x => decide (x.1 ≤ p) && decide (p < x.1 + x.2)
theorem has_fr {L : RL} (p : Int) : hasB (runsOf L) p = true ↔ fr L p := by
  unfold hasB fr
  rw [List.any_eq_true]
  constructor
  · rintro ⟨x, hx, h⟩
    obtain ⟨i, hi, rfl⟩ := runsOf_mem.1 hx
    exact ⟨i, hi, by simpa using h⟩
  · rintro ⟨i, hi, h⟩
    exact ⟨_, runsOf_mem.2 ⟨i, hi, rfl⟩, by simpa using h⟩
/-- Which pages a take turns. -/
theorem take_pages {m pg : Nat} {ds : List Nat} {dn : Nat} {L : RL} (hf : Fit m pg ds dn L) {n : Int} (hn : 1 ≤ n) (p : Int) :
    (fr (takeS ds n dn L).2 p ↔ fr L p ∧ ¬ ((takeA n L).2 = 0 ∧ (takeA n L).1 ≤ p ∧ p < (takeA n L).1 + n)) ∧ ((takeA n L).2 = 0 ∧ (takeA n L).1 ≤ p ∧ p < (takeA n L).1 + n → fr L p) := by
  have hq : (pg : Int) ≤ 4096 := by have := hf.most; omega
  cases hg : fitL n L with
  | none =>
    obtain ⟨e1, e2⟩ := take_none hn hg ds dn
    rw [e1, e2]
    simp
  | some i =>
    obtain ⟨q1, q2, _⟩ := fit_some hf.good.ris hg
    obtain ⟨e1, e2⟩ := take_some hn hg ds dn
    rw [e1, e2]
    simp only [true_and]
    exact ⟨fr_cut hf.good hq q1 hn q2 _ p, fun h => ⟨i, q1, by omega, by omega⟩⟩
/-- Which pages a put turns. -/
theorem put_pages {m pg : Nat} {ds : List Nat} {dn : Nat} {L : RL} (hf : Fit m pg ds dn L) (x n p : Int) :
    (fr (putS pg ds x n dn L).2 p ↔ fr L p ∨ (putA pg x n L = 0 ∧ x ≤ p ∧ p < x + n)) ∧ (putA pg x n L = 0 ∧ x ≤ p ∧ p < x + n → ¬ fr L p) := by
  have hq : (pg : Int) ≤ 4096 := by have := hf.most; omega
  unfold putS
  by_cases h0 : putA pg x n L = 0
  · obtain ⟨q1, q2, q3, q4⟩ := put_zero h0
    simp only [h0, if_true, true_and]
    refine ⟨fr_put hf.good hq q2 q1 (by omega) q4 _ p, fun h u => ?_⟩
    obtain ⟨i, hi, hh⟩ := (hit_fr (n := n) hf.good q1).2 ⟨p, h.1, h.2, u⟩
    rw [q4 i hi] at hh; cases hh
  · simp [h0]
theorem lst_get {L : RL} {j : Nat} (hj : j < (runsOf L).length) : ∃ i ∈ L, (runsOf L).getD j (0, 0) = (rA i.1, rN i.1) := by
  have : (runsOf L).getD j (0, 0) ∈ runsOf L := by rw [List.getD_eq_getElem?_getD, List.getElem?_eq_getElem hj]; exact List.getElem_mem _
  obtain ⟨i, hi, e⟩ := runsOf_mem.1 this
  exact ⟨i, hi, e⟩
end Go.Proofs.Ytafamfjgehnddaa

namespace Go.Proofs.Ytafamfjgehnddaa
open Go.RowKit

theorem RunsV.cells {W : World} {v : Value} {l : List (Int × Int)} (h : RunsV W v l) : ∃ a c, v = .slice a l.length c ∧ ∀ j, j < l.length → ∃ g, a = some ⟨g, 0, none⟩ ∧ W.cell? ⟨g, j * 2, none⟩ = some (.int .i64 (l.getD j (0, 0)).1) ∧ W.cell? ⟨g, j * 2 + 1, none⟩ = some (.int .i64 (l.getD j (0, 0)).2) := by
  obtain ⟨a, c, e, h⟩ := h
  refine ⟨a, c, e, fun j hj => ?_⟩
  obtain ⟨g, e2, _, h3⟩ := h (fun e => by rw [e] at hj; simp at hj)
  exact ⟨g, e2, h3 j hj⟩

/-- Runs that are small numbers. -/
def Small (l : List (Int × Int)) : Prop := ∀ j, j < l.length → 0 ≤ (l.getD j (0, 0)).1 ∧ (l.getD j (0, 0)).1 < 8192 ∧ 1 ≤ (l.getD j (0, 0)).2 ∧ (l.getD j (0, 0)).2 ≤ 4096
theorem small_of {m pg : Nat} {ds : List Nat} {dn : Nat} {L : RL} (hf : Fit m pg ds dn L) : Small (runsOf L) := fun j hj => by
  obtain ⟨i, hi, e⟩ := lst_get hj
  rw [e]
  have h1 := hf.good.ran i hi
  have h2 := rA_bd i.1
  have h3 := hf.most
  simp only
  omega
theorem any_upto {l : List (Int × Int)} {f : Int × Int → Bool} {j : Nat} (h : ∀ i, i < j → f (l.getD i (0, 0)) = false) (hj : j = l.length) : l.any f = false := by
  rw [← Bool.not_eq_true, List.any_eq_true]
  rintro ⟨x, hx, hf⟩
  obtain ⟨i, hi, rfl⟩ := List.getElem_of_mem hx
  have := h i (by omega)
  rw [List.getD_eq_getElem?_getD, List.getElem?_eq_getElem hi] at this
  simp at this
  rw [this] at hf; cases hf
theorem any_at {l : List (Int × Int)} {f : Int × Int → Bool} {j : Nat} (hj : j < l.length) (h : f (l.getD j (0, 0)) = true) : l.any f = true := by
  rw [List.any_eq_true]
  refine ⟨l.getD j (0, 0), ?_, h⟩
  rw [List.getD_eq_getElem?_getD, List.getElem?_eq_getElem hj]
  exact List.getElem_mem _

/-- Something lies between. -/
def Gaps (l : List (Int × Int)) : Prop := ∀ j, j + 1 < l.length → (l.getD j (0, 0)).1 + (l.getD j (0, 0)).2 < (l.getD (j + 1) (0, 0)).1
theorem gaps_of {pg : Int} {L : RL} (h : Good pg L) : Gaps (runsOf L) := fun j hj => by
  have hu := List.pairwise_iff_getElem.1 (runsOf_up h) j (j + 1) (by omega) hj (by omega)
  obtain ⟨i, hi, e⟩ := lst_get (L := L) (j := j) (by omega)
  obtain ⟨i', hi', e'⟩ := lst_get (L := L) (j := j + 1) hj
  have u1 : (runsOf L)[j] = (runsOf L).getD j (0, 0) := by simp [List.getD, show j < (runsOf L).length by omega]
  have u2 : (runsOf L)[j + 1] = (runsOf L).getD (j + 1) (0, 0) := by simp [List.getD, hj]
  rw [u1, u2, e, e'] at hu
  rw [e, e']
  simp only at hu ⊢
  have hne : i.1 ≠ i'.1 := fun q => by rw [q] at hu; omega
  have := h.sep i hi i' hi' hne
  have := h.ran i hi; have := h.ran i' hi'
  omega

end Go.Proofs.Ytafamfjgehnddaa

namespace Go.Proofs.Ytafamfjgehnddaa
open Go.RowKit

theorem filter_keys (p : Int → Bool) (L : RL) : (L.filter fun i => p i.1).map (·.1) = (L.map (·.1)).filter p := by
  induction L with
  | nil => rfl
  | cons x L ih => by_cases h : p x.1 = true <;> simp [h, ih]
theorem ins_keys (k : Int) (d : Nat) (L : RL) : (insL k d () L).map (·.1) = (L.map (·.1)).filter (fun j => decide (j < k)) ++ k :: (L.map (·.1)).filter (fun j => !decide (j < k)) := by
  unfold insL
  rw [List.map_append, List.map_cons, filter_keys (fun j => decide (j < k)), filter_keys (fun j => !decide (j < k))]
theorem del_keys (k : Int) (L : RL) : (delL k L).map (·.1) = (L.map (·.1)).filter (fun j => !decide (j = k)) := by
  unfold delL
  rw [filter_keys (fun j => !decide (j = k))]
theorem dels_keys (ks : List Int) {L M : RL} (h : L.map (·.1) = M.map (·.1)) : (delsL ks L).map (·.1) = (delsL ks M).map (·.1) := by
  unfold delsL
  induction ks generalizing L M with
  | nil => exact h
  | cons k ks ih => exact ih (by rw [del_keys, del_keys, h])
theorem laid_keys {x n : Int} {d e : Nat} {L M : RL} (h : L.map (·.1) = M.map (·.1)) : (laidL x n d L).map (·.1) = (laidL x n e M).map (·.1) := by
  have hb : besK x n L = besK x n M := by unfold besK; rw [h]
  unfold laidL
  rw [hb, ins_keys, ins_keys, dels_keys _ h]
theorem fit_keys {n : Int} {L M : RL} (h : L.map (·.1) = M.map (·.1)) : (fitL n L).map (·.1) = (fitL n M).map (·.1) := by
  have e : ∀ L : RL, (fitL n L).map (·.1) = (L.map (·.1)).find? (fun j => !decide (j < kOf 0 n)) := fun L => by
    unfold fitL ceilL
    induction L with
    | nil => rfl
    | cons x L ih => by_cases h : x.1 < kOf 0 n <;> simp [h, ih]
  rw [e, e, h]
theorem take_keys {n : Int} {L M : RL} (h : L.map (·.1) = M.map (·.1)) (ds es : List Nat) (dn : Nat) :
    takeA n L = takeA n M ∧ (takeS ds n dn L).1 = (takeS es n dn M).1 ∧ (takeS ds n dn L).2.map (·.1) = (takeS es n dn M).2.map (·.1) := by
  have hk := fit_keys (n := n) h
  unfold takeA takeS
  by_cases h1 : n < 1
  · simp [h1, h]
  · simp only [h1, if_false]
    cases hL : fitL n L with
    | none =>
      cases hM : fitL n M with
      | none => exact ⟨rfl, rfl, h⟩
      | some j => rw [hL, hM] at hk; simp at hk
    | some i =>
      cases hM : fitL n M with
      | none => rw [hL, hM] at hk; simp at hk
      | some j =>
        have e : i.1 = j.1 := by rw [hL, hM] at hk; simpa using hk
        refine ⟨by simp [e], by simp [e], ?_⟩
        simp only [cutL, e]
        split
        · rw [ins_keys, ins_keys, del_keys, del_keys, h]
        · rw [del_keys, del_keys, h]
theorem put_keys {pg : Nat} {x n : Int} {L M : RL} (h : L.map (·.1) = M.map (·.1)) (ds es : List Nat) (dn : Nat) :
    putA pg x n L = putA pg x n M ∧ (putS pg ds x n dn L).1 = (putS pg es x n dn M).1 ∧ (putS pg ds x n dn L).2.map (·.1) = (putS pg es x n dn M).2.map (·.1) := by
  have ha : L.any (fun i => hits x n i.1) = M.any (fun i => hits x n i.1) := by
    have e : ∀ L : RL, L.any (fun i => hits x n i.1) = (L.map (·.1)).any (hits x n) := fun L => by simp [List.any_map, Function.comp_def]
    rw [e, e, h]
  have hA : putA pg x n L = putA pg x n M := by unfold putA; rw [ha]
  refine ⟨hA, ?_⟩
  unfold putS
  rw [hA]
  split
  · exact ⟨rfl, laid_keys h⟩
  · exact ⟨rfl, h⟩

theorem shape_keys {α : Type} (T : Tr α) (e : Nat) (k : Int) : (∃ x ∈ T.shape e, x.1 = k) ↔ k ∈ T.items.map (·.1) := by
  induction T generalizing e with
  | nil => simp [Tr.shape, Tr.items]
  | node p k' d v l r ihl ihr =>
    have hl := ihl (e + 1)
    have hr := ihr (e + 1)
    simp only [Tr.shape, Tr.items, List.mem_cons, List.mem_append, List.map_append, List.map_cons]
    rw [← hl, ← hr]
    constructor
    · rintro ⟨x, rfl | h | h, q⟩
      · exact .inr (.inl q.symm)
      · exact .inl ⟨x, h, q⟩
      · exact .inr (.inr ⟨x, h, q⟩)
    · rintro (⟨x, h, q⟩ | q | ⟨x, h, q⟩)
      · exact ⟨x, .inr (.inl h), q⟩
      · exact ⟨_, .inl rfl, q.symm⟩
      · exact ⟨x, .inr (.inr h), q⟩
theorem shp_keys {L : RL} (h : Rising L) (k : Int) : (∃ x ∈ shp L, x.1 = k) ↔ k ∈ L.map (·.1) := by
  unfold shp
  rw [shape_keys, (treeOf_good L h).1]
/-- Each node of the one has its like in the other. -/
theorem shp_like {L M : RL} (hl : Rising L) (hm : Rising M) (h : L.map (·.1) = M.map (·.1)) : ∀ i, i < (shp L).length → ∃ j, j < (shp M).length ∧ ((shp M).getD j (0, 0)).1 = ((shp L).getD i (0, 0)).1 := fun i hi => by
  have h1 : ((shp L).getD i (0, 0)) ∈ shp L := by rw [List.getD_eq_getElem?_getD, List.getElem?_eq_getElem hi]; exact List.getElem_mem _
  have h2 := (shp_keys hl _).1 ⟨_, h1, rfl⟩
  rw [h] at h2
  obtain ⟨x, hx, e⟩ := (shp_keys hm _).2 h2
  obtain ⟨j, hj, rfl⟩ := List.getElem_of_mem hx
  exact ⟨j, hj, by rw [← e, List.getD_eq_getElem?_getD, List.getElem?_eq_getElem hj]; rfl⟩
theorem Own.swap {R1 R2 R3 : Res} {w0 w : World} (h : Own (Sep R1 (Sep R2 R3)) w0 w) : Own (Sep R2 (Sep R1 R3)) w0 w := by
  obtain ⟨G, ⟨G1, _, a, ⟨G2, G3, b1, b2, b3, b4⟩, c, d⟩, h2, h3⟩ := h
  refine ⟨G, ⟨G2, fun x => G1 x ∨ G3 x, b1, ⟨G1, G3, a, b2, fun x hx h => c x hx ((b4 x).2 (.inr h)), fun x => Iff.rfl⟩, fun x hx h => ?_, fun x => ?_⟩, h2, h3⟩
  · rcases h with h | h
    · exact c x h ((b4 x).2 (.inl hx))
    · exact b3 x hx h
  · rw [d x, b4 x]
    constructor
    · rintro (h | h | h)
      · exact .inr (.inl h)
      · exact .inl h
      · exact .inr (.inr h)
    · rintro (h | h | h)
      · exact .inr (.inl h)
      · exact .inl h
      · exact .inr (.inr h)
theorem NodesV.cells {W : World} {v : Value} {l : List (Int × Nat)} (h : NodesV W v l) : ∃ a c, v = .slice a l.length c ∧ ∀ j, j < l.length → ∃ g, a = some ⟨g, 0, none⟩ ∧ W.cell? ⟨g, j * 2, none⟩ = some (.int .i64 (l.getD j (0, 0)).1) := by
  obtain ⟨a, c, e, h⟩ := h
  refine ⟨a, c, e, fun j hj => ?_⟩
  obtain ⟨g, e2, _, h3⟩ := h (fun e => by rw [e] at hj; simp at hj)
  exact ⟨g, e2, (h3 j hj).1⟩
theorem Sep.swap {R1 R2 R3 : Res} {w : World} {G : Nat → Prop} (h : Sep R1 (Sep R2 R3) w G) : Sep R2 (Sep R1 R3) w G := by
  obtain ⟨G1, _, a, ⟨G2, G3, b1, b2, b3, b4⟩, c, d⟩ := h
  refine ⟨G2, fun x => G1 x ∨ G3 x, b1, ⟨G1, G3, a, b2, fun x hx h => c x hx ((b4 x).2 (.inr h)), fun x => Iff.rfl⟩, fun x hx h => ?_, fun x => ?_⟩
  · rcases h with h | h
    · exact c x h ((b4 x).2 (.inl hx))
    · exact b3 x hx h
  · rw [d x, b4 x]
    constructor
    · rintro (h | h | h)
      · exact .inr (.inl h)
      · exact .inl h
      · exact .inr (.inr h)
    · rintro (h | h | h)
      · exact .inr (.inl h)
      · exact .inl h
      · exact .inr (.inr h)
/-- The third comes first. -/
theorem Own.third {R1 R2 R3 R : Res} {w0 w : World} (h : Own (Sep R1 (Sep R2 (Sep R3 R))) w0 w) : Own (Sep R3 (Sep R1 (Sep R2 R))) w0 w := by
  obtain ⟨G, ⟨G1, G2, a, b, c, d⟩, h2, h3⟩ := h
  exact ⟨G, Sep.swap ⟨G1, G2, a, b.swap, c, d⟩, h2, h3⟩
end Go.Proofs.Ytafamfjgehnddaa

namespace Go.Proofs.Ytafamfjgehnddaa
open Go.RowKit

def itemVals (L : List (It Int)) : List Value := L.flatMap fun i => [.int .i64 i.1, .int .u32 (i.2.1 : Int), .int .i64 i.2.2]
theorem itemVals_length (L : List (It Int)) : (itemVals L).length = L.length * 3 := by
  induction L with
  | nil => rfl
  | cons s l ih =>
    have e : itemVals (s :: l) = [Value.int .i64 s.1, .int .u32 (s.2.1 : Int), .int .i64 s.2.2] ++ itemVals l := rfl
    rw [e, List.length_append, ih, List.length_cons]; simp; omega
theorem itemVals_get : ∀ (L : List (It Int)) (i : Nat) (h : i < L.length), (itemVals L)[i * 3]? = some (.int .i64 L[i].1) ∧ (itemVals L)[i * 3 + 1]? = some (.int .u32 (L[i].2.1 : Int)) ∧ (itemVals L)[i * 3 + 2]? = some (.int .i64 L[i].2.2)
  | [], i, h => by simp at h
  | p :: l, 0, _ => by simp [itemVals]
  | p :: l, i + 1, h => by
    have ih := itemVals_get l i (by simpa using h)
    have e : itemVals (p :: l) = Value.int .i64 p.1 :: Value.int .u32 (p.2.1 : Int) :: Value.int .i64 p.2.2 :: itemVals l := rfl
    rw [e, show (i + 1) * 3 = i * 3 + 1 + 1 + 1 from by omega]
    simpa using ih

/-- The document's tree at block r: its slice v owns the items. -/
structure DAt (w : World) (r o : Nat) (v : Value) (L : List (It Int)) : Prop where
  head : w.cell? ⟨r, o, none⟩ = some v
  lt : r < w.heap.size
  froz : w.frozen? ⟨r, o, none⟩ = false
  row : w.ownsRow 0 176 3 v L.length (itemVals L)
  ne : v.ownBlock ≠ some r
  ris : Rising L
/-- Where a key is, or would be. -/
structure Place (L : List (It Int)) (key : Int) (p : Nat) : Prop where
  le : p ≤ L.length
  lo : ∀ j, j < p → keyAt L j < key
  hi : p < L.length → key ≤ keyAt L p

theorem DAt.slice {w : World} {r o : Nat} {v : Value} {L : List (It Int)} (h : DAt w r o v L) : ∃ a c, v = .slice a L.length c := ownsRow_slice h.row
theorem DAt.at {w : World} {r o : Nat} {a : Option Addr} {n c : Nat} {L : List (It Int)} (h : DAt w r o (.slice a n c) L) {i : Nat} (hi : i < L.length) : ∃ g, a = some ⟨g, 0, none⟩ ∧ w.cell? ⟨g, i * 3, none⟩ = some (.int .i64 (keyAt L i)) ∧ w.cell? ⟨g, i * 3 + 1, none⟩ = some (.int .u32 (L[i].2.1 : Int)) ∧ w.cell? ⟨g, i * 3 + 2, none⟩ = some (.int .i64 L[i].2.2) := by
  have hrow := h.row
  rcases hrow.2 with ⟨_, h0⟩ | ⟨g, cap, cur, e, _, hg, _⟩
  · omega
  · cases e
    have h1 := World.ownsRow.cellAt hrow (i * 3) (by omega)
    have h2 := World.ownsRow.cellAt hrow (i * 3 + 1) (by omega)
    have h3 := World.ownsRow.cellAt hrow (i * 3 + 2) (by omega)
    obtain ⟨q1, q2, q3⟩ := itemVals_get L i hi
    refine ⟨g, rfl, ?_, h2.trans q2, h3.trans q3⟩
    rw [h1, q1]; simp [keyAt, hi]

set_option maxHeartbeats 1000000 in
theorem placeT (w : World) (r o : Nat) (v : Value) (L : List (It Int)) (h : DAt w r o v L) (key : Int) (hl : L.length ≤ 1000000) :
    Calls Try.prog 106 #[.pointer (some ⟨r, o, none⟩), .int .i64 key] w fun e w' => w' = w ∧ ∃ p : Nat, e = .returned (.int .i64 (p : Int)) ∧ Place L key p := by
  obtain ⟨a, c, rfl⟩ := h.slice
  have c0 : w.cell? ⟨r, o, none⟩ = some (.slice a L.length c) := h.head
  have H := hide h
  obtain ⟨m, hm⟩ : ∃ m, L.length = m := ⟨_, rfl⟩
  have HM := hide hm
  rw [hm] at c0 hl
  clear h hm
  go_enter Try.func106, Try.ntmps106
  go_wp2
  go_loopw [5] (fun i wr => ∃ k : Nat, k ≤ m ∧ i = .int .i64 (k : Int) ∧ wr = w ∧ Hid (∀ j, j < k → keyAt L j < key)) (fun i _ => m - (intOf i).toNat)
  case atStart => exact ⟨0, Nat.zero_le _, rfl, rfl, fun j hj => by omega⟩
  case round =>
    obtain ⟨k, hk, rfl, rfl, hall⟩ := hrel
    by_cases hlt : k < m
    · obtain ⟨g, e, b0, _, _⟩ := H.out.at (i := k) (by rw [HM.out]; exact hlt)
      subst e
      have HAL := hide hall.out
      obtain ⟨y, hy⟩ : ∃ y, keyAt L k = y := ⟨_, rfl⟩
      rw [hy] at b0
      have HY := hide hy
      clear hall hy
      by_cases hyk : y < key
      · have d1 : decide (y < key) = true := by simpa using hyk
        go_wp2
        go_roundw
        case rel =>
          refine ⟨k + 1, by omega, by go_num, by first | rfl | trivial, fun j hj => ?_⟩
          by_cases q : j = k
          · rw [q, HY.out]; exact hyk
          · exact HAL.out j (by omega)
        case measure => simp [intOf]; omega
      · have d1 : decide (y < key) = false := by simp; omega
        go_wp2
        go_ret
        exact ⟨rfl, k, rfl, by rw [HM.out]; exact hk, HAL.out, fun _ => by rw [HY.out]; omega⟩
    · have HAL := hide hall.out
      clear hall
      go_wp2
      go_ret
      exact ⟨rfl, k, rfl, by rw [HM.out]; exact hk, HAL.out, fun q => by rw [HM.out] at q; omega⟩

theorem place_some {L : List (It Int)} {key : Int} {p : Nat} (hr : Rising L) (h : Place L key p) {i : It Int} (hg : getL key L = some i) : ∃ hp : p < L.length, L[p] = i ∧ keyAt L p = key := by
  obtain ⟨h1, h2⟩ := getL_spec hg
  obtain ⟨j, hj, e⟩ := List.getElem_of_mem h1
  have ek : keyAt L j = key := by simp [keyAt, hj, e, h2]
  have hpj : p = j := by
    rcases Nat.lt_trichotomy p j with q | q | q
    · have := h.hi (by omega); have := keyAt_lt hr q hj; omega
    · exact q
    · have := h.lo j q; omega
  subst hpj
  exact ⟨hj, e, ek⟩
theorem place_none {L : List (It Int)} {key : Int} {p : Nat} (h : getL key L = none) (hp : p < L.length) : keyAt L p ≠ key := by
  intro e
  exact getL_none h L[p] (List.getElem_mem _) (by rw [← e]; simp [keyAt, hp])

set_option maxHeartbeats 1000000 in
theorem hasT (w : World) (r o : Nat) (v : Value) (L : List (It Int)) (h : DAt w r o v L) (key : Int) (hl : L.length ≤ 1000000) :
    Calls Try.prog 105 #[.pointer (some ⟨r, o, none⟩), .int .i64 key] w fun e w' => e = .returned (.bool (getL key L).isSome) ∧ w' = w := by
  have HP := hide (placeT w r o v L h key hl)
  obtain ⟨B, hB⟩ : ∃ B, (getL key L).isSome = B := ⟨_, rfl⟩
  have HB := hide hB
  rw [hB]
  clear hB
  obtain ⟨a, c, rfl⟩ := h.slice
  have c0 : w.cell? ⟨r, o, none⟩ = some (.slice a L.length c) := h.head
  have H := hide h
  obtain ⟨m, hm⟩ : ∃ m, L.length = m := ⟨_, rfl⟩
  have HM := hide hm
  rw [hm] at c0 hl
  clear h hm
  go_enter Try.func105, Try.ntmps105
  go_wp2_with fail
  refine HP.out.mono ?_
  rintro e w1 ⟨hw1, p, rfl, hp⟩
  rw [hw1]
  have hpm : p ≤ m := by have := hp.le; rw [HM.out] at this; exact this
  have HPL := hide hp
  clear hw1 w1 hp HP
  by_cases hlt : p < m
  · obtain ⟨g, e, b0, _, _⟩ := H.out.at (i := p) (by rw [HM.out]; exact hlt)
    subst e
    cases hg : getL key L with
    | none =>
      have hne := place_none hg (p := p) (by rw [HM.out]; exact hlt)
      generalize keyAt L p = y at *
      have d1 : (y == key) = false := by rw [beq_eq_false_iff_ne]; exact hne
      have hb : B = false := by rw [← HB.out, hg]; rfl
      clear hg hne
      go_wp2
      go_ret
      exact ⟨ret_bool hb.symm, rfl⟩
    | some i =>
      obtain ⟨_, _, ek⟩ := place_some H.out.ris HPL.out hg
      rw [ek] at b0
      have hb : B = true := by rw [← HB.out, hg]; rfl
      clear hg ek
      go_wp2
      go_ret
      exact ⟨ret_bool hb.symm, rfl⟩
  · have hg : getL key L = none := by
      cases hg : getL key L with
      | none => rfl
      | some i => obtain ⟨q, _⟩ := place_some H.out.ris HPL.out hg; rw [HM.out] at q; omega
    have hb : B = false := by rw [← HB.out, hg]; rfl
    clear hg
    go_wp2
    go_ret
    exact ⟨ret_bool hb.symm, rfl⟩

theorem place_unique {L : List (It Int)} {key : Int} {p q : Nat} (h : Place L key p) (g : Place L key q) : p = q := by
  rcases Nat.lt_trichotomy p q with e | e | e
  · have h1 := g.lo p e; have h2 := h.hi (by have := g.le; omega); omega
  · exact e
  · have h1 := h.lo q e; have h2 := g.hi (by have := h.le; omega); omega
theorem place_there (L : List (It Int)) (key : Int) : ∃ p, Place L key p := by
  have main : ∀ n, n ≤ L.length → (∃ p, Place L key p) ∨ ∀ j, j < n → keyAt L j < key := by
    intro n
    induction n with
    | zero => exact fun _ => .inr fun j hj => by omega
    | succ n ih =>
      intro hn
      rcases ih (by omega) with h | h
      · exact .inl h
      · by_cases q : keyAt L n < key
        · refine .inr fun j hj => ?_
          by_cases e : j = n
          · rw [e]; exact q
          · exact h j (by omega)
        · exact .inl ⟨n, by omega, h, fun _ => by omega⟩
  rcases main L.length (Nat.le_refl _) with h | h
  · exact h
  · exact ⟨L.length, Nat.le_refl _, h, fun q => by omega⟩
theorem placeP (w : World) (r o : Nat) (v : Value) (L : List (It Int)) (h : DAt w r o v L) (key : Int) (hl : L.length ≤ 1000000) (p : Nat) (hp : Place L key p) :
    Calls Try.prog 106 #[.pointer (some ⟨r, o, none⟩), .int .i64 key] w fun e w' => e = .returned (.int .i64 (p : Int)) ∧ w' = w :=
  (placeT w r o v L h key hl).mono fun _ _ ⟨h1, q, h2, h3⟩ => ⟨by rw [h2, place_unique h3 hp], h1⟩
theorem DAt.alike {w w' : World} {r o : Nat} {v : Value} {L : List (It Int)} (h : DAt w r o v L) (g : Alike w w') : DAt w' r o v L := ⟨(World.cell?_of_block (a := ⟨r, o, none⟩) (by rw [g.heap])).trans h.head, by rw [g.heap]; exact h.lt, by have := h.froz; unfold World.frozen? at this ⊢; rw [g.heap]; exact this, ownsRow_alike h.row g, h.ne, h.ris⟩

end Go.Proofs.Ytafamfjgehnddaa

namespace Go.Proofs.Ytafamfjgehnddaa
open Go.RowKit

theorem itemVals_app (A B : List (It Int)) : itemVals (A ++ B) = itemVals A ++ itemVals B := by simp [itemVals]
theorem itemVals_one (L : List (It Int)) : ∀ u ∈ itemVals L, u.oneCell' = true := by
  intro u hu
  simp only [itemVals, List.mem_flatMap] at hu
  obtain ⟨i, _, h⟩ := hu
  simp only [List.mem_cons, List.not_mem_nil, or_false] at h
  rcases h with rfl | rfl | rfl <;> rfl
theorem infoItem : (Try.prog.info? 176).map (fun i => (i.zero, i.size, i.bytes)) = some (some (.agg #[.int .i64 0, .int .u32 0, .int .i64 0]), 3, 24) := by kernel_rfl
theorem filter_place {L : List (It Int)} {key : Int} {p : Nat} (hr : Rising L) (h : Place L key p) : L.filter (fun i => decide (i.1 < key)) = L.take p ∧ L.filter (fun i => !decide (i.1 < key)) = L.drop p := by
  have e : L = L.take p ++ L.drop p := (List.take_append_drop p L).symm
  have h1 : ∀ i ∈ L.take p, i.1 < key := fun i hi => by
    obtain ⟨j, hj, rfl⟩ := List.getElem_of_mem hi
    rw [List.length_take] at hj
    have := h.lo j (by omega)
    rw [List.getElem_take]
    simpa [keyAt, show j < L.length by omega] using this
  have h2 : ∀ i ∈ L.drop p, key ≤ i.1 := fun i hi => by
    obtain ⟨j, hj, rfl⟩ := List.getElem_of_mem hi
    rw [List.length_drop] at hj
    have k1 := h.hi (by omega)
    rw [List.getElem_drop]
    by_cases hj0 : j = 0
    · subst hj0; simpa [keyAt, show p < L.length by omega] using k1
    · have := keyAt_lt hr (i := p) (j := p + j) (by omega) (by omega)
      simp only [keyAt, List.getD_eq_getElem?_getD, List.getElem?_map, List.getElem?_eq_getElem (show p < L.length by omega), List.getElem?_eq_getElem (show p + j < L.length by omega), Option.map_some, Option.getD_some] at this k1
      omega
  have f1 := filter_lt_all h1
  have f2 := filter_ge_all h2
  constructor
  · conv => lhs; rw [e]
    rw [List.filter_append, f1.1, f2.1, List.append_nil]
  · conv => lhs; rw [e]
    rw [List.filter_append, f1.2, f2.2, List.nil_append]
theorem ins_place {L : List (It Int)} {key : Int} {p : Nat} (hr : Rising L) (h : Place L key p) (d : Nat) (x : Int) : insL key d x L = L.take p ++ (key, d, x) :: L.drop p := by
  unfold insL
  rw [(filter_place hr h).1, (filter_place hr h).2]
/-- What a cut of the row tells. -/
theorem src_take {w W : World} {L : List (It Int)} {g c : Nat} (h : w.ownsRow 0 176 3 (.slice (some ⟨g, 0, none⟩) L.length c) L.length (itemVals L)) (hb : Below w.heap.size w W) (p : Nat) (hp : p ≤ L.length) (cc : Nat) : Src W (.slice (some ⟨g, 0, none⟩) p cc) p (itemVals (L.take p)) := by
  refine .inr ⟨_, _, rfl, fun j u hj => ?_⟩
  have hjl : j < p * 3 := by have := (List.getElem?_eq_some_iff.1 hj).1; rw [itemVals_length, List.length_take] at this; omega
  have hc := World.ownsRow.cellAt h j (by omega)
  have e : (itemVals L)[j]? = some u := by
    rw [← List.take_append_drop p L, itemVals_app, List.getElem?_append_left (by rw [itemVals_length, List.length_take]; omega)]; exact hj
  have ea : (⟨g, 0, none⟩ : Addr).add j = ⟨g, j, none⟩ := by unfold Addr.add; split <;> simp_all
  rw [ea]
  exact (hb.cell (p := ⟨g, j, none⟩) ((h.lt g rfl).2)).trans (hc.trans e)
theorem src_drop {w W : World} {L : List (It Int)} {g c : Nat} (h : w.ownsRow 0 176 3 (.slice (some ⟨g, 0, none⟩) L.length c) L.length (itemVals L)) (hb : Below w.heap.size w W) (p : Nat) (hp : p ≤ L.length) (cc : Nat) (a : Nat) (ha : p < L.length → a = p * 3) : Src W (.slice (some ⟨g, a, none⟩) (L.length - p) cc) (L.length - p) (itemVals (L.drop p)) := by
  refine .inr ⟨_, _, rfl, fun j u hj => ?_⟩
  have hjl : j < (L.length - p) * 3 := by have := (List.getElem?_eq_some_iff.1 hj).1; rw [itemVals_length, List.length_drop] at this; omega
  have hap := ha (by omega)
  subst hap
  have hc := World.ownsRow.cellAt h (p * 3 + j) (by omega)
  have e : (itemVals L)[p * 3 + j]? = some u := by
    rw [← List.take_append_drop p L, itemVals_app, List.getElem?_append_right (by rw [itemVals_length, List.length_take]; omega), itemVals_length, List.length_take, show p * 3 + j - min p L.length * 3 = j by omega]
    exact hj
  have ea : (⟨g, p * 3, none⟩ : Addr).add j = ⟨g, p * 3 + j, none⟩ := by unfold Addr.add; split <;> simp_all
  rw [ea]
  exact (hb.cell (p := ⟨g, p * 3 + j, none⟩) ((h.lt g rfl).2)).trans (hc.trans e)

set_option maxRecDepth 100000 in
set_option maxHeartbeats 4000000 in
theorem dput (w : World) (r o : Nat) (v : Value) (L : List (It Int)) (h : DAt w r o v L) (key : Int) (d : Nat) (x : Int) (hg : getL key L = none) (hl : L.length ≤ 1000000) :
    Calls Try.prog 104 #[.pointer (some ⟨r, o, none⟩), .int .i64 key, .int .u32 (d : Int), .int .i64 x] w fun e w' => e = .returned (.bool true) ∧ ∃ v' W, w' = W.setCell ⟨r, o, none⟩ v' ∧ Below w.heap.size w W ∧ W.ownsRow w.heap.size 176 3 v' (L.length + 1) (itemVals (insL key d x L)) := by
  obtain ⟨i0, hi, hz0, hz1, hz2⟩ := info_parts infoItem
  have HH := hide (hasT w r o v L h key hl)
  rw [hg, Option.isSome_none] at HH
  obtain ⟨p, hp⟩ := place_there L key
  have HP := hide (placeP w r o v L h key hl p hp)
  have HI := hide (ins_place h.ris hp d x)
  have hpl := hp.le
  obtain ⟨a, c, rfl⟩ := h.slice
  have c0 := h.head
  have HD := hide h
  obtain ⟨m, hm⟩ : ∃ m, L.length = m := ⟨_, rfl⟩
  have HM := hide hm
  rw [hm] at c0 hl hpl ⊢
  have hcap : m ≤ c ∧ c ≤ 9223372036854775807 := by
    have := HD.out.row
    rcases this.2 with ⟨e, e0⟩ | ⟨g, cap, cur, e, _, _, e1, e2, _⟩
    · rw [hm] at e e0; cases e; omega
    · cases e; unfold maxLen at e2; omega
  clear h hg hp hm
  go_enter Try.func104, Try.ntmps104
  go_wp2_with fail
  refine HH.out.mono ?_
  rintro e w1 ⟨rfl, rfl⟩
  go_wp2_with fail
  refine HP.out.mono ?_
  rintro e w2 ⟨rfl, rfl⟩
  have C0 : Hid (CellIs r o (.slice a m c) w2.drew) := hide c0
  have u0 : ∀ u : Mem (CellIs r o (.slice a m c)), u.w'.cell? ⟨r, o, none⟩ = some (.slice a m c) := fun u => u.h
  have hne : Nonempty (Mem (CellIs r o (.slice a m c))) := ⟨⟨_, C0.out⟩⟩
  clear HH HP
  go_wp2
  refine startL 24 (J := CellIs r o (.slice a m c)) (by kernel_rfl) ?_
  refine stretchL (fuel := 8) (by kernel_rfl) (fun _ _ _ _ _ h => h) C0.out [0, 2, 3, 4, 5, 6, 7, 9, 10, 11, 12, 15, 16, 17, 18, 19, 20] (by kernel_rfl) ?_
  simp only [List.filterMap_cons, List.filterMap_nil, List.getElem?_toArray, List.getElem?_cons_zero, List.getElem?_cons_succ]
  show wpQuiet _ _ _ _ [_, _, _, _, _, _, _, _, _, _, _, _, _, _, _, _, _] _
  repeat (go_big_quiet_step (fail))
  -- GEN
  refine wpQuiet_nil ?_
  obtain ⟨S, hS⟩ : ∃ S, w2.heap.size = S := ⟨_, rfl⟩
  have HS := hide hS
  have hSr : r < S := by rw [← hS]; exact HD.out.lt
  have HCI : Hid (∀ U, Below S w2 U → CellIs r o (.slice a m c) U) := hide (fun U hU => (hU.cell (p := ⟨r, o, none⟩) hSr).trans c0)
  have HR0 := hide HD.out.row
  have HX1 : Hid (∀ U, Below S w2 U → Src U (.slice a p c) p (itemVals (L.take p))) := hide (fun U hU => by
    have hr := HR0.out
    rcases hr.2 with ⟨e, e0⟩ | ⟨g, cap, cur, e, _⟩
    · have hm0 := HM.out
      simp only [Value.slice.injEq] at e
      obtain ⟨rfl, _, rfl⟩ := e
      have : p = 0 := by omega
      subst this
      exact .inl ⟨rfl, rfl, by simp [itemVals]⟩
    · cases e
      exact src_take hr (by rw [HS.out]; exact hU) p (by rw [HM.out]; exact hpl) c)
  have HX2 : Hid (∀ U, Below S w2 U → Src U (.slice (if c = p then a else Option.map (fun x => x.add (p * 3)) a) (m - p) (c - p)) (m - p) (itemVals (L.drop p))) := hide (fun U hU => by
    have hr := HR0.out
    rcases hr.2 with ⟨e, e0⟩ | ⟨g, cap, cur, e, _, _, e1, _⟩
    · have hm0 := HM.out
      have hln : L = [] := List.length_eq_zero_iff.1 e0
      simp only [Value.slice.injEq] at e
      obtain ⟨rfl, _, rfl⟩ := e
      have : p = 0 := by omega
      subst this
      exact .inl ⟨by simp; omega, by omega, by rw [hln]; rfl⟩
    · cases e
      have hm0 := HM.out
      by_cases hcp : c = p
      · rw [if_pos hcp]
        have := src_drop (w := w2) hr (by rw [HS.out]; exact hU) p (by omega) (c - p) 0 (fun h => by omega)
        rw [hm0] at this; exact this
      · rw [if_neg hcp]
        have := src_drop (w := w2) hr (by rw [HS.out]; exact hU) p (by omega) (c - p) (p * 3) (fun _ => rfl)
        rw [hm0] at this
        have ea : (⟨g, 0, none⟩ : Addr).add (p * 3) = ⟨g, p * 3, none⟩ := by unfold Addr.add; split <;> simp_all
        simp only [Option.map_some, ea]; exact this)
  have HIT : Hid (itemVals (L.take p) ++ [.int .i64 key, .int .u32 (d : Int), .int .i64 x] ++ itemVals (L.drop p) = itemVals (insL key d x L)) := hide (by rw [HI.out, itemVals_app]; simp [itemVals])
  have HL1 : Hid ((itemVals (L.take p)).length = p * 3) := hide (by rw [itemVals_length, List.length_take]; have := HM.out; omega)
  have HL2 : Hid ((itemVals (L.drop p)).length = (m - p) * 3) := hide (by rw [itemVals_length, List.length_drop]; have := HM.out; omega)
  have HN1 := hide (itemVals_one (L.take p))
  have HN2 := hide (itemVals_one (L.drop p))
  have HFZ : Hid (∀ U, Below S w2 U → U.frozen? ⟨r, o, none⟩ = false) := hide (fun U hU => by have := HD.out.froz; unfold World.frozen? at this ⊢; rw [hU.block r hSr]; exact this)
  generalize (if c = p then a else Option.map (fun x => x.add (p * 3)) a) = xa at *
  have hB0 : Below S w2 w2.drew := (Alike.drewN w2 1).below _
  have hS0 : S ≤ w2.drew.heap.size := by show S ≤ w2.heap.size; omega
  clear c0 hS C0 u0 hne HD HI HM HR0
  refine twoL (i := 1) (j := 13) rfl rfl (by kernel_rfl) rfl rfl (fun K hK => ?_) (fun K hK => ?_)
  · go_simp
    have b1 : Below S w2 (w2.alloc (.cells #[] 176)).drew := ((Below.refl S w2).alloc (by have := HS.out; omega) (.cells #[] 176)).trans ((Alike.drewN _ 1).below _)
    have s1 : S ≤ (w2.alloc (.cells #[] 176)).drew.heap.size := by show S ≤ (w2.alloc (.cells #[] 176)).heap.size; simp; have := HS.out; omega
    have own1 : (w2.alloc (.cells #[] 176)).drew.ownsRow S 176 3 (.slice (some ⟨w2.heap.size, 0, none⟩) 0 0) 0 [] := ownsRow_alike (w := w2.alloc (.cells #[] 176)) ⟨rfl, .inr ⟨w2.heap.size, 0, #[], rfl, by have := HS.out; omega, heap_alloc_at _ _, Nat.le_refl _, Nat.zero_le _, rfl, rfl⟩⟩ ⟨rfl, rfl, rfl, rfl⟩
    have hz1' : (w2.alloc (.cells #[] 176)).drew.heap.size = w2.heap.size + 1 := by show (w2.alloc (.cells #[] 176)).heap.size = _; simp
    refine hK _ _ (fun _ => HCI.out _ b1) ?_
    clear hK K
    generalize (w2.alloc (.cells #[] 176)).drew = U1 at *
    have hn3 : U1.heap.size ≠ w2.heap.size := by omega
    clear hz1'
    refine twoL (i := 8) (j := 13) rfl rfl (by kernel_rfl) rfl rfl (fun K hK => ?_) (fun K hK => ?_)
    · refine oper_append _ _ _ 160 rfl S 176 i0 (.agg #[.int .i64 0, .int .u32 0, .int .i64 0]) 3 24 Try.underlying160 hi hz0 hz1 hz2 rfl (by decide) (.slice (some ⟨w2.heap.size, 0, none⟩) 0 0) 0 [] rfl own1 p (itemVals (L.take p)) (HX1.out _ b1) HL1.out HN1.out (by unfold maxLen; omega) (by omega) s1 ?_
      intro v8 u8 own8 hgr hat
      have b8 : Below S w2 u8 := b1.trans (grown_below own1 hgr s1)
      have s8 : S ≤ u8.heap.size := Nat.le_trans s1 hgr.size
      rw [List.nil_append, Nat.zero_add] at own8
      refine hK _ _ (fun _ => HCI.out _ b8) ?_
      clear hK K
      simp only [Act.put, List.getElem_toArray, List.getElem_cons_succ, List.getElem_cons_zero, List.setIfInBounds_toArray, List.set_cons_succ, List.set_cons_zero]
      refine writerL (i := 13) rfl (by kernel_rfl) rfl (fun K hK => ?_)
      go_simp
      have hit : ∀ j u, [Value.int .i64 key, .int .u32 (d : Int), .int .i64 x][j]? = some u → (u8.alloc (.cells #[.int .i64 key, .int .u32 (d : Int), .int .i64 x] 176)).cell? ((⟨u8.heap.size, 0, none⟩ : Addr).add j) = some u := cells_new _ _ _
      have b8' : Below S w2 (u8.alloc (.cells #[.int .i64 key, .int .u32 (d : Int), .int .i64 x] 176)) := b8.alloc s8 _
      have own8' := own8.alloc (.cells #[.int .i64 key, .int .u32 (d : Int), .int .i64 x] 176)
      have s8' : S ≤ (u8.alloc (.cells #[.int .i64 key, .int .u32 (d : Int), .int .i64 x] 176)).heap.size := by simp; omega
      refine hK _ _ (fun _ => HCI.out _ b8') ?_
      clear hK K own8 b8 s8 own1 b1 s1
      generalize u8.heap.size = b3 at *
      generalize u8.alloc (.cells #[.int .i64 key, .int .u32 (d : Int), .int .i64 x] 176) = U3 at *
      have own8 := own8'
      have b8 := b8'
      have s8 := s8'
      refine writerL (i := 14) rfl (by kernel_rfl) rfl (fun K hK => ?_)
      refine oper_append _ _ _ 160 rfl S 176 i0 (.agg #[.int .i64 0, .int .u32 0, .int .i64 0]) 3 24 Try.underlying160 hi hz0 hz1 hz2 rfl (by decide) v8 p (itemVals (L.take p)) rfl own8 1 [.int .i64 key, .int .u32 (d : Int), .int .i64 x] (.inr ⟨⟨b3, 0, none⟩, 1, rfl, hit⟩) rfl (by simp [Value.oneCell']) (by unfold maxLen; omega) (by omega) s8 ?_
      intro v14 u14 own14 hgr hat
      have b14 : Below S w2 u14 := b8.trans (grown_below own8 hgr s8)
      have s14 : S ≤ u14.heap.size := Nat.le_trans s8 hgr.size
      refine hK _ _ (fun _ => HCI.out _ b14) ?_
      clear hK K
      simp only [Act.put, List.getElem_toArray, List.getElem_cons_succ, List.getElem_cons_zero, List.setIfInBounds_toArray, List.set_cons_succ, List.set_cons_zero]
      refine writerL (i := 21) rfl (by kernel_rfl) rfl (fun K hK => ?_)
      refine oper_append _ _ _ 160 rfl S 176 i0 (.agg #[.int .i64 0, .int .u32 0, .int .i64 0]) 3 24 Try.underlying160 hi hz0 hz1 hz2 rfl (by decide) v14 (p + 1) (itemVals (L.take p) ++ [.int .i64 key, .int .u32 (d : Int), .int .i64 x]) rfl own14 (m - p) (itemVals (L.drop p)) (HX2.out _ b14) HL2.out HN2.out (by unfold maxLen; omega) (by omega) s14 ?_
      intro v21 u21 own21 hgr hat
      have b21 : Below S w2 u21 := b14.trans (grown_below own14 hgr s14)
      have s21 : S ≤ u21.heap.size := Nat.le_trans s14 hgr.size
      obtain ⟨a21, c21, rfl⟩ := ownsRow_slice own21
      refine hK _ _ (fun _ => HCI.out _ b21) ?_
      clear hK K
      simp only [Act.put, List.getElem_toArray, List.getElem_cons_succ, List.getElem_cons_zero, List.setIfInBounds_toArray, List.set_cons_succ, List.set_cons_zero]
      refine writerL (i := 22) rfl (by kernel_rfl) rfl (fun K hK => ?_)
      go_simp
      refine hK _ _ (fun _ => HCI.out _ b21) ?_
      clear hK K
      refine writerL (i := 23) rfl (by kernel_rfl) rfl (fun K hK => ?_)
      go_simp
      refine hK _ _ (fun _ => HCI.out _ b21) ?_
      clear hK K
      refine writerL (i := 24) rfl (by kernel_rfl) rfl (fun K hK => ?_)
      have y0 : u21.cell? ⟨r, o, none⟩ = some (.slice a m c) := HCI.out _ b21
      have yf := HFZ.out _ b21
      go_simp
      refine hK _ _ (fun h => absurd rfl h) ?_
      clear hK K
      refine doneL (by kernel_rfl) ?_
      have HB21 := hide b21
      have HO21 := hide own21
      clear y0 yf b21 own21 own14 b14
      go_wp2
      go_ret
      refine ⟨rfl, _, u21, rfl, ?_, ?_⟩
      · rw [HS.out]; exact HB21.out
      · have e := HO21.out
        have he : p + 1 + (m - p) = m + 1 := by omega
        rw [HIT.out, he] at e
        rw [HS.out, he]; exact e
    · go_simp
      have b1' : Below S w2 (U1.alloc (.cells #[.int .i64 key, .int .u32 (d : Int), .int .i64 x] 176)) := b1.alloc s1 _
      have own1' := own1.alloc (.cells #[.int .i64 key, .int .u32 (d : Int), .int .i64 x] 176)
      have s1' : S ≤ (U1.alloc (.cells #[.int .i64 key, .int .u32 (d : Int), .int .i64 x] 176)).heap.size := by simp; omega
      have hi3 := heap_alloc_at U1 (.cells #[.int .i64 key, .int .u32 (d : Int), .int .i64 x] 176)
      refine hK _ _ (fun _ => HCI.out _ b1') ?_
      clear hK K own1 b1 s1
      have hl3 := lt_of_heap hi3
      generalize U1.heap.size = b3 at *
      generalize U1.alloc (.cells #[.int .i64 key, .int .u32 (d : Int), .int .i64 x] 176) = U3 at *
      have own1 := own1'
      have b1 := b1'
      have s1 := s1'
      refine writerL (i := 8) rfl (by kernel_rfl) rfl (fun K hK => ?_)
      refine oper_append _ _ _ 160 rfl S 176 i0 (.agg #[.int .i64 0, .int .u32 0, .int .i64 0]) 3 24 Try.underlying160 hi hz0 hz1 hz2 rfl (by decide) (.slice (some ⟨w2.heap.size, 0, none⟩) 0 0) 0 [] rfl own1 p (itemVals (L.take p)) (HX1.out _ b1) HL1.out HN1.out (by unfold maxLen; omega) (by omega) s1 ?_
      intro v8 u8 own8 hgr hat
      have b8 : Below S w2 u8 := b1.trans (grown_below own1 hgr s1)
      have s8 : S ≤ u8.heap.size := Nat.le_trans s1 hgr.size
      rw [List.nil_append, Nat.zero_add] at own8
      have hit : ∀ j u, [Value.int .i64 key, .int .u32 (d : Int), .int .i64 x][j]? = some u → u8.cell? ((⟨b3, 0, none⟩ : Addr).add j) = some u := cells_at ((hgr.block b3 hl3 (by simp [Value.ownBlock]; omega)).trans hi3)
      refine hK _ _ (fun _ => HCI.out _ b8) ?_
      clear hK K
      simp only [Act.put, List.getElem_toArray, List.getElem_cons_succ, List.getElem_cons_zero, List.setIfInBounds_toArray, List.set_cons_succ, List.set_cons_zero]
      refine writerL (i := 14) rfl (by kernel_rfl) rfl (fun K hK => ?_)
      refine oper_append _ _ _ 160 rfl S 176 i0 (.agg #[.int .i64 0, .int .u32 0, .int .i64 0]) 3 24 Try.underlying160 hi hz0 hz1 hz2 rfl (by decide) v8 p (itemVals (L.take p)) rfl own8 1 [.int .i64 key, .int .u32 (d : Int), .int .i64 x] (.inr ⟨⟨b3, 0, none⟩, 1, rfl, hit⟩) rfl (by simp [Value.oneCell']) (by unfold maxLen; omega) (by omega) s8 ?_
      intro v14 u14 own14 hgr hat
      have b14 : Below S w2 u14 := b8.trans (grown_below own8 hgr s8)
      have s14 : S ≤ u14.heap.size := Nat.le_trans s8 hgr.size
      refine hK _ _ (fun _ => HCI.out _ b14) ?_
      clear hK K
      simp only [Act.put, List.getElem_toArray, List.getElem_cons_succ, List.getElem_cons_zero, List.setIfInBounds_toArray, List.set_cons_succ, List.set_cons_zero]
      refine writerL (i := 21) rfl (by kernel_rfl) rfl (fun K hK => ?_)
      refine oper_append _ _ _ 160 rfl S 176 i0 (.agg #[.int .i64 0, .int .u32 0, .int .i64 0]) 3 24 Try.underlying160 hi hz0 hz1 hz2 rfl (by decide) v14 (p + 1) (itemVals (L.take p) ++ [.int .i64 key, .int .u32 (d : Int), .int .i64 x]) rfl own14 (m - p) (itemVals (L.drop p)) (HX2.out _ b14) HL2.out HN2.out (by unfold maxLen; omega) (by omega) s14 ?_
      intro v21 u21 own21 hgr hat
      have b21 : Below S w2 u21 := b14.trans (grown_below own14 hgr s14)
      have s21 : S ≤ u21.heap.size := Nat.le_trans s14 hgr.size
      obtain ⟨a21, c21, rfl⟩ := ownsRow_slice own21
      refine hK _ _ (fun _ => HCI.out _ b21) ?_
      clear hK K
      simp only [Act.put, List.getElem_toArray, List.getElem_cons_succ, List.getElem_cons_zero, List.setIfInBounds_toArray, List.set_cons_succ, List.set_cons_zero]
      refine writerL (i := 22) rfl (by kernel_rfl) rfl (fun K hK => ?_)
      go_simp
      refine hK _ _ (fun _ => HCI.out _ b21) ?_
      clear hK K
      refine writerL (i := 23) rfl (by kernel_rfl) rfl (fun K hK => ?_)
      go_simp
      refine hK _ _ (fun _ => HCI.out _ b21) ?_
      clear hK K
      refine writerL (i := 24) rfl (by kernel_rfl) rfl (fun K hK => ?_)
      have y0 : u21.cell? ⟨r, o, none⟩ = some (.slice a m c) := HCI.out _ b21
      have yf := HFZ.out _ b21
      go_simp
      refine hK _ _ (fun h => absurd rfl h) ?_
      clear hK K
      refine doneL (by kernel_rfl) ?_
      have HB21 := hide b21
      have HO21 := hide own21
      clear y0 yf b21 own21 own14 b14
      go_wp2
      go_ret
      refine ⟨rfl, _, u21, rfl, ?_, ?_⟩
      · rw [HS.out]; exact HB21.out
      · have e := HO21.out
        have he : p + 1 + (m - p) = m + 1 := by omega
        rw [HIT.out, he] at e
        rw [HS.out, he]; exact e
  · go_simp
    have b1 : Below S w2 (w2.alloc (.cells #[.int .i64 key, .int .u32 (d : Int), .int .i64 x] 176)).drew := ((Below.refl S w2).alloc (by have := HS.out; omega) (.cells #[.int .i64 key, .int .u32 (d : Int), .int .i64 x] 176)).trans ((Alike.drewN _ 1).below _)
    have s1 : S ≤ (w2.alloc (.cells #[.int .i64 key, .int .u32 (d : Int), .int .i64 x] 176)).drew.heap.size := by show S ≤ (w2.alloc (.cells #[.int .i64 key, .int .u32 (d : Int), .int .i64 x] 176)).heap.size; simp; have := HS.out; omega
    have hi3 : (w2.alloc (.cells #[.int .i64 key, .int .u32 (d : Int), .int .i64 x] 176)).drew.heap[w2.heap.size]? = some (.cells #[.int .i64 key, .int .u32 (d : Int), .int .i64 x] 176) := heap_alloc_at w2 (.cells #[.int .i64 key, .int .u32 (d : Int), .int .i64 x] 176)
    refine hK _ _ (fun _ => HCI.out _ b1) ?_
    clear hK K
    have hl3 := lt_of_heap hi3
    obtain ⟨b3, hb3⟩ : ∃ b3, w2.heap.size = b3 := ⟨_, rfl⟩
    rw [hb3] at hi3 hl3 ⊢
    clear hb3
    generalize (w2.alloc (.cells #[.int .i64 key, .int .u32 (d : Int), .int .i64 x] 176)).drew = U1 at *
    refine writerL (i := 1) rfl (by kernel_rfl) rfl (fun K hK => ?_)
    go_simp
    have b1' : Below S w2 (U1.alloc (.cells #[] 176)) := b1.alloc s1 _
    have own1' : (U1.alloc (.cells #[] 176)).ownsRow S 176 3 (.slice (some ⟨U1.heap.size, 0, none⟩) 0 0) 0 [] := ⟨rfl, .inr ⟨U1.heap.size, 0, #[], rfl, s1, heap_alloc_at _ _, Nat.le_refl _, Nat.zero_le _, rfl, rfl⟩⟩
    have s1' : S ≤ (U1.alloc (.cells #[] 176)).heap.size := by simp; omega
    have hi3' := heap_alloc_old (o := (.cells #[] 176)) hi3
    have hn3 : b3 ≠ U1.heap.size := by omega
    refine hK _ _ (fun _ => HCI.out _ b1') ?_
    clear hK K b1 s1 hi3
    have hl3' := lt_of_heap hi3'
    generalize U1.heap.size = q1 at *
    generalize U1.alloc (.cells #[] 176) = U3 at *
    have own1 := own1'
    have b1 := b1'
    have s1 := s1'
    refine writerL (i := 8) rfl (by kernel_rfl) rfl (fun K hK => ?_)
    refine oper_append _ _ _ 160 rfl S 176 i0 (.agg #[.int .i64 0, .int .u32 0, .int .i64 0]) 3 24 Try.underlying160 hi hz0 hz1 hz2 rfl (by decide) (.slice (some ⟨q1, 0, none⟩) 0 0) 0 [] rfl own1 p (itemVals (L.take p)) (HX1.out _ b1) HL1.out HN1.out (by unfold maxLen; omega) (by omega) s1 ?_
    intro v8 u8 own8 hgr hat
    have b8 : Below S w2 u8 := b1.trans (grown_below own1 hgr s1)
    have s8 : S ≤ u8.heap.size := Nat.le_trans s1 hgr.size
    rw [List.nil_append, Nat.zero_add] at own8
    have hit : ∀ j u, [Value.int .i64 key, .int .u32 (d : Int), .int .i64 x][j]? = some u → u8.cell? ((⟨b3, 0, none⟩ : Addr).add j) = some u := cells_at ((hgr.block b3 hl3' (by simp [Value.ownBlock]; omega)).trans hi3')
    refine hK _ _ (fun _ => HCI.out _ b8) ?_
    clear hK K
    simp only [Act.put, List.getElem_toArray, List.getElem_cons_succ, List.getElem_cons_zero, List.setIfInBounds_toArray, List.set_cons_succ, List.set_cons_zero]
    refine writerL (i := 14) rfl (by kernel_rfl) rfl (fun K hK => ?_)
    refine oper_append _ _ _ 160 rfl S 176 i0 (.agg #[.int .i64 0, .int .u32 0, .int .i64 0]) 3 24 Try.underlying160 hi hz0 hz1 hz2 rfl (by decide) v8 p (itemVals (L.take p)) rfl own8 1 [.int .i64 key, .int .u32 (d : Int), .int .i64 x] (.inr ⟨⟨b3, 0, none⟩, 1, rfl, hit⟩) rfl (by simp [Value.oneCell']) (by unfold maxLen; omega) (by omega) s8 ?_
    intro v14 u14 own14 hgr hat
    have b14 : Below S w2 u14 := b8.trans (grown_below own8 hgr s8)
    have s14 : S ≤ u14.heap.size := Nat.le_trans s8 hgr.size
    refine hK _ _ (fun _ => HCI.out _ b14) ?_
    clear hK K
    simp only [Act.put, List.getElem_toArray, List.getElem_cons_succ, List.getElem_cons_zero, List.setIfInBounds_toArray, List.set_cons_succ, List.set_cons_zero]
    refine writerL (i := 21) rfl (by kernel_rfl) rfl (fun K hK => ?_)
    refine oper_append _ _ _ 160 rfl S 176 i0 (.agg #[.int .i64 0, .int .u32 0, .int .i64 0]) 3 24 Try.underlying160 hi hz0 hz1 hz2 rfl (by decide) v14 (p + 1) (itemVals (L.take p) ++ [.int .i64 key, .int .u32 (d : Int), .int .i64 x]) rfl own14 (m - p) (itemVals (L.drop p)) (HX2.out _ b14) HL2.out HN2.out (by unfold maxLen; omega) (by omega) s14 ?_
    intro v21 u21 own21 hgr hat
    have b21 : Below S w2 u21 := b14.trans (grown_below own14 hgr s14)
    have s21 : S ≤ u21.heap.size := Nat.le_trans s14 hgr.size
    obtain ⟨a21, c21, rfl⟩ := ownsRow_slice own21
    refine hK _ _ (fun _ => HCI.out _ b21) ?_
    clear hK K
    simp only [Act.put, List.getElem_toArray, List.getElem_cons_succ, List.getElem_cons_zero, List.setIfInBounds_toArray, List.set_cons_succ, List.set_cons_zero]
    refine writerL (i := 22) rfl (by kernel_rfl) rfl (fun K hK => ?_)
    go_simp
    refine hK _ _ (fun _ => HCI.out _ b21) ?_
    clear hK K
    refine writerL (i := 23) rfl (by kernel_rfl) rfl (fun K hK => ?_)
    go_simp
    refine hK _ _ (fun _ => HCI.out _ b21) ?_
    clear hK K
    refine writerL (i := 24) rfl (by kernel_rfl) rfl (fun K hK => ?_)
    have y0 : u21.cell? ⟨r, o, none⟩ = some (.slice a m c) := HCI.out _ b21
    have yf := HFZ.out _ b21
    go_simp
    refine hK _ _ (fun h => absurd rfl h) ?_
    clear hK K
    refine doneL (by kernel_rfl) ?_
    have HB21 := hide b21
    have HO21 := hide own21
    clear y0 yf b21 own21 own14 b14
    go_wp2
    go_ret
    refine ⟨rfl, _, u21, rfl, ?_, ?_⟩
    · rw [HS.out]; exact HB21.out
    · have e := HO21.out
      have he : p + 1 + (m - p) = m + 1 := by omega
      rw [HIT.out, he] at e
      rw [HS.out, he]; exact e
end Go.Proofs.Ytafamfjgehnddaa

namespace Go.Proofs.Ytafamfjgehnddaa
open Go.RowKit

theorem del_place {L : List (It Int)} {key : Int} {p : Nat} (hr : Rising L) (hp : p < L.length) (hk : L[p].1 = key) : delL key L = L.take p ++ L.drop (p + 1) := by
  have e : L = L.take p ++ L[p] :: L.drop (p + 1) := by rw [List.getElem_cons_drop, List.take_append_drop]
  have hr' := hr
  rw [e] at hr'
  obtain ⟨_, _, h1, h2, _⟩ := Rising.app hr'
  conv => lhs; rw [e]
  unfold delL
  rw [List.filter_append, List.filter_cons_of_neg (by simp [hk])]
  congr 1
  · rw [List.filter_eq_self]; intro i hi; have := h1 i hi; simp; omega
  · rw [List.filter_eq_self]; intro i hi; have := h2 i hi; simp; omega

end Go.Proofs.Ytafamfjgehnddaa

namespace Go.Proofs.Ytafamfjgehnddaa
open Go.RowKit

theorem wpList_append_src {P : Program} (w : World) {ops : Array Oper} {rest : List Oper} {o : Oper} {a : Act} {Q : Exit → Act → World → Prop}
    (hg : o.guard = none) (s x : Operand) (t : TypeId) (hop : o.op = Op.call { callee := Callee.builtin Builtin.append, args := #[s, x], argTypes := #[t, t] })
    (base : Nat) (e : TypeId) (i : TypeInfo) (z : Value) (size bytes : Nat) (h1 : P.underlying t = some (.slice e)) (h2 : P.info? e = some i) (h3 : i.zero = some z) (h4 : i.size = size) (h5 : i.bytes = bytes) (h6 : z.cells.size = size) (h7 : 0 < size)
    (v : Value) (k : Nat) (xs : List Value) (hs : a.eval s = v) (hown : w.ownsRow base e size v k xs) (m : Nat) (news : List Value) (hx : Src w (a.eval x) m news) (hn : news.length = m * size)
    (h1c : ∀ u ∈ news, u.oneCell' = true) (b1 : k + m ≤ maxLen) (b2 : (k + m) * bytes ≤ 140737488355328) (b3 : base ≤ w.heap.size)
    (hK : ∀ v' w', w'.ownsRow base e size v' (k + m) (xs ++ news) → w.grownBy w' v.ownBlock → wpList P ops Q rest (a.put o.dst v') w') :
    wpList P ops Q (o :: rest) a w := by
  refine wpList_plain hg fun K hK' => ?_
  exact oper_append w s x t hop base e i z size bytes h1 h2 h3 h4 h5 h6 h7 v k xs hs hown m news hx hn h1c b1 b2 b3 (fun v' w' q1 q2 _ => hK' _ _ (hK v' w' q1 q2))

/-- The items of L lie where v tells. -/
def LRow (w : World) (v : Value) (L : List (It Int)) : Prop := ∃ a c, v = .slice a L.length c ∧ L.length ≤ c ∧ c ≤ 9223372036854775807 ∧ ∀ i (_ : i < L.length), ∃ g o, a = some ⟨g, o, none⟩ ∧ g < w.heap.size ∧ w.cell? ⟨g, o + i * 3, none⟩ = some (.int .i64 L[i].1) ∧ w.cell? ⟨g, o + i * 3 + 1, none⟩ = some (.int .u32 (L[i].2.1 : Int))
theorem LRow.below {w w' : World} {v : Value} {L : List (It Int)} (h : LRow w v L) (b : Below w.heap.size w w') : LRow w' v L := by
  obtain ⟨a, c, e, h1, h2, h3⟩ := h
  refine ⟨a, c, e, h1, h2, fun i hi => ?_⟩
  obtain ⟨g, o, e2, hg, q1, q2⟩ := h3 i hi
  exact ⟨g, o, e2, Nat.lt_of_lt_of_le hg b.size, (b.cell (p := ⟨g, o + i * 3, none⟩) hg).trans q1, (b.cell (p := ⟨g, o + i * 3 + 1, none⟩) hg).trans q2⟩
theorem lrow_take {w : World} {a : Option Addr} {n c : Nat} {L : List (It Int)} (h : LRow w (.slice a n c) L) (k : Nat) (hk : k ≤ L.length) : LRow w (.slice a k c) (L.take k) := by
  obtain ⟨a', c', e, h1, h2, h3⟩ := h
  cases e
  have hl : (L.take k).length = k := by rw [List.length_take]; omega
  refine ⟨a, c, by rw [hl], by omega, h2, fun i hi => ?_⟩
  obtain ⟨g, o, e2, hg, q1, q2⟩ := h3 i (by omega)
  rw [List.getElem_take]
  exact ⟨g, o, e2, hg, q1, q2⟩
theorem lrow_drop {w : World} {a : Option Addr} {n c : Nat} {L : List (It Int)} (h : LRow w (.slice a n c) L) (k : Nat) (hk : k ≤ L.length) : LRow w (.slice (if c = k then a else Option.map (fun x => x.add (k * 3)) a) (n - k) (c - k)) (L.drop k) := by
  obtain ⟨a', c', e, h1, h2, h3⟩ := h
  cases e
  have hl : (L.drop k).length = L.length - k := List.length_drop
  refine ⟨_, _, by rw [hl], by omega, by omega, fun i hi => ?_⟩
  obtain ⟨g, o, e2, hg, q1, q2⟩ := h3 (k + i) (by omega)
  subst e2
  have hck : c ≠ k := by omega
  rw [List.getElem_drop, if_neg hck]
  have ea : (⟨g, o, none⟩ : Addr).add (k * 3) = ⟨g, o + k * 3, none⟩ := by unfold Addr.add; split <;> simp_all
  refine ⟨g, o + k * 3, by simp [ea], hg, ?_, ?_⟩
  · rw [show o + k * 3 + i * 3 = o + (k + i) * 3 by omega]; exact q1
  · rw [show o + k * 3 + i * 3 + 1 = o + (k + i) * 3 + 1 by omega]; exact q2
theorem src_of_owns {w W : World} {base e size n : Nat} {v : Value} {xs : List Value} (h : w.ownsRow base e size v n xs) (hb : Below w.heap.size w W) : Src W v n xs := by
  have h0 := h.1
  rcases h.2 with ⟨rfl, rfl⟩ | ⟨g, cap, cur, rfl, q1, q2, _⟩
  · exact .inl ⟨rfl, rfl, List.length_eq_zero_iff.1 (by simpa using h0)⟩
  · refine .inr ⟨_, _, rfl, fun j u hj => ?_⟩
    have := World.ownsRow.cells h (g := g) rfl j u hj
    have ea : (⟨g, 0, none⟩ : Addr).add j = ⟨g, j, none⟩ := by unfold Addr.add; split <;> simp_all
    rw [ea] at this ⊢
    exact (hb.cell (p := ⟨g, j, none⟩) (lt_of_heap q2)).trans this
theorem nodeVals_one (l : List (Int × Nat)) : ∀ u ∈ nodeVals l, u.oneCell' = true := by
  intro u hu
  simp only [nodeVals, List.mem_flatMap] at hu
  obtain ⟨i, _, h⟩ := hu
  simp only [List.mem_cons, List.not_mem_nil, or_false] at h
  rcases h with rfl | rfl <;> rfl
theorem root_first0 {M : List (It Int)} {k : Int} {d : Nat} {x : Int} {A B : List (It Int)} (e : M = A ++ (k, d, x) :: B) (ha : ∀ y ∈ A, Abv k d y.1 y.2.1) (hb : ∀ y ∈ B, Abv k d y.1 y.2.1) (hr : Rising M) {q : Nat} (hq : q < M.length)
    (h1 : ∀ j (_ : j < M.length), (M[j]).2.1 ≤ (M[q]).2.1) (h2 : ∀ j (_ : j < q), (M[j]).2.1 < (M[q]).2.1) : q = A.length := by
  subst e
  obtain ⟨_, _, a1, a2, _⟩ := Rising.app hr
  have hR : (A ++ (k, d, x) :: B)[A.length]'(by simp) = (k, d, x) := by simp
  rcases Nat.lt_trichotomy q A.length with u | u | u
  · have m1 : (A ++ (k, d, x) :: B)[q] = A[q] := by simp [u]
    have m2 := h1 A.length (by simp)
    rw [hR, m1] at m2
    have m3 := ha A[q] (List.getElem_mem _)
    have m4 := a1 A[q] (List.getElem_mem _)
    unfold Abv at m3
    simp only at m2 m3 m4
    omega
  · exact u
  · have m0 := h2 A.length u
    rw [hR] at m0
    have m1 : (A ++ (k, d, x) :: B)[q] ∈ B := by
      rw [List.getElem_append_right (by omega), List.getElem_cons]
      split
      · omega
      · exact List.getElem_mem _
    have m3 := hb _ m1
    unfold Abv at m3
    simp only at m0 m3
    omega
/-- The root is the first of the greatest draws. -/
theorem root_first {p : Nat} {k : Int} {d : Nat} {x : Int} {l r : Tr Int} (hh : (Tr.node p k d x l r).Heap) (hr : Rising (Tr.node p k d x l r).items) {q : Nat} (hq : q < (Tr.node p k d x l r).items.length)
    (h1 : ∀ j (_ : j < (Tr.node p k d x l r).items.length), ((Tr.node p k d x l r).items[j]).2.1 ≤ ((Tr.node p k d x l r).items[q]).2.1) (h2 : ∀ j (_ : j < q), ((Tr.node p k d x l r).items[j]).2.1 < ((Tr.node p k d x l r).items[q]).2.1) : q = l.items.length :=
  root_first0 rfl hh.1 hh.2.1 hr hq h1 h2
end Go.Proofs.Ytafamfjgehnddaa

namespace Go.Proofs.Ytafamfjgehnddaa
open Go.RowKit

theorem addr_add (g o k : Nat) : (⟨g, o, none⟩ : Addr).add k = ⟨g, o + k, none⟩ := by unfold Addr.add; split <;> simp_all
theorem LRow.alike {w w' : World} {v : Value} {L : List (It Int)} (h : LRow w v L) (b : Alike w w') : LRow w' v L := h.below (b.below _)
theorem LRow.at {w : World} {a : Option Addr} {n c : Nat} {L : List (It Int)} (h : LRow w (.slice a n c) L) (h0 : 0 < n) : L.length = n ∧ n ≤ c ∧ c ≤ 9223372036854775807 ∧ ∃ g o, a = some ⟨g, o, none⟩ ∧ ∀ i (_ : i < L.length), w.cell? ⟨g, o + i * 3, none⟩ = some (.int .i64 L[i].1) ∧ w.cell? ⟨g, o + i * 3 + 1, none⟩ = some (.int .u32 (L[i].2.1 : Int)) := by
  obtain ⟨a', c', e, h1, h2, h3⟩ := h
  cases e
  refine ⟨rfl, h1, h2, ?_⟩
  obtain ⟨g, o, e2, _, _, _⟩ := h3 0 h0
  refine ⟨g, o, e2, fun i hi => ?_⟩
  obtain ⟨g', o', e3, _, q1, q2⟩ := h3 i hi
  rw [e2] at e3
  cases e3
  exact ⟨q1, q2⟩
theorem ownsRow_keep {w w' : World} {base e size n : Nat} {v : Value} {xs : List Value} (h : w.ownsRow base e size v n xs) (b : Below w.heap.size w w') : w'.ownsRow base e size v n xs := by
  refine ⟨h.1, ?_⟩
  rcases h.2 with h0 | ⟨g, cap, cur, h1, h2, h3, h4⟩
  · exact .inl h0
  · exact .inr ⟨g, cap, cur, h1, h2, (b.block g (lt_of_heap h3)).trans h3, h4⟩
theorem lrow_dat {w : World} {r o : Nat} {a : Option Addr} {n c : Nat} {L : List (It Int)} (h : DAt w r o (.slice a n c) L) : LRow w (.slice a n c) L := by
  have hrow := h.row
  rcases hrow.2 with ⟨e, h0⟩ | ⟨g, cap, cur, e, _, hg, hm, hx, _⟩
  · cases e
    exact ⟨none, 0, by rw [h0], by omega, by omega, fun i hi => by omega⟩
  · cases e
    refine ⟨_, _, rfl, hm, by unfold maxLen at hx; omega, fun i hi => ?_⟩
    obtain ⟨g', e', q1, q2, _⟩ := h.at hi
    cases e'
    refine ⟨g, 0, rfl, lt_of_heap hg, ?_, ?_⟩
    · rw [Nat.zero_add, q1]; simp [keyAt, hi]
    · rw [Nat.zero_add, q2]

end Go.Proofs.Ytafamfjgehnddaa

namespace Go.Proofs.Ytafamfjgehnddaa
open Go.RowKit

theorem own_lt {w : World} {base e size n : Nat} {v : Value} {xs : List Value} (h : w.ownsRow base e size v n xs) {x : Nat} (hx : v.ownBlock = some x) : base ≤ x ∧ x < w.heap.size := by
  rcases h.2 with ⟨h0, _⟩ | ⟨g, cap, cur, h1, h2, h3, h4⟩
  · rw [h0] at hx; simp [Value.ownBlock] at hx
  · rw [h1] at hx; simp only [Value.ownBlock, Option.some.injEq] at hx; rw [← hx]; exact ⟨h2, lt_of_heap h3⟩
theorem ownsRow_kept {w w' : World} {base base' e size n : Nat} {v : Value} {xs : List Value} (h : w.ownsRow base e size v n xs) (hb : base' ≤ base) (o : ∀ x, v.ownBlock = some x → x < w.heap.size → w'.heap[x]? = w.heap[x]?) : w'.ownsRow base' e size v n xs := by
  refine ⟨h.1, ?_⟩
  rcases h.2 with h0 | ⟨g, cap, cur, h1, h2, h3, h4⟩
  · exact .inl h0
  · exact .inr ⟨g, cap, cur, h1, by omega, (o g (by rw [h1]; rfl) (lt_of_heap h3)).trans h3, h4⟩
theorem DAt.kept {w w' : World} {r o : Nat} {v : Value} {L : List (It Int)} {M : Nat → Prop} (h : DAt w r o v L) (k : Only M w w') (hr : ¬ M r) (hv : ∀ x, v.ownBlock = some x → ¬ M x) : DAt w' r o v L := by
  have e := k.block r h.lt hr
  exact ⟨(World.cell?_of_block (a := ⟨r, o, none⟩) e).trans h.head, Nat.lt_of_lt_of_le h.lt k.size, by have := h.froz; unfold World.frozen? at this ⊢; rw [e]; exact this, ownsRow_kept h.row (Nat.le_refl _) (fun x hx hl => k.block x hl (hv x hx)), h.ne, h.ris⟩
theorem DAt.below {w w' : World} {r o : Nat} {v : Value} {L : List (It Int)} (h : DAt w r o v L) (b : Below w.heap.size w w') : DAt w' r o v L :=
  h.kept (Below.only b (fun _ => False)) (fun h => h) (fun _ _ h => h)
/-- A row of one's own is laid in the head. -/
theorem DAt.set {w W : World} {r o : Nat} {v v' : Value} {L L' : List (It Int)} {n : Nat} (h : DAt w r o v L) (b : Below w.heap.size w W) (hrow : W.ownsRow w.heap.size 176 3 v' n (itemVals L')) (hn : L'.length = n) (hr : Rising L') : DAt (W.setCell ⟨r, o, none⟩ v') r o v' L' := by
  have hc : W.cell? ⟨r, o, none⟩ = some v := (b.cell (p := ⟨r, o, none⟩) h.lt).trans h.head
  refine ⟨World.cell?_setCell_same _ _ _ hc, by rw [setCell_size]; exact Nat.lt_of_lt_of_le h.lt b.size, ?_, ?_, ?_, hr⟩
  · rw [World.frozen?_setCell, b.frozen (p := ⟨r, o, none⟩) h.lt]; exact h.froz
  · rw [hn]
    exact ownsRow_kept hrow (Nat.zero_le _) (fun x hx _ => Below.heap_setCell _ _ _ _ (by have := (own_lt hrow hx).1; have := h.lt; simp; omega))
  · intro hx; have := (own_lt hrow hx).1; have := h.lt; omega
theorem set_only {w W : World} {r o : Nat} {v' : Value} (b : Below w.heap.size w W) {M : Nat → Prop} (hM : M r) : Only M w (W.setCell ⟨r, o, none⟩ v') := (Below.only b M).setCell (.inl hM) v'
/-- The document's tree at block r, of the items L. -/
def RD (r : Nat) (L : List (It Int)) : Res := fun w G => ∃ v, DAt w r 0 v L ∧ ∀ x, G x ↔ x = r ∨ v.ownBlock = some x
theorem Loc.rd {r : Nat} {L : List (It Int)} : Loc (RD r L) :=
  ⟨fun ⟨v, a, b⟩ o hn => ⟨v, a.kept o (hn r ((b r).2 (.inl rfl))) (fun x hx => hn x ((b x).2 (.inr hx))), b⟩, fun ⟨_, a, b⟩ hx => by
    rcases (b _).1 hx with rfl | q
    · exact a.lt
    · exact (own_lt a.row q).2⟩
theorem Own.dtree {r : Nat} {L : List (It Int)} {R : Res} {w0 w : World} (l : Loc R) (h : Own (Sep (RD r L) R) w0 w) :
    ∃ v, DAt w r 0 v L ∧ ∀ {W v' L' n}, Below w.heap.size w W → W.ownsRow w.heap.size 176 3 v' n (itemVals L') → L'.length = n → Rising L' → Own (Sep (RD r L') R) w0 (W.setCell ⟨r, 0, none⟩ v') := by
  obtain ⟨G, ⟨G1, G2, ⟨v, a, e⟩, b, c, d⟩, h2, h3⟩ := h
  refine ⟨v, a, fun {W v' L' n} g1 g2 g3 g4 => ?_⟩
  refine Own.step (G1 := G1) (G1' := fun x => x = r ∨ v'.ownBlock = some x) (G2 := G2) l h3 (fun x hx => h2 x ((d x).2 hx)) b c ⟨v', a.set g1 g2 g3 g4, fun _ => Iff.rfl⟩ (set_only g1 ((e r).2 (.inl rfl))) (fun x hx => ?_)
  rcases hx with rfl | hx
  · exact .inl ((e x).2 (.inl rfl))
  · exact .inr (own_lt g2 hx).1

set_option maxHeartbeats 1000000 in
theorem dputNo (w : World) (r o : Nat) (v : Value) (L : List (It Int)) (h : DAt w r o v L) (key : Int) (d : Nat) (x : Int) (hl : L.length ≤ 1000000) (hg : (getL key L).isSome = true) :
    Calls Try.prog 104 #[.pointer (some ⟨r, o, none⟩), .int .i64 key, .int .u32 (d : Int), .int .i64 x] w fun e w' => e = .returned (.bool false) ∧ w' = w := by
  have HH := hide (hasT w r o v L h key hl)
  rw [hg] at HH
  clear hg h
  go_enter Try.func104, Try.ntmps104
  go_wp2_with fail
  refine HH.out.mono ?_
  rintro e w1 ⟨rfl, rfl⟩
  go_wp2
  go_ret
  exact ⟨rfl, rfl⟩
theorem delL_len {key : Int} {L : List (It Int)} {i : It Int} (hr : Rising L) (hg : getL key L = some i) : (delL key L).length = L.length - 1 := by
  obtain ⟨p, hp⟩ := place_there L key
  obtain ⟨hpl, hpe, _⟩ := place_some hr hp hg
  rw [del_place hr hpl (by rw [hpe]; exact (getL_spec hg).2), List.length_append, List.length_take, List.length_drop]
  omega
theorem dputP {R : Res} {w0 w : World} {r : Nat} {L : List (It Int)} (l : Loc R) (h : Own (Sep (RD r L) R) w0 w) (key : Int) (d : Nat) (x : Int) (hl : L.length ≤ 1000000) :
    Calls Try.prog 104 #[.pointer (some ⟨r, 0, none⟩), .int .i64 key, .int .u32 (d : Int), .int .i64 x] w fun e w' => e = .returned (.bool (getL key L).isNone) ∧ Own (Sep (RD r (putL key d x L)) R) w0 w' := by
  obtain ⟨v, a, k⟩ := h.dtree l
  cases hg : getL key L with
  | none =>
    rw [putL_no hg]
    exact (dput w r 0 v L a key d x hg hl).mono fun _ _ ⟨e, v', W, q1, q2, q3⟩ => ⟨e, by rw [q1]; exact k q2 q3 insL_length (insL_rising a.ris (fun i hi => getL_none hg i hi))⟩
  | some i =>
    rw [putL_yes hg]
    exact (dputNo w r 0 v L a key d x hl (by rw [hg]; rfl)).mono fun _ _ ⟨e, q⟩ => ⟨e, by rw [q]; exact h⟩
end Go.Proofs.Ytafamfjgehnddaa

namespace Go.Proofs.Ytafamfjgehnddaa
open Go.RowKit

/-- One bit more that is not set, at i, behind the runs R. -/
def runStep (R : List (Nat × Nat)) (i : Nat) : List (Nat × Nat) := match R.getLast? with
  | some r => if r.1 + r.2 = i then R.dropLast ++ [(r.1, r.2 + 1)] else R ++ [(i, 1)]
  | none => [(i, 1)]

/-- The runs of the first k bits. -/
def runsN (nf : Nat → Bool) : Nat → List (Nat × Nat)
  | 0 => []
  | k + 1 => if nf k then runsN nf k else runStep (runsN nf k) k

/-- The last run ends where the bits do just if the last bit is not set. -/
def Ends (R : List (Nat × Nat)) (k : Nat) : Prop := ∃ r, R.getLast? = some r ∧ r.1 + r.2 = k

theorem runStep_ends {R : List (Nat × Nat)} {k : Nat} (h : Ends R k) : ∃ R0 r, R = R0 ++ [r] ∧ r.1 + r.2 = k ∧ runStep R k = R0 ++ [(r.1, r.2 + 1)] := by
  obtain ⟨r, hr, he⟩ := h
  have hne : R ≠ [] := by intro e; rw [e] at hr; cases hr
  refine ⟨R.dropLast, r, ?_, he, ?_⟩
  · have := List.dropLast_concat_getLast hne
    rw [List.getLast?_eq_some_getLast hne] at hr
    rw [← this, Option.some.inj hr]
    simp
  · unfold runStep; rw [hr]; simp [he]

theorem runStep_new {R : List (Nat × Nat)} {k : Nat} (h : ¬ Ends R k) : runStep R k = R ++ [(k, 1)] := by
  unfold runStep
  cases hr : R.getLast? with
  | none => rw [List.getLast?_eq_none_iff.1 hr]; rfl
  | some r => simp only []; rw [if_neg (fun e => h ⟨r, hr, e⟩)]

theorem ends_snoc (R : List (Nat × Nat)) (r : Nat × Nat) (k : Nat) : Ends (R ++ [r]) k ↔ r.1 + r.2 = k := by simp [Ends]

theorem runsN_below (nf : Nat → Bool) : ∀ k, ∀ r ∈ runsN nf k, 1 ≤ r.2 ∧ r.1 + r.2 ≤ k
  | 0, r, h => by cases h
  | k + 1, r, h => by
    have ih := runsN_below nf k
    simp only [runsN] at h
    split at h
    · have := ih r h; omega
    · by_cases he : Ends (runsN nf k) k
      · obtain ⟨R0, r0, hR, h0, hs⟩ := runStep_ends he
        rw [hs] at h
        rcases List.mem_append.1 h with h | h
        · have := ih r (by rw [hR]; exact List.mem_append_left _ h); omega
        · simp at h; subst h; simp; omega
      · rw [runStep_new he] at h
        rcases List.mem_append.1 h with h | h
        · have := ih r h; omega
        · simp at h; subst h; simp

theorem runsN_ends (nf : Nat → Bool) (k : Nat) : Ends (runsN nf (k + 1)) (k + 1) ↔ nf k = false := by
  simp only [runsN]
  by_cases hb : nf k = true
  · rw [if_pos hb]
    constructor
    · rintro ⟨r, hr, he⟩
      have := (runsN_below nf k r (List.mem_of_getLast? hr)).2
      omega
    · intro h; rw [h] at hb; cases hb
  · rw [if_neg hb]
    refine ⟨fun _ => by simpa using hb, fun _ => ?_⟩
    by_cases he : Ends (runsN nf k) k
    · obtain ⟨R0, r0, hR, h0, hs⟩ := runStep_ends he
      rw [hs, ends_snoc]; simp; omega
    · rw [runStep_new he, ends_snoc]

/-- Over bits that are set the runs stay. -/
theorem runsN_set (nf : Nat → Bool) (a : Nat) : ∀ n, (∀ i, a ≤ i → i < a + n → nf i = true) → runsN nf (a + n) = runsN nf a
  | 0, _ => rfl
  | n + 1, h => by
    rw [← Nat.add_assoc, runsN, if_pos (h (a + n) (by omega) (by omega)), runsN_set nf a n (fun i h1 h2 => h i h1 (by omega))]

/-- Over bits that are not set, behind one that is (or at the beginning), one run more. -/
theorem runsN_run (nf : Nat → Bool) (a : Nat) (ha : a = 0 ∨ nf (a - 1) = true) : ∀ n, (∀ i, a ≤ i → i < a + (n + 1) → nf i = false) → runsN nf (a + (n + 1)) = runsN nf a ++ [(a, n + 1)]
  | 0, h => by
    have hb := h a (by omega) (by omega)
    rw [runsN, if_neg (by simp [hb]), runStep_new]
    intro he
    cases a with
    | zero => obtain ⟨r, hr, _⟩ := he; simp [runsN] at hr
    | succ a =>
      rcases ha with ha | ha
      · cases ha
      · rw [runsN_ends] at he
        simp only [Nat.add_sub_cancel] at ha
        rw [he] at ha; cases ha
  | n + 1, h => by
    rw [← Nat.add_assoc, runsN, if_neg (by simp [h (a + (n + 1)) (by omega) (by omega)]), runsN_run nf a ha n (fun i h1 h2 => h i h1 (by omega))]
    obtain ⟨R0, r0, hR, h0, hs⟩ := runStep_ends (R := runsN nf a ++ [(a, n + 1)]) (k := a + (n + 1)) ((ends_snoc ..).2 rfl)
    rw [hs]
    obtain ⟨e1, e2⟩ := List.append_inj' hR rfl
    simp at e2
    rw [← e1, ← e2]

theorem runsN_sorted (nf : Nat → Bool) : ∀ k, (runsN nf k).Pairwise fun r s => r.1 + r.2 < s.1
  | 0 => List.Pairwise.nil
  | k + 1 => by
    have ih := runsN_sorted nf k
    simp only [runsN]
    split
    · exact ih
    · by_cases he : Ends (runsN nf k) k
      · obtain ⟨R0, r0, hR, h0, hs⟩ := runStep_ends he
        rw [hs]
        rw [hR, List.pairwise_append] at ih
        rw [List.pairwise_append]
        exact ⟨ih.1, by simp, fun a ha b hb => by simp at hb; subst hb; exact ih.2.2 a ha r0 (by simp)⟩
      · rw [runStep_new he, List.pairwise_append]
        refine ⟨ih, by simp, fun a ha b hb => ?_⟩
        simp at hb; subst hb
        have h1 := (runsN_below nf k a ha).2
        rcases Nat.lt_or_eq_of_le h1 with h2 | h2
        · exact h2
        · exfalso
          -- a run that ends at k is the last one
          obtain ⟨R1, R2, hR⟩ := List.append_of_mem ha
          cases R2 with
          | nil => exact he ⟨a, by rw [hR]; simp, h2⟩
          | cons c R2 =>
            rw [hR, List.pairwise_append] at ih
            have h3 := (List.pairwise_cons.1 ih.2.1).1 c (by simp)
            have h4 := (runsN_below nf k c (by rw [hR]; simp)).2
            omega

/-- A bit is in a run just if it is not set. -/
theorem runsN_mem (nf : Nat → Bool) (i : Nat) : ∀ k, i < k → ((∃ r ∈ runsN nf k, r.1 ≤ i ∧ i < r.1 + r.2) ↔ nf i = false)
  | k + 1, hi => by
    by_cases hk : i < k
    · rw [← runsN_mem nf i k hk]
      simp only [runsN]
      split
      · rfl
      · by_cases he : Ends (runsN nf k) k
        · obtain ⟨R0, r0, hR, h0, hs⟩ := runStep_ends he
          rw [hs, hR]
          constructor
          · rintro ⟨r, hr, h1, h2⟩
            rcases List.mem_append.1 hr with hr | hr
            · exact ⟨r, List.mem_append_left _ hr, h1, h2⟩
            · simp at hr; subst hr; exact ⟨r0, by simp, h1, by simp at h2; omega⟩
          · rintro ⟨r, hr, h1, h2⟩
            rcases List.mem_append.1 hr with hr | hr
            · exact ⟨r, List.mem_append_left _ hr, h1, h2⟩
            · simp at hr; subst hr; exact ⟨(r.1, r.2 + 1), by simp, h1, by simp; omega⟩
        · rw [runStep_new he]
          constructor
          · rintro ⟨r, hr, h1, h2⟩
            rcases List.mem_append.1 hr with hr | hr
            · exact ⟨r, hr, h1, h2⟩
            · simp at hr; subst hr; simp at h1; omega
          · rintro ⟨r, hr, h1, h2⟩
            exact ⟨r, List.mem_append_left _ hr, h1, h2⟩
    · obtain rfl : i = k := by omega
      simp only [runsN]
      by_cases hb : nf i = true
      · rw [if_pos hb]
        constructor
        · rintro ⟨r, hr, h1, h2⟩
          have := (runsN_below nf i r hr).2; omega
        · intro h; rw [h] at hb; cases hb
      · rw [if_neg hb]
        refine ⟨fun _ => by simpa using hb, fun _ => ?_⟩
        by_cases he : Ends (runsN nf i) i
        · obtain ⟨R0, r0, hR, h0, hs⟩ := runStep_ends he
          rw [hs]; exact ⟨(r0.1, r0.2 + 1), by simp, by simp; omega, by simp; omega⟩
        · rw [runStep_new he]; exact ⟨(i, 1), by simp, by simp, by simp⟩

def pairVals (k : IntKind) (l : List (Nat × Nat)) : List Value := l.flatMap fun p => [.int .i64 (p.1 : Int), .int k (p.2 : Int)]
theorem pairVals_length (k : IntKind) (l : List (Nat × Nat)) : (pairVals k l).length = l.length * 2 := by
  induction l with
  | nil => rfl
  | cons p l ih =>
    have e : pairVals k (p :: l) = [Value.int .i64 (p.1 : Int), Value.int k (p.2 : Int)] ++ pairVals k l := rfl
    rw [e, List.length_append, ih, List.length_cons]
    simp
    omega

theorem pairVals_get (k : IntKind) : ∀ (l : List (Nat × Nat)) (i : Nat), i < l.length → (pairVals k l)[2 * i]? = some (.int .i64 ((l.getD i (0, 0)).1 : Int)) ∧ (pairVals k l)[2 * i + 1]? = some (.int k ((l.getD i (0, 0)).2 : Int))
  | [], i, h => by simp at h
  | p :: l, 0, _ => by simp [pairVals]
  | p :: l, i + 1, h => by
    have ih := pairVals_get k l i (by simpa using h)
    have e : pairVals k (p :: l) = Value.int .i64 (p.1 : Int) :: Value.int k (p.2 : Int) :: pairVals k l := rfl
    rw [e, show 2 * (i + 1) = 2 * i + 1 + 1 from by omega, show 2 * i + 1 + 1 + 1 = (2 * i + 1) + 1 + 1 from rfl, List.getElem?_cons_succ, List.getElem?_cons_succ, List.getElem?_cons_succ, List.getElem?_cons_succ]
    simpa using ih

/-- The pairs of l lie where a points. -/
theorem pairVals_snoc (k : IntKind) (l : List (Nat × Nat)) (x y : Nat) : pairVals k (l ++ [(x, y)]) = pairVals k l ++ [.int .i64 (x : Int), .int k (y : Int)] := by simp [pairVals]
theorem pairVals_last (k : IntKind) (l : List (Nat × Nat)) (x y z : Nat) : (pairVals k (l ++ [(x, y)])).set (2 * l.length + 1) (.int k (z : Int)) = pairVals k (l ++ [(x, z)]) := by
  rw [pairVals_snoc, pairVals_snoc, List.set_append_right _ _ (by rw [pairVals_length]; omega), pairVals_length, show 2 * l.length + 1 - l.length * 2 = 1 from by omega]
  rfl

theorem below_app {n₀ : Nat} {w W w3 : World} {tmp : Obj} {v : Value} {t : TypeId} {size k : Nat} {xs : List Value} (hB : Below n₀ w W) (hn : n₀ ≤ w.heap.size) (hrow : W.ownsRow n₀ t size v k xs)
    (hgrow : (W.alloc tmp).grownBy w3 v.ownBlock) : Below n₀ w w3 := by
  refine (hB.alloc (Nat.le_trans hn hB.size) tmp).grown hgrow (by have := hB.size; simp; omega) (fun j ej => ?_)
  rcases hrow.2 with ⟨rfl, _⟩ | ⟨g, cap, cur, rfl, hb, _, _⟩
  · simp [Value.ownBlock] at ej
  · obtain rfl : g = j := by simpa [Value.ownBlock] using ej
    exact hb


/-- Runs as a row of keys. -/
def buildR : List (Nat × Nat) → RL
  | [] => []
  | r :: S => insL (kOf (r.1 : Int) (r.2 : Int)) 0 () (buildR S)
theorem build_mem {S : List (Nat × Nat)} {i : It Unit} : i ∈ buildR S ↔ ∃ r ∈ S, i = (kOf (r.1 : Int) (r.2 : Int), 0, ()) := by
  induction S with
  | nil => simp [buildR]
  | cons r S ih =>
    rw [buildR, insL_mem, ih]
    simp
theorem build_good {pg : Nat} (hq : pg ≤ 4096) : ∀ (S : List (Nat × Nat)), (S.Pairwise fun r s => r.1 + r.2 < s.1) → (∀ r ∈ S, 1 ≤ r.2 ∧ r.1 + r.2 ≤ pg) → Good pg (buildR S)
  | [], _, _ => ⟨List.Pairwise.nil, (fun i hi => absurd hi (by simp [buildR])), (fun i hi => absurd hi (by simp [buildR]))⟩
  | r :: S, h, hb => by
    have ih := build_good hq S (List.pairwise_cons.1 h).2 (fun s hs => hb s (List.mem_cons_of_mem _ hs))
    have hr := hb r (by simp)
    refine ih.ins (by omega) (by omega) (by omega) (by omega) (fun i hi => ?_)
    obtain ⟨s, hs, rfl⟩ := build_mem.1 hi
    have h1 := (List.pairwise_cons.1 h).1 s hs
    have h2 := hb s (List.mem_cons_of_mem _ hs)
    simp only
    rw [rA_k (by omega) (by omega)]
    right; omega
theorem build_fr {pg : Nat} (hq : pg ≤ 4096) {S : List (Nat × Nat)} (hb : ∀ r ∈ S, 1 ≤ r.2 ∧ r.1 + r.2 ≤ pg) (p : Int) : fr (buildR S) p ↔ ∃ r ∈ S, (r.1 : Int) ≤ p ∧ p < (r.1 : Int) + (r.2 : Int) := by
  unfold fr
  constructor
  · rintro ⟨i, hi, h1, h2⟩
    obtain ⟨s, hs, rfl⟩ := build_mem.1 hi
    have := hb s hs
    simp only at h1 h2
    rw [rA_k (by omega) (by omega)] at h1 h2
    rw [rN_k (by omega) (by omega)] at h2
    exact ⟨s, hs, h1, h2⟩
  · rintro ⟨s, hs, h1, h2⟩
    have := hb s hs
    refine ⟨_, build_mem.2 ⟨s, hs, rfl⟩, ?_, ?_⟩
    · simp only; rw [rA_k (by omega) (by omega)]; exact h1
    · simp only; rw [rA_k (by omega) (by omega), rN_k (by omega) (by omega)]; exact h2
/-- Which pages are free, by a row of keys. -/
def FreeIs (pg : Nat) (fb : Nat → Bool) (L : RL) : Prop := ∀ p, p < pg → (fb p = true ↔ fr L (p : Int))
theorem fr_in {pg : Nat} {L : RL} (h : Good pg L) {p : Int} (hp : fr L p) : 0 ≤ p ∧ p < pg := by
  obtain ⟨i, hi, h1, h2⟩ := hp
  have := h.ran i hi; have := rA_bd i.1
  omega
def intP (r : Nat × Nat) : Int × Int := ((r.1 : Int), (r.2 : Int))
theorem scan_is {pg : Nat} (hq : pg ≤ 4096) {fb : Nat → Bool} {L : RL} (h : Good pg L) (hf : FreeIs pg fb L) : (runsN (fun p => !fb p) pg).map intP = runsOf L := by
  have hb := runsN_below (fun p => !fb p) pg
  have hg := build_good hq _ (runsN_sorted (fun p => !fb p) pg) hb
  have hfr : ∀ p, fr (buildR (runsN (fun p => !fb p) pg)) p ↔ fr L p := fun p => by
    rw [build_fr hq hb]
    constructor
    · rintro ⟨r, hr, h1, h2⟩
      have := hb r hr
      obtain ⟨k, rfl⟩ : ∃ k : Nat, p = (k : Int) := ⟨p.toNat, by omega⟩
      have := (runsN_mem (fun p => !fb p) k pg (by omega)).1 ⟨r, hr, by omega, by omega⟩
      exact (hf k (by omega)).1 (by simpa using this)
    · intro hp
      have := fr_in h hp
      obtain ⟨k, rfl⟩ : ∃ k : Nat, p = (k : Int) := ⟨p.toNat, by omega⟩
      obtain ⟨r, hr, h1, h2⟩ := (runsN_mem (fun p => !fb p) k pg (by omega)).2 (by simpa using (hf k (by omega)).2 hp)
      exact ⟨r, hr, by omega, by omega⟩
  rw [← runsOf_keys (keys_eq hg h hfr)]
  refine up_ext (f := fun x => x.1) ?_ (runsOf_up hg) (fun x => ?_)
  · rw [List.pairwise_map]
    exact (runsN_sorted (fun p => !fb p) pg).imp (fun {a b} q => by simp only [intP]; omega)
  · rw [runsOf_mem, List.mem_map]
    constructor
    · rintro ⟨r, hr, rfl⟩
      have := hb r hr
      exact ⟨_, build_mem.2 ⟨r, hr, rfl⟩, by simp only [intP]; rw [rA_k (by omega) (by omega), rN_k (by omega) (by omega)]⟩
    · rintro ⟨i, hi, rfl⟩
      obtain ⟨r, hr, rfl⟩ := build_mem.1 hi
      have := hb r hr
      exact ⟨r, hr, by simp only [intP]; rw [rA_k (by omega) (by omega), rN_k (by omega) (by omega)]⟩
end Go.Proofs.Ytafamfjgehnddaa

namespace Go.Proofs.Ytafamfjgehnddaa
open Go.RowKit

def freeVals (fb : Nat → Bool) (pg : Nat) : Array Value := ((List.range pg).map fun p => Value.bool (fb p)).toArray
theorem freeVals_size (fb : Nat → Bool) (pg : Nat) : (freeVals fb pg).size = pg := by simp [freeVals]
theorem freeVals_get {fb : Nat → Bool} {pg p : Nat} (h : p < pg) : (freeVals fb pg)[p]? = some (.bool (fb p)) := by simp [freeVals, h]
structure XAt (w : World) (x gf : Nat) (vt : Value) (a : Option Addr) (c pg : Nat) (fb : Nat → Bool) (ds : List Nat) (dn : Nat) (M : List (It Int)) : Prop where
  head : w.heap[x]? = some (.cells #[.slice (some ⟨gf, 0, none⟩) pg pg, vt, .slice a ds.length c, .int .i64 (dn : Int)] 164 (0, 0))
  free : w.heap[gf]? = some (.cells (freeVals fb pg) 4 (0, 0))
  row : w.ownsRow 0 176 3 vt M.length (itemVals M)
  ris : Rising M
  draws : DrawsAt w a ds
  gx : gf ≠ x
  tx : vt.ownBlock ≠ some x
  tg : vt.ownBlock ≠ some gf
  ax : ds ≠ [] → ∀ g, a = some ⟨g, 0, none⟩ → g ≠ x ∧ g ≠ gf ∧ vt.ownBlock ≠ some g
theorem XAt.tree {w : World} {x gf : Nat} {vt : Value} {a : Option Addr} {c pg : Nat} {fb : Nat → Bool} {ds : List Nat} {dn : Nat} {M : List (It Int)} (h : XAt w x gf vt a c pg fb ds dn M) : DAt w x 1 vt M :=
  ⟨cell_of_heap h.head, lt_of_heap h.head, frozen_of_heap h.head, h.row, h.tx, h.ris⟩
theorem XAt.cell {w : World} {x gf : Nat} {vt : Value} {a : Option Addr} {c pg : Nat} {fb : Nat → Bool} {ds : List Nat} {dn : Nat} {M : List (It Int)} (h : XAt w x gf vt a c pg fb ds dn M) {p : Nat} (hp : p < pg) : w.cell? ⟨gf, p, none⟩ = some (.bool (fb p)) := by
  rw [cell_of_heap h.free]
  exact freeVals_get hp
/-- The blocks of it. -/
def XF (x gf : Nat) (vt : Value) (a : Option Addr) (ds : List Nat) (k : Nat) : Prop := k = x ∨ k = gf ∨ vt.ownBlock = some k ∨ (ds ≠ [] ∧ a = some ⟨k, 0, none⟩)
theorem XAt.lt {w : World} {x gf : Nat} {vt : Value} {a : Option Addr} {c pg : Nat} {fb : Nat → Bool} {ds : List Nat} {dn : Nat} {M : List (It Int)} (h : XAt w x gf vt a c pg fb ds dn M) {k : Nat} (hk : XF x gf vt a ds k) : k < w.heap.size := by
  rcases hk with rfl | rfl | hk | ⟨h1, h2⟩
  · exact lt_of_heap h.head
  · exact lt_of_heap h.free
  · exact (own_lt h.row hk).2
  · obtain ⟨g, e, hg, _⟩ := h.draws h1
    rw [h2] at e; cases e; exact hg
theorem XAt.kept {w w' : World} {x gf : Nat} {vt : Value} {a : Option Addr} {c pg : Nat} {fb : Nat → Bool} {ds : List Nat} {dn : Nat} {M : List (It Int)} {S : Nat → Prop} (h : XAt w x gf vt a c pg fb ds dn M) (k : Only S w w') (hn : ∀ y, XF x gf vt a ds y → ¬ S y) : XAt w' x gf vt a c pg fb ds dn M :=
  ⟨(k.block x (lt_of_heap h.head) (hn x (.inl rfl))).trans h.head, (k.block gf (lt_of_heap h.free) (hn gf (.inr (.inl rfl)))).trans h.free, ownsRow_kept h.row (Nat.le_refl _) (fun y hy hl => k.block y hl (hn y (.inr (.inr (.inl hy))))), h.ris, h.draws.kept k (fun hd g e => hn g (.inr (.inr (.inr ⟨hd, e⟩)))), h.gx, h.tx, h.tg, h.ax⟩
theorem XAt.below {w w' : World} {x gf : Nat} {vt : Value} {a : Option Addr} {c pg : Nat} {fb : Nat → Bool} {ds : List Nat} {dn : Nat} {M : List (It Int)} (h : XAt w x gf vt a c pg fb ds dn M) (b : Below w.heap.size w w') : XAt w' x gf vt a c pg fb ds dn M :=
  h.kept (Below.only b (fun _ => False)) (fun _ _ h => h)
/-- How many of the first k pages are free. -/
def cntF (fb : Nat → Bool) : Nat → Nat
  | 0 => 0
  | k + 1 => if fb k then cntF fb k + 1 else cntF fb k
theorem cntF_le (fb : Nat → Bool) : ∀ k, cntF fb k ≤ k
  | 0 => Nat.le_refl _
  | k + 1 => by have := cntF_le fb k; unfold cntF; split <;> omega

end Go.Proofs.Ytafamfjgehnddaa

namespace Go.Proofs.Ytafamfjgehnddaa
open Go.RowKit

theorem runsN_len (nf : Nat → Bool) : ∀ k, (runsN nf k).length ≤ k
  | 0 => Nat.le_refl _
  | k + 1 => by
    have ih := runsN_len nf k
    unfold runsN
    split
    · omega
    · by_cases he : Ends (runsN nf k) k
      · obtain ⟨R0, r, hR, _, hs⟩ := runStep_ends he
        rw [hs]
        rw [hR] at ih
        simp only [List.length_append, List.length_singleton] at ih ⊢
        omega
      · rw [runStep_new he, List.length_append, List.length_singleton]; omega
def XListEnd (w : World) (l : List (Nat × Nat)) : Ending → World → Prop := fun e w' => ∃ v, e = .returned v ∧ w'.ownsRow w.heap.size 147 2 v l.length (pairVals .i64 l) ∧ Below w.heap.size w w'
theorem runs_of_pairs {W : World} {base : Nat} {t : TypeId} {v : Value} {l : List (Nat × Nat)} (h : W.ownsRow base t 2 v l.length (pairVals .i64 l)) : RunsV W v (l.map intP) := by
  rcases h.2 with ⟨rfl, h0⟩ | ⟨g, cap, cur, rfl, hb, hg, _⟩
  · exact ⟨none, 0, by rw [List.length_map, h0], fun hne => absurd (by rw [List.length_eq_zero_iff.1 h0]; rfl) hne⟩
  · refine ⟨_, _, by rw [List.length_map], fun _ => ⟨g, rfl, lt_of_heap hg, fun i hi => ?_⟩⟩
    rw [List.length_map] at hi
    have hl := pairVals_length .i64 l
    have h1 := World.ownsRow.cellAt h (i * 2) (by omega)
    have h2 := World.ownsRow.cellAt h (i * 2 + 1) (by omega)
    have gg := pairVals_get .i64 l i hi
    rw [Nat.mul_comm 2 i] at gg
    rw [h1, h2, gg.1, gg.2]
    have e : (l.map intP).getD i (0, 0) = intP (l.getD i (0, 0)) := by simp [List.getD, hi]
    rw [e]
    exact ⟨rfl, rfl⟩

end Go.Proofs.Ytafamfjgehnddaa

namespace Go.Proofs.Ytafamfjgehnddaa
open Go.RowKit

section
variable {w w' u W : World} {x gf : Nat} {vt : Value} {a : Option Addr} {c pg : Nat} {fb fb' : Nat → Bool} {ds : List Nat} {dn dn' : Nat} {M M' : List (It Int)}
def XTurned (w w' : World) (x gf : Nat) (vt : Value) (a : Option Addr) (c pg : Nat) (fb : Nat → Bool) (ds : List Nat) (dn : Nat) (M : List (It Int)) : Prop :=
  ∃ vt', XAt w' x gf vt' a c pg fb ds dn M ∧ Only (fun k => k = x ∨ k = gf) w w' ∧ ∀ k, vt'.ownBlock = some k → vt.ownBlock = some k ∨ w.heap.size ≤ k
theorem XTurned.same (h : XAt w x gf vt a c pg fb ds dn M) (b : Below w.heap.size w w') : XTurned w w' x gf vt a c pg fb ds dn M := ⟨vt, h.below b, Below.only b _, fun _ q => .inl q⟩
theorem XTurned.trans (h : XTurned w u x gf vt a c pg fb ds dn M) (g : ∀ vt', XAt u x gf vt' a c pg fb ds dn M → XTurned u w' x gf vt' a c pg fb' ds dn' M') : XTurned w w' x gf vt a c pg fb' ds dn' M' := by
  obtain ⟨v1, h1, h2, h3⟩ := h
  obtain ⟨v2, g1, g2, g3⟩ := g v1 h1
  refine ⟨v2, g1, h2.trans g2, fun k hk => ?_⟩
  rcases g3 k hk with q | q
  · exact h3 k q
  · exact .inr (Nat.le_trans h2.size q)
theorem XTurned.chain {vt' : Value} (o : Only (fun k => k = x ∨ k = gf) w u) (m : ∀ k, vt'.ownBlock = some k → vt.ownBlock = some k ∨ w.heap.size ≤ k) (g : XTurned u w' x gf vt' a c pg fb ds dn M) : XTurned w w' x gf vt a c pg fb ds dn M := by
  obtain ⟨v2, g1, g2, g3⟩ := g
  refine ⟨v2, g1, o.trans g2, fun k hk => ?_⟩
  rcases g3 k hk with q | q
  · exact m k q
  · exact .inr (Nat.le_trans o.size q)
theorem XTurned.left (b : Below w.heap.size w u) (h : XTurned u w' x gf vt a c pg fb ds dn M) : XTurned w w' x gf vt a c pg fb ds dn M := by
  obtain ⟨v1, h1, h2, h3⟩ := h
  exact ⟨v1, h1, (Below.only b _).trans h2, fun k hk => (h3 k hk).imp (fun q => q) (fun q => Nat.le_trans b.size q)⟩
theorem XTurned.right (h : XTurned w u x gf vt a c pg fb ds dn M) (b : Below u.heap.size u w') : XTurned w w' x gf vt a c pg fb ds dn M := h.trans fun _ q => XTurned.same q b
theorem XAt.putT (h : XAt w x gf vt a c pg fb ds dn M) (b : Below w.heap.size w W) {v' : Value} {n : Nat} (hrow : W.ownsRow w.heap.size 176 3 v' n (itemVals M')) (hn : M'.length = n) (hr : Rising M') : XTurned w (W.setCell ⟨x, 1, none⟩ v') x gf vt a c pg fb ds dn M' := by
  have hx := lt_of_heap h.head
  have hg := lt_of_heap h.free
  have hbl : ∀ k, v'.ownBlock = some k → w.heap.size ≤ k := fun k hk => (own_lt hrow hk).1
  refine ⟨v', ⟨?_, ?_, ?_, hr, ?_, h.gx, fun q => ?_, fun q => ?_, fun hd g e => ?_⟩, set_only b (.inl rfl), fun k hk => .inr (hbl k hk)⟩
  · rw [heap_setCell_at ((b.block x hx).trans h.head)]; rfl
  · exact (heap_setCell_ne h.gx _).trans ((b.block gf hg).trans h.free)
  · rw [hn]; exact ownsRow_kept hrow (Nat.zero_le _) (fun k hk _ => Below.heap_setCell _ _ _ _ (by have := hbl k hk; simp; omega))
  · exact h.draws.kept (M := fun k => k = x) (set_only b rfl) (fun hd g e => (h.ax hd g e).1)
  · have := hbl x q; omega
  · have := hbl gf q; omega
  · obtain ⟨q1, q2, _⟩ := h.ax hd g e
    refine ⟨q1, q2, fun q => ?_⟩
    have h1 := hbl g q
    have h2 := h.lt (.inr (.inr (.inr ⟨hd, e⟩)))
    omega
theorem XAt.count (h : XAt w x gf vt a c pg fb ds dn M) (m : Nat) : XTurned w (w.setCell ⟨x, 3, none⟩ (.int .i64 (m : Int))) x gf vt a c pg fb ds m M := by
  have o : Only (fun k => k = x) w (w.setCell ⟨x, 3, none⟩ (.int .i64 (m : Int))) := (Only.refl (fun k => k = x) w).setCell (p := ⟨x, 3, none⟩) (.inl rfl) _
  refine ⟨vt, ⟨?_, ?_, ?_, h.ris, ?_, h.gx, h.tx, h.tg, h.ax⟩, o.mono (fun k _ q => .inl q), fun k hk => .inl hk⟩
  · rw [heap_setCell_at h.head]; rfl
  · exact (heap_setCell_ne h.gx _).trans h.free
  · exact ownsRow_kept h.row (Nat.le_refl _) (fun k hk _ => heap_setCell_ne (fun e => h.tx (by rw [← e]; exact hk)) _)
  · exact h.draws.kept o (fun hd g e => (h.ax hd g e).1)
theorem freeVals_set (fb : Nat → Bool) (pg p : Nat) (b : Bool) : (freeVals fb pg).setIfInBounds p (.bool b) = freeVals (fun q => if q = p then b else fb q) pg := by
  unfold freeVals
  rw [List.setIfInBounds_toArray]
  congr 1
  apply List.ext_getElem
  · simp
  · intro i h1 h2
    rw [List.getElem_set]
    simp only [List.getElem_map, List.getElem_range]
    by_cases e : p = i
    · rw [if_pos e, if_pos e.symm]
    · rw [if_neg e, if_neg (fun q => e q.symm)]
theorem XAt.mark (h : XAt w x gf vt a c pg fb ds dn M) (p : Nat) (b : Bool) : XTurned w (w.setCell ⟨gf, p, none⟩ (.bool b)) x gf vt a c pg (fun q => if q = p then b else fb q) ds dn M := by
  have o : Only (fun k => k = gf) w (w.setCell ⟨gf, p, none⟩ (.bool b)) := (Only.refl (fun k => k = gf) w).setCell (p := ⟨gf, p, none⟩) (.inl rfl) _
  refine ⟨vt, ⟨?_, ?_, ?_, h.ris, ?_, h.gx, h.tx, h.tg, h.ax⟩, o.mono (fun k _ q => .inr q), fun k hk => .inl hk⟩
  · exact (heap_setCell_ne (fun e => h.gx e.symm) _).trans h.head
  · rw [heap_setCell_at h.free, freeVals_set]
  · exact ownsRow_kept h.row (Nat.le_refl _) (fun k hk _ => heap_setCell_ne (fun e => h.tg (by rw [← e]; exact hk)) _)
  · exact h.draws.kept o (fun hd g e => (h.ax hd g e).2.1)
end

/-- A run in a block of its own. -/
def RunBox (b : Nat) (A N : Int) (w : World) : Prop := w.heap[b]? = some (.cells #[.int .i64 A, .int .i64 N] 147 (0, 0))

set_option maxRecDepth 100000 in
set_option maxHeartbeats 2000000 in
theorem xadd (w : World) (x gf : Nat) (vt : Value) (a : Option Addr) (c pg : Nat) (fb : Nat → Bool) (ds : List Nat) (dn : Nat) (M : List (It Int)) (h : XAt w x gf vt a c pg fb ds dn M) (A N : Int) (hA : 0 ≤ A ∧ A < 8192) (hN : 0 ≤ N ∧ N ≤ 4096) (hg : getL (8192 * N + A) M = none) (hl : M.length ≤ 1000000) (hdn : dn ≤ 1000000000) :
    Calls Try.prog 99 #[.pointer (some ⟨x, 0, none⟩), .agg #[.int .i64 A, .int .i64 N]] w fun e w' => e = .returned (.tuple #[]) ∧ XTurned w w' x gf vt a c pg fb ds (dn + 1) (insL (8192 * N + A) (ds.getD dn 0) A M) := by
  have hB : Below w.heap.size w (w.alloc (.cells #[.int .i64 A, .int .i64 N] 147)) := (Below.refl _ w).alloc (Nat.le_refl _) _
  have hb0 : RunBox w.heap.size A N (w.alloc (.cells #[.int .i64 A, .int .i64 N] 147)) := heap_alloc_at _ _
  have hx := lt_of_heap h.head
  have h1 := h.below hB
  obtain ⟨B, hBe⟩ : ∃ B, w.heap.size = B := ⟨_, rfl⟩
  rw [hBe] at hb0 hx
  have HB := hide hB
  have HG := hide hg
  clear h hg hB
  have c2 : (w.alloc (.cells #[.int .i64 A, .int .i64 N] 147)).cell? ⟨x, 2, none⟩ = some (.slice a ds.length c) := cell_of_heap h1.head
  have c3 : (w.alloc (.cells #[.int .i64 A, .int .i64 N] 147)).cell? ⟨x, 3, none⟩ = some (.int .i64 (dn : Int)) := cell_of_heap h1.head
  by_cases hd : dn < ds.length
  case' pos =>
    have d1 : decide ((dn : Int) < (ds.length : Int)) = true := by simp; omega
    have d2 : decide (dn < ds.length) = true := by simp; omega
    obtain ⟨g, rfl, _, hgc⟩ := h1.draws (by intro e; rw [e] at hd; simp at hd)
    have c4 := hgc dn hd
    generalize ds.getD dn 0 = dd at *
    go_enter Try.func99, Try.ntmps99
    go_wp2_with fail
    have HH := hide h1
    have HB0 := hide hb0
    clear h1 hb0 hgc
    try rw [hBe]
    generalize w.alloc (.cells #[.int .i64 A, .int .i64 N] 147) = w0 at *
    go_quiet (fail)
    obtain ⟨V1, hV1⟩ : ∃ V1, w0.drewN nq = V1 := ⟨_, rfl⟩
    have A1 : Alike w0 V1 := by rw [← hV1]; exact Alike.drewN _ _
    rw [hV1]
    replace c2 : V1.cell? ⟨x, 2, none⟩ = some (.slice (some ⟨g, 0, none⟩) ds.length c) := (World.cell?_of_block (a := ⟨x, 2, none⟩) (by rw [A1.heap])).trans c2
    replace c3 : V1.cell? ⟨x, 3, none⟩ = some (.int .i64 (dn : Int)) := (World.cell?_of_block (a := ⟨x, 3, none⟩) (by rw [A1.heap])).trans c3
    replace c4 : V1.cell? ⟨g, dn, none⟩ = some (.int .u32 (dd : Int)) := (World.cell?_of_block (a := ⟨g, dn, none⟩) (by rw [A1.heap])).trans c4
    have HA1 := hide A1
    clear hV1 A1
    go_wp2
    go_quiet (fail)
    obtain ⟨V2, hV2⟩ : ∃ V2, V1.drewN nq = V2 := ⟨_, rfl⟩
    have HA2 : Hid (Alike w0 V2) := hide (HA1.out.trans (by rw [← hV2]; exact Alike.drewN _ _))
    rw [hV2]
    clear hV2 c2 c3 c4 HA1 V1
  case' neg =>
    have d1 : decide ((dn : Int) < (ds.length : Int)) = false := by simp; omega
    have d2 : decide (dn < ds.length) = false := by simp; omega
    obtain ⟨dd, hdd⟩ : ∃ dd, ds.getD dn 0 = dd := ⟨_, rfl⟩
    have hd0 : dd = 0 := by rw [← hdd]; simp [List.getD, List.getElem?_eq_none (Nat.le_of_not_lt hd)]
    rw [hdd]
    clear hdd
    go_enter Try.func99, Try.ntmps99
    go_wp2_with fail
    have HH := hide h1
    have HB0 := hide hb0
    clear h1 hb0
    try rw [hBe]
    generalize w.alloc (.cells #[.int .i64 A, .int .i64 N] 147) = w0 at *
    go_quiet (fail)
    subst hd0
    obtain ⟨V2, hV2⟩ : ∃ V2, w0.drewN nq = V2 := ⟨_, rfl⟩
    have HA2 : Hid (Alike w0 V2) := hide (by rw [← hV2]; exact Alike.drewN _ _)
    rw [hV2]
    clear hV2 c2 c3
  all_goals (
    have X2 := HH.out.below (HA2.out.below _)
    have C3 : V2.cell? ⟨x, 3, none⟩ = some (.int .i64 (dn : Int)) := cell_of_heap X2.head
    have CF : V2.frozen? ⟨x, 3, none⟩ = false := frozen_of_heap X2.head
    have T3 := X2.count (dn + 1)
    rw [show ((dn + 1 : Nat) : Int) = (dn : Int) + 1 by omega] at T3
    have HT3 := hide T3
    have HR3 : Hid (RunBox B A N (V2.setCell ⟨x, 3, none⟩ (.int .i64 ((dn : Int) + 1)))) := hide ((heap_setCell_ne (by omega) _).trans (by rw [HA2.out.heap]; exact HB0.out))
    have HBV : Hid (Below w.heap.size w V2) := hide (HB.out.trans ((HA2.out.below _).mono HB.out.size))
    clear X2 T3 HB0 HH HA2 HB
    go_wp2
    generalize (V2.setCell ⟨x, 3, none⟩ (.int .i64 ((dn : Int) + 1))) = V3 at *
    clear C3 CF
    have J0 : Hid (RunBox B A N V3.drew) := hide HR3.out
    have u1 : ∀ u : Mem (RunBox B A N), u.w'.cell? ⟨B, 0, none⟩ = some (.int .i64 A) := fun u => cell_of_heap u.h
    have u2 : ∀ u : Mem (RunBox B A N), u.w'.cell? ⟨B, 1, none⟩ = some (.int .i64 N) := fun u => cell_of_heap u.h
    have hne : Nonempty (Mem (RunBox B A N)) := ⟨⟨_, J0.out⟩⟩
    refine region_start (J := RunBox B A N) (by kernel_rfl) ?_
    refine stretch (fuel := 1) (by kernel_rfl) (fun _ _ _ _ _ h => h) J0.out [0, 1, 2, 3, 4, 5, 6, 7, 8, 9, 10, 11] (by kernel_rfl) ?_
    simp only [List.filterMap_cons, List.filterMap_nil, List.getElem?_toArray, List.getElem?_cons_zero, List.getElem?_cons_succ]
    show wpQuiet _ _ _ _ [_, _, _, _, _, _, _, _, _, _, _, _] _
    repeat (go_big_quiet_step (fail))
    refine wpQuiet_nil ?_
    refine wpAnyJ_writer (i := 12) rfl (by kernel_rfl) (fun K hK => ?_)
    go_simp
    obtain ⟨vt3, X3, o3, n3⟩ := HT3.out
    have X4 := X3.below (w' := V3.drew) ((Alike.drewN V3 1).below _)
    first
    | refine (dput _ x 1 vt3 M X4.tree (8192 * N + A) dd A HG.out hl).mono ?_
    | refine (dput _ x 1 vt3 M X4.tree (8192 * N + A) 0 A HG.out hl).mono ?_
    rintro e w5 ⟨rfl, v5, W5, rfl, b5, own5⟩
    have hJ5 : RunBox B A N (W5.setCell ⟨x, 1, none⟩ v5) := (heap_setCell_ne (by omega) _).trans ((b5.block B (lt_of_heap J0.out)).trans J0.out)
    have HT5 := hide (X4.putT b5 own5 insL_length (insL_rising X4.ris (fun i hi => getL_none HG.out i hi)))
    refine hK _ _ hJ5 ?_
    clear hK K
    refine wpAnyJ_done (by kernel_rfl) ?_
    have HF := hide (XTurned.chain o3 n3 (XTurned.left ((Alike.drewN V3 1).below _) HT5.out))
    clear b5 own5 hJ5 X3 X4 o3 n3 HT5
    go_wp2
    go_end0
    exact ⟨rfl, XTurned.left HBV.out HF.out⟩)
end Go.Proofs.Ytafamfjgehnddaa

namespace Go.Proofs.Ytafamfjgehnddaa
open Go.RowKit

def bestStep (n : Int) (s : Option (Int × Int)) (r : Int × Int) : Option (Int × Int) := match s with
  | none => if n ≤ r.2 then some r else none
  | some q => if n ≤ r.2 ∧ r.2 < q.2 then some r else some q
def bestTo (n : Int) (l : List (Int × Int)) : Nat → Option (Int × Int)
  | 0 => none
  | j + 1 => bestStep n (bestTo n l j) (l.getD j (0, 0))
def bestL (n : Int) (l : List (Int × Int)) : Option (Int × Int) := if n < 1 then none else bestTo n l l.length
def bv (s : Option (Int × Int)) : Int × Int := s.getD (0, 0)
theorem bestTo_in {n : Int} {l : List (Int × Int)} : ∀ j, j ≤ l.length → ∀ q, bestTo n l j = some q → q ∈ l
  | 0, _, q, h => by cases h
  | j + 1, hj, q, h => by
    have ih := bestTo_in (n := n) (l := l) j (by omega)
    have hm : l.getD j (0, 0) ∈ l := by
      rw [List.getD_eq_getElem?_getD, List.getElem?_eq_getElem (by omega)]
      exact List.getElem_mem _
    simp only [bestTo] at h
    cases hb : bestTo n l j with
    | none =>
      rw [hb] at h
      simp only [bestStep] at h
      split at h
      · cases h; exact hm
      · cases h
    | some q' =>
      rw [hb] at h
      simp only [bestStep] at h
      split at h
      · cases h; exact hm
      · cases h; exact ih _ hb
theorem RunBox.set {b : Nat} {A N A' N' : Int} {w : World} (h : RunBox b A N w) : RunBox b A' N' ((w.setCell ⟨b, 0, none⟩ (.int .i64 A')).setCell ⟨b, 1, none⟩ (.int .i64 N')) := by
  have := heap_setCell_at (o := 1) (heap_setCell_at (o := 0) h (.int .i64 A')) (.int .i64 N')
  exact this
theorem RunBox.other {b d o : Nat} {A N : Int} {w : World} {v : Value} (h : RunBox b A N w) (hd : b ≠ d) : RunBox b A N (w.setCell ⟨d, o, none⟩ v) := (heap_setCell_ne hd v).trans h

end Go.Proofs.Ytafamfjgehnddaa

namespace Go.Proofs.Ytafamfjgehnddaa
open Go.RowKit

/-- The pages from A to j are set to b. -/
def markF (fb : Nat → Bool) (A j : Nat) (b : Bool) : Nat → Bool := fun q => if A ≤ q ∧ q < j then b else fb q
theorem markF_nil (fb : Nat → Bool) (A : Nat) (b : Bool) : markF fb A A b = fb := by
  funext q; unfold markF; rw [if_neg (by omega)]
theorem markF_next (fb : Nat → Bool) (A j : Nat) (b : Bool) (h : A ≤ j) : (fun q => if q = j then b else markF fb A j b q) = markF fb A (j + 1) b := by
  funext q
  unfold markF
  by_cases e : q = j
  · rw [if_pos e, if_pos (by omega)]
  · rw [if_neg e]
    by_cases k : A ≤ q ∧ q < j
    · rw [if_pos k, if_pos (by omega)]
    · rw [if_neg k, if_neg (by omega)]

end Go.Proofs.Ytafamfjgehnddaa
