/- Rows with the same keys: whatever the draws, taking and putting go alike. (Numbers alone.) -/
import Derived.Test.YthcfmpjmgheieaaRK
namespace Go.Proofs.Ythcfmpjmgheieaa
open Go.RowKit

theorem filter_keys (p : Int → Bool) (L : RL) : (L.filter fun i => p i.1).map (·.1) = (L.map (·.1)).filter p := by
  induction L with
  | nil => rfl
  | cons x L ih => by_cases h : p x.1 = true <;> simp [h, ih]
theorem ins_keys (k : Int) (d : Nat) (L : RL) : (insL k d () L).map (·.1) = (L.map (·.1)).filter (fun j => decide (j < k)) ++ k :: (L.map (·.1)).filter (fun j => !decide (j < k)) := by
  unfold insL
  rw [List.map_append, List.map_cons, filter_keys (fun j => decide (j < k)), filter_keys (fun j => !decide (j < k))]
theorem del_keys (k : Int) (L : RL) : (delL k L).map (·.1) = (L.map (·.1)).filter (fun j => !decide (j = k)) := by
  unfold delL
  rw [filter_keys (fun j => !decide (j = k))]
theorem dels_keys (ks : List Int) {L M : RL} (h : L.map (·.1) = M.map (·.1)) : (delsL ks L).map (·.1) = (delsL ks M).map (·.1) := by
  unfold delsL
  induction ks generalizing L M with
  | nil => exact h
  | cons k ks ih => exact ih (by rw [del_keys, del_keys, h])
theorem laid_keys {x n : Int} {d e : Nat} {L M : RL} (h : L.map (·.1) = M.map (·.1)) : (laidL x n d L).map (·.1) = (laidL x n e M).map (·.1) := by
  have hb : besK x n L = besK x n M := by unfold besK; rw [h]
  unfold laidL
  rw [hb, ins_keys, ins_keys, dels_keys _ h]
theorem fit_keys {n : Int} {L M : RL} (h : L.map (·.1) = M.map (·.1)) : (fitL n L).map (·.1) = (fitL n M).map (·.1) := by
  have e : ∀ L : RL, (fitL n L).map (·.1) = (L.map (·.1)).find? (fun j => !decide (j < kOf 0 n)) := fun L => by
    unfold fitL ceilL
    induction L with
    | nil => rfl
    | cons x L ih => by_cases h : x.1 < kOf 0 n <;> simp [h, ih]
  rw [e, e, h]
theorem take_keys {n : Int} {L M : RL} (h : L.map (·.1) = M.map (·.1)) (ds es : List Nat) (dn : Nat) :
    takeA n L = takeA n M ∧ (takeS ds n dn L).1 = (takeS es n dn M).1 ∧ (takeS ds n dn L).2.map (·.1) = (takeS es n dn M).2.map (·.1) := by
  have hk := fit_keys (n := n) h
  unfold takeA takeS
  by_cases h1 : n < 1
  · simp [h1, h]
  · simp only [h1, if_false]
    cases hL : fitL n L with
    | none =>
      cases hM : fitL n M with
      | none => exact ⟨rfl, rfl, h⟩
      | some j => rw [hL, hM] at hk; simp at hk
    | some i =>
      cases hM : fitL n M with
      | none => rw [hL, hM] at hk; simp at hk
      | some j =>
        have e : i.1 = j.1 := by rw [hL, hM] at hk; simpa using hk
        refine ⟨by simp [e], by simp [e], ?_⟩
        simp only [cutL, e]
        split
        · rw [ins_keys, ins_keys, del_keys, del_keys, h]
        · rw [del_keys, del_keys, h]
theorem put_keys {pg : Nat} {x n : Int} {L M : RL} (h : L.map (·.1) = M.map (·.1)) (ds es : List Nat) (dn : Nat) :
    putA pg x n L = putA pg x n M ∧ (putS pg ds x n dn L).1 = (putS pg es x n dn M).1 ∧ (putS pg ds x n dn L).2.map (·.1) = (putS pg es x n dn M).2.map (·.1) := by
  have ha : L.any (fun i => hits x n i.1) = M.any (fun i => hits x n i.1) := by
    have e : ∀ L : RL, L.any (fun i => hits x n i.1) = (L.map (·.1)).any (hits x n) := fun L => by simp [List.any_map, Function.comp_def]
    rw [e, e, h]
  have hA : putA pg x n L = putA pg x n M := by unfold putA; rw [ha]
  refine ⟨hA, ?_⟩
  unfold putS
  rw [hA]
  split
  · exact ⟨rfl, laid_keys h⟩
  · exact ⟨rfl, h⟩

theorem shape_keys {α : Type} (T : Tr α) (e : Nat) (k : Int) : (∃ x ∈ T.shape e, x.1 = k) ↔ k ∈ T.items.map (·.1) := by
  induction T generalizing e with
  | nil => simp [Tr.shape, Tr.items]
  | node p k' d v l r ihl ihr =>
    have hl := ihl (e + 1)
    have hr := ihr (e + 1)
    simp only [Tr.shape, Tr.items, List.mem_cons, List.mem_append, List.map_append, List.map_cons]
    rw [← hl, ← hr]
    constructor
    · rintro ⟨x, rfl | h | h, q⟩
      · exact .inr (.inl q.symm)
      · exact .inl ⟨x, h, q⟩
      · exact .inr (.inr ⟨x, h, q⟩)
    · rintro (⟨x, h, q⟩ | q | ⟨x, h, q⟩)
      · exact ⟨x, .inr (.inl h), q⟩
      · exact ⟨_, .inl rfl, q.symm⟩
      · exact ⟨x, .inr (.inr h), q⟩
theorem shp_keys {L : RL} (h : Rising L) (k : Int) : (∃ x ∈ shp L, x.1 = k) ↔ k ∈ L.map (·.1) := by
  unfold shp
  rw [shape_keys, (treeOf_good L h).1]
/-- Each node of the one has its like in the other. -/
theorem shp_like {L M : RL} (hl : Rising L) (hm : Rising M) (h : L.map (·.1) = M.map (·.1)) : ∀ i, i < (shp L).length → ∃ j, j < (shp M).length ∧ ((shp M).getD j (0, 0)).1 = ((shp L).getD i (0, 0)).1 := fun i hi => by
  have h1 : ((shp L).getD i (0, 0)) ∈ shp L := by rw [List.getD_eq_getElem?_getD, List.getElem?_eq_getElem hi]; exact List.getElem_mem _
  have h2 := (shp_keys hl _).1 ⟨_, h1, rfl⟩
  rw [h] at h2
  obtain ⟨x, hx, e⟩ := (shp_keys hm _).2 h2
  obtain ⟨j, hj, rfl⟩ := List.getElem_of_mem hx
  exact ⟨j, hj, by rw [← e, List.getD_eq_getElem?_getD, List.getElem?_eq_getElem hj]; rfl⟩
theorem Own.swap {R1 R2 R3 : Res} {w0 w : World} (h : Own (Sep R1 (Sep R2 R3)) w0 w) : Own (Sep R2 (Sep R1 R3)) w0 w := by
  obtain ⟨G, ⟨G1, _, a, ⟨G2, G3, b1, b2, b3, b4⟩, c, d⟩, h2, h3⟩ := h
  refine ⟨G, ⟨G2, fun x => G1 x ∨ G3 x, b1, ⟨G1, G3, a, b2, fun x hx h => c x hx ((b4 x).2 (.inr h)), fun x => Iff.rfl⟩, fun x hx h => ?_, fun x => ?_⟩, h2, h3⟩
  · rcases h with h | h
    · exact c x h ((b4 x).2 (.inl hx))
    · exact b3 x hx h
  · rw [d x, b4 x]
    constructor
    · rintro (h | h | h)
      · exact .inr (.inl h)
      · exact .inl h
      · exact .inr (.inr h)
    · rintro (h | h | h)
      · exact .inr (.inl h)
      · exact .inl h
      · exact .inr (.inr h)
theorem NodesV.cells {W : World} {v : Value} {l : List (Int × Nat)} (h : NodesV W v l) : ∃ a c, v = .slice a l.length c ∧ ∀ j, j < l.length → ∃ g, a = some ⟨g, 0, none⟩ ∧ W.cell? ⟨g, j * 2, none⟩ = some (.int .i64 (l.getD j (0, 0)).1) := by
  obtain ⟨a, c, e, h⟩ := h
  refine ⟨a, c, e, fun j hj => ?_⟩
  obtain ⟨g, e2, _, h3⟩ := h (fun e => by rw [e] at hj; simp at hj)
  exact ⟨g, e2, (h3 j hj).1⟩
theorem Sep.swap {R1 R2 R3 : Res} {w : World} {G : Nat → Prop} (h : Sep R1 (Sep R2 R3) w G) : Sep R2 (Sep R1 R3) w G := by
  obtain ⟨G1, _, a, ⟨G2, G3, b1, b2, b3, b4⟩, c, d⟩ := h
  refine ⟨G2, fun x => G1 x ∨ G3 x, b1, ⟨G1, G3, a, b2, fun x hx h => c x hx ((b4 x).2 (.inr h)), fun x => Iff.rfl⟩, fun x hx h => ?_, fun x => ?_⟩
  · rcases h with h | h
    · exact c x h ((b4 x).2 (.inl hx))
    · exact b3 x hx h
  · rw [d x, b4 x]
    constructor
    · rintro (h | h | h)
      · exact .inr (.inl h)
      · exact .inl h
      · exact .inr (.inr h)
    · rintro (h | h | h)
      · exact .inr (.inl h)
      · exact .inl h
      · exact .inr (.inr h)
/-- The third comes first. -/
theorem Own.third {R1 R2 R3 R : Res} {w0 w : World} (h : Own (Sep R1 (Sep R2 (Sep R3 R))) w0 w) : Own (Sep R3 (Sep R1 (Sep R2 R))) w0 w := by
  obtain ⟨G, ⟨G1, G2, a, b, c, d⟩, h2, h3⟩ := h
  exact ⟨G, Sep.swap ⟨G1, G2, a, b.swap, c, d⟩, h2, h3⟩
end Go.Proofs.Ythcfmpjmgheieaa
