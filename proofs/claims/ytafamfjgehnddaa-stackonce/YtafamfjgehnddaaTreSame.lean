/- Rows of ints, of nodes, that are told; the document's SameNodes, SameInts of two rows of one list. -/
import Derived.Test.YtafamfjgehnddaaBase
import Derived.Test.YtafamfjgehnddaaTreWalk2
import Derived.LoopTactic
namespace Go.Proofs.Ytafamfjgehnddaa
open Go.RowKit

/-- The value is a slice in which the ints of l lie. -/
def IntsV (W : World) (v : Value) (l : List Int) : Prop := ∃ a c, v = .slice a l.length c ∧ (l ≠ [] → ∃ g, a = some ⟨g, 0, none⟩ ∧ g < W.heap.size ∧ ∀ i, i < l.length → W.cell? ⟨g, i, none⟩ = some (.int .i64 (l.getD i 0)))
/-- The value is a slice in which the nodes of l lie. -/
def NodesV (W : World) (v : Value) (l : List (Int × Nat)) : Prop := ∃ a c, v = .slice a l.length c ∧ (l ≠ [] → ∃ g, a = some ⟨g, 0, none⟩ ∧ g < W.heap.size ∧ ∀ i, i < l.length → W.cell? ⟨g, i * 2, none⟩ = some (.int .i64 (l.getD i (0, 0)).1) ∧ W.cell? ⟨g, i * 2 + 1, none⟩ = some (.int .i64 ((l.getD i (0, 0)).2 : Int)))

theorem IntsV.below {W W' : World} {v : Value} {l : List Int} (h : IntsV W v l) (hb : Below W.heap.size W W') : IntsV W' v l := by
  obtain ⟨a, c, e, h⟩ := h
  refine ⟨a, c, e, fun hne => ?_⟩
  obtain ⟨g, e2, h2, h3⟩ := h hne
  exact ⟨g, e2, Nat.lt_of_lt_of_le h2 hb.size, fun i hi => (hb.cell (p := ⟨g, i, none⟩) h2).trans (h3 i hi)⟩
theorem NodesV.below {W W' : World} {v : Value} {l : List (Int × Nat)} (h : NodesV W v l) (hb : Below W.heap.size W W') : NodesV W' v l := by
  obtain ⟨a, c, e, h⟩ := h
  refine ⟨a, c, e, fun hne => ?_⟩
  obtain ⟨g, e2, h2, h3⟩ := h hne
  exact ⟨g, e2, Nat.lt_of_lt_of_le h2 hb.size, fun i hi => ⟨(hb.cell (p := ⟨g, i * 2, none⟩) h2).trans (h3 i hi).1, (hb.cell (p := ⟨g, i * 2 + 1, none⟩) h2).trans (h3 i hi).2⟩⟩
theorem NodesV.kept {W W' : World} {v : Value} {l : List (Int × Nat)} {M : Nat → Prop} {n : Nat} (h : NodesV W v l) (ho : Only M W W') (hv : ∀ a m c, v = .slice (some a) m c → n ≤ a.block) (hM : ∀ k, M k → k < n) : NodesV W' v l := by
  obtain ⟨a, c, e, h⟩ := h
  refine ⟨a, c, e, fun hne => ?_⟩
  obtain ⟨g, e2, h2, h3⟩ := h hne
  have hg : ¬ M g := fun q => by have q1 := hM g q; have q2 := hv ⟨g, 0, none⟩ _ _ (by rw [e, e2]); simp at q2; omega
  exact ⟨g, e2, Nat.lt_of_lt_of_le h2 ho.size, fun i hi => ⟨(ho.cell (p := ⟨g, i * 2, none⟩) h2 hg).trans (h3 i hi).1, (ho.cell (p := ⟨g, i * 2 + 1, none⟩) h2 hg).trans (h3 i hi).2⟩⟩

theorem nodeVals_length (l : List (Int × Nat)) : (nodeVals l).length = l.length * 2 := by
  induction l with
  | nil => rfl
  | cons s l ih =>
    have e : nodeVals (s :: l) = [Value.int .i64 s.1, .int .i64 (s.2 : Int)] ++ nodeVals l := rfl
    rw [e, List.length_append, ih, List.length_cons]; simp; omega
theorem nodeVals_get : ∀ (l : List (Int × Nat)) (i : Nat), i < l.length → (nodeVals l)[i * 2]? = some (.int .i64 (l.getD i (0, 0)).1) ∧ (nodeVals l)[i * 2 + 1]? = some (.int .i64 ((l.getD i (0, 0)).2 : Int))
  | [], i, h => by simp at h
  | p :: l, 0, _ => by simp [nodeVals]
  | p :: l, i + 1, h => by
    have ih := nodeVals_get l i (by simpa using h)
    have e : nodeVals (p :: l) = Value.int .i64 p.1 :: Value.int .i64 (p.2 : Int) :: nodeVals l := rfl
    rw [e, show (i + 1) * 2 = i * 2 + 1 + 1 from by omega, show i * 2 + 1 + 1 + 1 = (i * 2 + 1) + 1 + 1 from rfl, List.getElem?_cons_succ, List.getElem?_cons_succ, List.getElem?_cons_succ, List.getElem?_cons_succ]
    simpa using ih
theorem nodes_of_owns {W : World} {base : Nat} {t : TypeId} {v : Value} {n : Nat} {l : List (Int × Nat)} (h : W.ownsRow base t 2 v n (nodeVals l)) : NodesV W v l := by
  have hn : l.length = n := by have := h.1; rw [nodeVals_length] at this; omega
  subst hn
  rcases h.2 with ⟨rfl, h0⟩ | ⟨g, cap, cur, rfl, hb, hg, _⟩
  · exact ⟨none, 0, by rw [h0], fun hne => absurd (List.length_eq_zero_iff.1 h0) hne⟩
  · refine ⟨_, _, rfl, fun _ => ⟨g, rfl, lt_of_heap hg, fun i hi => ?_⟩⟩
    have h1 := World.ownsRow.cellAt h (i * 2) (by omega)
    have h2 := World.ownsRow.cellAt h (i * 2 + 1) (by omega)
    rw [h1, h2]
    exact nodeVals_get l i hi
theorem ints_of_owns {W : World} {base : Nat} {t : TypeId} {v : Value} {n : Nat} {l : List Int} (h : W.ownsRow base t 1 v n (intVals l)) : IntsV W v l := by
  have hn : l.length = n := by have := h.1; rw [intVals, List.length_map] at this; omega
  subst hn
  rcases h.2 with ⟨rfl, h0⟩ | ⟨g, cap, cur, rfl, hb, hg, _⟩
  · exact ⟨none, 0, by rw [h0], fun hne => absurd (List.length_eq_zero_iff.1 h0) hne⟩
  · refine ⟨_, _, rfl, fun _ => ⟨g, rfl, lt_of_heap hg, fun i hi => ?_⟩⟩
    have h1 := World.ownsRow.cellAt h i (by omega)
    rw [h1]
    simp [intVals, hi]
theorem owns_new {W : World} {base e size n : Nat} {v : Value} {xs : List Value} (h : W.ownsRow base e size v n xs) : ∀ a m c, v = .slice (some a) m c → base ≤ a.block := by
  intro a m c hv
  rcases h.2 with ⟨rfl, _⟩ | ⟨g, cap, cur, rfl, hb, _⟩
  · cases hv
  · cases hv; exact hb

set_option maxHeartbeats 1000000 in
theorem sameInts (w : World) (v1 v2 : Value) (l : List Int) (h1 : IntsV w v1 l) (h2 : IntsV w v2 l) (hl : l.length ≤ 1099511627776) :
    Calls Try.prog 48 #[v1, v2] w fun e w' => e = .returned (.bool true) ∧ Alike w w' := by
  obtain ⟨a1, c1, rfl, h1⟩ := h1
  obtain ⟨a2, c2, rfl, h2⟩ := h2
  have H1 := hide h1
  have H2 := hide h2
  obtain ⟨m, hm⟩ : ∃ m, l.length = m := ⟨_, rfl⟩
  have HM := hide hm
  rw [hm] at hl ⊢
  clear h1 h2 hm
  go_enter Try.func48, Try.ntmps48
  go_wp2
  go_loopw [5] (fun i wr => ∃ k : Nat, k ≤ m ∧ i = .int .i64 (k : Int) ∧ Alike w wr) (fun i _ => m - (intOf i).toNat)
  case atStart => exact ⟨0, Nat.zero_le _, rfl, Alike.refl _⟩
  case round =>
    obtain ⟨k, hk, rfl, hal⟩ := hrel
    by_cases hlt : k < m
    · have hkl : k < l.length := by rw [HM.out]; exact hlt
      have hne : l ≠ [] := fun e => by rw [e] at hkl; simp at hkl
      obtain ⟨g1, rfl, _, q1⟩ := H1.out hne
      obtain ⟨g2, rfl, _, q2⟩ := H2.out hne
      have x1 : wr.cell? ⟨g1, k, none⟩ = _ := (World.cell?_of_block (a := ⟨g1, k, none⟩) (by rw [hal.heap])).trans (q1 k hkl)
      have y1 : wr.cell? ⟨g2, k, none⟩ = _ := (World.cell?_of_block (a := ⟨g2, k, none⟩) (by rw [hal.heap])).trans (q2 k hkl)
      have HA := hide hal
      generalize l.getD k 0 = X at *
      clear q1 q2 hal hne hkl H1 H2
      go_wp2
      go_quiet (fail)
      go_wp2
      go_roundw
      case rel => exact ⟨k + 1, by omega, by go_num, HA.out.trans (Alike.drewN _ _)⟩
      case measure => simp [intOf]; omega
    · have HA := hide hal
      clear hal
      go_wp2
      go_ret
      exact ⟨rfl, HA.out⟩
end Go.Proofs.Ytafamfjgehnddaa
