/- Rows of ints, of nodes, that are told; the document's SameNodes, SameInts of two rows of one list. One tree, in a world that has grown. (Of any program.) Rising rows of items: what is there, what is put, what is dropped. (Numbers alone.) Several things in memory, each in blocks of its own. (Of any program.) Nodes of values struct{}: above, toward, link, split, join. Printed by tools/gen/tre.py. The calls of a tree of values struct{}: New, Len, Put, Drop, Get, Ceil. Printed by tools/gen/tre.py. The calls of a tree of empty values: Drop, Ceil. Keys of a tree of values struct{}, rising. Printed by tools/gen/tre.py. Shape of a tree of values struct{}. Printed by tools/gen/tre.py. A tree of values struct{} beside other things. Printed by tools/gen/tre.py. -/
import Derived.Test.YtgdliebllmgibaaDoorBase
import Derived.Test.YtgdliebllmgibaaDoorPT
import Derived.LoopTactic
import Derived.Deep.LoopGhost
import Derived.Handy
import Derived.Test.YtgdliebllmgibaaDoorPhase
import Derived.OwnWalk
import Derived.Sort.LoopGhostIn
import Derived.Shelf.Abstract
import Derived.Sort.QuietIn
import Derived.OwnWalkIn
namespace Go.Proofs.YtgdliebllmgibaaDoor
open Go.RowKit

/-- The value is a slice in which the ints of l lie. -/
def IntsV (W : World) (v : Value) (l : List Int) : Prop := ∃ a c, v = .slice a l.length c ∧ (l ≠ [] → ∃ g, a = some ⟨g, 0, none⟩ ∧ g < W.heap.size ∧ ∀ i, i < l.length → W.cell? ⟨g, i, none⟩ = some (.int .i64 (l.getD i 0)))
/-- The value is a slice in which the nodes of l lie. -/
def NodesV (W : World) (v : Value) (l : List (Int × Nat)) : Prop := ∃ a c, v = .slice a l.length c ∧ (l ≠ [] → ∃ g, a = some ⟨g, 0, none⟩ ∧ g < W.heap.size ∧ ∀ i, i < l.length → W.cell? ⟨g, i * 2, none⟩ = some (.int .i64 (l.getD i (0, 0)).1) ∧ W.cell? ⟨g, i * 2 + 1, none⟩ = some (.int .i64 ((l.getD i (0, 0)).2 : Int)))

theorem IntsV.below {W W' : World} {v : Value} {l : List Int} (h : IntsV W v l) (hb : Below W.heap.size W W') : IntsV W' v l := by
  obtain ⟨a, c, e, h⟩ := h
  refine ⟨a, c, e, fun hne => ?_⟩
  obtain ⟨g, e2, h2, h3⟩ := h hne
  exact ⟨g, e2, Nat.lt_of_lt_of_le h2 hb.size, fun i hi => (hb.cell (p := ⟨g, i, none⟩) h2).trans (h3 i hi)⟩
theorem NodesV.below {W W' : World} {v : Value} {l : List (Int × Nat)} (h : NodesV W v l) (hb : Below W.heap.size W W') : NodesV W' v l := by
  obtain ⟨a, c, e, h⟩ := h
  refine ⟨a, c, e, fun hne => ?_⟩
  obtain ⟨g, e2, h2, h3⟩ := h hne
  exact ⟨g, e2, Nat.lt_of_lt_of_le h2 hb.size, fun i hi => ⟨(hb.cell (p := ⟨g, i * 2, none⟩) h2).trans (h3 i hi).1, (hb.cell (p := ⟨g, i * 2 + 1, none⟩) h2).trans (h3 i hi).2⟩⟩
theorem NodesV.kept {W W' : World} {v : Value} {l : List (Int × Nat)} {M : Nat → Prop} {n : Nat} (h : NodesV W v l) (ho : Only M W W') (hv : ∀ a m c, v = .slice (some a) m c → n ≤ a.block) (hM : ∀ k, M k → k < n) : NodesV W' v l := by
  obtain ⟨a, c, e, h⟩ := h
  refine ⟨a, c, e, fun hne => ?_⟩
  obtain ⟨g, e2, h2, h3⟩ := h hne
  have hg : ¬ M g := fun q => by have q1 := hM g q; have q2 := hv ⟨g, 0, none⟩ _ _ (by rw [e, e2]); simp at q2; omega
  exact ⟨g, e2, Nat.lt_of_lt_of_le h2 ho.size, fun i hi => ⟨(ho.cell (p := ⟨g, i * 2, none⟩) h2 hg).trans (h3 i hi).1, (ho.cell (p := ⟨g, i * 2 + 1, none⟩) h2 hg).trans (h3 i hi).2⟩⟩

theorem nodeVals_length (l : List (Int × Nat)) : (nodeVals l).length = l.length * 2 := by
  induction l with
  | nil => rfl
  | cons s l ih =>
    have e : nodeVals (s :: l) = [Value.int .i64 s.1, .int .i64 (s.2 : Int)] ++ nodeVals l := rfl
    rw [e, List.length_append, ih, List.length_cons]; simp; omega
theorem nodeVals_get : ∀ (l : List (Int × Nat)) (i : Nat), i < l.length → (nodeVals l)[i * 2]? = some (.int .i64 (l.getD i (0, 0)).1) ∧ (nodeVals l)[i * 2 + 1]? = some (.int .i64 ((l.getD i (0, 0)).2 : Int))
  | [], i, h => by simp at h
  | p :: l, 0, _ => by simp [nodeVals]
  | p :: l, i + 1, h => by
    have ih := nodeVals_get l i (by simpa using h)
    have e : nodeVals (p :: l) = Value.int .i64 p.1 :: Value.int .i64 (p.2 : Int) :: nodeVals l := rfl
    rw [e, show (i + 1) * 2 = i * 2 + 1 + 1 from by omega, show i * 2 + 1 + 1 + 1 = (i * 2 + 1) + 1 + 1 from rfl, List.getElem?_cons_succ, List.getElem?_cons_succ, List.getElem?_cons_succ, List.getElem?_cons_succ]
    simpa using ih
theorem nodes_of_owns {W : World} {base : Nat} {t : TypeId} {v : Value} {n : Nat} {l : List (Int × Nat)} (h : W.ownsRow base t 2 v n (nodeVals l)) : NodesV W v l := by
  have hn : l.length = n := by have := h.1; rw [nodeVals_length] at this; omega
  subst hn
  rcases h.2 with ⟨rfl, h0⟩ | ⟨g, cap, cur, rfl, hb, hg, _⟩
  · exact ⟨none, 0, by rw [h0], fun hne => absurd (List.length_eq_zero_iff.1 h0) hne⟩
  · refine ⟨_, _, rfl, fun _ => ⟨g, rfl, lt_of_heap hg, fun i hi => ?_⟩⟩
    have h1 := World.ownsRow.cellAt h (i * 2) (by omega)
    have h2 := World.ownsRow.cellAt h (i * 2 + 1) (by omega)
    rw [h1, h2]
    exact nodeVals_get l i hi
theorem ints_of_owns {W : World} {base : Nat} {t : TypeId} {v : Value} {n : Nat} {l : List Int} (h : W.ownsRow base t 1 v n (intVals l)) : IntsV W v l := by
  have hn : l.length = n := by have := h.1; rw [intVals, List.length_map] at this; omega
  subst hn
  rcases h.2 with ⟨rfl, h0⟩ | ⟨g, cap, cur, rfl, hb, hg, _⟩
  · exact ⟨none, 0, by rw [h0], fun hne => absurd (List.length_eq_zero_iff.1 h0) hne⟩
  · refine ⟨_, _, rfl, fun _ => ⟨g, rfl, lt_of_heap hg, fun i hi => ?_⟩⟩
    have h1 := World.ownsRow.cellAt h i (by omega)
    rw [h1]
    simp [intVals, hi]
theorem owns_new {W : World} {base e size n : Nat} {v : Value} {xs : List Value} (h : W.ownsRow base e size v n xs) : ∀ a m c, v = .slice (some a) m c → base ≤ a.block := by
  intro a m c hv
  rcases h.2 with ⟨rfl, _⟩ | ⟨g, cap, cur, rfl, hb, _⟩
  · cases hv
  · cases hv; exact hb

end Go.Proofs.YtgdliebllmgibaaDoor

namespace Go.Proofs.YtgdliebllmgibaaDoor
open Go.RowKit
section
variable {α : Type} {S : Sh α}

/-- The tree at t has the items L; it lies in blocks of A, as does whatever is new; but for A the world is w0. -/
structure One (S : Sh α) (TT : TypeId) (A : Nat → Prop) (w0 w : World) (t : Nat) (L : List (It α)) : Prop where
  tree : ∃ T, TAt S TT w t T L ∧ ∀ x, Ftp t T x → A x
  new : ∀ x, w.heap.size ≤ x → A x
  only : Only A w0 w

theorem One.below {TT : TypeId} {A : Nat → Prop} {w0 w w' : World} {t : Nat} {L : List (It α)} (h : One S TT A w0 w t L) (b : Below w.heap.size w w') : One S TT A w0 w' t L := by
  obtain ⟨⟨T, h1, h2⟩, h3, h4⟩ := h
  exact ⟨⟨T, h1.below b, h2⟩, fun x hx => h3 x (Nat.le_trans b.size hx), h4.trans (Below.only b _)⟩
theorem One.alike {TT : TypeId} {A : Nat → Prop} {w0 w w' : World} {t : Nat} {L : List (It α)} (h : One S TT A w0 w t L) (b : Alike w w') : One S TT A w0 w' t L := h.below (b.below _)
theorem One.turned {TT : TypeId} {A : Nat → Prop} {w0 w w' : World} {t : Nat} {T : Tr α} {L L' : List (It α)} (h : One S TT A w0 w t L) (hT : ∀ x, Ftp t T x → A x) (g : Turned S TT w w' t T L') : One S TT A w0 w' t L' := by
  obtain ⟨T', g1, g2, g3⟩ := g
  exact ⟨⟨T', g1, fun x hx => (g3 x hx).elim (hT x) (h.new x)⟩, fun x hx => h.new x (Nat.le_trans g2.size hx), h.only.trans (g2.mono (fun x _ hx => hT x hx))⟩
/-- From now on block g is kept. -/
theorem One.from {TT : TypeId} {A B : Nat → Prop} {w0 w w' : World} {t : Nat} {L : List (It α)} (h : One S TT A w0 w t L) (b : Below w.heap.size w w') (hB : ∀ x, A x → x < w.heap.size → B x) (hn : ∀ x, w'.heap.size ≤ x → B x) : One S TT B w' w' t L := by
  obtain ⟨⟨T, h1, h2⟩, _, _⟩ := h
  exact ⟨⟨T, h1.below b, fun x hx => hB x (h2 x hx) (h1.lt hx)⟩, hn, Only.refl _ _⟩
theorem One.ris {TT : TypeId} {A : Nat → Prop} {w0 w : World} {t : Nat} {L : List (It α)} (h : One S TT A w0 w t L) : Rising L := by
  obtain ⟨⟨T, h1, _⟩, _⟩ := h; exact h1.ris
theorem One.start {TT : TypeId} {w w' : World} {t : Nat} (h : TAt S TT w' t .nil []) (b : Below w.heap.size w w') (ht : w.heap.size ≤ t) : One S TT (fun x => w.heap.size ≤ x) w w' t [] :=
  ⟨⟨.nil, h, fun x hx => by rcases hx with rfl | hx; exact ht; exact hx.elim⟩, fun x hx => Nat.le_trans b.size hx, Below.only b _⟩
theorem One.back {TT : TypeId} {w0 w : World} {t : Nat} {L : List (It α)} (h : One S TT (fun x => w0.heap.size ≤ x) w0 w t L) : Below w0.heap.size w0 w := h.only.below (Nat.le_refl _) (fun _ h => h)

theorem shp_one (k : Int) (d : Nat) (v : α) : shp [(k, d, v)] = [(k, 0)] := rfl

def putL (key : Int) (d : Nat) (v : α) (L : List (It α)) : List (It α) := if (getL key L).isNone then insL key d v L else L
theorem putL_no {key : Int} {d : Nat} {v : α} {L : List (It α)} (h : getL key L = none) : putL key d v L = insL key d v L := by simp [putL, h]
theorem putL_yes {key : Int} {d : Nat} {v : α} {L : List (It α)} {i : It α} (h : getL key L = some i) : putL key d v L = L := by simp [putL, h]
theorem putL_length {key : Int} {d : Nat} {v : α} {L : List (It α)} : (putL key d v L).length = L.length + (if (getL key L).isNone then 1 else 0) := by
  unfold putL; split <;> simp [insL_length]
theorem putL_le {key : Int} {d : Nat} {v : α} {L : List (It α)} : (putL key d v L).length ≤ L.length + 1 := by
  rw [putL_length]; split <;> omega
theorem putL_rising {key : Int} {d : Nat} {v : α} {L : List (It α)} (h : Rising L) : Rising (putL key d v L) := by
  unfold putL
  cases hg : getL key L with
  | none => exact insL_rising h (getL_none hg)
  | some i => exact h
end
end Go.Proofs.YtgdliebllmgibaaDoor

namespace Go.Proofs.YtgdliebllmgibaaDoor
open Go.RowKit
section
variable {α : Type}
theorem getL_spec {L : List (It α)} {key : Int} {i : It α} (h : getL key L = some i) : i ∈ L ∧ i.1 = key := by
  have h1 := List.mem_of_find?_eq_some h
  have h2 := List.find?_some h
  exact ⟨h1, by simpa using h2⟩
theorem rising_inj {L : List (It α)} (hr : Rising L) {i j : It α} (hi : i ∈ L) (hj : j ∈ L) (h : i.1 = j.1) : i = j := by
  induction L with
  | nil => cases hi
  | cons a L ih =>
    obtain ⟨h1, h2⟩ := List.pairwise_cons.1 hr
    rcases List.mem_cons.1 hi with rfl | hi'
    · rcases List.mem_cons.1 hj with rfl | hj
      · rfl
      · have := h1 j hj; omega
    · rcases List.mem_cons.1 hj with e | hj
      · have := h1 i (by assumption); rw [e] at h; omega
      · exact ih h2 (by assumption) hj
theorem getL_of_mem {L : List (It α)} (hr : Rising L) {i : It α} (hi : i ∈ L) : getL i.1 L = some i := by
  cases hg : getL i.1 L with
  | none => exact absurd rfl (getL_none hg i hi)
  | some j =>
    obtain ⟨h1, h2⟩ := getL_spec hg
    rw [rising_inj hr h1 hi h2]
theorem getL_none_of {L : List (It α)} {key : Int} (h : ∀ i ∈ L, i.1 ≠ key) : getL key L = none := by
  cases hg : getL key L with
  | none => rfl
  | some j => obtain ⟨h1, h2⟩ := getL_spec hg; exact absurd h2 (h j h1)
theorem getL_ins {L : List (It α)} {key : Int} {d : Nat} {v : α} (hr : Rising L) (h : getL key L = none) : getL key (insL key d v L) = some (key, d, v) :=
  getL_of_mem (insL_rising hr (getL_none h)) (i := (key, d, v)) (insL_mem.2 (.inl rfl))
theorem getL_del {L : List (It α)} {key : Int} : getL key (delL key L) = none := getL_none_of fun _ hi => (delL_mem.1 hi).2
theorem del_ins {L : List (It α)} {key : Int} {d : Nat} {v : α} (hr : Rising L) (h : getL key L = none) : delL key (insL key d v L) = L := by
  have hn := getL_none h
  refine rising_ext (delL_rising (insL_rising hr hn)) hr fun i => ?_
  rw [delL_mem, insL_mem]
  constructor
  · rintro ⟨rfl | hi, h2⟩
    · exact absurd rfl h2
    · exact hi
  · exact fun hi => ⟨.inr hi, hn i hi⟩
theorem delL_le {L : List (It α)} {key : Int} : (delL key L).length ≤ L.length := List.length_filter_le _ _
/-- What key is dropped, if it is there. -/
theorem putL_mem {L : List (It α)} {key : Int} {d : Nat} {v : α} {i : It α} : i ∈ putL key d v L ↔ i ∈ L ∨ (getL key L = none ∧ i = (key, d, v)) := by
  unfold putL
  cases hg : getL key L with
  | none => simp [insL_mem, or_comm]
  | some j => simp
theorem ceilL_some {L : List (It α)} {key : Int} {i : It α} (hr : Rising L) (h : ceilL key L = some i) : i ∈ L ∧ key ≤ i.1 ∧ ∀ j ∈ L, key ≤ j.1 → i.1 ≤ j.1 := by
  induction L with
  | nil => simp [ceilL] at h
  | cons a L ih =>
    obtain ⟨h1, h2⟩ := List.pairwise_cons.1 hr
    by_cases ha : a.1 < key
    · have h' : ceilL key L = some i := by simpa [ceilL, ha] using h
      obtain ⟨q1, q2, q3⟩ := ih h2 h'
      refine ⟨by simp [q1], q2, fun j hj hk => ?_⟩
      rcases List.mem_cons.1 hj with rfl | hj
      · omega
      · exact q3 j hj hk
    · have h' : a = i := by simpa [ceilL, ha] using h
      subst h'
      refine ⟨by simp, by omega, fun j hj hk => ?_⟩
      rcases List.mem_cons.1 hj with rfl | hj
      · exact Int.le_refl _
      · have := h1 j hj; omega
theorem ceilL_none {L : List (It α)} {key : Int} (h : ceilL key L = none) : ∀ j ∈ L, j.1 < key := by
  unfold ceilL at h
  rw [List.find?_eq_none] at h
  intro j hj
  simpa using h j hj
theorem ceilL_self {L : List (It α)} (hr : Rising L) {i : It α} (hi : i ∈ L) : ceilL i.1 L = some i := by
  cases hc : ceilL i.1 L with
  | none => have := ceilL_none hc i hi; omega
  | some j =>
    obtain ⟨q1, q2, q3⟩ := ceilL_some hr hc
    have := q3 i hi (Int.le_refl _)
    rw [rising_inj hr q1 hi (by omega)]
/-- The key at place i. -/
def keyAt (L : List (It α)) (i : Nat) : Int := (L.map (·.1)).getD i 0
theorem keyAt_mem {L : List (It α)} {i : Nat} (hi : i < L.length) : ∃ x ∈ L, x.1 = keyAt L i := ⟨L[i], List.getElem_mem _, by simp [keyAt, hi]⟩
theorem keyAt_lt {L : List (It α)} (hr : Rising L) {i j : Nat} (hij : i < j) (hj : j < L.length) : keyAt L i < keyAt L j := by
  have := List.pairwise_iff_getElem.1 hr i j (by omega) hj hij
  simpa [keyAt, hj, show i < L.length by omega] using this
theorem keyAt_of_mem {L : List (It α)} {x : It α} (hx : x ∈ L) : ∃ i, i < L.length ∧ keyAt L i = x.1 := by
  obtain ⟨i, hi, rfl⟩ := List.getElem_of_mem hx
  exact ⟨i, hi, by simp [keyAt, hi]⟩
/-- What Ceil finds, as the keys are gone through. -/
theorem ceil_row {L : List (It α)} (hr : Rising L) (key : Int) :
    (ceilL key L = none ∧ ∀ i, i < L.length → keyAt L i < key) ∨
    ∃ x, ceilL key L = some x ∧ x ∈ L ∧ (∃ i, i < L.length ∧ key ≤ keyAt L i) ∧ ∀ i, i < L.length → key ≤ keyAt L i → (∀ j, j < i → keyAt L j < key) → x.1 = keyAt L i := by
  cases hc : ceilL key L with
  | none =>
    refine .inl ⟨rfl, fun i hi => ?_⟩
    obtain ⟨x, hx, e⟩ := keyAt_mem hi
    rw [← e]; exact ceilL_none hc x hx
  | some x =>
    obtain ⟨q1, q2, q3⟩ := ceilL_some hr hc
    obtain ⟨j, hj, e⟩ := keyAt_of_mem q1
    refine .inr ⟨x, rfl, q1, ⟨j, hj, by rw [e]; exact q2⟩, fun i hi hk hall => ?_⟩
    obtain ⟨y, hy, ey⟩ := keyAt_mem hi
    have h1 := q3 y hy (by rw [ey]; exact hk)
    rcases Nat.lt_trichotomy i j with h | h | h
    · have := keyAt_lt hr h hj; omega
    · subst h; rw [e]
    · have := hall j h; omega
end

theorem belowAlike {a b c : World} (h : Below b.heap.size b c) (g : Alike a b) : Below a.heap.size a c := (g.below _).trans (h.mono (by rw [g.heap]; exact Nat.le_refl _))

theorem NodesV.keptB {W W' : World} {v : Value} {l : List (Int × Nat)} {M : Nat → Prop} {n : Nat} (h : NodesV W v l) (ho : Only M W W') (hv : ∀ a m c, v = .slice (some a) m c → n ≤ a.block) (hM : ∀ k, M k → k < n ∨ W.heap.size ≤ k) : NodesV W' v l := by
  obtain ⟨a, c, e, h⟩ := h
  refine ⟨a, c, e, fun hne => ?_⟩
  obtain ⟨g, e2, h2, h3⟩ := h hne
  have hg : ¬ M g := fun q => by have q1 := hM g q; have q2 := hv ⟨g, 0, none⟩ _ _ (by rw [e, e2]); simp at q2; omega
  exact ⟨g, e2, Nat.lt_of_lt_of_le h2 ho.size, fun i hi => ⟨(ho.cell (p := ⟨g, i * 2, none⟩) h2 hg).trans (h3 i hi).1, (ho.cell (p := ⟨g, i * 2 + 1, none⟩) h2 hg).trans (h3 i hi).2⟩⟩
end Go.Proofs.YtgdliebllmgibaaDoor

namespace Go.Proofs.YtgdliebllmgibaaDoor
open Go.RowKit

/-- What lies in a world, in the blocks G. -/
abbrev Res := World → (Nat → Prop) → Prop
structure Loc (R : Res) : Prop where
  kept : ∀ {w w' : World} {M G : Nat → Prop}, R w G → Only M w w' → (∀ x, G x → ¬ M x) → R w' G
  lt : ∀ {w : World} {G : Nat → Prop} {x : Nat}, R w G → G x → x < w.heap.size
def Sep (R1 R2 : Res) : Res := fun w G => ∃ G1 G2, R1 w G1 ∧ R2 w G2 ∧ (∀ x, G1 x → ¬ G2 x) ∧ (∀ x, G x ↔ G1 x ∨ G2 x)
theorem Loc.sep {R1 R2 : Res} (h1 : Loc R1) (h2 : Loc R2) : Loc (Sep R1 R2) :=
  ⟨fun ⟨G1, G2, a, b, c, d⟩ o hn => ⟨G1, G2, h1.kept a o (fun x hx => hn x ((d x).2 (.inl hx))), h2.kept b o (fun x hx => hn x ((d x).2 (.inr hx))), c, d⟩,
   fun ⟨_, _, a, b, _, d⟩ hx => ((d _).1 hx).elim (h1.lt a) (h2.lt b)⟩
/-- The tree at t, of the items L. -/
def RT {α : Type} (S : Sh α) (TT : TypeId) (t : Nat) (L : List (It α)) : Res := fun w G => ∃ T, TAt S TT w t T L ∧ ∀ x, G x ↔ Ftp t T x
theorem Loc.rt {α : Type} {S : Sh α} {TT : TypeId} {t : Nat} {L : List (It α)} : Loc (RT S TT t L) :=
  ⟨fun ⟨T, a, b⟩ o hn => ⟨T, a.kept o (fun x hx => hn x ((b x).2 hx)), b⟩, fun ⟨_, a, b⟩ hx => a.lt ((b _).1 hx)⟩

/-- What a call has of its own. -/
def Own (R : Res) (w0 w : World) : Prop := ∃ G, R w G ∧ (∀ x, G x → w0.heap.size ≤ x) ∧ Below w0.heap.size w0 w
theorem Own.below {R : Res} {w0 w w' : World} (l : Loc R) (h : Own R w0 w) (b : Below w.heap.size w w') : Own R w0 w' := by
  obtain ⟨G, h1, h2, h3⟩ := h
  exact ⟨G, l.kept h1 (Below.only b (fun _ => False)) (fun _ _ h => h), h2, h3.trans (b.mono h3.size)⟩
theorem Own.back {R : Res} {w0 w : World} (h : Own R w0 w) : Below w0.heap.size w0 w := by obtain ⟨_, _, _, h⟩ := h; exact h
theorem Own.comm {R1 R2 : Res} {w0 w : World} (h : Own (Sep R1 R2) w0 w) : Own (Sep R2 R1) w0 w := by
  obtain ⟨G, ⟨G1, G2, a, b, c, d⟩, h2, h3⟩ := h
  exact ⟨G, ⟨G2, G1, b, a, fun x hx h => c x h hx, fun x => (d x).trans or_comm⟩, h2, h3⟩
theorem Own.rot {R1 R2 R3 : Res} {w0 w : World} (h : Own (Sep R1 (Sep R2 R3)) w0 w) : Own (Sep R2 (Sep R3 R1)) w0 w := by
  obtain ⟨G, ⟨G1, _, a, ⟨G2, G3, b1, b2, b3, b4⟩, c, d⟩, h2, h3⟩ := h
  refine ⟨G, ⟨G2, fun x => G3 x ∨ G1 x, b1, ⟨G3, G1, b2, a, fun x hx h => c x h ((b4 x).2 (.inr hx)), fun x => Iff.rfl⟩, fun x hx h => ?_, fun x => ?_⟩, h2, h3⟩
  · rcases h with h | h
    · exact b3 x hx h
    · exact c x h ((b4 x).2 (.inl hx))
  · rw [d x, b4 x]
    constructor
    · rintro (h | h | h)
      · exact .inr (.inr h)
      · exact .inl h
      · exact .inr (.inl h)
    · rintro (h | h | h)
      · exact .inr (.inl h)
      · exact .inr (.inr h)
      · exact .inl h
/-- One thing is turned, the rest stays. -/
theorem Own.step {R R1' : Res} {w0 w w' : World} {G1 G1' G2 : Nat → Prop} (l : Loc R) (hb : Below w0.heap.size w0 w) (hg : ∀ x, G1 x ∨ G2 x → w0.heap.size ≤ x) (h2 : R w G2) (hd : ∀ x, G1 x → ¬ G2 x)
    (h1 : R1' w' G1') (ho : Only G1 w w') (hs : ∀ x, G1' x → G1 x ∨ w.heap.size ≤ x) : Own (Sep R1' R) w0 w' := by
  refine ⟨fun x => G1' x ∨ G2 x, ⟨G1', G2, h1, l.kept h2 ho (fun x hx h => hd x h hx), fun x hx h => ?_, fun x => Iff.rfl⟩, fun x hx => ?_, hb.trans (ho.below hb.size (fun x hx => hg x (.inl hx)))⟩
  · rcases hs x hx with q | q
    · exact hd x q h
    · have := l.lt h2 h; omega
  · rcases hx with hx | hx
    · rcases hs x hx with q | q
      · exact hg x (.inl q)
      · exact Nat.le_trans hb.size q
    · exact hg x (.inr hx)
theorem Own.turned {α : Type} {S : Sh α} {TT : TypeId} {t : Nat} {L : List (It α)} {R : Res} {w0 w : World} (l : Loc R) (h : Own (Sep (RT S TT t L) R) w0 w) :
    ∃ T, TAt S TT w t T L ∧ ∀ {w' L'}, Turned S TT w w' t T L' → Own (Sep (RT S TT t L') R) w0 w' := by
  obtain ⟨G, ⟨G1, G2, ⟨T, a, e⟩, b, c, d⟩, h2, h3⟩ := h
  refine ⟨T, a, fun {w' L'} ⟨T', g1, g2, g3⟩ => ?_⟩
  exact Own.step (G1 := G1) (G1' := Ftp t T') (G2 := G2) l h3 (fun x hx => h2 x ((d x).2 hx)) b c ⟨T', g1, fun _ => Iff.rfl⟩ (g2.mono (fun x _ hx => (e x).2 hx)) (fun x hx => (g3 x hx).imp (fun q => (e x).2 q) (fun q => q))
theorem Own.new {α : Type} {S : Sh α} {TT : TypeId} {R : Res} {w0 w w' : World} (l : Loc R) (h : Own R w0 w) (hT : TAt S TT w' w.heap.size .nil []) (b : Below w.heap.size w w') : Own (Sep (RT S TT w.heap.size []) R) w0 w' := by
  obtain ⟨G, h1, h2, h3⟩ := h
  refine ⟨fun x => x = w.heap.size ∨ G x, ⟨fun x => x = w.heap.size, G, ⟨.nil, hT, fun x => ⟨.inl, fun q => q.elim (fun q => q) (fun q => q.elim)⟩⟩, l.kept h1 (Below.only b (fun _ => False)) (fun _ _ h => h), fun x hx h => ?_, fun _ => Iff.rfl⟩, fun x hx => ?_, h3.trans (b.mono h3.size)⟩
  · have := l.lt h1 h; omega
  · rcases hx with rfl | hx
    · exact h3.size
    · exact h2 x hx
/-- Nothing. -/
def Nought : Res := fun _ G => ∀ x, ¬ G x
theorem Loc.nought : Loc Nought := ⟨fun h _ _ => h, fun h hx => absurd hx (h _)⟩
theorem Own.start (w : World) : Own Nought w w := ⟨fun _ => False, fun _ h => h, fun _ h => h.elim, Below.refl _ _⟩
theorem Own.unit {R : Res} {w0 w : World} (h : Own (Sep R Nought) w0 w) : Own R w0 w := by
  obtain ⟨G, ⟨G1, G2, a, b, _, d⟩, h2, h3⟩ := h
  exact ⟨G1, a, fun x hx => h2 x ((d x).2 (.inl hx)), h3⟩
theorem Own.ris {α : Type} {S : Sh α} {TT : TypeId} {t : Nat} {L : List (It α)} {R : Res} {w0 w : World} (h : Own (Sep (RT S TT t L) R) w0 w) : Rising L := by
  obtain ⟨G, ⟨G1, G2, ⟨T, a, _⟩, _⟩, _⟩ := h
  exact a.ris
end Go.Proofs.YtgdliebllmgibaaDoor

namespace Go.Proofs.YtgdliebllmgibaaDoor
open Go.RowKit

def shE : Sh Unit where
  ty := 157
  blk k d _ a b := #[.int .i64 k, .int .u32 (d : Int), a, b]
  lo := 2
  hi := 3
  ne := by decide
  setL := by intros; rfl
  setR := by intros; rfl
  getL := by intros; rfl
  getR := by intros; rfl

theorem nodeE {w : World} {p : Nat} {k : Int} {d : Nat} {v : Unit} {a b : Value} (h : w.heap[p]? = some (.cells (shE.blk k d v a b) shE.ty (0, 0))) :
    w.cell? ⟨p, 0, none⟩ = some (.int .i64 k) ∧ w.cell? ⟨p, 1, none⟩ = some (.int .u32 (d : Int)) ∧ w.cell? ⟨p, 2, none⟩ = some a ∧ w.cell? ⟨p, 3, none⟩ = some b ∧ ∀ o, w.frozen? ⟨p, o, none⟩ = false :=
  ⟨cell_of_heap h, cell_of_heap h, cell_of_heap h, cell_of_heap h, fun _ => frozen_of_heap h⟩

theorem aboveE (w : World) (p : Nat) (k : Int) (d : Nat) (v : Unit) (a b : Value) (h : w.heap[p]? = some (.cells (shE.blk k d v a b) shE.ty (0, 0))) (key : Int) (draw : Nat) :
    Calls Tryd.prog 94 #[.pointer (some ⟨p, 0, none⟩), .int .i64 key, .int .u32 (draw : Int)] w fun e w' => e = .returned (.bool (decide (Abv k d key draw))) ∧ w' = w := by
  obtain ⟨c0, c1, _, _, _⟩ := nodeE h
  clear h
  by_cases hd : d = draw
  · subst hd
    have E := hide (show decide (Abv k d key d) = decide (k < key) by apply decide_eq_decide.2; unfold Abv; omega)
    go_enter Tryd.func94, Tryd.ntmps94
    go_wp2
    go_ret
    exact ⟨ret_bool E.out.symm, rfl⟩
  · have q : ((d : Int) == (draw : Int)) = false := by rw [beq_eq_false_iff_ne]; omega
    have E := hide (show decide (Abv k d key draw) = decide ((draw : Int) < (d : Int)) by apply decide_eq_decide.2; unfold Abv; omega)
    clear hd
    go_enter Tryd.func94, Tryd.ntmps94
    go_wp2
    go_ret
    exact ⟨ret_bool (by rw [E.out]; simp), rfl⟩

theorem towardLE (w : World) (p : Nat) (k : Int) (d : Nat) (v : Unit) (a b : Value) (h : w.heap[p]? = some (.cells (shE.blk k d v a b) shE.ty (0, 0))) (key : Int) (hk : key < k) :
    Calls Tryd.prog 95 #[.pointer (some ⟨p, 0, none⟩), .int .i64 key] w fun e w' => e = .returned (.pointer (some ⟨p, 2, none⟩)) ∧ w' = w := by
  obtain ⟨c0, c1, _, _, _⟩ := nodeE h
  clear h
  go_enter Tryd.func95, Tryd.ntmps95
  go_wp2
  go_ret
  exact ⟨rfl, rfl⟩

theorem towardRE (w : World) (p : Nat) (k : Int) (d : Nat) (v : Unit) (a b : Value) (h : w.heap[p]? = some (.cells (shE.blk k d v a b) shE.ty (0, 0))) (key : Int) (hk : ¬ key < k) :
    Calls Tryd.prog 95 #[.pointer (some ⟨p, 0, none⟩), .int .i64 key] w fun e w' => e = .returned (.pointer (some ⟨p, 3, none⟩)) ∧ w' = w := by
  obtain ⟨c0, c1, _, _, _⟩ := nodeE h
  clear h
  go_enter Tryd.func95, Tryd.ntmps95
  go_wp2
  go_ret
  exact ⟨rfl, rfl⟩

theorem linkE (w : World) (t : Nat) (T : Tr Unit) (h : Hung shE w t 0 T) (key : Int) :
    Calls Tryd.prog 93 #[.pointer (some ⟨t, 0, none⟩), .int .i64 key] w fun e w' => w' = w ∧ ∃ b o F, e = .returned (.pointer (some ⟨b, o, none⟩)) ∧ Path shE t 0 T b o (T.find key) F ∧ T.drop key = F ((T.find key).drop key) := by
  have HH := hide h
  clear h
  go_enter Tryd.func93, Tryd.ntmps93
  go_wp2
  go_loopg [5] T.size (fun n x wr => ∃ b o T' F, T'.size = n ∧ x = .pointer (some ⟨b, o, none⟩) ∧ wr = w ∧ Path shE t 0 T b o T' F ∧ T.find key = T'.find key ∧ T.drop key = F (T'.drop key))
  case atStart => exact ⟨t, 0, T, _, rfl, rfl, rfl, .here, rfl, rfl⟩
  case round =>
    obtain ⟨b, o, T', F, hn, rfl, rfl, hp, hf, hd⟩ := hrel
    have hh := hp.hung HH.out
    cases T' with
    | nil =>
      have c0 : wr.cell? ⟨b, o, none⟩ = some (.pointer none) := hh.lk.cell
      have AA : Aside (Path shE t 0 T b o (T.find key) F ∧ T.drop key = F ((T.find key).drop key)) := ⟨by rw [hf]; exact hp, by rw [hd, hf]; rfl⟩
      clear hh hp hf hd HH hn
      go_wp2
      go_ret
      exact ⟨rfl, b, o, F, rfl, AA.out.1, AA.out.2⟩
    | node p k d v l r =>
      have c0 : wr.cell? ⟨b, o, none⟩ = some (.pointer (some ⟨p, 0, none⟩)) := hh.lk.cell
      obtain ⟨c1, _, _, _, _⟩ := nodeE hh.inn.1
      by_cases hk : k = key
      · subst hk
        have AA : Aside (Path shE t 0 T b o (T.find k) F ∧ T.drop k = F ((T.find k).drop k)) := by
          refine ⟨?_, ?_⟩
          · rw [hf]; simpa [Tr.find] using hp
          · rw [hd, hf]; simp [Tr.find]
        clear hh hp hf hd HH hn
        go_wp2
        go_ret
        exact ⟨rfl, b, o, F, rfl, AA.out.1, AA.out.2⟩
      · have q : (k == key) = false := by rw [beq_eq_false_iff_ne]; exact hk
        by_cases hl : key < k
        · have HC := hide (towardLE wr p k d v l.ptr r.ptr hh.inn.1 key hl)
          have AA : Aside ((Tr.node p k d v l r).size = gk ∧ Path shE t 0 T p 2 l (fun x => F (.node p k d v x r)) ∧ T.find key = l.find key ∧ T.drop key = F (.node p k d v (l.drop key) r)) :=
            ⟨hn, .left hp, by rw [hf]; simp [Tr.find, hk, hl], by rw [hd]; simp [Tr.drop, hk, hl]⟩
          clear hh hp hf hd HH hn hk
          go_wp2_with fail
          refine HC.out.mono ?_
          rintro e w1 ⟨rfl, rfl⟩
          go_wp2
          obtain ⟨hn, a1, a2, a3⟩ := AA.out
          go_roundg l.size
          case measure => simp [Tr.size] at hn; omega
          case rel => exact ⟨p, 2, l, _, rfl, rfl, rfl, a1, a2, a3⟩
        · have HC := hide (towardRE wr p k d v l.ptr r.ptr hh.inn.1 key hl)
          have AA : Aside ((Tr.node p k d v l r).size = gk ∧ Path shE t 0 T p 3 r (fun x => F (.node p k d v l x)) ∧ T.find key = r.find key ∧ T.drop key = F (.node p k d v l (r.drop key))) :=
            ⟨hn, .right hp, by rw [hf]; simp [Tr.find, hk, hl], by rw [hd]; simp [Tr.drop, hk, hl]⟩
          clear hh hp hf hd HH hn hk
          go_wp2_with fail
          refine HC.out.mono ?_
          rintro e w1 ⟨rfl, rfl⟩
          go_wp2
          obtain ⟨hn, a1, a2, a3⟩ := AA.out
          go_roundg r.size
          case measure => simp [Tr.size] at hn; omega
          case rel => exact ⟨p, 3, r, _, rfl, rfl, rfl, a1, a2, a3⟩

theorem splitE (w : World) (T : Tr Unit) (key : Int) (b1 o1 b2 o2 : Nat) (h : SplPre shE w T b1 o1 b2 o2) :
    Calls Tryd.prog 96 #[T.ptr, .int .i64 key, .pointer (some ⟨b1, o1, none⟩), .pointer (some ⟨b2, o2, none⟩)] w fun e w' => e = .returned (.tuple #[]) ∧ Rep2 shE w w' b1 o1 b2 o2 T.Mem (T.split key).1 (T.split key).2 := by
  have HH := hide h
  clear h
  go_enter Tryd.func96, Tryd.ntmps96
  go_wp2
  go_loopg [0, 2, 3] T.size (fun n a l m wr => ∃ U c1 p1 c2 p2, U.size = n ∧ a = .pointer U.adr ∧ l = .pointer (some ⟨c1, p1, none⟩) ∧ m = .pointer (some ⟨c2, p2, none⟩) ∧ SplPre shE wr U c1 p1 c2 p2 ∧
    ∀ w', Rep2 shE wr w' c1 p1 c2 p2 U.Mem (U.split key).1 (U.split key).2 → Rep2 shE w w' b1 o1 b2 o2 T.Mem (T.split key).1 (T.split key).2)
  case atStart => exact ⟨T, b1, o1, b2, o2, rfl, rfl, rfl, rfl, HH.out, fun _ g => g⟩
  case round =>
    obtain ⟨U, c1, p1, c2, p2, hn, rfl, rfl, rfl, hpre, hwand⟩ := hrel
    obtain ⟨u1, lk1⟩ := hpre.lk1
    obtain ⟨u2, lk2⟩ := hpre.lk2
    have k1 := lk1.cell
    have k2 := lk2.cell
    have f1 := lk1.frozen
    have f2 := lk2.frozen
    cases U with
    | nil =>
      rw [Tr.adr_nil]
      have AA : Aside (Rep2 shE w ((wr.setCell ⟨c1, p1, none⟩ (.pointer none)).setCell ⟨c2, p2, none⟩ (.pointer none)) b1 o1 b2 o2 T.Mem (T.split key).1 (T.split key).2) := hwand _ (Rep2.nil wr c1 p1 c2 p2 key)
      have k3 : (wr.setCell ⟨c1, p1, none⟩ (.pointer none)).cell? ⟨c2, p2, none⟩ = some u2 := (lk2.set hpre.ne).cell
      have f3 : (wr.setCell ⟨c1, p1, none⟩ (.pointer none)).frozen? ⟨c2, p2, none⟩ = false := (lk2.set hpre.ne).frozen
      clear hpre hwand lk1 lk2 HH hn
      go_wp2
      refine bodyPost_end (results_none rfl _ _ _) rfl ?_
      exact ⟨rfl, AA.out⟩
    | node p k d v l r =>
      rw [Tr.adr_node]
      obtain ⟨d0, _, _, _, _⟩ := nodeE hpre.inn.1
      have n1 : p ≠ c1 := fun e => hpre.out1 (.inl e.symm)
      have n2 : p ≠ c2 := fun e => hpre.out2 (.inl e.symm)
      by_cases hk : k < key
      · obtain ⟨_, _, _, d3, _⟩ := nodeE ((heap_setCell_ne (o := p1) n1 (.pointer (some ⟨p, 0, none⟩))).trans hpre.inn.1)
        have AA : Aside ((Tr.node p k d v l r).size = gk ∧ SplPre shE (wr.setCell ⟨c1, p1, none⟩ (.pointer (some ⟨p, 0, none⟩))) r p 3 c2 p2 ∧
            ∀ w', Rep2 shE (wr.setCell ⟨c1, p1, none⟩ (.pointer (some ⟨p, 0, none⟩))) w' p 3 c2 p2 r.Mem (r.split key).1 (r.split key).2 → Rep2 shE w w' b1 o1 b2 o2 T.Mem (T.split key).1 (T.split key).2) :=
          ⟨hn, hpre.less, fun w' g => hwand w' (Rep2.less hpre hk g)⟩
        clear hpre hwand lk1 lk2 HH hn n1 n2
        go_wp2
        go_quiet (fail)
        go_wp2
        obtain ⟨hn, a1, a2⟩ := AA.out
        go_roundg r.size
        case measure => simp [Tr.size] at hn; omega
        case rel => exact ⟨r, p, 3, c2, p2, rfl, rfl, rfl, rfl, a1.alike ⟨rfl, rfl, rfl, rfl⟩, fun w' g => a2 w' (g.left ⟨rfl, rfl, rfl, rfl⟩)⟩
      · obtain ⟨_, _, d3, _, _⟩ := nodeE ((heap_setCell_ne (o := p2) n2 (.pointer (some ⟨p, 0, none⟩))).trans hpre.inn.1)
        have AA : Aside ((Tr.node p k d v l r).size = gk ∧ SplPre shE (wr.setCell ⟨c2, p2, none⟩ (.pointer (some ⟨p, 0, none⟩))) l c1 p1 p 2 ∧
            ∀ w', Rep2 shE (wr.setCell ⟨c2, p2, none⟩ (.pointer (some ⟨p, 0, none⟩))) w' c1 p1 p 2 l.Mem (l.split key).1 (l.split key).2 → Rep2 shE w w' b1 o1 b2 o2 T.Mem (T.split key).1 (T.split key).2) :=
          ⟨hn, hpre.more, fun w' g => hwand w' (Rep2.more hpre hk g)⟩
        clear hpre hwand lk1 lk2 HH hn n1 n2
        go_wp2
        go_quiet (fail)
        go_wp2
        obtain ⟨hn, a1, a2⟩ := AA.out
        go_roundg l.size
        case measure => simp [Tr.size] at hn; omega
        case rel => exact ⟨l, c1, p1, p, 2, rfl, rfl, rfl, rfl, a1.alike ⟨rfl, rfl, rfl, rfl⟩, fun w' g => a2 w' (g.left ⟨rfl, rfl, rfl, rfl⟩)⟩

end Go.Proofs.YtgdliebllmgibaaDoor

namespace Go.Proofs.YtgdliebllmgibaaDoor
open Go.RowKit

abbrev TAtE (w : World) (t : Nat) (T : Tr Unit) (L : List (It Unit)) : Prop := TAt shE 138 w t T L
abbrev TurnedE (w w' : World) (t : Nat) (T : Tr Unit) (L : List (It Unit)) : Prop := Turned shE 138 w w' t T L

theorem newE (w : World) : Calls Tryd.prog 54 #[] w fun e w' => e = .returned (.pointer (some ⟨w.heap.size, 0, none⟩)) ∧ TAtE w' w.heap.size .nil [] ∧ Below w.heap.size w w' := by
  go_enter Tryd.func54, Tryd.ntmps54
  go_wp2
  go_ret
  exact ⟨rfl, ⟨heap_alloc_at _ _, trivial, trivial, fun e => e, rfl, trivial, List.Pairwise.nil⟩, (Only.alloc (Only.refl (fun _ => False) w) _).below (Nat.le_refl _) (fun _ h => h.elim)⟩

theorem putNoE (w : World) (t : Nat) (T : Tr Unit) (L : List (It Unit)) (h : TAtE w t T L) (key : Int) (draw : Nat) (_v : Unit) (i : It Unit) (hg : getL key L = some i) :
    Calls Tryd.prog 82 #[.pointer (some ⟨t, 0, none⟩), .int .i64 key, .int .u32 (draw : Int), .agg #[]] w fun e w' => e = .returned (.bool false) ∧ Below w.heap.size w w' := by
  have hB : Below w.heap.size w (w.alloc (.cells #[] 109)) := (Below.refl _ w).alloc (Nat.le_refl _) _
  replace h := h.below hB
  have HC := hide (linkE _ t T h.hung key)
  have HH := hide h.hung
  obtain ⟨_, p, l, r, hf⟩ := find_node h.items h.ris hg
  have HF := hide hf
  clear h hg hf
  go_enter Tryd.func82, Tryd.ntmps82
  go_wp2_with fail
  generalize (w.alloc (.cells #[] 109)) = w0 at *
  refine HC.out.mono ?_
  rintro e w1 ⟨rfl, b, o, F, rfl, hp, _⟩
  have hh := hp.hung HH.out
  rw [HF.out] at hh
  have c0 : w1.cell? ⟨b, o, none⟩ = some (.pointer (some ⟨p, 0, none⟩)) := hh.lk.cell
  clear hp hh
  go_wp2
  go_ret
  exact ⟨rfl, hB⟩

set_option maxHeartbeats 1000000 in
theorem putYesE (w : World) (t : Nat) (T : Tr Unit) (L : List (It Unit)) (h : TAtE w t T L) (key : Int) (draw : Nat) (v : Unit) (hg : getL key L = none) (hl : L.length < 4611686018427387904) :
    Calls Tryd.prog 82 #[.pointer (some ⟨t, 0, none⟩), .int .i64 key, .int .u32 (draw : Int), .agg #[]] w fun e w' => e = .returned (.bool true) ∧ TurnedE w w' t T (insL key draw v L) := by
  have hB : Below w.heap.size w (w.alloc (.cells #[] 109)) := (Below.refl _ w).alloc (Nat.le_refl _) _
  replace h := h.below hB
  have HC := hide (linkE _ t T h.hung key)
  have HH := hide h.hung
  have HT := hide h
  have HF := hide (find_nil h.items h.ris hg)
  have HG := hide (getL_none hg)
  clear h hg
  go_enter Tryd.func82, Tryd.ntmps82
  go_wp2_with fail
  generalize (w.alloc (.cells #[] 109)) = w0 at *
  refine HC.out.mono ?_
  rintro e w1 ⟨rfl, b, o, F, rfl, hp, _⟩
  have c0 : w1.cell? ⟨b, o, none⟩ = some (.pointer none) := by have := (hp.hung HH.out).lk.cell; rw [HF.out] at this; exact this
  clear hp HC
  go_wp2
  go_loopg [9] T.size (fun n x wr => ∃ b o U F, U.size = n ∧ x = .pointer (some ⟨b, o, none⟩) ∧ w1 = wr ∧ Path shE t 0 T b o U F ∧ ∀ m, T.put m key draw v = F (U.put m key draw v))
  case atStart => exact ⟨t, 0, T, _, rfl, rfl, rfl, .here, fun _ => rfl⟩
  case round =>
    clear c0 HF
    obtain ⟨b, o, U, F, hn, rfl, rfl, hp, hput⟩ := hrel
    have hh := hp.hung HH.out
    cases U with
    | nil =>
      have c0 : w1.cell? ⟨b, o, none⟩ = some (.pointer none) := hh.lk.cell
      have HP : Hid (∀ m, T.put m key draw v = F (.node m key draw v ((Tr.nil : Tr Unit).split key).1 ((Tr.nil : Tr Unit).split key).2)) := hide (fun m => (hput m).trans (by rw [put_at (.inl rfl)]))
      have HU := hide hh
      have HPA := hide hp
      have hbs : b < w1.heap.size := hh.lk.lt
      have c1 : ∀ q, (w1.alloc q).cell? ⟨b, o, none⟩ = some (.pointer (none)) := fun q => ((hh.lk).kept (Below.heap_alloc _ _ _ hbs)).cell
      have HSP := hide (splitE (w1.alloc (.cells (shE.blk key draw v (.pointer none) (.pointer none)) shE.ty (0, 0))).drew (Tr.nil : Tr Unit) key w1.heap.size 2 w1.heap.size 3
        (SplPre.alike (w := w1.alloc (.cells (shE.blk key draw v (.pointer none) (.pointer none)) shE.ty (0, 0))) ⟨hh.inn.same (fun x hx => Below.heap_alloc _ _ _ (hh.inn.lt hx)), hh.own, fun e => Nat.lt_irrefl _ (hh.inn.lt e), fun e => Nat.lt_irrefl _ (hh.inn.lt e), by simp, ⟨_, _, _, heap_alloc_at _ _, rfl⟩, ⟨_, _, _, heap_alloc_at _ _, rfl⟩⟩ ⟨rfl, rfl, rfl, rfl⟩))
      have hd1 : ∀ u : Mem (CellIs b o (.pointer (none))), u.w'.cell? ⟨b, o, none⟩ = some (.pointer (none)) := fun u => u.h
      have hne : Nonempty (Mem (CellIs b o (.pointer (none)))) := ⟨⟨_, c0⟩⟩
      have C1 : Hid (∀ q, CellIs b o (.pointer (none)) (w1.alloc q).drew) := hide (fun q => c1 q)
      clear hh hp hput hn
      go_wp2
      refine region_start (J := CellIs b o (.pointer (none))) (by kernel_rfl) ?_
      refine stretch (fuel := 1) (by kernel_rfl) (fun _ _ _ _ _ h => h) (C1.out _) [0, 1, 2, 3, 4, 5, 6, 7, 8, 9] (by kernel_rfl) ?_
      simp only [List.filterMap_cons, List.filterMap_nil, List.getElem?_toArray, List.getElem?_cons_zero, List.getElem?_cons_succ]
      show wpQuiet _ _ _ _ [_, _, _, _, _, _, _, _, _, _] _
      repeat (go_big_quiet_step (fail))
      refine wpQuiet_nil ?_
      refine wpAnyJ_writer (i := 10) rfl (by kernel_rfl) (fun K hK => ?_)
      go_simp
      refine HSP.out.mono ?_
      rintro e w2 ⟨rfl, hr2⟩
      obtain ⟨hrep, hbk⟩ := Rep.newNode HU.out (hr2.left ⟨rfl, rfl, rfl, rfl⟩)
      have c2 : w2.cell? ⟨b, o, none⟩ = some (.pointer (none)) := (HU.out.lk.kept hbk).cell
      have f2 : w2.frozen? ⟨b, o, none⟩ = false := (HU.out.lk.kept hbk).frozen
      refine hK _ _ c2 ?_
      clear hK K
      refine wpAnyJ_done (by kernel_rfl) ?_
      have hrt := HPA.out.rep HH.out hrep
      rw [← HP.out] at hrt
      have hct := Rep.headCell HT.out hrt
      have c3 := cell_of_heap (o := 1) hct
      have f3 := frozen_of_heap (o := 1) hct
      have c3' : (w2.setCell ⟨b, o, none⟩ (.pointer (some ⟨w1.heap.size, 0, none⟩))).cell? ⟨t, 1, none⟩ = some (.int .i64 (L.length : Int)) := c3
      have HE := hide (Rep.turned HT.out hrt (by rw [put_items _ _ _ _ (by rw [HT.out.items]; exact HT.out.ris) (by rw [HT.out.items]; exact HG.out), HT.out.items]) (put_heap _ _ _ _ HT.out.heap (by rw [HT.out.items]; exact HT.out.ris) (by rw [HT.out.items]; exact HG.out)) (insL_rising HT.out.ris HG.out))
      rw [insL_length] at HE
      clear hr2 hrep hrt hct c3 hbk
      go_wp2
      go_ret
      exact ⟨rfl, Turned.leftBelow (by simpa using HE.out) hB⟩
    | node p k d w l r =>
      have c0 : w1.cell? ⟨b, o, none⟩ = some (.pointer (some ⟨p, 0, none⟩)) := hh.lk.cell
      have HAB := hide (aboveE w1 p k d w l.ptr r.ptr hh.inn.1 key draw)
      by_cases ha : Abv k d key draw
      · have hdec : decide (Abv k d key draw) = true := by simpa using ha
        rw [hdec] at HAB
        by_cases hk : key < k
        · have HC := hide (towardLE w1 p k d w l.ptr r.ptr hh.inn.1 key hk)
          have AA : Aside ((Tr.node p k d w l r).size = gk ∧ Path shE t 0 T p 2 l (fun x => F (.node p k d w x r)) ∧ ∀ m, T.put m key draw v = F (.node p k d w (l.put m key draw v) r)) :=
            ⟨hn, .left hp, fun m => by rw [hput m, Tr.put, if_pos ha, if_pos hk]⟩
          clear hh hp hput HH hn ha hdec HT HG
          go_wp2_with fail
          refine HAB.out.mono ?_
          rintro e w3 ⟨rfl, rfl⟩
          go_wp2_with fail
          refine HC.out.mono ?_
          rintro e w3 ⟨rfl, rfl⟩
          go_wp2
          obtain ⟨hn, a1, a2⟩ := AA.out
          go_roundg l.size
          case measure => simp [Tr.size] at hn; omega
          case rel => exact ⟨p, 2, l, _, rfl, rfl, rfl, a1, a2⟩
        · have HC := hide (towardRE w1 p k d w l.ptr r.ptr hh.inn.1 key hk)
          have AA : Aside ((Tr.node p k d w l r).size = gk ∧ Path shE t 0 T p 3 r (fun x => F (.node p k d w l x)) ∧ ∀ m, T.put m key draw v = F (.node p k d w l (r.put m key draw v))) :=
            ⟨hn, .right hp, fun m => by rw [hput m, Tr.put, if_pos ha, if_neg hk]⟩
          clear hh hp hput HH hn ha hdec HT HG
          go_wp2_with fail
          refine HAB.out.mono ?_
          rintro e w3 ⟨rfl, rfl⟩
          go_wp2_with fail
          refine HC.out.mono ?_
          rintro e w3 ⟨rfl, rfl⟩
          go_wp2
          obtain ⟨hn, a1, a2⟩ := AA.out
          go_roundg r.size
          case measure => simp [Tr.size] at hn; omega
          case rel => exact ⟨p, 3, r, _, rfl, rfl, rfl, a1, a2⟩
      · have hdec : decide (Abv k d key draw) = false := by simpa using ha
        rw [hdec] at HAB
        have HP : Hid (∀ m, T.put m key draw v = F (.node m key draw v ((Tr.node p k d w l r).split key).1 ((Tr.node p k d w l r).split key).2)) := hide (fun m => (hput m).trans (by rw [put_at (.inr ⟨p, k, d, w, l, r, rfl, ha⟩)]))
        have HU := hide hh
        have HPA := hide hp
        have hbs : b < w1.heap.size := hh.lk.lt
        have c1 : ∀ q, (w1.alloc q).cell? ⟨b, o, none⟩ = some (.pointer (some ⟨p, 0, none⟩)) := fun q => ((hh.lk).kept (Below.heap_alloc _ _ _ hbs)).cell
        have HSP := hide (splitE (w1.alloc (.cells (shE.blk key draw v (.pointer none) (.pointer none)) shE.ty (0, 0))).drew (Tr.node p k d w l r) key w1.heap.size 2 w1.heap.size 3
          (SplPre.alike (w := w1.alloc (.cells (shE.blk key draw v (.pointer none) (.pointer none)) shE.ty (0, 0))) ⟨hh.inn.same (fun x hx => Below.heap_alloc _ _ _ (hh.inn.lt hx)), hh.own, fun e => Nat.lt_irrefl _ (hh.inn.lt e), fun e => Nat.lt_irrefl _ (hh.inn.lt e), by simp, ⟨_, _, _, heap_alloc_at _ _, rfl⟩, ⟨_, _, _, heap_alloc_at _ _, rfl⟩⟩ ⟨rfl, rfl, rfl, rfl⟩))
        have hd1 : ∀ u : Mem (CellIs b o (.pointer (some ⟨p, 0, none⟩))), u.w'.cell? ⟨b, o, none⟩ = some (.pointer (some ⟨p, 0, none⟩)) := fun u => u.h
        have hne : Nonempty (Mem (CellIs b o (.pointer (some ⟨p, 0, none⟩)))) := ⟨⟨_, c0⟩⟩
        have C1 : Hid (∀ q, CellIs b o (.pointer (some ⟨p, 0, none⟩)) (w1.alloc q).drew) := hide (fun q => c1 q)
        clear hh hp hput hn
        clear ha hdec
        go_wp2_with fail
        refine HAB.out.mono ?_
        rintro e w3 ⟨rfl, hw⟩
        rw [hw]
        clear hw w3
        go_wp2
        refine region_start (J := CellIs b o (.pointer (some ⟨p, 0, none⟩))) (by kernel_rfl) ?_
        refine stretch (fuel := 1) (by kernel_rfl) (fun _ _ _ _ _ h => h) (C1.out _) [0, 1, 2, 3, 4, 5, 6, 7, 8, 9] (by kernel_rfl) ?_
        simp only [List.filterMap_cons, List.filterMap_nil, List.getElem?_toArray, List.getElem?_cons_zero, List.getElem?_cons_succ]
        show wpQuiet _ _ _ _ [_, _, _, _, _, _, _, _, _, _] _
        repeat (go_big_quiet_step (fail))
        refine wpQuiet_nil ?_
        refine wpAnyJ_writer (i := 10) rfl (by kernel_rfl) (fun K hK => ?_)
        go_simp
        refine HSP.out.mono ?_
        rintro e w2 ⟨rfl, hr2⟩
        obtain ⟨hrep, hbk⟩ := Rep.newNode HU.out (hr2.left ⟨rfl, rfl, rfl, rfl⟩)
        have c2 : w2.cell? ⟨b, o, none⟩ = some (.pointer (some ⟨p, 0, none⟩)) := (HU.out.lk.kept hbk).cell
        have f2 : w2.frozen? ⟨b, o, none⟩ = false := (HU.out.lk.kept hbk).frozen
        refine hK _ _ c2 ?_
        clear hK K
        refine wpAnyJ_done (by kernel_rfl) ?_
        have hrt := HPA.out.rep HH.out hrep
        rw [← HP.out] at hrt
        have hct := Rep.headCell HT.out hrt
        have c3 := cell_of_heap (o := 1) hct
        have f3 := frozen_of_heap (o := 1) hct
        have c3' : (w2.setCell ⟨b, o, none⟩ (.pointer (some ⟨w1.heap.size, 0, none⟩))).cell? ⟨t, 1, none⟩ = some (.int .i64 (L.length : Int)) := c3
        have HE := hide (Rep.turned HT.out hrt (by rw [put_items _ _ _ _ (by rw [HT.out.items]; exact HT.out.ris) (by rw [HT.out.items]; exact HG.out), HT.out.items]) (put_heap _ _ _ _ HT.out.heap (by rw [HT.out.items]; exact HT.out.ris) (by rw [HT.out.items]; exact HG.out)) (insL_rising HT.out.ris HG.out))
        rw [insL_length] at HE
        clear hr2 hrep hrt hct c3 hbk
        go_wp2
        go_ret
        exact ⟨rfl, Turned.leftBelow (by simpa using HE.out) hB⟩
end Go.Proofs.YtgdliebllmgibaaDoor

namespace Go.Proofs.YtgdliebllmgibaaDoor
open Go.RowKit

theorem partE {w : World} {p : Nat} {c : Array Value} (h : w.heap[p]? = some (.cells c shE.ty (0, 0))) : (partAt ⟨p, 0, none⟩ 2 12).run Tryd.prog w = .ok ⟨p, 2, some 12⟩ w := by
  have hs : w.shape? p = some (157, c.size) := by simp [World.shape?, h, shE]
  have e0 : ∀ {β : Type} (f : Option (TypeId × Nat) → Sem β), (Sem.shape p f).run Tryd.prog w = (f (some (157, c.size))).run Tryd.prog w := fun f => by rw [← hs]; rfl
  have e1 : Tryd.prog.cellsOf 157 = 4 := by kernel_rfl
  have e2 : byteOfCell Tryd.prog Tryd.prog.depth 157 0 = some 0 := by kernel_rfl
  have e3 : byteOfCell Tryd.prog Tryd.prog.depth 157 2 = some 16 := by kernel_rfl
  simp [partAt, byteOf, noView, viewAt, shape, go_sem, e0, e1, e2, e3]

end Go.Proofs.YtgdliebllmgibaaDoor

namespace Go.Proofs.YtgdliebllmgibaaDoor
open Go.RowKit

attribute [local go_sem] Oper.semAt_some

theorem infoNE : (Tryd.prog.info? 136).map (fun i => (i.zero, i.size, i.bytes)) = some (some (.pointer none), 1, 8) := by kernel_rfl

theorem infoIE : (Tryd.prog.info? 3).map (fun i => (i.zero, i.size, i.bytes)) = some (some (.int .i64 0), 1, 8) := by kernel_rfl

end Go.Proofs.YtgdliebllmgibaaDoor

namespace Go.Proofs.YtgdliebllmgibaaDoor
open Go.RowKit

attribute [local go_sem] Oper.semAt_some

end Go.Proofs.YtgdliebllmgibaaDoor

namespace Go.Proofs.YtgdliebllmgibaaDoor
open Go.RowKit

abbrev RTE (t : Nat) (L : List (It Unit)) : Res := RT shE 138 t L

theorem newPE {R : Res} {w0 w : World} (l : Loc R) (h : Own R w0 w) : Calls Tryd.prog 54 #[] w fun e w' => e = .returned (.pointer (some ⟨w.heap.size, 0, none⟩)) ∧ Own (Sep (RTE w.heap.size []) R) w0 w' :=
  (newE w).mono fun _ _ ⟨h1, h2, h3⟩ => ⟨h1, h.new l h2 h3⟩
theorem putPE {R : Res} {w0 w : World} {t : Nat} {L : List (It Unit)} (l : Loc R) (h : Own (Sep (RTE t L) R) w0 w) (key : Int) (draw : Nat) (v : Unit) (hl : L.length ≤ 1000000) :
    Calls Tryd.prog 82 #[.pointer (some ⟨t, 0, none⟩), .int .i64 key, .int .u32 (draw : Int), .agg #[]] w fun e w' => e = .returned (.bool (getL key L).isNone) ∧ Own (Sep (RTE t (putL key draw v L)) R) w0 w' := by
  obtain ⟨T, a, k⟩ := h.turned l
  cases hg : getL key L with
  | none => rw [putL_no hg]; exact (putYesE w t T L a key draw v hg (by omega)).mono fun _ _ ⟨e, g⟩ => ⟨e, k g⟩
  | some i => rw [putL_yes hg]; exact (putNoE w t T L a key draw v i hg).mono fun _ _ ⟨e, g⟩ => ⟨e, h.below (Loc.rt.sep l) g⟩
end Go.Proofs.YtgdliebllmgibaaDoor
