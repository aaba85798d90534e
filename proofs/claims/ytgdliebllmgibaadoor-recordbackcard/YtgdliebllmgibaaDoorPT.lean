/- Trees of keys and draws, and sorted rows of items: numbers alone (a node bears the block at which it lies). Trees in memory: each node at a block of its own, hung at a cell. (Of any program.) A tree that its head holds, and what becomes of it. (Of any program.) Phase's laws inside a fence that lets every function in; and the range over an iterator that writes memory of its own. (Of any program.) Going through a tree by a stack of one's own: what is still to come. (Of any program.) Going through a tree from the root on, by a stack of one's own. (Of any program.) -/
import Derived.Test.YtgdliebllmgibaaDoorHeap
import Derived.Outline
import Derived.Deep.QuietTactic
import Derived.Carry
import Derived.Test.YtgdliebllmgibaaDoorPhase
import Derived.RangeFuncNested
import Derived.OrdersIn
import Derived.RangeFuncBox
import Derived.Maps.AppendAt
import Derived.OwnWalkIn
namespace Go.Proofs.YtgdliebllmgibaaDoor

/-- A key, its draw, its value. -/
abbrev It (α : Type) := Int × Nat × α

inductive Tr (α : Type) where
  | nil : Tr α
  | node (p : Nat) (k : Int) (d : Nat) (v : α) (l r : Tr α) : Tr α

/-- (k, d) stands above (k', d'). -/
def Abv (k : Int) (d : Nat) (k' : Int) (d' : Nat) : Prop := d' < d ∨ (d = d' ∧ k < k')
instance (k : Int) (d : Nat) (k' : Int) (d' : Nat) : Decidable (Abv k d k' d') := by unfold Abv; infer_instance

theorem Abv.trans {a b c : Int} {x y z : Nat} (h : Abv a x b y) (g : Abv b y c z) : Abv a x c z := by
  unfold Abv at *; omega
theorem Abv.asymm {a b : Int} {x y : Nat} (h : Abv a x b y) (g : Abv b y a x) : False := by
  unfold Abv at *; omega
theorem Abv.of_not {a b : Int} {x y : Nat} (h : ¬ Abv a x b y) (ne : a ≠ b) : Abv b y a x := by
  unfold Abv at *; omega

namespace Tr
variable {α : Type}

def size : Tr α → Nat
  | nil => 0
  | node _ _ _ _ l r => l.size + r.size + 1
def items : Tr α → List (It α)
  | nil => []
  | node _ k d v l r => l.items ++ (k, d, v) :: r.items
def Mem : Tr α → Nat → Prop
  | nil, _ => False
  | node p _ _ _ l r, x => x = p ∨ l.Mem x ∨ r.Mem x
def Own : Tr α → Prop
  | nil => True
  | node p _ _ _ l r => ¬ l.Mem p ∧ ¬ r.Mem p ∧ (∀ x, l.Mem x → ¬ r.Mem x) ∧ l.Own ∧ r.Own
def Heap : Tr α → Prop
  | nil => True
  | node _ k d _ l r => (∀ i ∈ l.items, Abv k d i.1 i.2.1) ∧ (∀ i ∈ r.items, Abv k d i.1 i.2.1) ∧ l.Heap ∧ r.Heap
def shape : Tr α → Nat → List (Int × Nat)
  | nil, _ => []
  | node _ k _ _ l r, e => (k, e) :: (l.shape (e + 1) ++ r.shape (e + 1))

theorem size_items (T : Tr α) : T.items.length = T.size := by
  induction T with
  | nil => rfl
  | node p k d v l r ihl ihr => simp [items, size, ihl, ihr]; omega
theorem shape_length (T : Tr α) (e : Nat) : (T.shape e).length = T.size := by
  induction T generalizing e with
  | nil => rfl
  | node p k d v l r ihl ihr => simp [shape, size, ihl, ihr]

def split (key : Int) : Tr α → Tr α × Tr α
  | nil => (nil, nil)
  | node p k d v l r => if k < key then (node p k d v l (split key r).1, (split key r).2) else ((split key l).1, node p k d v (split key l).2 r)

def join : Tr α → Tr α → Tr α
  | nil, B => B
  | A, nil => A
  | node p k d v l r, node p' k' d' v' l' r' =>
    if Abv k d k' d' then node p k d v l (join r (node p' k' d' v' l' r')) else node p' k' d' v' (join (node p k d v l r) l') r'
termination_by A B => A.size + B.size
decreasing_by all_goals (simp [size] <;> omega)

theorem join_nil (A : Tr α) : join A nil = A := by cases A <;> simp [join]
theorem nil_join (B : Tr α) : join nil B = B := by simp [join]

def put (n : Nat) (key : Int) (draw : Nat) (x : α) : Tr α → Tr α
  | nil => node n key draw x nil nil
  | node p k d v l r =>
    if Abv k d key draw then (if key < k then node p k d v (put n key draw x l) r else node p k d v l (put n key draw x r))
    else node n key draw x (split key (node p k d v l r)).1 (split key (node p k d v l r)).2

def drop (key : Int) : Tr α → Tr α
  | nil => nil
  | node p k d v l r => if k = key then join l r else if key < k then node p k d v (drop key l) r else node p k d v l (drop key r)

/-- The tree that hangs where key does. -/
def find (key : Int) : Tr α → Tr α
  | nil => nil
  | node p k d v l r => if k = key then node p k d v l r else if key < k then find key l else find key r

/-- The least key from key on, x if there is none. -/
def ceil (key : Int) : Tr α → Tr α → Tr α
  | nil, x => x
  | node p k d v l r, x => if k < key then ceil key r x else ceil key l (node p k d v l r)

end Tr

/-- Rising by the keys. -/
def Rising {α : Type} (L : List (It α)) : Prop := L.Pairwise fun a b => a.1 < b.1

section lists
variable {α : Type}
def insL (key : Int) (d : Nat) (v : α) (L : List (It α)) : List (It α) := L.filter (fun i => decide (i.1 < key)) ++ (key, d, v) :: L.filter (fun i => !decide (i.1 < key))
def delL (key : Int) (L : List (It α)) : List (It α) := L.filter (fun i => !decide (i.1 = key))
def getL (key : Int) (L : List (It α)) : Option (It α) := L.find? (fun i => decide (i.1 = key))
def ceilL (key : Int) (L : List (It α)) : Option (It α) := L.find? (fun i => !decide (i.1 < key))

theorem Rising.app {A B : List (It α)} {x : It α} (h : Rising (A ++ x :: B)) : Rising A ∧ Rising B ∧ (∀ i ∈ A, i.1 < x.1) ∧ (∀ i ∈ B, x.1 < i.1) ∧ (∀ i ∈ A, ∀ j ∈ B, i.1 < j.1) := by
  unfold Rising at *
  rw [List.pairwise_append, List.pairwise_cons] at h
  obtain ⟨h1, ⟨h2, h3⟩, h4⟩ := h
  exact ⟨h1, h3, fun i hi => h4 i hi x (by simp), h2, fun i hi j hj => h4 i hi j (by simp [hj])⟩

theorem filter_lt_all {L : List (It α)} {key : Int} (h : ∀ i ∈ L, i.1 < key) : L.filter (fun i => decide (i.1 < key)) = L ∧ L.filter (fun i => !decide (i.1 < key)) = [] := by
  constructor
  · rw [List.filter_eq_self]; intro i hi; simpa using h i hi
  · rw [List.filter_eq_nil_iff]; intro i hi; simpa using h i hi
theorem filter_ge_all {L : List (It α)} {key : Int} (h : ∀ i ∈ L, key ≤ i.1) : L.filter (fun i => decide (i.1 < key)) = [] ∧ L.filter (fun i => !decide (i.1 < key)) = L := by
  constructor
  · rw [List.filter_eq_nil_iff]; intro i hi; simpa using h i hi
  · rw [List.filter_eq_self]; intro i hi; simpa using h i hi

theorem split_items {T : Tr α} (key : Int) (h : Rising T.items) : (T.split key).1.items = T.items.filter (fun i => decide (i.1 < key)) ∧ (T.split key).2.items = T.items.filter (fun i => !decide (i.1 < key)) := by
  induction T with
  | nil => simp [Tr.split, Tr.items]
  | node p k d v l r ihl ihr =>
    obtain ⟨h1, h2, h3, h4, _⟩ := Rising.app h
    unfold Tr.split
    by_cases hk : k < key
    · obtain ⟨e1, e2⟩ := ihr h2
      obtain ⟨f1, f2⟩ := filter_lt_all (L := l.items) (key := key) (fun i hi => by have := h3 i hi; simp at this; omega)
      simp [hk, Tr.items, e1, e2, f1, f2]
    · obtain ⟨e1, e2⟩ := ihl h1
      obtain ⟨f1, f2⟩ := filter_ge_all (L := r.items) (key := key) (fun i hi => by have := h4 i hi; simp at this; omega)
      simp [hk, Tr.items, e1, e2, f1, f2]

theorem split_mem {T : Tr α} (key : Int) : (∀ i ∈ (T.split key).1.items, i ∈ T.items) ∧ (∀ i ∈ (T.split key).2.items, i ∈ T.items) := by
  induction T with
  | nil => simp [Tr.split, Tr.items]
  | node p k d v l r ihl ihr =>
    unfold Tr.split
    by_cases hk : k < key
    · rw [if_pos hk]
      refine ⟨fun i hi => ?_, fun i hi => ?_⟩
      · simp [Tr.items] at hi ⊢
        rcases hi with hi | hi | hi
        · exact .inl hi
        · exact .inr (.inl hi)
        · exact .inr (.inr (ihr.1 i hi))
      · simp [Tr.items] at hi ⊢
        exact .inr (.inr (ihr.2 i hi))
    · rw [if_neg hk]
      refine ⟨fun i hi => ?_, fun i hi => ?_⟩
      · simp [Tr.items] at hi ⊢
        exact .inl (ihl.1 i hi)
      · simp [Tr.items] at hi ⊢
        rcases hi with hi | hi | hi
        · exact .inl (ihl.2 i hi)
        · exact .inr (.inl hi)
        · exact .inr (.inr hi)

theorem split_heap {T : Tr α} (key : Int) (h : T.Heap) : (T.split key).1.Heap ∧ (T.split key).2.Heap := by
  induction T with
  | nil => simp [Tr.split, Tr.Heap]
  | node p k d v l r ihl ihr =>
    obtain ⟨h1, h2, h3, h4⟩ := h
    unfold Tr.split
    by_cases hk : k < key
    · rw [if_pos hk]
      exact ⟨⟨h1, fun i hi => h2 i ((split_mem key).1 i hi), h3, (ihr h4).1⟩, (ihr h4).2⟩
    · rw [if_neg hk]
      exact ⟨(ihl h3).1, ⟨fun i hi => h1 i ((split_mem key).2 i hi), h2, (ihl h3).2, h4⟩⟩

theorem join_items (A B : Tr α) : (A.join B).items = A.items ++ B.items := by
  fun_induction Tr.join A B with
  | case1 B => simp [Tr.items]
  | case2 A => simp [Tr.items]
  | case3 p k d v l r p' k' d' v' l' r' h ih => simp [Tr.items] at ih ⊢; simp [ih]
  | case4 p k d v l r p' k' d' v' l' r' h ih => simp [Tr.items] at ih ⊢; simp [ih]

theorem join_heap (A B : Tr α) (ha : A.Heap) (hb : B.Heap) (hk : ∀ i ∈ A.items, ∀ j ∈ B.items, i.1 < j.1) : (A.join B).Heap := by
  fun_induction Tr.join A B with
  | case1 B => exact hb
  | case2 A => exact ha
  | case3 p k d v l r p' k' d' v' l' r' h ih =>
    refine ⟨ha.1, fun i hi => ?_, ha.2.2.1, ih ha.2.2.2 hb (fun i hi j hj => hk i (by simp [Tr.items, hi]) j hj)⟩
    rw [join_items] at hi
    rcases List.mem_append.1 hi with hi | hi
    · exact ha.2.1 i hi
    · simp [Tr.items] at hi
      rcases hi with hi | rfl | hi
      · exact h.trans (hb.1 i hi)
      · exact h
      · exact h.trans (hb.2.1 i hi)
  | case4 p k d v l r p' k' d' v' l' r' h ih =>
    have hkk : k < k' := hk (k, d, v) (by simp [Tr.items]) (k', d', v') (by simp [Tr.items])
    have g := Abv.of_not h (by omega)
    refine ⟨fun i hi => ?_, hb.2.1, ih ha hb.2.2.1 (fun i hi j hj => hk i hi j (by simp [Tr.items, hj])), hb.2.2.2⟩
    rw [join_items] at hi
    rcases List.mem_append.1 hi with hi | hi
    · simp [Tr.items] at hi
      rcases hi with hi | rfl | hi
      · exact g.trans (ha.1 i hi)
      · exact g
      · exact g.trans (ha.2.1 i hi)
    · exact hb.1 i hi

theorem put_items {T : Tr α} (n : Nat) (key : Int) (draw : Nat) (x : α) (h : Rising T.items) (hn : ∀ i ∈ T.items, i.1 ≠ key) : (T.put n key draw x).items = insL key draw x T.items := by
  unfold insL
  induction T with
  | nil => simp [Tr.put, Tr.items]
  | node p k d v l r ihl ihr =>
    obtain ⟨h1, h2, h3, h4, _⟩ := Rising.app h
    have hk0 : k ≠ key := hn (k, d, v) (by simp [Tr.items])
    unfold Tr.put
    by_cases ha : Abv k d key draw
    · rw [if_pos ha]
      by_cases hk : key < k
      · rw [if_pos hk]
        obtain ⟨f1, f2⟩ := filter_ge_all (L := r.items) (key := key) (fun i hi => by have := h4 i hi; simp at this; omega)
        have nk : ¬ k < key := by omega
        simp [Tr.items, ihl h1 (fun i hi => hn i (by simp [Tr.items, hi])), f1, f2, nk]
      · rw [if_neg hk]
        have he : k < key := by omega
        obtain ⟨f1, f2⟩ := filter_lt_all (L := l.items) (key := key) (fun i hi => by have := h3 i hi; simp at this; omega)
        simp [Tr.items, ihr h2 (fun i hi => hn i (by simp [Tr.items, hi])), f1, f2, he]
    · rw [if_neg ha]
      obtain ⟨e1, e2⟩ := split_items key h
      simp only [Tr.items] at e1 e2 ⊢
      rw [e1, e2]

theorem insL_mem {key : Int} {draw : Nat} {x : α} {L : List (It α)} {i : It α} : i ∈ insL key draw x L ↔ i = (key, draw, x) ∨ i ∈ L := by
  simp only [insL, List.mem_append, List.mem_cons, List.mem_filter]
  by_cases h : i.1 < key
  · simp [h]; exact Or.comm
  · simp [h]

theorem insL_rising {key : Int} {draw : Nat} {x : α} {L : List (It α)} (h : Rising L) (hn : ∀ i ∈ L, i.1 ≠ key) : Rising (insL key draw x L) := by
  unfold Rising insL at *
  rw [List.pairwise_append, List.pairwise_cons]
  refine ⟨h.filter _, ⟨fun i hi => ?_, h.filter _⟩, fun i hi j hj => ?_⟩
  · simp at hi; have := hn i hi.1; simp; omega
  · simp at hi hj
    rcases hj with rfl | hj
    · exact hi.2
    · omega

theorem insL_length {key : Int} {draw : Nat} {x : α} {L : List (It α)} : (insL key draw x L).length = L.length + 1 := by
  unfold insL
  induction L with
  | nil => rfl
  | cons a L ih =>
    simp only [List.length_append, List.length_cons] at ih ⊢
    by_cases h : a.1 < key <;> simp [h] <;> omega

theorem put_heap {T : Tr α} (n : Nat) (key : Int) (draw : Nat) (x : α) (hh : T.Heap) (h : Rising T.items) (hn : ∀ i ∈ T.items, i.1 ≠ key) : (T.put n key draw x).Heap := by
  induction T with
  | nil => simp [Tr.put, Tr.Heap, Tr.items]
  | node p k d v l r ihl ihr =>
    obtain ⟨h1, h2, h3, h4, _⟩ := Rising.app h
    have hk0 : k ≠ key := hn (k, d, v) (by simp [Tr.items])
    have nl : ∀ i ∈ l.items, i.1 ≠ key := fun i hi => hn i (by simp [Tr.items, hi])
    have nr : ∀ i ∈ r.items, i.1 ≠ key := fun i hi => hn i (by simp [Tr.items, hi])
    unfold Tr.put
    by_cases ha : Abv k d key draw
    · rw [if_pos ha]
      by_cases hk : key < k
      · rw [if_pos hk]
        refine ⟨fun i hi => ?_, hh.2.1, ihl hh.2.2.1 h1 nl, hh.2.2.2⟩
        rw [put_items n key draw x h1 nl, insL_mem] at hi
        rcases hi with rfl | hi
        · exact ha
        · exact hh.1 i hi
      · rw [if_neg hk]
        refine ⟨hh.1, fun i hi => ?_, hh.2.2.1, ihr hh.2.2.2 h2 nr⟩
        rw [put_items n key draw x h2 nr, insL_mem] at hi
        rcases hi with rfl | hi
        · exact ha
        · exact hh.2.1 i hi
    · rw [if_neg ha]
      have g := Abv.of_not ha hk0
      have all : ∀ i ∈ (Tr.node p k d v l r).items, Abv key draw i.1 i.2.1 := by
        intro i hi
        simp [Tr.items] at hi
        rcases hi with hi | rfl | hi
        · exact g.trans (hh.1 i hi)
        · exact g
        · exact g.trans (hh.2.1 i hi)
      exact ⟨fun i hi => all i ((split_mem key).1 i hi), fun i hi => all i ((split_mem key).2 i hi), (split_heap key hh).1, (split_heap key hh).2⟩

theorem delL_none {key : Int} {L : List (It α)} (h : ∀ i ∈ L, i.1 ≠ key) : delL key L = L := by
  unfold delL; rw [List.filter_eq_self]; intro i hi; simpa using h i hi

theorem drop_items {T : Tr α} (key : Int) (h : Rising T.items) : (T.drop key).items = delL key T.items := by
  induction T with
  | nil => simp [Tr.drop, Tr.items, delL]
  | node p k d v l r ihl ihr =>
    obtain ⟨h1, h2, h3, h4, _⟩ := Rising.app h
    simp only at h3 h4
    unfold Tr.drop
    by_cases hk : k = key
    · rw [if_pos hk, join_items]
      have dl := delL_none (L := l.items) (key := key) (fun i hi => by have := h3 i hi; omega)
      have dr := delL_none (L := r.items) (key := key) (fun i hi => by have := h4 i hi; omega)
      unfold delL at *
      simp [Tr.items, dl, dr, hk]
    · rw [if_neg hk]
      by_cases hl : key < k
      · rw [if_pos hl]
        have dr := delL_none (L := r.items) (key := key) (fun i hi => by have := h4 i hi; omega)
        have dl := ihl h1
        unfold delL at *
        simp [Tr.items, dl, dr, hk]
      · rw [if_neg hl]
        have dl := delL_none (L := l.items) (key := key) (fun i hi => by have := h3 i hi; omega)
        have dr := ihr h2
        unfold delL at *
        simp [Tr.items, dl, dr, hk]

theorem delL_sub {key : Int} {L : List (It α)} {i : It α} (h : i ∈ delL key L) : i ∈ L := (List.mem_filter.1 h).1
theorem delL_mem {key : Int} {L : List (It α)} {i : It α} : i ∈ delL key L ↔ i ∈ L ∧ i.1 ≠ key := by simp [delL]
theorem delL_rising {key : Int} {L : List (It α)} (h : Rising L) : Rising (delL key L) := List.Pairwise.filter _ h

theorem drop_heap {T : Tr α} (key : Int) (hh : T.Heap) (h : Rising T.items) : (T.drop key).Heap := by
  induction T with
  | nil => simp [Tr.drop, Tr.Heap]
  | node p k d v l r ihl ihr =>
    obtain ⟨h1, h2, h3, h4, h5⟩ := Rising.app h
    unfold Tr.drop
    by_cases hk : k = key
    · rw [if_pos hk]; exact join_heap l r hh.2.2.1 hh.2.2.2 h5
    · rw [if_neg hk]
      by_cases hl : key < k
      · rw [if_pos hl]
        exact ⟨fun i hi => hh.1 i (by rw [drop_items key h1] at hi; exact delL_sub hi), hh.2.1, ihl hh.2.2.1 h1, hh.2.2.2⟩
      · rw [if_neg hl]
        exact ⟨hh.1, fun i hi => hh.2.1 i (by rw [drop_items key h2] at hi; exact delL_sub hi), hh.2.2.1, ihr hh.2.2.2 h2⟩

/-- The item at the root. -/
def Tr.top : Tr α → Option (It α)
  | .nil => none
  | .node _ k d v _ _ => some (k, d, v)

theorem find?_none_of {L : List (It α)} {f : It α → Bool} (h : ∀ i ∈ L, f i = false) : L.find? f = none := by
  rw [List.find?_eq_none]; intro i hi; simp [h i hi]

theorem find_top {T : Tr α} (key : Int) (h : Rising T.items) : (T.find key).top = getL key T.items := by
  unfold getL
  induction T with
  | nil => simp [Tr.find, Tr.items, Tr.top]
  | node p k d v l r ihl ihr =>
    obtain ⟨h1, h2, h3, h4, _⟩ := Rising.app h
    simp only at h3 h4
    unfold Tr.find
    by_cases hk : k = key
    · rw [if_pos hk]
      have e := find?_none_of (L := l.items) (f := fun i => decide (i.1 = key)) (fun i hi => by have := h3 i hi; simp; omega)
      simp [Tr.items, Tr.top, List.find?_append, e, hk]
    · rw [if_neg hk]
      by_cases hl : key < k
      · rw [if_pos hl, ihl h1]
        have e := find?_none_of (L := r.items) (f := fun i => decide (i.1 = key)) (fun i hi => by have := h4 i hi; simp; omega)
        simp [Tr.items, List.find?_append, e, hk]
      · rw [if_neg hl, ihr h2]
        have e := find?_none_of (L := l.items) (f := fun i => decide (i.1 = key)) (fun i hi => by have := h3 i hi; simp; omega)
        simp [Tr.items, List.find?_append, e, hk]

theorem ceil_top {T : Tr α} (key : Int) (h : Rising T.items) (x : Tr α) : (T.ceil key x).top = (ceilL key T.items).or x.top := by
  unfold ceilL
  induction T generalizing x with
  | nil => simp [Tr.ceil, Tr.items]
  | node p k d v l r ihl ihr =>
    obtain ⟨h1, h2, h3, h4, _⟩ := Rising.app h
    simp only at h3 h4
    unfold Tr.ceil
    by_cases hk : k < key
    · rw [if_pos hk, ihr h2]
      have e := find?_none_of (L := l.items) (f := fun i => !decide (i.1 < key)) (fun i hi => by have := h3 i hi; simp; omega)
      simp [Tr.items, List.find?_append, e, hk]
    · rw [if_neg hk, ihl h1]
      simp [Tr.items, List.find?_append, hk, Tr.top]

/-- There is one shape of given keys and draws. -/
theorem shape_uniq {β : Type} (T : Tr α) (U : Tr β) (e : Nat) (hT : T.Heap) (hU : U.Heap) (h : T.items.map (fun i => (i.1, i.2.1)) = U.items.map (fun i => (i.1, i.2.1))) : T.shape e = U.shape e := by
  induction T generalizing U e with
  | nil =>
    cases U with
    | nil => rfl
    | node p k d v l r => simp [Tr.items] at h
  | node p k d v l r ihl ihr =>
    cases U with
    | nil => simp [Tr.items] at h
    | node p' k' d' v' l' r' =>
      simp only [Tr.items, List.map_append, List.map_cons] at h
      have hlen : l.items.length = l'.items.length := by
        rcases Nat.lt_trichotomy l.items.length l'.items.length with hl | hl | hl
        · exfalso
          have g1 : (k, d) ∈ l'.items.map (fun i => (i.1, i.2.1)) := by
            have q := congrArg (fun z => z[l.items.length]?) h
            simp only [List.getElem?_append, List.length_map, Nat.lt_irrefl, if_false, Nat.sub_self, List.getElem?_cons_zero, hl, if_true] at q
            exact List.mem_of_getElem? q.symm
          have g2 : (k', d') ∈ r.items.map (fun i => (i.1, i.2.1)) := by
            have q := congrArg (fun z => z[l'.items.length]?) h
            have n1 : ¬ l'.items.length < l.items.length := by omega
            obtain ⟨m, hm⟩ : ∃ m, l'.items.length - l.items.length = m + 1 := ⟨l'.items.length - l.items.length - 1, by omega⟩
            simp only [List.getElem?_append, List.length_map, Nat.lt_irrefl, if_false, Nat.sub_self, List.getElem?_cons_zero, n1, hm, List.getElem?_cons_succ] at q
            exact List.mem_of_getElem? q
          obtain ⟨i, hi, ei⟩ := List.mem_map.1 g1
          obtain ⟨j, hj, ej⟩ := List.mem_map.1 g2
          have a1 := hU.1 i hi
          have a2 := hT.2.1 j hj
          simp only [Prod.mk.injEq] at ei ej
          rw [ei.1, ei.2] at a1; rw [ej.1, ej.2] at a2
          exact a1.asymm a2
        · exact hl
        · exfalso
          have g1 : (k', d') ∈ l.items.map (fun i => (i.1, i.2.1)) := by
            have q := congrArg (fun z => z[l'.items.length]?) h
            simp only [List.getElem?_append, List.length_map, Nat.lt_irrefl, if_false, Nat.sub_self, List.getElem?_cons_zero, hl, if_true] at q
            exact List.mem_of_getElem? q
          have g2 : (k, d) ∈ r'.items.map (fun i => (i.1, i.2.1)) := by
            have q := congrArg (fun z => z[l.items.length]?) h
            have n1 : ¬ l.items.length < l'.items.length := by omega
            obtain ⟨m, hm⟩ : ∃ m, l.items.length - l'.items.length = m + 1 := ⟨l.items.length - l'.items.length - 1, by omega⟩
            simp only [List.getElem?_append, List.length_map, Nat.lt_irrefl, if_false, Nat.sub_self, List.getElem?_cons_zero, n1, hm, List.getElem?_cons_succ] at q
            exact List.mem_of_getElem? q.symm
          obtain ⟨i, hi, ei⟩ := List.mem_map.1 g1
          obtain ⟨j, hj, ej⟩ := List.mem_map.1 g2
          have a1 := hT.1 i hi
          have a2 := hU.2.1 j hj
          simp only [Prod.mk.injEq] at ei ej
          rw [ei.1, ei.2] at a1; rw [ej.1, ej.2] at a2
          exact a1.asymm a2
      obtain ⟨e1, e2⟩ := List.append_inj h (by simpa using hlen)
      simp only [List.cons.injEq, Prod.mk.injEq] at e2
      simp only [Tr.shape]
      rw [ihl l' (e + 1) hT.2.2.1 hU.2.2.1 e1, ihr r' (e + 1) hT.2.2.2 hU.2.2.2 e2.2, e2.1.1]

/-- A tree of a rising row. -/
def treeOf : List (It α) → Tr α
  | [] => .nil
  | i :: L => (treeOf L).put 0 i.1 i.2.1 i.2.2

theorem treeOf_good (L : List (It α)) (h : Rising L) : (treeOf L).items = L ∧ (treeOf L).Heap := by
  induction L with
  | nil => exact ⟨rfl, trivial⟩
  | cons a L ih =>
    obtain ⟨h1, h2⟩ := List.pairwise_cons.1 h
    obtain ⟨e1, e2⟩ := ih h2
    have hn : ∀ i ∈ (treeOf L).items, i.1 ≠ a.1 := fun i hi => by rw [e1] at hi; have := h1 i hi; omega
    have hr : Rising (treeOf L).items := by rw [e1]; exact h2
    refine ⟨?_, put_heap 0 _ _ _ e2 hr hn⟩
    show ((treeOf L).put 0 a.1 a.2.1 a.2.2).items = _
    rw [put_items 0 _ _ _ hr hn, e1]
    obtain ⟨f1, f2⟩ := filter_ge_all (L := L) (key := a.1) (fun i hi => by have := h1 i hi; omega)
    simp [insL, f1, f2]

/-- The shape of a rising row. -/
def shp (L : List (It α)) : List (Int × Nat) := (treeOf L).shape 0

theorem shape_is {T : Tr α} (hh : T.Heap) (h : Rising T.items) : T.shape 0 = shp T.items :=
  shape_uniq T _ 0 hh (treeOf_good _ h).2 (by rw [(treeOf_good _ h).1])

theorem shp_length {L : List (It α)} (h : Rising L) : (shp L).length = L.length := by
  rw [shp, Tr.shape_length, ← Tr.size_items, (treeOf_good L h).1]

theorem shp_alike {β : Type} {L : List (It α)} {M : List (It β)} (hl : Rising L) (hm : Rising M) (h : L.map (fun i => (i.1, i.2.1)) = M.map (fun i => (i.1, i.2.1))) : shp L = shp M :=
  shape_uniq _ _ 0 (treeOf_good _ hl).2 (treeOf_good _ hm).2 (by rw [(treeOf_good _ hl).1, (treeOf_good _ hm).1, h])

/-- Two rising rows of the same items are one. -/
theorem rising_ext {L M : List (It α)} (hl : Rising L) (hm : Rising M) (h : ∀ i, i ∈ L ↔ i ∈ M) : L = M := by
  induction L generalizing M with
  | nil =>
    cases M with
    | nil => rfl
    | cons b M => exact absurd ((h b).2 (by simp)) (by simp)
  | cons a L ih =>
    cases M with
    | nil => exact absurd ((h a).1 (by simp)) (by simp)
    | cons b M =>
      obtain ⟨l1, l2⟩ := List.pairwise_cons.1 hl
      obtain ⟨m1, m2⟩ := List.pairwise_cons.1 hm
      have hab : a = b := by
        have ha := (h a).1 (by simp)
        have hb := (h b).2 (by simp)
        rcases List.mem_cons.1 ha with ha | ha
        · exact ha
        · rcases List.mem_cons.1 hb with hb | hb
          · exact hb.symm
          · have := m1 a ha; have := l1 b hb; omega
      subst hab
      congr 1
      refine ih l2 m2 fun i => ⟨fun hi => ?_, fun hi => ?_⟩
      · rcases List.mem_cons.1 ((h i).1 (by simp [hi])) with rfl | hi'
        · exact absurd (l1 i hi) (by omega)
        · exact hi'
      · rcases List.mem_cons.1 ((h i).2 (by simp [hi])) with rfl | hi'
        · exact absurd (m1 i hi) (by omega)
        · exact hi'
end lists
end Go.Proofs.YtgdliebllmgibaaDoor

namespace Go.Proofs.YtgdliebllmgibaaDoor
open Go.RowKit

/-- How a node of values α lies in a block. -/
structure Sh (α : Type) where
  ty : TypeId
  blk : Int → Nat → α → Value → Value → Array Value
  lo : Nat
  hi : Nat
  ne : lo ≠ hi
  setL : ∀ k d v a b c, (blk k d v a b).setIfInBounds lo c = blk k d v c b
  setR : ∀ k d v a b c, (blk k d v a b).setIfInBounds hi c = blk k d v a c
  getL : ∀ k d v a b, (blk k d v a b)[lo]? = some a
  getR : ∀ k d v a b, (blk k d v a b)[hi]? = some b

/-- Worlds of one memory. -/
structure Alike (a b : World) : Prop where
  heap : b.heap = a.heap
  os : b.os = a.os
  tape : b.tape = a.tape
  output : b.output = a.output

theorem Alike.refl (a : World) : Alike a a := ⟨rfl, rfl, rfl, rfl⟩
theorem Alike.symm {a b : World} (h : Alike a b) : Alike b a := ⟨h.heap.symm, h.os.symm, h.tape.symm, h.output.symm⟩
theorem Alike.trans {a b c : World} (h : Alike a b) (g : Alike b c) : Alike a c := ⟨g.heap.trans h.heap, g.os.trans h.os, g.tape.trans h.tape, g.output.trans h.output⟩
theorem Alike.drewN (a : World) (n : Nat) : Alike a (a.drewN n) := ⟨rfl, rfl, rfl, rfl⟩
theorem Alike.setCell {a b : World} (h : Alike a b) (p : Addr) (v : Value) : Alike (a.setCell p v) (b.setCell p v) := by
  obtain ⟨h1, h2, h3, h4⟩ := h
  exact ⟨by simp only [World.setCell, h1], by simpa [World.setCell] using h2, by simpa [World.setCell] using h3, by simpa [World.setCell] using h4⟩
theorem Alike.only {a b : World} (h : Alike a b) (M : Nat → Prop) : Only M a b := ⟨h.os, h.tape, h.output, by rw [h.heap]; exact Nat.le_refl _, fun k _ _ => by rw [h.heap]⟩
theorem Alike.below {a b : World} (h : Alike a b) (n : Nat) : Below n a b := ⟨h.os, h.tape, h.output, by rw [h.heap]; exact Nat.le_refl _, fun k _ => by rw [h.heap]⟩
theorem Only.left {M : Nat → Prop} {a b c : World} (g : Only M b c) (h : Alike a b) : Only M a c :=
  ⟨g.os.trans h.os, g.tape.trans h.tape, g.output.trans h.output, by have := g.size; rw [h.heap] at this; exact this, fun k hk hn => (g.block k (by rw [h.heap]; exact hk) hn).trans (by rw [h.heap])⟩
theorem Only.right {M : Nat → Prop} {a b c : World} (g : Only M a b) (h : Alike b c) : Only M a c := g.trans (h.only M)

theorem heap_setCell_mem {w : World} {b o x : Nat} {v : Value} {P : Nat → Prop} (hx : P x) (hn : ¬ P b) : (w.setCell ⟨b, o, none⟩ v).heap[x]? = w.heap[x]? :=
  heap_setCell_ne (fun (e : x = b) => hn (e ▸ hx)) _

theorem setCell_size (w : World) (p : Addr) (v : Value) : (w.setCell p v).heap.size = w.heap.size := by simp [World.setCell]

/-- In the cell (b, o) lies v. -/
def Lk (w : World) (b o : Nat) (v : Value) : Prop := ∃ c e, w.heap[b]? = some (.cells c e (0, 0)) ∧ c[o]? = some v

theorem Lk.cell {w : World} {b o : Nat} {v : Value} (h : Lk w b o v) : w.cell? ⟨b, o, none⟩ = some v := by
  obtain ⟨c, e, h1, h2⟩ := h; exact (cell_of_heap h1).trans h2
theorem Lk.frozen {w : World} {b o : Nat} {v : Value} (h : Lk w b o v) : w.frozen? ⟨b, o, none⟩ = false := by
  obtain ⟨c, e, h1, _⟩ := h; exact frozen_of_heap h1
theorem Lk.lt {w : World} {b o : Nat} {v : Value} (h : Lk w b o v) : b < w.heap.size := by
  obtain ⟨c, e, h1, _⟩ := h; exact lt_of_heap h1
/-- Laying what lies there turns nothing. -/
theorem Lk.same {w : World} {b o : Nat} {v : Value} (h : Lk w b o v) (x : Nat) : (w.setCell ⟨b, o, none⟩ v).heap[x]? = w.heap[x]? := by
  obtain ⟨c, e, h1, h2⟩ := h
  by_cases hx : x = b
  · subst hx
    rw [heap_setCell_at h1, h1]
    congr 2
    apply Array.ext_getElem?
    intro i
    rw [Array.getElem?_setIfInBounds]
    by_cases hi : o = i
    · subst hi; rw [h2]
      have hs : o < c.size := by
        by_cases hs : o < c.size
        · exact hs
        · rw [Array.getElem?_eq_none (by omega)] at h2; cases h2
      simp [hs]
    · simp [hi]
  · exact heap_setCell_ne hx _
theorem Lk.kept {w w' : World} {b o : Nat} {v : Value} (h : Lk w b o v) (e : w'.heap[b]? = w.heap[b]?) : Lk w' b o v := by
  obtain ⟨c, t, h1, h2⟩ := h; exact ⟨c, t, e.trans h1, h2⟩
theorem Lk.set {w : World} {b o b' o' : Nat} {v u : Value} (h : Lk w b o v) (ne : ¬ (b = b' ∧ o = o')) : Lk (w.setCell ⟨b', o', none⟩ u) b o v := by
  by_cases hb : b = b'
  · subst hb
    obtain ⟨c, t, h1, h2⟩ := h
    exact ⟨_, t, heap_setCell_at h1 _, by rw [Array.getElem?_setIfInBounds]; have : o' ≠ o := fun e => ne ⟨rfl, e.symm⟩; simp [this, h2]⟩
  · exact h.kept (heap_setCell_ne hb _)
theorem Lk.alike {w w' : World} {b o : Nat} {v : Value} (h : Lk w b o v) (g : Alike w w') : Lk w' b o v := h.kept (by rw [g.heap])
/-- Laid in a cell that is there. -/
theorem Lk.setAt {w : World} {b o : Nat} {v : Value} (h : Lk w b o v) (u : Value) : Lk (w.setCell ⟨b, o, none⟩ u) b o u := by
  obtain ⟨c, t, h1, h2⟩ := h
  refine ⟨_, t, heap_setCell_at h1 _, ?_⟩
  have hs : o < c.size := by
    by_cases hs : o < c.size
    · exact hs
    · rw [Array.getElem?_eq_none (by omega)] at h2; cases h2
  simp [hs]

namespace Tr
variable {α : Type}
def adr : Tr α → Option Addr
  | nil => none
  | node p _ _ _ _ _ => some ⟨p, 0, none⟩
abbrev ptr (T : Tr α) : Value := .pointer T.adr
theorem adr_nil : (nil : Tr α).adr = none := rfl
theorem adr_node (p : Nat) (k : Int) (d : Nat) (v : α) (l r : Tr α) : (node p k d v l r).adr = some ⟨p, 0, none⟩ := rfl
def In (S : Sh α) (w : World) : Tr α → Prop
  | nil => True
  | node p k d v l r => w.heap[p]? = some (.cells (S.blk k d v l.ptr r.ptr) S.ty (0, 0)) ∧ l.In S w ∧ r.In S w

theorem In.lt {S : Sh α} {w : World} {T : Tr α} (h : T.In S w) {x : Nat} (hx : T.Mem x) : x < w.heap.size := by
  induction T with
  | nil => exact hx.elim
  | node p k d v l r ihl ihr =>
    rcases hx with rfl | hx | hx
    · exact lt_of_heap h.1
    · exact ihl h.2.1 hx
    · exact ihr h.2.2 hx
theorem In.same {S : Sh α} {w w' : World} {T : Tr α} (h : T.In S w) (e : ∀ x, T.Mem x → w'.heap[x]? = w.heap[x]?) : T.In S w' := by
  induction T with
  | nil => trivial
  | node p k d v l r ihl ihr =>
    exact ⟨(e p (.inl rfl)).trans h.1, ihl h.2.1 (fun x hx => e x (.inr (.inl hx))), ihr h.2.2 (fun x hx => e x (.inr (.inr hx)))⟩
theorem In.kept {S : Sh α} {w w' : World} {T : Tr α} {M : Nat → Prop} (h : T.In S w) (o : Only M w w') (hn : ∀ x, T.Mem x → ¬ M x) : T.In S w' :=
  h.same fun x hx => o.block x (h.lt hx) (hn x hx)
theorem In.set {S : Sh α} {w : World} {T : Tr α} (h : T.In S w) {b : Nat} (hn : ¬ T.Mem b) (o : Nat) (u : Value) : T.In S (w.setCell ⟨b, o, none⟩ u) :=
  h.same fun _ hx => heap_setCell_mem hx hn
end Tr

section trees
variable {α : Type} {S : Sh α}

/-- In w' the tree T hangs at (b, o); but for this cell, for M and for new blocks the worlds are one. -/
structure Rep (S : Sh α) (w w' : World) (b o : Nat) (M : Nat → Prop) (T : Tr α) : Prop where
  only : Only M (w.setCell ⟨b, o, none⟩ T.ptr) w'
  inn : T.In S w'
  own : T.Own
  sub : ∀ x, T.Mem x → M x ∨ w.heap.size ≤ x

theorem Rep.left {w u w' : World} {b o : Nat} {M : Nat → Prop} {T : Tr α} (h : Rep S u w' b o M T) (g : Alike w u) : Rep S w w' b o M T :=
  ⟨h.only.left (g.setCell _ _), h.inn, h.own, fun x hx => by have := h.sub x hx; rw [g.heap] at this; exact this⟩
theorem Rep.right {w u w' : World} {b o : Nat} {M : Nat → Prop} {T : Tr α} (h : Rep S w u b o M T) (g : Alike u w') : Rep S w w' b o M T :=
  ⟨h.only.right g, h.inn.same (fun x _ => by rw [g.heap]), h.own, h.sub⟩

/-- The way from the cell (b0, o0), at which T0 hangs, to a cell at which T hangs; F lays another tree in T's place. -/
inductive Path (S : Sh α) (b0 o0 : Nat) (T0 : Tr α) : Nat → Nat → Tr α → (Tr α → Tr α) → Prop
  | here : Path S b0 o0 T0 b0 o0 T0 (fun x => x)
  | left {b o p : Nat} {k : Int} {d : Nat} {v : α} {l r : Tr α} {F : Tr α → Tr α} (h : Path S b0 o0 T0 b o (.node p k d v l r) F) : Path S b0 o0 T0 p S.lo l (fun x => F (.node p k d v x r))
  | right {b o p : Nat} {k : Int} {d : Nat} {v : α} {l r : Tr α} {F : Tr α → Tr α} (h : Path S b0 o0 T0 b o (.node p k d v l r) F) : Path S b0 o0 T0 p S.hi r (fun x => F (.node p k d v l x))

/-- A tree that hangs at (b, o). -/
structure Hung (S : Sh α) (w : World) (b o : Nat) (T : Tr α) : Prop where
  inn : T.In S w
  own : T.Own
  out : ¬ T.Mem b
  lk : Lk w b o T.ptr

theorem Hung.left {w : World} {b o p : Nat} {k : Int} {d : Nat} {v : α} {l r : Tr α} (h : Hung S w b o (.node p k d v l r)) : Hung S w p S.lo l :=
  ⟨h.inn.2.1, h.own.2.2.2.1, h.own.1, ⟨_, _, h.inn.1, S.getL _ _ _ _ _⟩⟩
theorem Hung.right {w : World} {b o p : Nat} {k : Int} {d : Nat} {v : α} {l r : Tr α} (h : Hung S w b o (.node p k d v l r)) : Hung S w p S.hi r :=
  ⟨h.inn.2.2, h.own.2.2.2.2, h.own.2.1, ⟨_, _, h.inn.1, S.getR _ _ _ _ _⟩⟩
theorem Hung.same {w w' : World} {b o : Nat} {T : Tr α} (h : Hung S w b o T) (e : ∀ x, x < w.heap.size → w'.heap[x]? = w.heap[x]?) : Hung S w' b o T :=
  ⟨h.inn.same (fun x hx => e x (h.inn.lt hx)), h.own, h.out, h.lk.kept (e b h.lk.lt)⟩
theorem Hung.alike {w w' : World} {b o : Nat} {T : Tr α} (h : Hung S w b o T) (g : Alike w w') : Hung S w' b o T := h.same (fun x _ => by rw [g.heap])

theorem Rep.up_left {w w' : World} {b o p : Nat} {k : Int} {d : Nat} {v : α} {l r l' : Tr α} (h : Hung S w b o (.node p k d v l r)) (g : Rep S w w' p S.lo l.Mem l') :
    Rep S w w' b o (Tr.node p k d v l r).Mem (.node p k d v l' r) := by
  obtain ⟨hin, hown, hout, hlk⟩ := h
  have hp : p < w.heap.size := lt_of_heap hin.1
  refine ⟨⟨?_, ?_, ?_, ?_, fun x hx hn => ?_⟩, ⟨?_, g.inn, ?_⟩, ⟨fun hm => ?_, hown.2.1, fun x hx hr => ?_, g.own, hown.2.2.2.2⟩, fun x hx => ?_⟩
  · exact g.only.os
  · exact g.only.tape
  · exact g.only.output
  · have := g.only.size; rw [setCell_size] at this ⊢; exact this
  · rw [setCell_size] at hx
    rw [g.only.block x (by rw [setCell_size]; exact hx) (fun h => hn (.inr (.inl h))), heap_setCell_ne (fun e => hn (.inl e))]
    exact (hlk.same x).symm
  · rw [g.only.block p (by rw [setCell_size]; exact hp) hown.1, heap_setCell_at hin.1, S.setL]
  · exact hin.2.2.same fun x hx => by
      rw [g.only.block x (by rw [setCell_size]; exact hin.2.2.lt hx) (fun hl => hown.2.2.1 x hl hx), heap_setCell_mem hx hown.2.1]
  · rcases g.sub p hm with hm | hm
    · exact hown.1 hm
    · omega
  · rcases g.sub x hx with hm | hm
    · exact hown.2.2.1 x hm hr
    · have := hin.2.2.lt hr; omega
  · rcases hx with rfl | hx | hx
    · exact .inl (.inl rfl)
    · rcases g.sub x hx with hm | hm
      · exact .inl (.inr (.inl hm))
      · exact .inr hm
    · exact .inl (.inr (.inr hx))

theorem Rep.up_right {w w' : World} {b o p : Nat} {k : Int} {d : Nat} {v : α} {l r r' : Tr α} (h : Hung S w b o (.node p k d v l r)) (g : Rep S w w' p S.hi r.Mem r') :
    Rep S w w' b o (Tr.node p k d v l r).Mem (.node p k d v l r') := by
  obtain ⟨hin, hown, hout, hlk⟩ := h
  have hp : p < w.heap.size := lt_of_heap hin.1
  refine ⟨⟨?_, ?_, ?_, ?_, fun x hx hn => ?_⟩, ⟨?_, ?_, g.inn⟩, ⟨hown.1, fun hm => ?_, fun x hl hx => ?_, hown.2.2.2.1, g.own⟩, fun x hx => ?_⟩
  · exact g.only.os
  · exact g.only.tape
  · exact g.only.output
  · have := g.only.size; rw [setCell_size] at this ⊢; exact this
  · rw [setCell_size] at hx
    rw [g.only.block x (by rw [setCell_size]; exact hx) (fun h => hn (.inr (.inr h))), heap_setCell_ne (fun e => hn (.inl e))]
    exact (hlk.same x).symm
  · rw [g.only.block p (by rw [setCell_size]; exact hp) hown.2.1, heap_setCell_at hin.1, S.setR]
  · exact hin.2.1.same fun x hx => by
      rw [g.only.block x (by rw [setCell_size]; exact hin.2.1.lt hx) (fun hr => hown.2.2.1 x hx hr), heap_setCell_mem hx hown.1]
  · rcases g.sub p hm with hm | hm
    · exact hown.2.1 hm
    · omega
  · rcases g.sub x hx with hm | hm
    · exact hown.2.2.1 x hl hm
    · have := hin.2.1.lt hl; omega
  · rcases hx with rfl | hx | hx
    · exact .inl (.inl rfl)
    · exact .inl (.inr (.inl hx))
    · rcases g.sub x hx with hm | hm
      · exact .inl (.inr (.inr hm))
      · exact .inr hm

theorem Path.hung {w : World} {b0 o0 b o : Nat} {T0 T : Tr α} {F : Tr α → Tr α} (h : Path S b0 o0 T0 b o T F) (h0 : Hung S w b0 o0 T0) : Hung S w b o T := by
  induction h with
  | here => exact h0
  | left _ ih => exact ih.left
  | right _ ih => exact ih.right
theorem Path.sub {b0 o0 b o : Nat} {T0 T : Tr α} {F : Tr α → Tr α} (h : Path S b0 o0 T0 b o T F) : ∀ x, (x = b ∨ T.Mem x) → (x = b0 ∨ T0.Mem x) := by
  induction h with
  | here => exact fun _ h => h
  | left _ ih => exact fun x hx => ih x (.inr (hx.elim .inl fun h => .inr (.inl h)))
  | right _ ih => exact fun x hx => ih x (.inr (hx.elim .inl fun h => .inr (.inr h)))
/-- What is turned at the end of a way is turned from its start on. -/
theorem Path.rep {w w' : World} {b0 o0 b o : Nat} {T0 T : Tr α} {F : Tr α → Tr α} (h : Path S b0 o0 T0 b o T F) (h0 : Hung S w b0 o0 T0) : ∀ {T' : Tr α}, Rep S w w' b o T.Mem T' → Rep S w w' b0 o0 T0.Mem (F T') := by
  induction h with
  | here => exact fun g => g
  | left h ih => exact fun g => ih (Rep.up_left (h.hung h0) g)
  | right h ih => exact fun g => ih (Rep.up_right (h.hung h0) g)

/-- In w' the trees A, B hang at two cells. -/
structure Rep2 (S : Sh α) (w w' : World) (b1 o1 b2 o2 : Nat) (M : Nat → Prop) (A B : Tr α) : Prop where
  only : Only M ((w.setCell ⟨b1, o1, none⟩ A.ptr).setCell ⟨b2, o2, none⟩ B.ptr) w'
  inA : A.In S w'
  inB : B.In S w'
  ownA : A.Own
  ownB : B.Own
  dis : ∀ x, A.Mem x → ¬ B.Mem x
  subA : ∀ x, A.Mem x → M x
  subB : ∀ x, B.Mem x → M x

theorem Rep2.left {w u w' : World} {b1 o1 b2 o2 : Nat} {M : Nat → Prop} {A B : Tr α} (h : Rep2 S u w' b1 o1 b2 o2 M A B) (g : Alike w u) : Rep2 S w w' b1 o1 b2 o2 M A B :=
  ⟨h.only.left ((g.setCell _ _).setCell _ _), h.inA, h.inB, h.ownA, h.ownB, h.dis, h.subA, h.subB⟩

/-- What split starts from. -/
structure SplPre (S : Sh α) (w : World) (T : Tr α) (b1 o1 b2 o2 : Nat) : Prop where
  inn : T.In S w
  own : T.Own
  out1 : ¬ T.Mem b1
  out2 : ¬ T.Mem b2
  ne : ¬ (b2 = b1 ∧ o2 = o1)
  lk1 : ∃ u, Lk w b1 o1 u
  lk2 : ∃ u, Lk w b2 o2 u

theorem SplPre.alike {w u : World} {T : Tr α} {b1 o1 b2 o2 : Nat} (h : SplPre S w T b1 o1 b2 o2) (g : Alike w u) : SplPre S u T b1 o1 b2 o2 :=
  ⟨h.inn.same (fun x _ => by rw [g.heap]), h.own, h.out1, h.out2, h.ne, h.lk1.imp fun _ l => l.alike g, h.lk2.imp fun _ l => l.alike g⟩

theorem SplPre.less {w : World} {b1 o1 b2 o2 p : Nat} {k : Int} {d : Nat} {v : α} {l r : Tr α} (h : SplPre S w (.node p k d v l r) b1 o1 b2 o2) :
    SplPre S (w.setCell ⟨b1, o1, none⟩ (.pointer (some ⟨p, 0, none⟩))) r p S.hi b2 o2 := by
  have n1 : p ≠ b1 := fun e => h.out1 (.inl e.symm)
  have n2 : p ≠ b2 := fun e => h.out2 (.inl e.symm)
  refine ⟨h.inn.2.2.set (fun hm => h.out1 (.inr (.inr hm))) _ _, h.own.2.2.2.2, h.own.2.1, fun hm => h.out2 (.inr (.inr hm)), fun e => n2 e.1.symm, ⟨r.ptr, _, _, (heap_setCell_ne n1 _).trans h.inn.1, S.getR _ _ _ _ _⟩, h.lk2.imp fun u lk => lk.set h.ne⟩

theorem SplPre.more {w : World} {b1 o1 b2 o2 p : Nat} {k : Int} {d : Nat} {v : α} {l r : Tr α} (h : SplPre S w (.node p k d v l r) b1 o1 b2 o2) :
    SplPre S (w.setCell ⟨b2, o2, none⟩ (.pointer (some ⟨p, 0, none⟩))) l b1 o1 p S.lo := by
  have n1 : p ≠ b1 := fun e => h.out1 (.inl e.symm)
  have n2 : p ≠ b2 := fun e => h.out2 (.inl e.symm)
  refine ⟨h.inn.2.1.set (fun hm => h.out2 (.inr (.inl hm))) _ _, h.own.2.2.2.1, fun hm => h.out1 (.inr (.inl hm)), h.own.1, fun e => n1 e.1, h.lk1.imp fun u lk => lk.set (fun e => h.ne ⟨e.1.symm, e.2.symm⟩), ⟨l.ptr, _, _, (heap_setCell_ne n2 _).trans h.inn.1, S.getL _ _ _ _ _⟩⟩

theorem Rep2.less {w w' : World} {b1 o1 b2 o2 p : Nat} {k key : Int} {d : Nat} {v : α} {l r : Tr α} (h : SplPre S w (.node p k d v l r) b1 o1 b2 o2) (hk : k < key)
    (g : Rep2 S (w.setCell ⟨b1, o1, none⟩ (.pointer (some ⟨p, 0, none⟩))) w' p S.hi b2 o2 r.Mem (r.split key).1 (r.split key).2) :
    Rep2 S w w' b1 o1 b2 o2 (Tr.node p k d v l r).Mem ((Tr.node p k d v l r).split key).1 ((Tr.node p k d v l r).split key).2 := by
  have n1 : p ≠ b1 := fun e => h.out1 (.inl e.symm)
  have n2 : p ≠ b2 := fun e => h.out2 (.inl e.symm)
  have hp : p < w.heap.size := lt_of_heap h.inn.1
  have ho := h.own
  have blk : ∀ x, x < w.heap.size → ¬ r.Mem x → x ≠ p → w'.heap[x]? = ((w.setCell ⟨b1, o1, none⟩ (.pointer (some ⟨p, 0, none⟩))).setCell ⟨b2, o2, none⟩ (r.split key).2.ptr).heap[x]? := by
    intro x hx hr hxp
    rw [g.only.block x (by simp only [setCell_size]; exact hx) hr]
    by_cases hb : x = b2
    · subst hb
      obtain ⟨u, c, e, c1, c2⟩ := h.lk2
      by_cases hb1 : x = b1
      · subst hb1
        have q := heap_setCell_at (o := o1) c1 (.pointer (some ⟨p, 0, none⟩))
        rw [heap_setCell_at ((heap_setCell_ne (fun e => n2 e.symm) _).trans q), heap_setCell_at q]
      · have q := (heap_setCell_ne (o := o1) hb1 (.pointer (some ⟨p, 0, none⟩))).trans c1
        rw [heap_setCell_at ((heap_setCell_ne (fun e => n2 e.symm) _).trans q), heap_setCell_at q]
    · rw [heap_setCell_ne hb, heap_setCell_ne hxp, heap_setCell_ne hb]
  simp only [Tr.split, hk, if_true]
  refine ⟨⟨g.only.os, g.only.tape, g.only.output, ?_, fun x hx hn => ?_⟩, ⟨?_, ?_, g.inA⟩, g.inB, ⟨ho.1, fun hm => ho.2.1 (g.subA p hm), fun x hl hm => ho.2.2.1 x hl (g.subA x hm), ho.2.2.2.1, g.ownA⟩, g.ownB, fun x hx hb => ?_, fun x hx => ?_, fun x hx => .inr (.inr (g.subB x hx))⟩
  · have := g.only.size; simp only [setCell_size] at this ⊢; exact this
  · simp only [setCell_size] at hx
    exact blk x hx (fun hr => hn (.inr (.inr hr))) (fun e => hn (.inl e))
  · rw [g.only.block p (by simp only [setCell_size]; exact hp) ho.2.1, heap_setCell_ne n2, heap_setCell_at ((heap_setCell_ne n1 _).trans h.inn.1), S.setR]
  · refine h.inn.2.1.same fun x hx => ?_
    rw [blk x (h.inn.2.1.lt hx) (fun hr => ho.2.2.1 x hx hr) (fun e => ho.1 (e ▸ hx)), heap_setCell_mem hx (fun m => h.out2 (.inr (.inl m))), heap_setCell_mem hx (fun m => h.out1 (.inr (.inl m)))]
  · rcases hx with rfl | hx | hx
    · exact ho.2.1 (g.subB _ hb)
    · exact ho.2.2.1 x hx (g.subB x hb)
    · exact g.dis x hx hb
  · rcases hx with rfl | hx | hx
    · exact .inl rfl
    · exact .inr (.inl hx)
    · exact .inr (.inr (g.subA x hx))

theorem Rep2.more {w w' : World} {b1 o1 b2 o2 p : Nat} {k key : Int} {d : Nat} {v : α} {l r : Tr α} (h : SplPre S w (.node p k d v l r) b1 o1 b2 o2) (hk : ¬ k < key)
    (g : Rep2 S (w.setCell ⟨b2, o2, none⟩ (.pointer (some ⟨p, 0, none⟩))) w' b1 o1 p S.lo l.Mem (l.split key).1 (l.split key).2) :
    Rep2 S w w' b1 o1 b2 o2 (Tr.node p k d v l r).Mem ((Tr.node p k d v l r).split key).1 ((Tr.node p k d v l r).split key).2 := by
  have n1 : p ≠ b1 := fun e => h.out1 (.inl e.symm)
  have n2 : p ≠ b2 := fun e => h.out2 (.inl e.symm)
  have hp : p < w.heap.size := lt_of_heap h.inn.1
  have ho := h.own
  have blk : ∀ x, x < w.heap.size → ¬ l.Mem x → x ≠ p → w'.heap[x]? = ((w.setCell ⟨b1, o1, none⟩ (l.split key).1.ptr).setCell ⟨b2, o2, none⟩ (.pointer (some ⟨p, 0, none⟩))).heap[x]? := by
    intro x hx hr hxp
    rw [g.only.block x (by simp only [setCell_size]; exact hx) hr, heap_setCell_ne hxp]
    by_cases hb : x = b1
    · subst hb
      obtain ⟨u, c, e, c1, c2⟩ := h.lk1
      by_cases hb2 : x = b2
      · subst hb2
        rw [heap_setCell_at (heap_setCell_at c1 _), heap_setCell_at (heap_setCell_at c1 _)]
        congr 2
        rw [Array.setIfInBounds_comm _ _ (fun e => h.ne ⟨rfl, e⟩)]
      · rw [heap_setCell_at ((heap_setCell_ne hb2 _).trans c1), heap_setCell_ne hb2, heap_setCell_at c1]
    · rw [heap_setCell_ne hb]
      by_cases hb2 : x = b2
      · subst hb2
        obtain ⟨u, c, e, c1, c2⟩ := h.lk2
        rw [heap_setCell_at c1, heap_setCell_at ((heap_setCell_ne hb _).trans c1)]
      · rw [heap_setCell_ne hb2, heap_setCell_ne hb2, heap_setCell_ne hb]
  simp only [Tr.split, hk, if_false]
  refine ⟨⟨g.only.os, g.only.tape, g.only.output, ?_, fun x hx hn => ?_⟩, g.inA, ⟨?_, g.inB, ?_⟩, g.ownA, ⟨fun hm => ho.1 (g.subB p hm), ho.2.1, fun x hm hr => ho.2.2.1 x (g.subB x hm) hr, g.ownB, ho.2.2.2.2⟩, fun x hx hb => ?_, fun x hx => .inr (.inl (g.subA x hx)), fun x hx => ?_⟩
  · have := g.only.size; simp only [setCell_size] at this ⊢; exact this
  · simp only [setCell_size] at hx
    exact blk x hx (fun hr => hn (.inr (.inl hr))) (fun e => hn (.inl e))
  · rw [g.only.block p (by simp only [setCell_size]; exact hp) ho.1, heap_setCell_at ((heap_setCell_ne n1 _).trans ((heap_setCell_ne n2 _).trans h.inn.1)), S.setL]
  · refine h.inn.2.2.same fun x hx => ?_
    rw [blk x (h.inn.2.2.lt hx) (fun hl => ho.2.2.1 x hl hx) (fun e => ho.2.1 (e ▸ hx)), heap_setCell_mem hx (fun m => h.out2 (.inr (.inr m))), heap_setCell_mem hx (fun m => h.out1 (.inr (.inr m)))]
  · rcases hb with rfl | hb | hb
    · exact ho.1 (g.subA _ hx)
    · exact g.dis x hx hb
    · exact ho.2.2.1 x (g.subA x hx) hb
  · rcases hx with rfl | hx | hx
    · exact .inl rfl
    · exact .inr (.inl (g.subB x hx))
    · exact .inr (.inr hx)

theorem Rep2.nil (w : World) (b1 o1 b2 o2 : Nat) (key : Int) :
    Rep2 S w ((w.setCell ⟨b1, o1, none⟩ (.pointer none)).setCell ⟨b2, o2, none⟩ (.pointer none)) b1 o1 b2 o2 (Tr.nil : Tr α).Mem ((Tr.nil : Tr α).split key).1 ((Tr.nil : Tr α).split key).2 :=
  ⟨Only.refl _ _, trivial, trivial, trivial, trivial, fun _ h => h.elim, fun _ h => h.elim, fun _ h => h.elim⟩

/-- What join starts from. -/
structure JoinPre (S : Sh α) (w : World) (A B : Tr α) (b o : Nat) : Prop where
  inA : A.In S w
  inB : B.In S w
  ownA : A.Own
  ownB : B.Own
  dis : ∀ x, A.Mem x → ¬ B.Mem x
  outA : ¬ A.Mem b
  outB : ¬ B.Mem b
  lk : ∃ u, Lk w b o u

theorem JoinPre.alike {w u : World} {A B : Tr α} {b o : Nat} (h : JoinPre S w A B b o) (g : Alike w u) : JoinPre S u A B b o :=
  ⟨h.inA.same (fun x _ => by rw [g.heap]), h.inB.same (fun x _ => by rw [g.heap]), h.ownA, h.ownB, h.dis, h.outA, h.outB, h.lk.imp fun _ l => l.alike g⟩

theorem JoinPre.toA {w : World} {b o p : Nat} {k : Int} {d : Nat} {v : α} {l r B : Tr α} (h : JoinPre S w (.node p k d v l r) B b o) :
    JoinPre S (w.setCell ⟨b, o, none⟩ (.pointer (some ⟨p, 0, none⟩))) r B p S.hi := by
  have n1 : p ≠ b := fun e => h.outA (.inl e.symm)
  exact ⟨h.inA.2.2.set (fun hm => h.outA (.inr (.inr hm))) _ _, h.inB.set h.outB _ _, h.ownA.2.2.2.2, h.ownB, fun x hx => h.dis x (.inr (.inr hx)), h.ownA.2.1, h.dis p (.inl rfl), ⟨r.ptr, _, _, (heap_setCell_ne n1 _).trans h.inA.1, S.getR _ _ _ _ _⟩⟩

theorem JoinPre.toB {w : World} {b o p : Nat} {k : Int} {d : Nat} {v : α} {l r A : Tr α} (h : JoinPre S w A (.node p k d v l r) b o) :
    JoinPre S (w.setCell ⟨b, o, none⟩ (.pointer (some ⟨p, 0, none⟩))) A l p S.lo := by
  have n1 : p ≠ b := fun e => h.outB (.inl e.symm)
  exact ⟨h.inA.set h.outA _ _, h.inB.2.1.set (fun hm => h.outB (.inr (.inl hm))) _ _, h.ownA, h.ownB.2.2.2.1, fun x hx hm => h.dis x hx (.inr (.inl hm)), fun hm => h.dis p hm (.inl rfl), h.ownB.1, ⟨l.ptr, _, _, (heap_setCell_ne n1 _).trans h.inB.1, S.getL _ _ _ _ _⟩⟩

theorem Rep.toA {w w' : World} {b o p : Nat} {k : Int} {d : Nat} {v : α} {l r B J : Tr α} (h : JoinPre S w (.node p k d v l r) B b o)
    (g : Rep S (w.setCell ⟨b, o, none⟩ (.pointer (some ⟨p, 0, none⟩))) w' p S.hi (fun x => r.Mem x ∨ B.Mem x) J) :
    Rep S w w' b o (fun x => (Tr.node p k d v l r).Mem x ∨ B.Mem x) (.node p k d v l J) := by
  have n1 : p ≠ b := fun e => h.outA (.inl e.symm)
  have hp : p < w.heap.size := lt_of_heap h.inA.1
  have ho := h.ownA
  have nJ : ∀ x, x < w.heap.size → J.Mem x → r.Mem x ∨ B.Mem x := fun x hx hm => (g.sub x hm).resolve_right (by rw [setCell_size]; omega)
  refine ⟨⟨g.only.os, g.only.tape, g.only.output, ?_, fun x hx hn => ?_⟩, ⟨?_, ?_, g.inn⟩, ⟨ho.1, fun hm => ?_, fun x hl hm => ?_, ho.2.2.2.1, g.own⟩, fun x hx => ?_⟩
  · have := g.only.size; simp only [setCell_size] at this ⊢; exact this
  · simp only [setCell_size] at hx
    rw [g.only.block x (by simp only [setCell_size]; exact hx) (fun e => e.elim (fun e => hn (.inl (.inr (.inr e)))) (fun e => hn (.inr e))), heap_setCell_ne (fun e => hn (.inl (.inl e)))]
    rfl
  · rw [g.only.block p (by simp only [setCell_size]; exact hp) (fun e => e.elim ho.2.1 (h.dis p (.inl rfl))), heap_setCell_at ((heap_setCell_ne n1 _).trans h.inA.1), S.setR]
  · refine h.inA.2.1.same fun x hx => ?_
    rw [g.only.block x (by simp only [setCell_size]; exact h.inA.2.1.lt hx) (fun e => e.elim (ho.2.2.1 x hx) (h.dis x (.inr (.inl hx)))), heap_setCell_mem hx ho.1, heap_setCell_mem hx (fun m => h.outA (.inr (.inl m)))]
  · exact (nJ p hp hm).elim ho.2.1 (h.dis p (.inl rfl))
  · exact (nJ x (h.inA.2.1.lt hl) hm).elim (ho.2.2.1 x hl) (h.dis x (.inr (.inl hl)))
  · rcases hx with rfl | hx | hx
    · exact .inl (.inl (.inl rfl))
    · exact .inl (.inl (.inr (.inl hx)))
    · rcases g.sub x hx with (hm | hm) | hm
      · exact .inl (.inl (.inr (.inr hm)))
      · exact .inl (.inr hm)
      · rw [setCell_size] at hm; exact .inr hm

theorem Rep.toB {w w' : World} {b o p : Nat} {k : Int} {d : Nat} {v : α} {l r A J : Tr α} (h : JoinPre S w A (.node p k d v l r) b o)
    (g : Rep S (w.setCell ⟨b, o, none⟩ (.pointer (some ⟨p, 0, none⟩))) w' p S.lo (fun x => A.Mem x ∨ l.Mem x) J) :
    Rep S w w' b o (fun x => A.Mem x ∨ (Tr.node p k d v l r).Mem x) (.node p k d v J r) := by
  have n1 : p ≠ b := fun e => h.outB (.inl e.symm)
  have hp : p < w.heap.size := lt_of_heap h.inB.1
  have ho := h.ownB
  have nJ : ∀ x, x < w.heap.size → J.Mem x → A.Mem x ∨ l.Mem x := fun x hx hm => (g.sub x hm).resolve_right (by rw [setCell_size]; omega)
  refine ⟨⟨g.only.os, g.only.tape, g.only.output, ?_, fun x hx hn => ?_⟩, ⟨?_, g.inn, ?_⟩, ⟨fun hm => ?_, ho.2.1, fun x hm hr => ?_, g.own, ho.2.2.2.2⟩, fun x hx => ?_⟩
  · have := g.only.size; simp only [setCell_size] at this ⊢; exact this
  · simp only [setCell_size] at hx
    rw [g.only.block x (by simp only [setCell_size]; exact hx) (fun e => e.elim (fun e => hn (.inl e)) (fun e => hn (.inr (.inr (.inl e))))), heap_setCell_ne (fun e => hn (.inr (.inl e)))]
    rfl
  · rw [g.only.block p (by simp only [setCell_size]; exact hp) (fun e => e.elim (fun e => h.dis p e (.inl rfl)) ho.1), heap_setCell_at ((heap_setCell_ne n1 _).trans h.inB.1), S.setL]
  · refine h.inB.2.2.same fun x hx => ?_
    rw [g.only.block x (by simp only [setCell_size]; exact h.inB.2.2.lt hx) (fun e => e.elim (fun e => h.dis x e (.inr (.inr hx))) (fun e => ho.2.2.1 x e hx)), heap_setCell_mem hx ho.2.1, heap_setCell_mem hx (fun m => h.outB (.inr (.inr m)))]
  · exact (nJ p hp hm).elim (fun e => h.dis p e (.inl rfl)) ho.1
  · exact (nJ x (h.inB.2.2.lt hr) hm).elim (fun e => h.dis x e (.inr (.inr hr))) (fun e => ho.2.2.1 x e hr)
  · rcases hx with rfl | hx | hx
    · exact .inl (.inr (.inl rfl))
    · rcases g.sub x hx with (hm | hm) | hm
      · exact .inl (.inl hm)
      · exact .inl (.inr (.inr (.inl hm)))
      · rw [setCell_size] at hm; exact .inr hm
    · exact .inl (.inr (.inr (.inr hx)))

theorem Rep.endA {w : World} {b o : Nat} {A : Tr α} (h : JoinPre S w A .nil b o) : Rep S w (w.setCell ⟨b, o, none⟩ A.ptr) b o (fun x => A.Mem x ∨ (Tr.nil : Tr α).Mem x) (A.join .nil) := by
  rw [Tr.join_nil]
  exact ⟨Only.refl _ _, h.inA.set h.outA _ _, h.ownA, fun x hx => .inl (.inl hx)⟩
theorem Rep.endB {w : World} {b o : Nat} {B : Tr α} (h : JoinPre S w .nil B b o) : Rep S w (w.setCell ⟨b, o, none⟩ B.ptr) b o (fun x => (Tr.nil : Tr α).Mem x ∨ B.Mem x) (Tr.join .nil B) := by
  rw [Tr.nil_join]
  exact ⟨Only.refl _ _, h.inB.set h.outB _ _, h.ownB, fun x hx => .inl (.inr hx)⟩
end trees
end Go.Proofs.YtgdliebllmgibaaDoor

namespace Go.Proofs.YtgdliebllmgibaaDoor
open Go.RowKit
section trees
variable {α : Type} {S : Sh α}

/-- At block t (of type TT) lies the head of T, whose items are L. -/
structure TAt (S : Sh α) (TT : TypeId) (w : World) (t : Nat) (T : Tr α) (L : List (It α)) : Prop where
  head : w.heap[t]? = some (.cells #[.pointer T.adr, .int .i64 (L.length : Int)] TT (0, 0))
  inn : T.In S w
  own : T.Own
  out : ¬ T.Mem t
  items : T.items = L
  heap : T.Heap
  ris : Rising L

/-- The blocks of a tree. -/
def Ftp (t : Nat) (T : Tr α) (x : Nat) : Prop := x = t ∨ T.Mem x

theorem TAt.hung {TT : TypeId} {w : World} {t : Nat} {T : Tr α} {L : List (It α)} (h : TAt S TT w t T L) : Hung S w t 0 T := ⟨h.inn, h.own, h.out, ⟨_, _, h.head, rfl⟩⟩
theorem TAt.lt {TT : TypeId} {w : World} {t : Nat} {T : Tr α} {L : List (It α)} (h : TAt S TT w t T L) {x : Nat} (hx : Ftp t T x) : x < w.heap.size := by
  rcases hx with rfl | hx
  · exact lt_of_heap h.head
  · exact h.inn.lt hx
theorem TAt.kept {TT : TypeId} {w w' : World} {t : Nat} {T : Tr α} {L : List (It α)} {M : Nat → Prop} (h : TAt S TT w t T L) (o : Only M w w') (hn : ∀ x, Ftp t T x → ¬ M x) : TAt S TT w' t T L :=
  ⟨(o.block t (lt_of_heap h.head) (hn t (.inl rfl))).trans h.head, h.inn.kept o (fun x hx => hn x (.inr hx)), h.own, h.out, h.items, h.heap, h.ris⟩
theorem TAt.below {TT : TypeId} {w w' : World} {t : Nat} {T : Tr α} {L : List (It α)} (h : TAt S TT w t T L) (o : Below w.heap.size w w') : TAt S TT w' t T L :=
  h.kept (Below.only o (fun _ => False)) (fun _ _ h => h)
theorem TAt.alike {TT : TypeId} {w w' : World} {t : Nat} {T : Tr α} {L : List (It α)} (h : TAt S TT w t T L) (o : Alike w w') : TAt S TT w' t T L := h.below (o.below _)

/-- In w' the tree at t has the items L'; but for its own blocks, and new ones, the worlds are one. -/
def Turned (S : Sh α) (TT : TypeId) (w w' : World) (t : Nat) (T : Tr α) (L' : List (It α)) : Prop :=
  ∃ T', TAt S TT w' t T' L' ∧ Only (Ftp t T) w w' ∧ ∀ x, Ftp t T' x → Ftp t T x ∨ w.heap.size ≤ x

theorem Turned.left {TT : TypeId} {w u w' : World} {t : Nat} {T : Tr α} {L : List (It α)} (h : Turned S TT u w' t T L) (g : Alike w u) : Turned S TT w w' t T L := by
  obtain ⟨T', h1, h2, h3⟩ := h
  exact ⟨T', h1, h2.left g, fun x hx => by have := h3 x hx; rw [g.heap] at this; exact this⟩
theorem Turned.right {TT : TypeId} {w u w' : World} {t : Nat} {T : Tr α} {L : List (It α)} (h : Turned S TT w u t T L) (g : Below u.heap.size u w') : Turned S TT w w' t T L := by
  obtain ⟨T', h1, h2, h3⟩ := h
  exact ⟨T', h1.below g, h2.trans (Below.only g _), h3⟩

theorem Turned.leftBelow {TT : TypeId} {w u w' : World} {t : Nat} {T : Tr α} {L : List (It α)} (h : Turned S TT u w' t T L) (g : Below w.heap.size w u) : Turned S TT w w' t T L := by
  obtain ⟨T', h1, h2, h3⟩ := h
  exact ⟨T', h1, (Below.only g _).trans h2, fun x hx => (h3 x hx).imp (fun e => e) (fun e => Nat.le_trans g.size e)⟩
/-- What a cell holds. -/
def CellIs (b o : Nat) (v : Value) (u : World) : Prop := u.cell? ⟨b, o, none⟩ = some v

def CellsAre (b o : Nat) (v : Value) (b' o' : Nat) (v' : Value) (u : World) : Prop := u.cell? ⟨b, o, none⟩ = some v ∧ u.cell? ⟨b', o', none⟩ = some v'

theorem delL_length {key : Int} {L : List (It α)} {i : It α} (hr : Rising L) (h : getL key L = some i) : (delL key L).length + 1 = L.length := by
  induction L with
  | nil => simp [getL] at h
  | cons a L ih =>
    obtain ⟨h1, h2⟩ := List.pairwise_cons.1 hr
    by_cases ha : a.1 = key
    · have e := delL_none (L := L) (key := key) (fun i hi => by have := h1 i hi; omega)
      unfold delL at e ⊢
      simp [ha, e]
    · have e := ih h2 (by simpa [getL, ha] using h)
      unfold delL at e ⊢
      simp [ha]; omega

theorem Path.mem {b0 o0 b o : Nat} {T0 U : Tr α} {F : Tr α → Tr α} (h : Path S b0 o0 T0 b o U F) : ∀ x, U.Mem x → T0.Mem x := by
  induction h with
  | here => exact fun _ h => h
  | left _ ih => exact fun x hx => ih x (.inr (.inl hx))
  | right _ ih => exact fun x hx => ih x (.inr (.inr hx))

/-- A new node takes the two parts. -/
theorem Rep.newNode {w w2 : World} {b o : Nat} {U A B : Tr α} {key : Int} {draw : Nat} {v : α} {a0 b0 : Value} (h : Hung S w b o U)
    (g : Rep2 S (w.alloc (.cells (S.blk key draw v a0 b0) S.ty (0, 0))) w2 w.heap.size S.lo w.heap.size S.hi U.Mem A B) :
    Rep S w (w2.setCell ⟨b, o, none⟩ (.pointer (some ⟨w.heap.size, 0, none⟩))) b o U.Mem (.node w.heap.size key draw v A B) ∧
    w2.heap[b]? = w.heap[b]? := by
  have hb : b < w.heap.size := h.lk.lt
  have sz : (w.alloc (.cells (S.blk key draw v a0 b0) S.ty (0, 0))).heap.size = w.heap.size + 1 := by simp
  have s2 : w.heap.size + 1 ≤ w2.heap.size := by have := g.only.size; simp only [setCell_size, sz] at this; exact this
  have old : ∀ x, x < w.heap.size → ¬ U.Mem x → w2.heap[x]? = w.heap[x]? := by
    intro x hx hn
    rw [g.only.block x (by simp only [setCell_size, sz]; omega) hn, heap_setCell_ne (by omega), heap_setCell_ne (by omega)]
    exact Below.heap_alloc _ _ _ hx
  have nU : ¬ U.Mem w.heap.size := fun e => Nat.lt_irrefl _ (h.inn.lt e)
  have new : w2.heap[w.heap.size]? = some (.cells (S.blk key draw v A.ptr B.ptr) S.ty (0, 0)) := by
    rw [g.only.block _ (by simp only [setCell_size, sz]; omega) nU, heap_setCell_at (heap_setCell_at (heap_alloc_at w _) _), S.setL, S.setR]
  refine ⟨⟨⟨?_, ?_, ?_, ?_, fun x hx hn => ?_⟩, ⟨?_, ?_, ?_⟩, ⟨fun e => nU (g.subA _ e), fun e => nU (g.subB _ e), g.dis, g.ownA, g.ownB⟩, fun x hx => ?_⟩, old b hb h.out⟩
  · exact g.only.os
  · exact g.only.tape
  · exact g.only.output
  · simp only [setCell_size]; omega
  · simp only [setCell_size] at hx
    obtain ⟨c, e, c1, _⟩ := h.lk
    by_cases hxb : x = b
    · subst hxb
      rw [heap_setCell_at c1, heap_setCell_at ((old x hx hn).trans c1)]
      rfl
    · rw [heap_setCell_ne hxb, heap_setCell_ne hxb, old x hx hn]
  · rw [heap_setCell_ne (by omega)]; exact new
  · exact g.inA.set (fun e => h.out (g.subA _ e)) _ _
  · exact g.inB.set (fun e => h.out (g.subB _ e)) _ _
  · rcases hx with rfl | hx | hx
    · exact .inr (Nat.le_refl _)
    · exact .inl (g.subA x hx)
    · exact .inl (g.subB x hx)

/-- What hangs at the root is turned; the head's number is laid anew. -/
theorem Rep.headCell {TT : TypeId} {w w3 : World} {t : Nat} {T T' : Tr α} {L : List (It α)} (h : TAt S TT w t T L) (g : Rep S w w3 t 0 T.Mem T') :
    w3.heap[t]? = some (.cells #[.pointer T'.adr, .int .i64 (L.length : Int)] TT (0, 0)) := by
  rw [g.only.block t (by rw [setCell_size]; exact lt_of_heap h.head) h.out, heap_setCell_at h.head]
  rfl

theorem Rep.turned {TT : TypeId} {w w3 : World} {t : Nat} {T T' : Tr α} {L L' : List (It α)} (h : TAt S TT w t T L) (g : Rep S w w3 t 0 T.Mem T') (hi : T'.items = L') (hh : T'.Heap) (hr : Rising L') :
    Turned S TT w (w3.setCell ⟨t, 1, none⟩ (.int .i64 (L'.length : Int))) t T L' := by
  have ht : t < w.heap.size := lt_of_heap h.head
  have no : ¬ T'.Mem t := fun e => by
    rcases g.sub t e with e | e
    · exact h.out e
    · omega
  refine ⟨T', ⟨?_, g.inn.set no _ _, g.own, no, hi, hh, hr⟩, ⟨g.only.os, g.only.tape, g.only.output, ?_, fun x hx hn => ?_⟩, fun x hx => ?_⟩
  · rw [heap_setCell_at (g.headCell h)]; rfl
  · have := g.only.size; simp only [setCell_size] at this ⊢; exact this
  · rw [heap_setCell_ne (fun e => hn (.inl e)), g.only.block x (by rw [setCell_size]; exact hx) (fun e => hn (.inr e)), heap_setCell_ne (fun e => hn (.inl e))]
  · rcases hx with rfl | hx
    · exact .inl (.inl rfl)
    · rcases g.sub x hx with e | e
      · exact .inl (.inr e)
      · exact .inr e

theorem find_nil {T : Tr α} {L : List (It α)} (hi : T.items = L) (hr : Rising L) {key : Int} (h : getL key L = none) : T.find key = .nil := by
  have e := find_top (T := T) key (hi ▸ hr)
  rw [hi, h] at e
  revert e
  cases T.find key with
  | nil => exact fun _ => rfl
  | node p k d v l r => exact fun e => by simp [Tr.top] at e
theorem find_node {T : Tr α} {L : List (It α)} (hi : T.items = L) (hr : Rising L) {key k : Int} {d : Nat} {v : α} (h : getL key L = some (k, d, v)) : k = key ∧ ∃ p l r, T.find key = .node p k d v l r := by
  have e := find_top (T := T) key (hi ▸ hr)
  rw [hi, h] at e
  refine ⟨by have := List.find?_some h; simpa using this, ?_⟩
  revert e
  cases T.find key with
  | nil => exact fun e => by simp [Tr.top] at e
  | node p k' d' v' l r =>
    intro e
    simp [Tr.top] at e
    obtain ⟨rfl, rfl, rfl⟩ := e
    exact ⟨p, l, r, rfl⟩
theorem getL_none {L : List (It α)} {key : Int} (h : getL key L = none) : ∀ i ∈ L, i.1 ≠ key := by
  unfold getL at h
  rw [List.find?_eq_none] at h
  intro i hi
  simpa using h i hi
theorem ceil_nil {T : Tr α} {L : List (It α)} (hi : T.items = L) (hr : Rising L) {key : Int} (h : ceilL key L = none) : T.ceil key .nil = .nil := by
  have e := ceil_top (T := T) key (hi ▸ hr) .nil
  rw [hi, h] at e
  revert e
  cases T.ceil key .nil with
  | nil => exact fun _ => rfl
  | node p k d v l r => exact fun e => by simp [Tr.top] at e
theorem ceil_node {T : Tr α} {L : List (It α)} (hi : T.items = L) (hr : Rising L) {key k : Int} {d : Nat} {v : α} (h : ceilL key L = some (k, d, v)) : ∃ p l r, T.ceil key .nil = .node p k d v l r := by
  have e := ceil_top (T := T) key (hi ▸ hr) .nil
  rw [hi, h] at e
  revert e
  cases T.ceil key .nil with
  | nil => exact fun e => by simp [Tr.top] at e
  | node p k' d' v' l r =>
    intro e
    simp [Tr.top] at e
    obtain ⟨rfl, rfl, rfl⟩ := e
    exact ⟨p, l, r, rfl⟩
theorem put_at {U : Tr α} {key : Int} {draw : Nat} (h : U = .nil ∨ ∃ p k d v l r, U = .node p k d v l r ∧ ¬ Abv k d key draw) (n : Nat) (x : α) : U.put n key draw x = .node n key draw x (U.split key).1 (U.split key).2 := by
  rcases h with rfl | ⟨p, k, d, v, l, r, rfl, h⟩
  · rfl
  · rw [Tr.put, if_neg h]
/-- What a key that is dropped leaves. -/
theorem Rep.dropped {w w' : World} {b o p : Nat} {k : Int} {d : Nat} {v : α} {l r : Tr α} (g : Rep S w w' b o (fun x => l.Mem x ∨ r.Mem x) (l.join r)) : Rep S w w' b o (Tr.node p k d v l r).Mem ((Tr.node p k d v l r).drop k) := by
  rw [Tr.drop, if_pos rfl]
  exact ⟨g.only.mono (fun x _ hx => .inr hx), g.inn, g.own, fun x hx => (g.sub x hx).imp (fun e => .inr e) (fun e => e)⟩
theorem Hung.joinPre {w : World} {b o p : Nat} {k : Int} {d : Nat} {v : α} {l r : Tr α} (h : Hung S w b o (.node p k d v l r)) : JoinPre S w l r b o :=
  ⟨h.inn.2.1, h.inn.2.2, h.own.2.2.2.1, h.own.2.2.2.2, h.own.2.2.1, fun e => h.out (.inr (.inl e)), fun e => h.out (.inr (.inr e)), ⟨_, h.lk⟩⟩
/-- The node that is dropped lies as it lay. -/
theorem Rep.nodeKept {w w' : World} {b o p : Nat} {k : Int} {d : Nat} {v : α} {l r : Tr α} (h : Hung S w b o (.node p k d v l r)) (g : Rep S w w' b o (fun x => l.Mem x ∨ r.Mem x) (l.join r)) : w'.heap[p]? = w.heap[p]? := by
  have hp : p < w.heap.size := lt_of_heap h.inn.1
  rw [g.only.block p (by rw [setCell_size]; exact hp) (fun e => e.elim h.own.1 h.own.2.1), heap_setCell_ne (fun e => h.out (.inl e.symm))]
end trees
end Go.Proofs.YtgdliebllmgibaaDoor

namespace Go.Proofs.YtgdliebllmgibaaDoor
open Go Go.RowKit

section
variable {F : Fence} {n : Nat} {P : Program} {ops : Array Oper} {Q : Exit → Act → World → Prop} {md : Region.Mode}

def wpAnyK (F : Fence) (n : Nat) (P : Program) (md : Region.Mode) (ops : Array Oper) (Q : Exit → Act → World → Prop) (J : World → Prop) : Nat → Array Bool → Act → World → Prop
  | 0, listed, a, w => Region.ready md ops listed = [] ∧ Q .normal a w
  | fuel + 1, listed, a, w => (Region.ready md ops listed = [] → Q .normal a w) ∧
    ∀ i ∈ Region.ready md ops listed, wpOpIn F n P ops Q i (fun a' w' => J w' ∧ wpAnyK F n P md ops Q J fuel (listed.setIfInBounds i true) a' w') a w

theorem wpAnyK.any {J : World → Prop} : ∀ (fuel : Nat) (listed : Array Bool) (a : Act) (w : World), wpAnyK F n P md ops Q J fuel listed a w → wpAnyIn F n P md ops Q fuel listed a w
  | 0, _, _, _, h => h
  | fuel + 1, _, _, _, h => ⟨h.1, fun i hi => wpOpIn_mono (fun a' w' h' => wpAnyK.any fuel _ a' w' h'.2) (h.2 i hi)⟩

theorem wpAnyK.mono {J J' : World → Prop} (hJ : ∀ w, J w → J' w) : ∀ (fuel : Nat) (listed : Array Bool) (a : Act) (w : World), wpAnyK F n P md ops Q J fuel listed a w → wpAnyK F n P md ops Q J' fuel listed a w
  | 0, _, _, _, h => h
  | fuel + 1, _, _, _, h => ⟨h.1, fun i hi => wpOpIn_mono (fun a' w' h' => ⟨hJ _ h'.1, wpAnyK.mono hJ fuel _ a' w' h'.2⟩) (h.2 i hi)⟩

theorem Steady.wpOpIn {J : World → Prop} (hF : ∀ f, F.fn f) (hro : F.round = none) {i : Nat} {o : Oper} {v : Value} {a : Act} {w : World} {K : Act → World → Prop} (hi : ops[i]? = some o) (h : Steady P ops J o v a) (hJ : J w) (hK : K (a.put o.dst v) w) : wpOpIn F n P ops Q i K a w := by
  unfold Go.wpOpIn
  simp only [hi]
  rcases h with ⟨hw, hv⟩ | ⟨hw, rfl⟩
  · simp only [hw, if_true, Oper.wpIn, hro, Oper.semAt_none, hv w hJ, Oper.uponIn]; exact ⟨fun f _ => hF f, hK⟩
  · simp only [hw, Bool.false_eq_true, if_false]; exact ⟨fun f _ => hF f, hK⟩

theorem wpOpIn_ahead (hF : ∀ f, F.fn f) (hro : F.round = none) {Y : Act → Prop} {j : Nat} {oi oj : Oper} {v : Value} (hj : ops[j]? = some oj) (hap : oi.apart ops oj = true) (hsj : ∀ cs b, oj.op ≠ .select cs b)
    (hQ : ∀ c a w, Q (.panic c) (a.put oi.dst v) w → Q (.panic c) a w) (hY : ∀ a u, Y a → Y (a.put oj.dst u)) (hD : ∀ (a : Act) d, Y a → Y { a with defers := d :: a.defers })
    {K : Act → World → Prop} {a : Act} {w : World} (hy : Y a) (h : wpOpIn F n P ops Q j K (a.put oi.dst v) w) :
    wpOpIn F n P ops Q j (fun a' w' => Y a' ∧ K (a'.put oi.dst v) w') a w := by
  obtain ⟨h1, h2, _⟩ := Oper.apart_spec hap
  have comm := fun (b : Act) (u : Value) => Act.put_comm b v u h2
  unfold Go.wpOpIn at *
  simp only [hj] at *
  rw [wanted_put oj a oi.dst v h1] at h
  by_cases hw : Region.wanted oj (yielded ops a.tmps) = true
  · simp only [hw, if_true] at h ⊢
    unfold Oper.wpIn at *
    refine ⟨fun f _ => hF f, ?_⟩
    have h := h.2
    rw [hro, Oper.semAt_none, execOp_put oj hsj a oi.dst v h1] at h
    rw [hro, Oper.semAt_none]
    generalize (execOp a.eval oj).run P w = r at *
    cases r with
    | ok x w' =>
      cases x <;> simp only [Oper.uponIn] at h ⊢
      case value u => exact ⟨hY a u hy, by rw [← comm a u]; exact h⟩
      case skip => exact ⟨hY a undef hy, by rw [← comm a undef]; exact h⟩
      case defer d => exact ⟨hY _ undef (hD a d hy), by rw [← comm _ undef, ← Act.put_defers]; exact h⟩
      case enter f args =>
        refine ⟨h.1, CallsIn.mono h.2 fun e w'' he => ?_⟩
        cases e with
        | returned u => exact ⟨hY a u hy, by rw [← comm a u]; exact he⟩
        | panicked c => exact hQ _ _ _ he
        | outgrown => exact he
      case row row args => exact ⟨h.1, RowsIn.mono h.2 fun u w'' he => ⟨hY a u hy, by rw [← comm a u]; exact he⟩⟩
      case round l f tmps assign body =>
        refine ⟨h.1, RoundIn.mono h.2 fun e w'' he => ?_⟩
        cases e with
        | returned u => exact ⟨hY a u hy, by rw [← comm a u]; exact he⟩
        | panicked c => exact hQ _ _ _ he
        | outgrown => exact he
    | halt x w' =>
      cases x <;> simp only [Oper.uponIn] at h ⊢
      case panic u => exact hQ _ _ _ h
  · simp only [hw] at h ⊢
    exact ⟨fun f _ => hF f, hY a undef hy, by rw [← comm a undef]; exact h.2⟩

theorem wpAnyK_first {J : World → Prop} (hF : ∀ f, F.fn f) (hro : F.round = none) {i : Nat} {oi : Oper} {v : Value} (hi : ops[i]? = some oi) (hsel : ∀ (j : Nat) (o : Oper) cs b, ops[j]? = some o → o.op ≠ .select cs b)
    (hQ : ∀ c a w, Q (.panic c) (a.put oi.dst v) w → Q (.panic c) a w) :
    ∀ (fuel : Nat) (listed : Array Bool) (a : Act) (w : World),
      (∀ j oj, ops[j]? = some oj → j ≠ i → listed.getD j true = false → (∀ e ∈ oj.after, Region.binds md e = true → e.on ≠ i) → oi.apart ops oj = true) →
      i ∈ Region.ready md ops listed → J w → Steady P ops J oi v a →
      wpAnyK F n P md ops Q J fuel (listed.setIfInBounds i true) (a.put oi.dst v) w → wpAnyK F n P md ops Q J (fuel + 1) listed a w := by
  intro fuel
  induction fuel with
  | zero =>
    intro listed a w _ hr hJ hy H
    refine ⟨fun h => (by rw [h] at hr; cases hr), fun j hj => ?_⟩
    by_cases hji : j = i
    · subst hji; exact hy.wpOpIn hF hro hi hJ ⟨hJ, H⟩
    · have := ready_mono hj hji
      rw [H.1] at this
      cases this
  | succ fuel ih =>
    intro listed a w hfree hr hJ hy H
    refine ⟨fun h => (by rw [h] at hr; cases hr), fun j hj => ?_⟩
    by_cases hji : j = i
    · subst hji; exact hy.wpOpIn hF hro hi hJ ⟨hJ, H⟩
    · have h1 := H.2 j (ready_mono hj hji)
      obtain ⟨hjun, oj, hoj, hall⟩ := mem_ready.1 hj
      have hnot : ∀ e ∈ oj.after, Region.binds md e = true → e.on ≠ i := fun e he hb heq => by
        have h1 := hall e he hb
        have h0 := (mem_ready.1 hr).1
        rw [heq] at h1
        rcases Nat.lt_or_ge i listed.size with h' | h'
        · simp [h'] at h0 h1; rw [h0] at h1; cases h1
        · simp [Array.getElem?_eq_none h'] at h1
      have hap := hfree j oj hoj hji hjun hnot
      have h3 := (Oper.apart_spec hap).2.2
      have h2 := wpOpIn_ahead hF hro (Y := Steady P ops J oi v) hoj hap (fun cs b => hsel j oj cs b hoj) hQ
        (fun b u hb => hb.of_same (execOp_put oi (fun cs b => hsel i oi cs b hi) b oj.dst u h3) (wanted_put oi b oj.dst u h3)) (fun b d hb => hb.of_same rfl rfl) hy h1
      have hfree' : ∀ k ok, ops[k]? = some ok → k ≠ i → (listed.setIfInBounds j true).getD k true = false →
          (∀ e ∈ ok.after, Region.binds md e = true → e.on ≠ i) → oi.apart ops ok = true := fun k ok hk hki hun hno => by
        refine hfree k ok hk hki ?_ hno
        by_cases hjk : j = k
        · subst hjk; exact hjun
        · rw [getD_set_ne true hjk] at hun; exact hun
      refine wpOpIn_mono (fun a' w' h4 => ⟨h4.2.1, ih (listed.setIfInBounds j true) a' w' hfree' (ready_mono hr (Ne.symm hji)) h4.2.1 h4.1 ?_⟩) h2
      rw [Array.setIfInBounds_comm _ _ hji]
      exact h4.2.2

theorem wpAnyK_stretch {I : World → Prop} (hF : ∀ f, F.fn f) (hro : F.round = none) (hs : Region.noSelect ops = true) (hQ : ∀ c (a : Act) d v w, Q (.panic c) (a.put (some d) v) w → Q (.panic c) a w) {fuel : Nat} {w : World} (hI : I w) :
    ∀ (is : List Nat) (listed : Array Bool) (a : Act), takeable md ops is listed = true →
      wpQuiet P ops I (fun a' => wpAnyK F n P md ops Q I fuel (listedBehind is listed) a' w) (is.filterMap fun i => ops[i]?) a → wpAnyK F n P md ops Q I (is.length + fuel) listed a w
  | [], listed, a, _, h => by simpa [wpQuiet, listedBehind] using h
  | i :: is, listed, a, ht, h => by
    simp only [takeable, Bool.and_eq_true] at ht
    obtain ⟨⟨⟨hr, hf⟩, hp⟩, ht'⟩ := ht
    cases ho : ops[i]? with
    | none => rw [ho] at hp; cases hp
    | some o =>
      rw [ho] at hp
      rw [List.filterMap_cons, ho] at h
      obtain ⟨v, hv, hK⟩ := steady_of_quiet hp h
      have := wpAnyK_first hF hro ho (Region.noSelect_spec hs) (fun c a w h => by cases hd : o.dst with | none => rw [hd] at h; exact h | some d => rw [hd] at h; exact hQ c a d v w h) (is.length + fuel) listed a w (Region.free_spec ho hf) (by simpa using hr) hI hv (wpAnyK_stretch hF hro hs hQ hI is _ _ ht' hK)
      rw [List.length_cons, Nat.add_right_comm]
      exact this

/-- A stretch of operations that read the same in every world of the class. -/
theorem stretchIn {I : World → Prop} (hF : ∀ f, F.fn f) (hro : F.round = none) (hs : Region.noSelect ops = true) (hQ : ∀ c (a : Act) d v w, Q (.panic c) (a.put (some d) v) w → Q (.panic c) a w) {fuel : Nat} {w : World} (hI : I w)
    (is : List Nat) {listed : Array Bool} {a : Act} (ht : takeable md ops is listed = true)
    (h : wpQuiet P ops (fun x => ∃ u : Mem I, x = u.w') (fun a' => wpAnyK F n P md ops Q I fuel (listedBehind is listed) a' w) (is.filterMap fun i => ops[i]?) a) : wpAnyK F n P md ops Q I (is.length + fuel) listed a w := by
  have e : (fun x => ∃ u : Mem I, x = u.w') = I := funext fun x => propext ⟨fun ⟨u, hu⟩ => hu ▸ u.h, fun hx => ⟨⟨x, hx⟩, rfl⟩⟩
  rw [e] at h
  exact wpAnyK_stretch hF hro hs hQ hI is listed a ht h

/-- An operation that writes, where nothing else is ready. -/
theorem writerIn {J : World → Prop} {i fuel : Nat} {o : Oper} {listed : Array Bool} {a : Act} {w : World} (ho : ops[i]? = some o) (hr : Region.ready md ops listed = [i]) (hw : Region.wanted o (yielded ops a.tmps) = true)
    (h : ∀ K : Act → World → Prop, (∀ a' w', J w' → wpAnyK F n P md ops Q J fuel (listed.setIfInBounds i true) a' w' → K a' w') → Oper.wpIn F n P o a w K Q) :
    wpAnyK F n P md ops Q J (fuel + 1) listed a w := by
  refine ⟨fun h0 => (by rw [hr] at h0; cases h0), fun j hj => ?_⟩
  rw [hr, List.mem_singleton] at hj
  subst hj
  unfold Go.wpOpIn
  simp only [ho]
  have h1 := h (fun a' w' => J w' ∧ wpAnyK F n P md ops Q J fuel (listed.setIfInBounds j true) a' w') (fun _ _ h1 h2 => ⟨h1, h2⟩)
  rw [if_pos hw]; exact h1

theorem doneIn {J : World → Prop} {fuel : Nat} {listed : Array Bool} {a : Act} {w : World} (hr : Region.ready md ops listed = []) (h : Q .normal a w) : wpAnyK F n P md ops Q J fuel listed a w := by
  cases fuel with
  | zero => exact ⟨hr, h⟩
  | succ n => exact ⟨fun _ => h, by rw [hr]; simp⟩

theorem region_startIn {id : Nat} {J : World → Prop} {a : Act} {w : World} (hm : P.follows .mixedOrders = true) (h : wpAnyK F n P .any ops Q J ops.size (Array.replicate ops.size false) a w.drew) : (Code.region id ops true).wpIn F n P Q a w :=
  wpIn_region_any hm (wpAnyK.any _ _ _ _ h)

theorem classIn {I J : World → Prop} (hIJ : ∀ w, I w → J w) {fuel : Nat} {listed : Array Bool} {a : Act} {w : World} (h : wpAnyK F n P md ops Q I fuel listed a w) : wpAnyK F n P md ops Q J fuel listed a w := wpAnyK.mono hIJ fuel listed a w h

/-- An iterator that writes memory of its own: it tells xs, each x in turn; a body may turn what lies from A on and lay ahead of the call. -/
def SeqB {α : Type} (F : Fence) (n : Nat) (P : Program) (g : Nat) (lb : Array Value) (encs : α → Array Value) (A : Nat) (xs : List α) (w : World) : Prop :=
  ∀ (l : Nat) (J : List α → World → Prop) (W : World), Below w.heap.size w W → (∀ s X Y, J s X → Below W.heap.size X Y → J s Y) →
    (∀ pre x W1, J pre W1 → W.heap.size ≤ W1.heap.size → (pre ++ [x]) <+: xs → YieldAt F (n - 1) P l (encs x) W1 fun e W' =>
      e = .returned (.bool true) ∧ J (pre ++ [x]) W' ∧ Only (fun k => A ≤ k ∧ k < W.heap.size) W1 W') →
    J [] W →
    CallsIn F n P g (#[.func (.yield l) #[] #[]] ++ lb) W fun e W' => (∃ v, e = .returned v) ∧ J xs W'

theorem Below.putObj {b l : Nat} (W : World) (o : Obj) (hl : b ≤ l) : Below b W (W.putObj l o) :=
  ⟨rfl, rfl, rfl, by simp, fun k hk => World.putObj_heap_other (by omega)⟩

theorem wpIn_rangeB {α : Type} {g : Operand} {ps : Array Tmp} {assign body : Code} {a : Act} {w : World}
    (hro : F.round = none) (h1 : 1 ≤ n) {gf : Nat} {lb : Array Value} (hg : a.eval g = .func (.func gf) #[] lb) (hFg : F.fn gf) (eg : ∀ args w, (callFunc gf args).run P w = .ok (.enter gf args) w)
    {encs : α → Array Value} {A : Nat} {xs : List α} {w0 : World} (hseq : SeqB F (n - 1) P gf lb encs A xs w0) (hA : A ≤ w.heap.size) (hb0 : Below w0.heap.size w0 w) (hps : ∀ x, (encs x).size = ps.size)
    (I : List α → World → Prop) (hI : ∀ s X Y, I s X → Below w.heap.size X Y → I s Y) (h0 : I [] w) (a₁ : Array Value → α → Array Value)
    (hassign : ∀ (l : Nat) (x : α) (W : World) (K : Act → World → Prop), K { tmps := a₁ a.tmps x, defers := [] } W →
      assign.wpIn (F.inRound l) (n - 1 - 1) P (Exit.then K (fun _ _ _ => False)) { tmps := (ps.zip (encs x)).foldl (fun t (p, v) => t.setIfInBounds p v) a.tmps, defers := [] } W)
    (hbody : ∀ (l : Nat) (pre : List α) (x : α) (W : World), I pre W → w.heap.size ≤ W.heap.size → (pre ++ [x]) <+: xs → body.wpIn (F.inRound l) (n - 1 - 1) P (fun e _ W' => e = .normal ∧ Only (fun k => A ≤ k ∧ k < w.heap.size) W W' ∧ I (pre ++ [x]) W') { tmps := a₁ a.tmps x, defers := [] } W)
    (hdone : ∀ (D : Nat) (W : World), w.heap.size ≤ D → I xs W → W.heap[D]? = some (.deferred (some [])) → Q .normal { a with defers := { target := .collected D, args := #[] } :: a.defers } W) :
    (Code.rangeFunc g ps assign body).wpIn F n P Q a w := by
  refine wpIn_rangeFunc ?_
  intro fn hfn
  rw [hro]
  obtain ⟨rec, hrec⟩ : ∃ rec : LoopState → Option Code → Loop, rec = fun st pe => { state := st, pending := pe, fn, tmps := a.tmps, params := ps, assign, body, defers := w.heap.size } := ⟨_, rfl⟩
  obtain ⟨W1, hW1⟩ : ∃ W1, (w.alloc (.deferred (some []))).alloc (.loop (rec .ready none)) = W1 := ⟨_, rfl⟩
  have hs1 : W1.heap.size = w.heap.size + 2 := by rw [← hW1]; simp
  have hL1 : W1.heap[w.heap.size + 1]? = some (.loop (rec .ready none)) := by
    rw [← hW1]; have := World.alloc_heap_new (w.alloc (.deferred (some []))) (.loop (rec .ready none)); rwa [World.size_alloc] at this
  have hK1 : W1.heap[w.heap.size]? = some (.deferred (some [])) := by
    rw [← hW1]; exact (Below.heap_alloc _ _ _ (by simp)).trans (World.alloc_heap_new w _)
  have hbw : Below w.heap.size w W1 := by rw [← hW1]; exact ((Below.refl _ w).alloc (Nat.le_refl _) _).alloc (by simp) _
  have hI1 : I [] W1 := hI _ _ _ h0 hbw
  have hb1 : Below w0.heap.size w0 W1 := hb0.trans (hbw.mono hb0.size)
  refine ⟨w.heap.size + 1, [{ target := .collected w.heap.size, args := #[] }], W1, { target := .fn (.func gf) lb, args := #[.func (.yield (w.heap.size + 1)) #[] #[]] }, W1, gf,
    #[.func (.yield (w.heap.size + 1)) #[] #[]] ++ lb, W1, ?_, ?_, ?_, ?_, fun _ => h1, ?_⟩
  · rw [← hW1, hrec]; exact run_enterLoop_outer _ _ _ _ _
  · simp only [resolve, hg]
    simp [go_sem]
  · intro f' hf'; simp [Target.leads] at hf'; subst hf'; exact hFg
  · simp [invoke, go_sem, eg]
  · refine (hseq (w.heap.size + 1)
      (fun pre W => I pre W ∧ W.heap[w.heap.size + 1]? = some (.loop (rec .ready none)) ∧ W.heap[w.heap.size]? = some (.deferred (some [])))
      W1 hb1
      (fun s X Y hs hb => ⟨hI s X Y hs.1 (hb.mono (by omega)), (hb.block _ (by omega)).trans hs.2.1, (hb.block _ (by omega)).trans hs.2.2⟩)
      ?_ ⟨hI1, hL1, hK1⟩).mono ?_
    · rintro pre x W ⟨hi, hl, hk⟩ hsz hpre
      have hlt : w.heap.size + 1 < W.heap.size := (Array.getElem?_eq_some_iff.1 hl).1
      have hy := run_yield (P := P) (args := encs x) hl (by rw [hrec]; exact hps x)
      rw [hrec] at hy
      refine ⟨fn, _, assign, body, hy, roundIn_of_wpIn hfn (hassign _ x W _ ⟨_, run_beginRound hl (by rw [hrec]), ?_⟩)⟩
      have hl2 : (W.putObj (w.heap.size + 1) (.loop { rec .ready none with state := .busy })).heap[w.heap.size + 1]? = some (.loop { rec .ready none with state := .busy }) := World.putObj_heap_same hlt
      have hk2 : (W.putObj (w.heap.size + 1) (.loop { rec .ready none with state := .busy })).heap[w.heap.size]? = some (.deferred (some [])) := (World.putObj_heap_other (by omega)).trans hk
      have z2 : (W.putObj (w.heap.size + 1) (.loop { rec .ready none with state := .busy })).heap.size = W.heap.size := by simp
      refine wpIn_mono (hbody _ pre x _ (hI _ _ _ hi (Below.putObj W _ (by omega))) (by rw [z2]; omega) hpre) ?_
      rintro e a3 W3 ⟨rfl, ho3, hi3⟩
      have hl3 : W3.heap[w.heap.size + 1]? = some (.loop { rec .ready none with state := .busy }) := (ho3.block _ (by rw [z2]; omega) (by omega)).trans hl2
      have hk3 : W3.heap[w.heap.size]? = some (.deferred (some [])) := (ho3.block _ (by rw [z2]; omega) (by omega)).trans hk2
      have hr := run_endRound (P := P) none hl3
      refine ⟨_, _, hr, rfl, ⟨hI _ _ _ hi3 (Below.putObj W3 _ (by omega)), ?_, (World.putObj_heap_other (by omega)).trans hk3⟩, ?_⟩
      · rw [World.putObj_heap_same (Array.getElem?_eq_some_iff.1 hl3).1, hrec]; rfl
      · refine ⟨ho3.os, ho3.tape, ho3.output, ?_, fun k hk hn => ?_⟩
        · have := ho3.size; rw [z2] at this; simpa using this
        · rw [World.putObj_heap_other (by omega), ho3.block k (by rw [z2]; exact hk) (by omega), World.putObj_heap_other (by omega)]
    · rintro e W2 ⟨⟨v, rfl⟩, hi, hl, hk⟩
      exact ⟨none, _, by have := run_endLoop (P := P) hl (by rw [hrec]; simp); rw [hrec] at this; exact this, hdone _ _ (Nat.le_refl _) (hI _ _ _ hi (Below.putObj W2 _ (by omega))) ((World.putObj_heap_other (by omega)).trans hk)⟩
end
end Go.Proofs.YtgdliebllmgibaaDoor

namespace Go.Proofs.YtgdliebllmgibaaDoor
open Go.RowKit
section
variable {α : Type}

def Tr.keys (T : Tr α) : List Int := T.items.map (·.1)
theorem Tr.keys_node (p : Nat) (k : Int) (d : Nat) (v : α) (l r : Tr α) : (Tr.node p k d v l r).keys = l.keys ++ k :: r.keys := by simp [Tr.keys, Tr.items]
theorem Tr.keys_length (T : Tr α) : T.keys.length = T.size := by rw [Tr.keys, List.length_map, Tr.size_items]
def Tr.upK : Tr α → List Int
  | .nil => []
  | .node _ k _ _ _ r => k :: r.keys
/-- What is still to come of the keys, rising. -/
def remK (U : Tr α) (st : List (Tr α)) : List Int := U.keys ++ st.flatMap Tr.upK
theorem remK_push (p : Nat) (k : Int) (d : Nat) (v : α) (l r : Tr α) (st : List (Tr α)) : remK (.node p k d v l r) st = remK l (.node p k d v l r :: st) := by
  simp [remK, Tr.keys_node, Tr.upK]
theorem remK_pop (p : Nat) (k : Int) (d : Nat) (v : α) (l r : Tr α) (st : List (Tr α)) : remK .nil (.node p k d v l r :: st) = k :: remK r st := by
  simp [remK, Tr.keys, Tr.items, Tr.upK]

/-- The tree lies below A. -/
def OkT (S : Sh α) (A : Nat) (w : World) (U : Tr α) : Prop := U.In S w ∧ ∀ x, U.Mem x → x < A
theorem OkT.left {S : Sh α} {A : Nat} {w : World} {p : Nat} {k : Int} {d : Nat} {v : α} {l r : Tr α} (h : OkT S A w (.node p k d v l r)) : OkT S A w l := ⟨h.1.2.1, fun x hx => h.2 x (.inr (.inl hx))⟩
theorem OkT.right {S : Sh α} {A : Nat} {w : World} {p : Nat} {k : Int} {d : Nat} {v : α} {l r : Tr α} (h : OkT S A w (.node p k d v l r)) : OkT S A w r := ⟨h.1.2.2, fun x hx => h.2 x (.inr (.inr hx))⟩
theorem OkT.below {S : Sh α} {A B : Nat} {w w' : World} {U : Tr α} (h : OkT S A w U) (b : Below B w w') (hB : A ≤ B) : OkT S A w' U :=
  ⟨h.1.same (fun x hx => b.block x (Nat.lt_of_lt_of_le (h.2 x hx) hB)), h.2⟩
theorem OkT.only {S : Sh α} {A B : Nat} {w w' : World} {U : Tr α} (h : OkT S A w U) (o : Only (fun k => A ≤ k ∧ k < B) w w') : OkT S A w' U :=
  ⟨h.1.kept o (fun x hx e => by have := h.2 x hx; omega), h.2⟩

theorem ownsRow_only {w w' : World} {base e size n : Nat} {v : Value} {xs : List Value} {M : Nat → Prop} (h : w.ownsRow base e size v n xs) (o : Only M w w') (hM : ∀ k, M k → k < base) : w'.ownsRow base e size v n xs := by
  refine ⟨h.1, ?_⟩
  rcases h.2 with h0 | ⟨g, cap, cur, h1, h2, h3, h4⟩
  · exact .inl h0
  · exact .inr ⟨g, cap, cur, h1, h2, (o.block g (lt_of_heap h3) (fun e => by have := hM g e; omega)).trans h3, h4⟩
theorem ownsRow_alike {w w' : World} {base e size n : Nat} {v : Value} {xs : List Value} (h : w.ownsRow base e size v n xs) (o : Alike w w') : w'.ownsRow base e size v n xs :=
  ownsRow_only h (o.only (fun _ => False)) (fun _ h => h.elim)
/-- A shorter piece of it. -/
theorem ownsRow_cut {w : World} {base e size n m cap g : Nat} {xs ys : List Value} (h : w.ownsRow base e size (.slice (some ⟨g, 0, none⟩) (n + m) cap) (n + m) (xs ++ ys)) (hl : xs.length = n * size) : w.ownsRow base e size (.slice (some ⟨g, 0, none⟩) n cap) n xs := by
  refine ⟨hl, ?_⟩
  rcases h.2 with ⟨h0, _⟩ | ⟨g', cap', cur, h1, h2, h3, h4, h5, h6, h7⟩
  · cases h0
  · cases h1
    refine .inr ⟨g, cap, cur, rfl, h2, h3, by omega, h5, h6, ?_⟩
    have := congrArg (List.take (n * size)) h7
    rw [List.take_take, Nat.min_eq_left (Nat.mul_le_mul_right _ (by omega))] at this
    rw [this, ← hl, List.take_left']
    rfl
theorem grown_below {w w' : World} {base e size n : Nat} {v : Value} {xs : List Value} (h : w.ownsRow base e size v n xs) (g : w.grownBy w' v.ownBlock) (hb : base ≤ w.heap.size) : Below base w w' := by
  refine ⟨g.os, g.tape, g.output, g.size, fun k hk => ?_⟩
  refine g.block k (by omega) ?_
  rcases h.2 with ⟨rfl, _⟩ | ⟨b, cap, cur, rfl, h2, _⟩
  · simp [Value.ownBlock]
  · simp only [Value.ownBlock]; intro e; cases e; omega
theorem ownsRow_slice {w : World} {base e size n : Nat} {v : Value} {xs : List Value} (h : w.ownsRow base e size v n xs) : ∃ a c, v = .slice a n c := by
  rcases h.2 with ⟨rfl, rfl⟩ | ⟨g, cap, cur, rfl, _⟩
  · exact ⟨none, 0, rfl⟩
  · exact ⟨_, _, rfl⟩
theorem ownsRow_cap {w : World} {base e size n m g cap : Nat} {xs : List Value} (h : w.ownsRow base e size (.slice (some ⟨g, 0, none⟩) n cap) m xs) : m ≤ cap ∧ cap ≤ maxLen := by
  rcases h.2 with ⟨h0, _⟩ | ⟨g', cap', cur, h1, _, _, h4, h5, _⟩
  · cases h0
  · cases h1; exact ⟨h4, h5⟩
theorem remK_len {U : Tr α} {st : List (Tr α)} (h : ∀ x ∈ st, x ≠ .nil) : st.length ≤ (remK U st).length := by
  unfold remK
  rw [List.length_append]
  suffices hh : st.length ≤ (st.flatMap Tr.upK).length by omega
  induction st with
  | nil => simp
  | cons x st ih =>
    have := ih (fun y hy => h y (by simp [hy]))
    have hx := h x (by simp)
    cases x with
    | nil => exact absurd rfl hx
    | node p k d v l r => simp [List.flatMap_cons, Tr.upK] at this ⊢; omega
/-- The topmost of a stack. -/
theorem stack_top {w : World} {base e g cap : Nat} {x : Tr α} {st : List (Tr α)} (h : w.ownsRow base e 1 (.slice (some ⟨g, 0, none⟩) (st.length + 1) cap) (st.length + 1) ((x :: st).reverse.map Tr.ptr)) :
    w.cell? ⟨g, st.length, none⟩ = some (.pointer x.adr) ∧ w.ownsRow base e 1 (.slice (some ⟨g, 0, none⟩) st.length cap) st.length (st.reverse.map Tr.ptr) := by
  have hc := World.ownsRow.cellAt h st.length (by omega)
  refine ⟨?_, ownsRow_cut (m := 1) (ys := [x.ptr]) (by simpa using h) (by simp)⟩
  rw [hc]
  simp
theorem ownsRow_below {w w' : World} {base e size n m g cap B : Nat} {xs : List Value} (h : w.ownsRow base e size (.slice (some ⟨g, 0, none⟩) n cap) m xs) (b : Below B w w') (hg : g < B) : w'.ownsRow base e size (.slice (some ⟨g, 0, none⟩) n cap) m xs := by
  refine ⟨h.1, ?_⟩
  rcases h.2 with ⟨h0, _⟩ | ⟨g', cap', cur, h1, h2, h3, h4⟩
  · cases h0
  · cases h1; exact .inr ⟨g, cap, cur, rfl, h2, (b.block g hg).trans h3, h4⟩
theorem ownsRow_same {w w' : World} {base e size n m g cap : Nat} {xs : List Value} (h : w.ownsRow base e size (.slice (some ⟨g, 0, none⟩) n cap) m xs) (b : w'.heap[g]? = w.heap[g]?) : w'.ownsRow base e size (.slice (some ⟨g, 0, none⟩) n cap) m xs := by
  refine ⟨h.1, ?_⟩
  rcases h.2 with ⟨h0, _⟩ | ⟨g', cap', cur, h1, h2, h3, h4⟩
  · cases h0
  · cases h1; exact .inr ⟨g, cap, cur, rfl, h2, b.trans h3, h4⟩
theorem Only.grown {M : Nat → Prop} {a w w' : World} {g : Nat} (h : Only M a w) (hg : w.grownBy w' (some g)) (hM : M g ∨ a.heap.size ≤ g) : Only M a w' :=
  ⟨hg.os.trans h.os, hg.tape.trans h.tape, hg.output.trans h.output, Nat.le_trans h.size hg.size, fun k hk hn => (hg.block k (Nat.lt_of_lt_of_le hk h.size) (by intro e; cases e; rcases hM with hM | hM; exact hn hM; omega)).trans (h.block k hk hn)⟩
def intVals (l : List Int) : List Value := l.map (Value.int .i64)
end
end Go.Proofs.YtgdliebllmgibaaDoor

namespace Go.Proofs.YtgdliebllmgibaaDoor
open Go.RowKit
section
variable {α : Type}

abbrev Sd (α : Type) := Tr α × Nat
/-- What is still to come, from the root on. -/
def remS (st : List (Sd α)) : List (Int × Nat) := st.flatMap fun s => s.1.shape s.2
def sideVals (st : List (Sd α)) : List Value := st.flatMap fun s => [.pointer s.1.adr, .int .i64 (s.2 : Int)]
/-- How many rounds are still to come. -/
def costS : List (Sd α) → Nat
  | [] => 0
  | s :: st => 2 * s.1.size + 1 + costS st
theorem remS_nil (e : Nat) (st : List (Sd α)) : remS ((.nil, e) :: st) = remS st := by simp [remS, Tr.shape]
theorem remS_node (p : Nat) (k : Int) (d : Nat) (v : α) (l r : Tr α) (e : Nat) (st : List (Sd α)) : remS ((.node p k d v l r, e) :: st) = (k, e) :: remS ((l, e + 1) :: (r, e + 1) :: st) := by
  simp [remS, Tr.shape]
theorem costS_len (st : List (Sd α)) : st.length ≤ costS st := by
  induction st with
  | nil => exact Nat.le_refl _
  | cons s st ih => simp [costS]; omega
theorem sideVals_length (st : List (Sd α)) : (sideVals st).length = st.length * 2 := by
  induction st with
  | nil => rfl
  | cons s st ih =>
    have e : sideVals (s :: st) = [Value.pointer s.1.adr, .int .i64 (s.2 : Int)] ++ sideVals st := rfl
    rw [e, List.length_append, ih, List.length_cons]; simp; omega
theorem sideVals_app (a b : List (Sd α)) : sideVals (a ++ b) = sideVals a ++ sideVals b := by simp [sideVals]
/-- The topmost of a stack of sides. -/
theorem side_top {w : World} {base e g cap : Nat} {s : Sd α} {st : List (Sd α)} (h : w.ownsRow base e 2 (.slice (some ⟨g, 0, none⟩) (st.length + 1) cap) (st.length + 1) (sideVals (s :: st).reverse)) :
    w.cell? ⟨g, st.length * 2, none⟩ = some (.pointer s.1.adr) ∧ w.cell? ⟨g, st.length * 2 + 1, none⟩ = some (.int .i64 (s.2 : Int)) ∧ w.ownsRow base e 2 (.slice (some ⟨g, 0, none⟩) st.length cap) st.length (sideVals st.reverse) := by
  rw [List.reverse_cons, sideVals_app] at h
  have hl : (sideVals st.reverse).length = st.length * 2 := by rw [sideVals_length, List.length_reverse]
  have h1 := World.ownsRow.cellAt h (st.length * 2) (by omega)
  have h2 := World.ownsRow.cellAt h (st.length * 2 + 1) (by omega)
  refine ⟨?_, ?_, ownsRow_cut (m := 1) h hl⟩
  · rw [h1, List.getElem?_append_right (by omega), hl]; simp [sideVals]
  · rw [h2, List.getElem?_append_right (by omega), hl]; simp [sideVals]

/-- What some cells hold. -/
def CellsOf (l : List (Nat × Nat × Value)) (u : World) : Prop := ∀ c ∈ l, u.cell? ⟨c.1, c.2.1, none⟩ = some c.2.2
theorem CellsOf.only {l : List (Nat × Nat × Value)} {w w' : World} {M : Nat → Prop} (h : CellsOf l w) (o : Only M w w') (hM : ∀ c ∈ l, c.1 < w.heap.size ∧ ¬ M c.1) : CellsOf l w' := fun c hc =>
  (o.cell (p := ⟨c.1, c.2.1, none⟩) (hM c hc).1 (hM c hc).2).trans (h c hc)

theorem cell_four_new (w : World) (a b c d : Value) (t : TypeId) : ∀ j u, [a, b, c, d][j]? = some u → (w.alloc (.cells #[a, b, c, d] t)).cell? ((⟨w.heap.size, 0, none⟩ : Addr).add j) = some u := by
  intro j u hj
  match j, hj with
  | 0, hj => simp at hj; subst hj; simp [Addr.add]
  | 1, hj => simp at hj; subst hj; simp [Addr.add]
  | 2, hj => simp at hj; subst hj; simp [Addr.add]
  | 3, hj => simp at hj; subst hj; simp [Addr.add]
  | j + 4, hj => simp at hj

def nodeVals (l : List (Int × Nat)) : List Value := l.flatMap fun p => [.int .i64 p.1, .int .i64 (p.2 : Int)]

/-- 'append' as an operation that writes. -/
theorem operIn_append_own {F : Fence} {n : Nat} {P : Program} (w : World) {o : Oper} {a : Act} {Q : Exit → Act → World → Prop} {K : Act → World → Prop} (hF : ∀ f, F.fn f)
    (s x : Operand) (t : TypeId) (hop : o.op = Op.call { callee := Callee.builtin Builtin.append, args := #[s, x], argTypes := #[t, t] })
    (base : Nat) (e : TypeId) (i : TypeInfo) (z : Value) (size bytes : Nat) (h1 : P.underlying t = some (.slice e)) (h2 : P.info? e = some i) (h3 : i.zero = some z) (h4 : i.size = size) (h5 : i.bytes = bytes) (h6 : z.cells.size = size) (h7 : 0 < size)
    (v : Value) (k : Nat) (xs : List Value) (hs : a.eval s = v) (hown : w.ownsRow base e size v k xs) (ad : Addr) (m c : Nat) (news : List Value) (hx : a.eval x = .slice (some ad) m c) (hn : news.length = m * size)
    (hc : ∀ j u, news[j]? = some u → w.cell? (ad.add j) = some u) (h1c : ∀ u ∈ news, u.oneCell' = true) (b1 : k + m ≤ maxLen) (b2 : (k + m) * bytes ≤ 140737488355328) (b3 : base ≤ w.heap.size)
    (hK : ∀ v' w', w'.ownsRow base e size v' (k + m) (xs ++ news) → w.grownBy w' v.ownBlock → K (a.put o.dst v') w') :
    Oper.wpIn F n P o a w K Q := by
  obtain ⟨v', w', hrun, r1, r2, r3⟩ := run_append_own (P := P) w base t o.type e i z size bytes h1 h2 h3 h4 h5 h6 h7 v k xs hown ad m c news hn hc h1c b1 b2 b3
  unfold Oper.wpIn
  refine ⟨fun f _ => hF f, ?_⟩
  rw [Oper.semAt_plain F _ _ (by rw [hop]; intro c hc'; cases hc')]
  simp [execOp, hop, resolve, invoke, builtin, hs, hx, hrun, Result.andThen]
  exact hK _ _ r1 r2
end
end Go.Proofs.YtgdliebllmgibaaDoor
