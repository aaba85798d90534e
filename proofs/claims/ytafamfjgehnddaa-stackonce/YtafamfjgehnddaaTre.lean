/- Trees of keys and draws, and sorted rows of items: numbers alone (a node bears the block at which it lies). -/
import Derived.Test.YtafamfjgehnddaaHeap
namespace Go.Proofs.Ytafamfjgehnddaa

/-- A key, its draw, its value. -/
abbrev It (α : Type) := Int × Nat × α

inductive Tr (α : Type) where
  | nil : Tr α
  | node (p : Nat) (k : Int) (d : Nat) (v : α) (l r : Tr α) : Tr α

/-- (k, d) stands above (k', d'). -/
def Abv (k : Int) (d : Nat) (k' : Int) (d' : Nat) : Prop := d' < d ∨ (d = d' ∧ k < k')
instance (k : Int) (d : Nat) (k' : Int) (d' : Nat) : Decidable (Abv k d k' d') := by unfold Abv; infer_instance

theorem Abv.trans {a b c : Int} {x y z : Nat} (h : Abv a x b y) (g : Abv b y c z) : Abv a x c z := by
  unfold Abv at *; omega
theorem Abv.asymm {a b : Int} {x y : Nat} (h : Abv a x b y) (g : Abv b y a x) : False := by
  unfold Abv at *; omega
theorem Abv.of_not {a b : Int} {x y : Nat} (h : ¬ Abv a x b y) (ne : a ≠ b) : Abv b y a x := by
  unfold Abv at *; omega

namespace Tr
variable {α : Type}

def size : Tr α → Nat
  | nil => 0
  | node _ _ _ _ l r => l.size + r.size + 1
def items : Tr α → List (It α)
  | nil => []
  | node _ k d v l r => l.items ++ (k, d, v) :: r.items
def Mem : Tr α → Nat → Prop
  | nil, _ => False
  | node p _ _ _ l r, x => x = p ∨ l.Mem x ∨ r.Mem x
def Own : Tr α → Prop
  | nil => True
  | node p _ _ _ l r => ¬ l.Mem p ∧ ¬ r.Mem p ∧ (∀ x, l.Mem x → ¬ r.Mem x) ∧ l.Own ∧ r.Own
def Heap : Tr α → Prop
  | nil => True
  | node _ k d _ l r => (∀ i ∈ l.items, Abv k d i.1 i.2.1) ∧ (∀ i ∈ r.items, Abv k d i.1 i.2.1) ∧ l.Heap ∧ r.Heap
def shape : Tr α → Nat → List (Int × Nat)
  | nil, _ => []
  | node _ k _ _ l r, e => (k, e) :: (l.shape (e + 1) ++ r.shape (e + 1))

theorem size_items (T : Tr α) : T.items.length = T.size := by
  induction T with
  | nil => rfl
  | node p k d v l r ihl ihr => simp [items, size, ihl, ihr]; omega
theorem shape_length (T : Tr α) (e : Nat) : (T.shape e).length = T.size := by
  induction T generalizing e with
  | nil => rfl
  | node p k d v l r ihl ihr => simp [shape, size, ihl, ihr]

def split (key : Int) : Tr α → Tr α × Tr α
  | nil => (nil, nil)
  | node p k d v l r => if k < key then (node p k d v l (split key r).1, (split key r).2) else ((split key l).1, node p k d v (split key l).2 r)

def join : Tr α → Tr α → Tr α
  | nil, B => B
  | A, nil => A
  | node p k d v l r, node p' k' d' v' l' r' =>
    if Abv k d k' d' then node p k d v l (join r (node p' k' d' v' l' r')) else node p' k' d' v' (join (node p k d v l r) l') r'
termination_by A B => A.size + B.size
decreasing_by all_goals (simp [size] <;> omega)

theorem join_nil (A : Tr α) : join A nil = A := by cases A <;> simp [join]
theorem nil_join (B : Tr α) : join nil B = B := by simp [join]

def put (n : Nat) (key : Int) (draw : Nat) (x : α) : Tr α → Tr α
  | nil => node n key draw x nil nil
  | node p k d v l r =>
    if Abv k d key draw then (if key < k then node p k d v (put n key draw x l) r else node p k d v l (put n key draw x r))
    else node n key draw x (split key (node p k d v l r)).1 (split key (node p k d v l r)).2

def drop (key : Int) : Tr α → Tr α
  | nil => nil
  | node p k d v l r => if k = key then join l r else if key < k then node p k d v (drop key l) r else node p k d v l (drop key r)

/-- The tree that hangs where key does. -/
def find (key : Int) : Tr α → Tr α
  | nil => nil
  | node p k d v l r => if k = key then node p k d v l r else if key < k then find key l else find key r

/-- The least key from key on, x if there is none. -/
def ceil (key : Int) : Tr α → Tr α → Tr α
  | nil, x => x
  | node p k d v l r, x => if k < key then ceil key r x else ceil key l (node p k d v l r)

end Tr

/-- Rising by the keys. -/
def Rising {α : Type} (L : List (It α)) : Prop := L.Pairwise fun a b => a.1 < b.1

section lists
variable {α : Type}
def insL (key : Int) (d : Nat) (v : α) (L : List (It α)) : List (It α) := L.filter (fun i => decide (i.1 < key)) ++ (key, d, v) :: L.filter (fun i => !decide (i.1 < key))
def delL (key : Int) (L : List (It α)) : List (It α) := L.filter (fun i => !decide (i.1 = key))
def getL (key : Int) (L : List (It α)) : Option (It α) := L.find? (fun i => decide (i.1 = key))
def ceilL (key : Int) (L : List (It α)) : Option (It α) := L.find? (fun i => !decide (i.1 < key))

theorem Rising.app {A B : List (It α)} {x : It α} (h : Rising (A ++ x :: B)) : Rising A ∧ Rising B ∧ (∀ i ∈ A, i.1 < x.1) ∧ (∀ i ∈ B, x.1 < i.1) ∧ (∀ i ∈ A, ∀ j ∈ B, i.1 < j.1) := by
  unfold Rising at *
  rw [List.pairwise_append, List.pairwise_cons] at h
  obtain ⟨h1, ⟨h2, h3⟩, h4⟩ := h
  exact ⟨h1, h3, fun i hi => h4 i hi x (by simp), h2, fun i hi j hj => h4 i hi j (by simp [hj])⟩

theorem filter_lt_all {L : List (It α)} {key : Int} (h : ∀ i ∈ L, i.1 < key) : L.filter (fun i => decide (i.1 < key)) = L ∧ L.filter (fun i => !decide (i.1 < key)) = [] := by
  constructor
  · rw [List.filter_eq_self]; intro i hi; simpa using h i hi
  · rw [List.filter_eq_nil_iff]; intro i hi; simpa using h i hi
theorem filter_ge_all {L : List (It α)} {key : Int} (h : ∀ i ∈ L, key ≤ i.1) : L.filter (fun i => decide (i.1 < key)) = [] ∧ L.filter (fun i => !decide (i.1 < key)) = L := by
  constructor
  · rw [List.filter_eq_nil_iff]; intro i hi; simpa using h i hi
  · rw [List.filter_eq_self]; intro i hi; simpa using h i hi

theorem split_items {T : Tr α} (key : Int) (h : Rising T.items) : (T.split key).1.items = T.items.filter (fun i => decide (i.1 < key)) ∧ (T.split key).2.items = T.items.filter (fun i => !decide (i.1 < key)) := by
  induction T with
  | nil => simp [Tr.split, Tr.items]
  | node p k d v l r ihl ihr =>
    obtain ⟨h1, h2, h3, h4, _⟩ := Rising.app h
    unfold Tr.split
    by_cases hk : k < key
    · obtain ⟨e1, e2⟩ := ihr h2
      obtain ⟨f1, f2⟩ := filter_lt_all (L := l.items) (key := key) (fun i hi => by have := h3 i hi; simp at this; omega)
      simp [hk, Tr.items, e1, e2, f1, f2]
    · obtain ⟨e1, e2⟩ := ihl h1
      obtain ⟨f1, f2⟩ := filter_ge_all (L := r.items) (key := key) (fun i hi => by have := h4 i hi; simp at this; omega)
      simp [hk, Tr.items, e1, e2, f1, f2]

theorem split_mem {T : Tr α} (key : Int) : (∀ i ∈ (T.split key).1.items, i ∈ T.items) ∧ (∀ i ∈ (T.split key).2.items, i ∈ T.items) := by
  induction T with
  | nil => simp [Tr.split, Tr.items]
  | node p k d v l r ihl ihr =>
    unfold Tr.split
    by_cases hk : k < key
    · rw [if_pos hk]
      refine ⟨fun i hi => ?_, fun i hi => ?_⟩
      · simp [Tr.items] at hi ⊢
        rcases hi with hi | hi | hi
        · exact .inl hi
        · exact .inr (.inl hi)
        · exact .inr (.inr (ihr.1 i hi))
      · simp [Tr.items] at hi ⊢
        exact .inr (.inr (ihr.2 i hi))
    · rw [if_neg hk]
      refine ⟨fun i hi => ?_, fun i hi => ?_⟩
      · simp [Tr.items] at hi ⊢
        exact .inl (ihl.1 i hi)
      · simp [Tr.items] at hi ⊢
        rcases hi with hi | hi | hi
        · exact .inl (ihl.2 i hi)
        · exact .inr (.inl hi)
        · exact .inr (.inr hi)

theorem split_heap {T : Tr α} (key : Int) (h : T.Heap) : (T.split key).1.Heap ∧ (T.split key).2.Heap := by
  induction T with
  | nil => simp [Tr.split, Tr.Heap]
  | node p k d v l r ihl ihr =>
    obtain ⟨h1, h2, h3, h4⟩ := h
    unfold Tr.split
    by_cases hk : k < key
    · rw [if_pos hk]
      exact ⟨⟨h1, fun i hi => h2 i ((split_mem key).1 i hi), h3, (ihr h4).1⟩, (ihr h4).2⟩
    · rw [if_neg hk]
      exact ⟨(ihl h3).1, ⟨fun i hi => h1 i ((split_mem key).2 i hi), h2, (ihl h3).2, h4⟩⟩

theorem join_items (A B : Tr α) : (A.join B).items = A.items ++ B.items := by
  fun_induction Tr.join A B with
  | case1 B => simp [Tr.items]
  | case2 A => simp [Tr.items]
  | case3 p k d v l r p' k' d' v' l' r' h ih => simp [Tr.items] at ih ⊢; simp [ih]
  | case4 p k d v l r p' k' d' v' l' r' h ih => simp [Tr.items] at ih ⊢; simp [ih]

theorem join_heap (A B : Tr α) (ha : A.Heap) (hb : B.Heap) (hk : ∀ i ∈ A.items, ∀ j ∈ B.items, i.1 < j.1) : (A.join B).Heap := by
  fun_induction Tr.join A B with
  | case1 B => exact hb
  | case2 A => exact ha
  | case3 p k d v l r p' k' d' v' l' r' h ih =>
    refine ⟨ha.1, fun i hi => ?_, ha.2.2.1, ih ha.2.2.2 hb (fun i hi j hj => hk i (by simp [Tr.items, hi]) j hj)⟩
    rw [join_items] at hi
    rcases List.mem_append.1 hi with hi | hi
    · exact ha.2.1 i hi
    · simp [Tr.items] at hi
      rcases hi with hi | rfl | hi
      · exact h.trans (hb.1 i hi)
      · exact h
      · exact h.trans (hb.2.1 i hi)
  | case4 p k d v l r p' k' d' v' l' r' h ih =>
    have hkk : k < k' := hk (k, d, v) (by simp [Tr.items]) (k', d', v') (by simp [Tr.items])
    have g := Abv.of_not h (by omega)
    refine ⟨fun i hi => ?_, hb.2.1, ih ha hb.2.2.1 (fun i hi j hj => hk i hi j (by simp [Tr.items, hj])), hb.2.2.2⟩
    rw [join_items] at hi
    rcases List.mem_append.1 hi with hi | hi
    · simp [Tr.items] at hi
      rcases hi with hi | rfl | hi
      · exact g.trans (ha.1 i hi)
      · exact g
      · exact g.trans (ha.2.1 i hi)
    · exact hb.1 i hi

theorem put_items {T : Tr α} (n : Nat) (key : Int) (draw : Nat) (x : α) (h : Rising T.items) (hn : ∀ i ∈ T.items, i.1 ≠ key) : (T.put n key draw x).items = insL key draw x T.items := by
  unfold insL
  induction T with
  | nil => simp [Tr.put, Tr.items]
  | node p k d v l r ihl ihr =>
    obtain ⟨h1, h2, h3, h4, _⟩ := Rising.app h
    have hk0 : k ≠ key := hn (k, d, v) (by simp [Tr.items])
    unfold Tr.put
    by_cases ha : Abv k d key draw
    · rw [if_pos ha]
      by_cases hk : key < k
      · rw [if_pos hk]
        obtain ⟨f1, f2⟩ := filter_ge_all (L := r.items) (key := key) (fun i hi => by have := h4 i hi; simp at this; omega)
        have nk : ¬ k < key := by omega
        simp [Tr.items, ihl h1 (fun i hi => hn i (by simp [Tr.items, hi])), f1, f2, nk]
      · rw [if_neg hk]
        have he : k < key := by omega
        obtain ⟨f1, f2⟩ := filter_lt_all (L := l.items) (key := key) (fun i hi => by have := h3 i hi; simp at this; omega)
        simp [Tr.items, ihr h2 (fun i hi => hn i (by simp [Tr.items, hi])), f1, f2, he]
    · rw [if_neg ha]
      obtain ⟨e1, e2⟩ := split_items key h
      simp only [Tr.items] at e1 e2 ⊢
      rw [e1, e2]

theorem insL_mem {key : Int} {draw : Nat} {x : α} {L : List (It α)} {i : It α} : i ∈ insL key draw x L ↔ i = (key, draw, x) ∨ i ∈ L := by
  simp only [insL, List.mem_append, List.mem_cons, List.mem_filter]
  by_cases h : i.1 < key
  · simp [h]; exact Or.comm
  · simp [h]

theorem insL_rising {key : Int} {draw : Nat} {x : α} {L : List (It α)} (h : Rising L) (hn : ∀ i ∈ L, i.1 ≠ key) : Rising (insL key draw x L) := by
  unfold Rising insL at *
  rw [List.pairwise_append, List.pairwise_cons]
  refine ⟨h.filter _, ⟨fun i hi => ?_, h.filter _⟩, fun i hi j hj => ?_⟩
  · simp at hi; have := hn i hi.1; simp; omega
  · simp at hi hj
    rcases hj with rfl | hj
    · exact hi.2
    · omega

theorem insL_length {key : Int} {draw : Nat} {x : α} {L : List (It α)} : (insL key draw x L).length = L.length + 1 := by
  unfold insL
  induction L with
  | nil => rfl
  | cons a L ih =>
    simp only [List.length_append, List.length_cons] at ih ⊢
    by_cases h : a.1 < key <;> simp [h] <;> omega

theorem put_heap {T : Tr α} (n : Nat) (key : Int) (draw : Nat) (x : α) (hh : T.Heap) (h : Rising T.items) (hn : ∀ i ∈ T.items, i.1 ≠ key) : (T.put n key draw x).Heap := by
  induction T with
  | nil => simp [Tr.put, Tr.Heap, Tr.items]
  | node p k d v l r ihl ihr =>
    obtain ⟨h1, h2, h3, h4, _⟩ := Rising.app h
    have hk0 : k ≠ key := hn (k, d, v) (by simp [Tr.items])
    have nl : ∀ i ∈ l.items, i.1 ≠ key := fun i hi => hn i (by simp [Tr.items, hi])
    have nr : ∀ i ∈ r.items, i.1 ≠ key := fun i hi => hn i (by simp [Tr.items, hi])
    unfold Tr.put
    by_cases ha : Abv k d key draw
    · rw [if_pos ha]
      by_cases hk : key < k
      · rw [if_pos hk]
        refine ⟨fun i hi => ?_, hh.2.1, ihl hh.2.2.1 h1 nl, hh.2.2.2⟩
        rw [put_items n key draw x h1 nl, insL_mem] at hi
        rcases hi with rfl | hi
        · exact ha
        · exact hh.1 i hi
      · rw [if_neg hk]
        refine ⟨hh.1, fun i hi => ?_, hh.2.2.1, ihr hh.2.2.2 h2 nr⟩
        rw [put_items n key draw x h2 nr, insL_mem] at hi
        rcases hi with rfl | hi
        · exact ha
        · exact hh.2.1 i hi
    · rw [if_neg ha]
      have g := Abv.of_not ha hk0
      have all : ∀ i ∈ (Tr.node p k d v l r).items, Abv key draw i.1 i.2.1 := by
        intro i hi
        simp [Tr.items] at hi
        rcases hi with hi | rfl | hi
        · exact g.trans (hh.1 i hi)
        · exact g
        · exact g.trans (hh.2.1 i hi)
      exact ⟨fun i hi => all i ((split_mem key).1 i hi), fun i hi => all i ((split_mem key).2 i hi), (split_heap key hh).1, (split_heap key hh).2⟩

theorem delL_none {key : Int} {L : List (It α)} (h : ∀ i ∈ L, i.1 ≠ key) : delL key L = L := by
  unfold delL; rw [List.filter_eq_self]; intro i hi; simpa using h i hi

theorem drop_items {T : Tr α} (key : Int) (h : Rising T.items) : (T.drop key).items = delL key T.items := by
  induction T with
  | nil => simp [Tr.drop, Tr.items, delL]
  | node p k d v l r ihl ihr =>
    obtain ⟨h1, h2, h3, h4, _⟩ := Rising.app h
    simp only at h3 h4
    unfold Tr.drop
    by_cases hk : k = key
    · rw [if_pos hk, join_items]
      have dl := delL_none (L := l.items) (key := key) (fun i hi => by have := h3 i hi; omega)
      have dr := delL_none (L := r.items) (key := key) (fun i hi => by have := h4 i hi; omega)
      unfold delL at *
      simp [Tr.items, dl, dr, hk]
    · rw [if_neg hk]
      by_cases hl : key < k
      · rw [if_pos hl]
        have dr := delL_none (L := r.items) (key := key) (fun i hi => by have := h4 i hi; omega)
        have dl := ihl h1
        unfold delL at *
        simp [Tr.items, dl, dr, hk]
      · rw [if_neg hl]
        have dl := delL_none (L := l.items) (key := key) (fun i hi => by have := h3 i hi; omega)
        have dr := ihr h2
        unfold delL at *
        simp [Tr.items, dl, dr, hk]

theorem delL_sub {key : Int} {L : List (It α)} {i : It α} (h : i ∈ delL key L) : i ∈ L := (List.mem_filter.1 h).1
theorem delL_mem {key : Int} {L : List (It α)} {i : It α} : i ∈ delL key L ↔ i ∈ L ∧ i.1 ≠ key := by simp [delL]
theorem delL_rising {key : Int} {L : List (It α)} (h : Rising L) : Rising (delL key L) := List.Pairwise.filter _ h

theorem drop_heap {T : Tr α} (key : Int) (hh : T.Heap) (h : Rising T.items) : (T.drop key).Heap := by
  induction T with
  | nil => simp [Tr.drop, Tr.Heap]
  | node p k d v l r ihl ihr =>
    obtain ⟨h1, h2, h3, h4, h5⟩ := Rising.app h
    unfold Tr.drop
    by_cases hk : k = key
    · rw [if_pos hk]; exact join_heap l r hh.2.2.1 hh.2.2.2 h5
    · rw [if_neg hk]
      by_cases hl : key < k
      · rw [if_pos hl]
        exact ⟨fun i hi => hh.1 i (by rw [drop_items key h1] at hi; exact delL_sub hi), hh.2.1, ihl hh.2.2.1 h1, hh.2.2.2⟩
      · rw [if_neg hl]
        exact ⟨hh.1, fun i hi => hh.2.1 i (by rw [drop_items key h2] at hi; exact delL_sub hi), hh.2.2.1, ihr hh.2.2.2 h2⟩

/-- The item at the root. -/
def Tr.top : Tr α → Option (It α)
  | .nil => none
  | .node _ k d v _ _ => some (k, d, v)

theorem find?_none_of {L : List (It α)} {f : It α → Bool} (h : ∀ i ∈ L, f i = false) : L.find? f = none := by
  rw [List.find?_eq_none]; intro i hi; simp [h i hi]

theorem find_top {T : Tr α} (key : Int) (h : Rising T.items) : (T.find key).top = getL key T.items := by
  unfold getL
  induction T with
  | nil => simp [Tr.find, Tr.items, Tr.top]
  | node p k d v l r ihl ihr =>
    obtain ⟨h1, h2, h3, h4, _⟩ := Rising.app h
    simp only at h3 h4
    unfold Tr.find
    by_cases hk : k = key
    · rw [if_pos hk]
      have e := find?_none_of (L := l.items) (f := fun i => decide (i.1 = key)) (fun i hi => by have := h3 i hi; simp; omega)
      simp [Tr.items, Tr.top, List.find?_append, e, hk]
    · rw [if_neg hk]
      by_cases hl : key < k
      · rw [if_pos hl, ihl h1]
        have e := find?_none_of (L := r.items) (f := fun i => decide (i.1 = key)) (fun i hi => by have := h4 i hi; simp; omega)
        simp [Tr.items, List.find?_append, e, hk]
      · rw [if_neg hl, ihr h2]
        have e := find?_none_of (L := l.items) (f := fun i => decide (i.1 = key)) (fun i hi => by have := h3 i hi; simp; omega)
        simp [Tr.items, List.find?_append, e, hk]

theorem ceil_top {T : Tr α} (key : Int) (h : Rising T.items) (x : Tr α) : (T.ceil key x).top = (ceilL key T.items).or x.top := by
  unfold ceilL
  induction T generalizing x with
  | nil => simp [Tr.ceil, Tr.items]
  | node p k d v l r ihl ihr =>
    obtain ⟨h1, h2, h3, h4, _⟩ := Rising.app h
    simp only at h3 h4
    unfold Tr.ceil
    by_cases hk : k < key
    · rw [if_pos hk, ihr h2]
      have e := find?_none_of (L := l.items) (f := fun i => !decide (i.1 < key)) (fun i hi => by have := h3 i hi; simp; omega)
      simp [Tr.items, List.find?_append, e, hk]
    · rw [if_neg hk, ihl h1]
      simp [Tr.items, List.find?_append, hk, Tr.top]

/-- There is one shape of given keys and draws. -/
theorem shape_uniq {β : Type} (T : Tr α) (U : Tr β) (e : Nat) (hT : T.Heap) (hU : U.Heap) (h : T.items.map (fun i => (i.1, i.2.1)) = U.items.map (fun i => (i.1, i.2.1))) : T.shape e = U.shape e := by
  induction T generalizing U e with
  | nil =>
    cases U with
    | nil => rfl
    | node p k d v l r => simp [Tr.items] at h
  | node p k d v l r ihl ihr =>
    cases U with
    | nil => simp [Tr.items] at h
    | node p' k' d' v' l' r' =>
      simp only [Tr.items, List.map_append, List.map_cons] at h
      have hlen : l.items.length = l'.items.length := by
        rcases Nat.lt_trichotomy l.items.length l'.items.length with hl | hl | hl
        · exfalso
          have g1 : (k, d) ∈ l'.items.map (fun i => (i.1, i.2.1)) := by
            have q := congrArg (fun z => z[l.items.length]?) h
            simp only [List.getElem?_append, List.length_map, Nat.lt_irrefl, if_false, Nat.sub_self, List.getElem?_cons_zero, hl, if_true] at q
            exact List.mem_of_getElem? q.symm
          have g2 : (k', d') ∈ r.items.map (fun i => (i.1, i.2.1)) := by
            have q := congrArg (fun z => z[l'.items.length]?) h
            have n1 : ¬ l'.items.length < l.items.length := by omega
            obtain ⟨m, hm⟩ : ∃ m, l'.items.length - l.items.length = m + 1 := ⟨l'.items.length - l.items.length - 1, by omega⟩
            simp only [List.getElem?_append, List.length_map, Nat.lt_irrefl, if_false, Nat.sub_self, List.getElem?_cons_zero, n1, hm, List.getElem?_cons_succ] at q
            exact List.mem_of_getElem? q
          obtain ⟨i, hi, ei⟩ := List.mem_map.1 g1
          obtain ⟨j, hj, ej⟩ := List.mem_map.1 g2
          have a1 := hU.1 i hi
          have a2 := hT.2.1 j hj
          simp only [Prod.mk.injEq] at ei ej
          rw [ei.1, ei.2] at a1; rw [ej.1, ej.2] at a2
          exact a1.asymm a2
        · exact hl
        · exfalso
          have g1 : (k', d') ∈ l.items.map (fun i => (i.1, i.2.1)) := by
            have q := congrArg (fun z => z[l'.items.length]?) h
            simp only [List.getElem?_append, List.length_map, Nat.lt_irrefl, if_false, Nat.sub_self, List.getElem?_cons_zero, hl, if_true] at q
            exact List.mem_of_getElem? q
          have g2 : (k, d) ∈ r'.items.map (fun i => (i.1, i.2.1)) := by
            have q := congrArg (fun z => z[l.items.length]?) h
            have n1 : ¬ l.items.length < l'.items.length := by omega
            obtain ⟨m, hm⟩ : ∃ m, l.items.length - l'.items.length = m + 1 := ⟨l.items.length - l'.items.length - 1, by omega⟩
            simp only [List.getElem?_append, List.length_map, Nat.lt_irrefl, if_false, Nat.sub_self, List.getElem?_cons_zero, n1, hm, List.getElem?_cons_succ] at q
            exact List.mem_of_getElem? q.symm
          obtain ⟨i, hi, ei⟩ := List.mem_map.1 g1
          obtain ⟨j, hj, ej⟩ := List.mem_map.1 g2
          have a1 := hT.1 i hi
          have a2 := hU.2.1 j hj
          simp only [Prod.mk.injEq] at ei ej
          rw [ei.1, ei.2] at a1; rw [ej.1, ej.2] at a2
          exact a1.asymm a2
      obtain ⟨e1, e2⟩ := List.append_inj h (by simpa using hlen)
      simp only [List.cons.injEq, Prod.mk.injEq] at e2
      simp only [Tr.shape]
      rw [ihl l' (e + 1) hT.2.2.1 hU.2.2.1 e1, ihr r' (e + 1) hT.2.2.2 hU.2.2.2 e2.2, e2.1.1]

/-- A tree of a rising row. -/
def treeOf : List (It α) → Tr α
  | [] => .nil
  | i :: L => (treeOf L).put 0 i.1 i.2.1 i.2.2

theorem treeOf_good (L : List (It α)) (h : Rising L) : (treeOf L).items = L ∧ (treeOf L).Heap := by
  induction L with
  | nil => exact ⟨rfl, trivial⟩
  | cons a L ih =>
    obtain ⟨h1, h2⟩ := List.pairwise_cons.1 h
    obtain ⟨e1, e2⟩ := ih h2
    have hn : ∀ i ∈ (treeOf L).items, i.1 ≠ a.1 := fun i hi => by rw [e1] at hi; have := h1 i hi; omega
    have hr : Rising (treeOf L).items := by rw [e1]; exact h2
    refine ⟨?_, put_heap 0 _ _ _ e2 hr hn⟩
    show ((treeOf L).put 0 a.1 a.2.1 a.2.2).items = _
    rw [put_items 0 _ _ _ hr hn, e1]
    obtain ⟨f1, f2⟩ := filter_ge_all (L := L) (key := a.1) (fun i hi => by have := h1 i hi; omega)
    simp [insL, f1, f2]

/-- The shape of a rising row. -/
def shp (L : List (It α)) : List (Int × Nat) := (treeOf L).shape 0

theorem shape_is {T : Tr α} (hh : T.Heap) (h : Rising T.items) : T.shape 0 = shp T.items :=
  shape_uniq T _ 0 hh (treeOf_good _ h).2 (by rw [(treeOf_good _ h).1])

theorem shp_length {L : List (It α)} (h : Rising L) : (shp L).length = L.length := by
  rw [shp, Tr.shape_length, ← Tr.size_items, (treeOf_good L h).1]

theorem shp_alike {β : Type} {L : List (It α)} {M : List (It β)} (hl : Rising L) (hm : Rising M) (h : L.map (fun i => (i.1, i.2.1)) = M.map (fun i => (i.1, i.2.1))) : shp L = shp M :=
  shape_uniq _ _ 0 (treeOf_good _ hl).2 (treeOf_good _ hm).2 (by rw [(treeOf_good _ hl).1, (treeOf_good _ hm).1, h])

/-- Two rising rows of the same items are one. -/
theorem rising_ext {L M : List (It α)} (hl : Rising L) (hm : Rising M) (h : ∀ i, i ∈ L ↔ i ∈ M) : L = M := by
  induction L generalizing M with
  | nil =>
    cases M with
    | nil => rfl
    | cons b M => exact absurd ((h b).2 (by simp)) (by simp)
  | cons a L ih =>
    cases M with
    | nil => exact absurd ((h a).1 (by simp)) (by simp)
    | cons b M =>
      obtain ⟨l1, l2⟩ := List.pairwise_cons.1 hl
      obtain ⟨m1, m2⟩ := List.pairwise_cons.1 hm
      have hab : a = b := by
        have ha := (h a).1 (by simp)
        have hb := (h b).2 (by simp)
        rcases List.mem_cons.1 ha with ha | ha
        · exact ha
        · rcases List.mem_cons.1 hb with hb | hb
          · exact hb.symm
          · have := m1 a ha; have := l1 b hb; omega
      subst hab
      congr 1
      refine ih l2 m2 fun i => ⟨fun hi => ?_, fun hi => ?_⟩
      · rcases List.mem_cons.1 ((h i).1 (by simp [hi])) with rfl | hi'
        · exact absurd (l1 i hi) (by omega)
        · exact hi'
      · rcases List.mem_cons.1 ((h i).2 (by simp [hi])) with rfl | hi'
        · exact absurd (m1 i hi) (by omega)
        · exact hi'
end lists
end Go.Proofs.Ytafamfjgehnddaa
