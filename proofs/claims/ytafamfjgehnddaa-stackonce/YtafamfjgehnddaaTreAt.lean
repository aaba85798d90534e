/- A tree that its head holds, and what becomes of it. (Of any program.) -/
import Derived.Test.YtafamfjgehnddaaTreMem
namespace Go.Proofs.Ytafamfjgehnddaa
open Go.RowKit
section trees
variable {α : Type} {S : Sh α}

/-- At block t (of type TT) lies the head of T, whose items are L. -/
structure TAt (S : Sh α) (TT : TypeId) (w : World) (t : Nat) (T : Tr α) (L : List (It α)) : Prop where
  head : w.heap[t]? = some (.cells #[.pointer T.adr, .int .i64 (L.length : Int)] TT (0, 0))
  inn : T.In S w
  own : T.Own
  out : ¬ T.Mem t
  items : T.items = L
  heap : T.Heap
  ris : Rising L

/-- The blocks of a tree. -/
def Ftp (t : Nat) (T : Tr α) (x : Nat) : Prop := x = t ∨ T.Mem x

theorem TAt.hung {TT : TypeId} {w : World} {t : Nat} {T : Tr α} {L : List (It α)} (h : TAt S TT w t T L) : Hung S w t 0 T := ⟨h.inn, h.own, h.out, ⟨_, _, h.head, rfl⟩⟩
theorem TAt.lt {TT : TypeId} {w : World} {t : Nat} {T : Tr α} {L : List (It α)} (h : TAt S TT w t T L) {x : Nat} (hx : Ftp t T x) : x < w.heap.size := by
  rcases hx with rfl | hx
  · exact lt_of_heap h.head
  · exact h.inn.lt hx
theorem TAt.kept {TT : TypeId} {w w' : World} {t : Nat} {T : Tr α} {L : List (It α)} {M : Nat → Prop} (h : TAt S TT w t T L) (o : Only M w w') (hn : ∀ x, Ftp t T x → ¬ M x) : TAt S TT w' t T L :=
  ⟨(o.block t (lt_of_heap h.head) (hn t (.inl rfl))).trans h.head, h.inn.kept o (fun x hx => hn x (.inr hx)), h.own, h.out, h.items, h.heap, h.ris⟩
theorem TAt.below {TT : TypeId} {w w' : World} {t : Nat} {T : Tr α} {L : List (It α)} (h : TAt S TT w t T L) (o : Below w.heap.size w w') : TAt S TT w' t T L :=
  h.kept (Below.only o (fun _ => False)) (fun _ _ h => h)
theorem TAt.alike {TT : TypeId} {w w' : World} {t : Nat} {T : Tr α} {L : List (It α)} (h : TAt S TT w t T L) (o : Alike w w') : TAt S TT w' t T L := h.below (o.below _)

/-- In w' the tree at t has the items L'; but for its own blocks, and new ones, the worlds are one. -/
def Turned (S : Sh α) (TT : TypeId) (w w' : World) (t : Nat) (T : Tr α) (L' : List (It α)) : Prop :=
  ∃ T', TAt S TT w' t T' L' ∧ Only (Ftp t T) w w' ∧ ∀ x, Ftp t T' x → Ftp t T x ∨ w.heap.size ≤ x

theorem Turned.left {TT : TypeId} {w u w' : World} {t : Nat} {T : Tr α} {L : List (It α)} (h : Turned S TT u w' t T L) (g : Alike w u) : Turned S TT w w' t T L := by
  obtain ⟨T', h1, h2, h3⟩ := h
  exact ⟨T', h1, h2.left g, fun x hx => by have := h3 x hx; rw [g.heap] at this; exact this⟩
theorem Turned.right {TT : TypeId} {w u w' : World} {t : Nat} {T : Tr α} {L : List (It α)} (h : Turned S TT w u t T L) (g : Below u.heap.size u w') : Turned S TT w w' t T L := by
  obtain ⟨T', h1, h2, h3⟩ := h
  exact ⟨T', h1.below g, h2.trans (Below.only g _), h3⟩

theorem Turned.leftBelow {TT : TypeId} {w u w' : World} {t : Nat} {T : Tr α} {L : List (It α)} (h : Turned S TT u w' t T L) (g : Below w.heap.size w u) : Turned S TT w w' t T L := by
  obtain ⟨T', h1, h2, h3⟩ := h
  exact ⟨T', h1, (Below.only g _).trans h2, fun x hx => (h3 x hx).imp (fun e => e) (fun e => Nat.le_trans g.size e)⟩
/-- What a cell holds. -/
def CellIs (b o : Nat) (v : Value) (u : World) : Prop := u.cell? ⟨b, o, none⟩ = some v

def CellsAre (b o : Nat) (v : Value) (b' o' : Nat) (v' : Value) (u : World) : Prop := u.cell? ⟨b, o, none⟩ = some v ∧ u.cell? ⟨b', o', none⟩ = some v'

theorem delL_length {key : Int} {L : List (It α)} {i : It α} (hr : Rising L) (h : getL key L = some i) : (delL key L).length + 1 = L.length := by
  induction L with
  | nil => simp [getL] at h
  | cons a L ih =>
    obtain ⟨h1, h2⟩ := List.pairwise_cons.1 hr
    by_cases ha : a.1 = key
    · have e := delL_none (L := L) (key := key) (fun i hi => by have := h1 i hi; omega)
      unfold delL at e ⊢
      simp [ha, e]
    · have e := ih h2 (by simpa [getL, ha] using h)
      unfold delL at e ⊢
      simp [ha]; omega

theorem Path.mem {b0 o0 b o : Nat} {T0 U : Tr α} {F : Tr α → Tr α} (h : Path S b0 o0 T0 b o U F) : ∀ x, U.Mem x → T0.Mem x := by
  induction h with
  | here => exact fun _ h => h
  | left _ ih => exact fun x hx => ih x (.inr (.inl hx))
  | right _ ih => exact fun x hx => ih x (.inr (.inr hx))

/-- A new node takes the two parts. -/
theorem Rep.newNode {w w2 : World} {b o : Nat} {U A B : Tr α} {key : Int} {draw : Nat} {v : α} {a0 b0 : Value} (h : Hung S w b o U)
    (g : Rep2 S (w.alloc (.cells (S.blk key draw v a0 b0) S.ty (0, 0))) w2 w.heap.size S.lo w.heap.size S.hi U.Mem A B) :
    Rep S w (w2.setCell ⟨b, o, none⟩ (.pointer (some ⟨w.heap.size, 0, none⟩))) b o U.Mem (.node w.heap.size key draw v A B) ∧
    w2.heap[b]? = w.heap[b]? := by
  have hb : b < w.heap.size := h.lk.lt
  have sz : (w.alloc (.cells (S.blk key draw v a0 b0) S.ty (0, 0))).heap.size = w.heap.size + 1 := by simp
  have s2 : w.heap.size + 1 ≤ w2.heap.size := by have := g.only.size; simp only [setCell_size, sz] at this; exact this
  have old : ∀ x, x < w.heap.size → ¬ U.Mem x → w2.heap[x]? = w.heap[x]? := by
    intro x hx hn
    rw [g.only.block x (by simp only [setCell_size, sz]; omega) hn, heap_setCell_ne (by omega), heap_setCell_ne (by omega)]
    exact Below.heap_alloc _ _ _ hx
  have nU : ¬ U.Mem w.heap.size := fun e => Nat.lt_irrefl _ (h.inn.lt e)
  have new : w2.heap[w.heap.size]? = some (.cells (S.blk key draw v A.ptr B.ptr) S.ty (0, 0)) := by
    rw [g.only.block _ (by simp only [setCell_size, sz]; omega) nU, heap_setCell_at (heap_setCell_at (heap_alloc_at w _) _), S.setL, S.setR]
  refine ⟨⟨⟨?_, ?_, ?_, ?_, fun x hx hn => ?_⟩, ⟨?_, ?_, ?_⟩, ⟨fun e => nU (g.subA _ e), fun e => nU (g.subB _ e), g.dis, g.ownA, g.ownB⟩, fun x hx => ?_⟩, old b hb h.out⟩
  · exact g.only.os
  · exact g.only.tape
  · exact g.only.output
  · simp only [setCell_size]; omega
  · simp only [setCell_size] at hx
    obtain ⟨c, e, c1, _⟩ := h.lk
    by_cases hxb : x = b
    · subst hxb
      rw [heap_setCell_at c1, heap_setCell_at ((old x hx hn).trans c1)]
      rfl
    · rw [heap_setCell_ne hxb, heap_setCell_ne hxb, old x hx hn]
  · rw [heap_setCell_ne (by omega)]; exact new
  · exact g.inA.set (fun e => h.out (g.subA _ e)) _ _
  · exact g.inB.set (fun e => h.out (g.subB _ e)) _ _
  · rcases hx with rfl | hx | hx
    · exact .inr (Nat.le_refl _)
    · exact .inl (g.subA x hx)
    · exact .inl (g.subB x hx)

/-- What hangs at the root is turned; the head's number is laid anew. -/
theorem Rep.headCell {TT : TypeId} {w w3 : World} {t : Nat} {T T' : Tr α} {L : List (It α)} (h : TAt S TT w t T L) (g : Rep S w w3 t 0 T.Mem T') :
    w3.heap[t]? = some (.cells #[.pointer T'.adr, .int .i64 (L.length : Int)] TT (0, 0)) := by
  rw [g.only.block t (by rw [setCell_size]; exact lt_of_heap h.head) h.out, heap_setCell_at h.head]
  rfl

theorem Rep.turned {TT : TypeId} {w w3 : World} {t : Nat} {T T' : Tr α} {L L' : List (It α)} (h : TAt S TT w t T L) (g : Rep S w w3 t 0 T.Mem T') (hi : T'.items = L') (hh : T'.Heap) (hr : Rising L') :
    Turned S TT w (w3.setCell ⟨t, 1, none⟩ (.int .i64 (L'.length : Int))) t T L' := by
  have ht : t < w.heap.size := lt_of_heap h.head
  have no : ¬ T'.Mem t := fun e => by
    rcases g.sub t e with e | e
    · exact h.out e
    · omega
  refine ⟨T', ⟨?_, g.inn.set no _ _, g.own, no, hi, hh, hr⟩, ⟨g.only.os, g.only.tape, g.only.output, ?_, fun x hx hn => ?_⟩, fun x hx => ?_⟩
  · rw [heap_setCell_at (g.headCell h)]; rfl
  · have := g.only.size; simp only [setCell_size] at this ⊢; exact this
  · rw [heap_setCell_ne (fun e => hn (.inl e)), g.only.block x (by rw [setCell_size]; exact hx) (fun e => hn (.inr e)), heap_setCell_ne (fun e => hn (.inl e))]
  · rcases hx with rfl | hx
    · exact .inl (.inl rfl)
    · rcases g.sub x hx with e | e
      · exact .inl (.inr e)
      · exact .inr e

theorem find_nil {T : Tr α} {L : List (It α)} (hi : T.items = L) (hr : Rising L) {key : Int} (h : getL key L = none) : T.find key = .nil := by
  have e := find_top (T := T) key (hi ▸ hr)
  rw [hi, h] at e
  revert e
  cases T.find key with
  | nil => exact fun _ => rfl
  | node p k d v l r => exact fun e => by simp [Tr.top] at e
theorem find_node {T : Tr α} {L : List (It α)} (hi : T.items = L) (hr : Rising L) {key k : Int} {d : Nat} {v : α} (h : getL key L = some (k, d, v)) : k = key ∧ ∃ p l r, T.find key = .node p k d v l r := by
  have e := find_top (T := T) key (hi ▸ hr)
  rw [hi, h] at e
  refine ⟨by have := List.find?_some h; simpa using this, ?_⟩
  revert e
  cases T.find key with
  | nil => exact fun e => by simp [Tr.top] at e
  | node p k' d' v' l r =>
    intro e
    simp [Tr.top] at e
    obtain ⟨rfl, rfl, rfl⟩ := e
    exact ⟨p, l, r, rfl⟩
theorem getL_none {L : List (It α)} {key : Int} (h : getL key L = none) : ∀ i ∈ L, i.1 ≠ key := by
  unfold getL at h
  rw [List.find?_eq_none] at h
  intro i hi
  simpa using h i hi
theorem ceil_nil {T : Tr α} {L : List (It α)} (hi : T.items = L) (hr : Rising L) {key : Int} (h : ceilL key L = none) : T.ceil key .nil = .nil := by
  have e := ceil_top (T := T) key (hi ▸ hr) .nil
  rw [hi, h] at e
  revert e
  cases T.ceil key .nil with
  | nil => exact fun _ => rfl
  | node p k d v l r => exact fun e => by simp [Tr.top] at e
theorem ceil_node {T : Tr α} {L : List (It α)} (hi : T.items = L) (hr : Rising L) {key k : Int} {d : Nat} {v : α} (h : ceilL key L = some (k, d, v)) : ∃ p l r, T.ceil key .nil = .node p k d v l r := by
  have e := ceil_top (T := T) key (hi ▸ hr) .nil
  rw [hi, h] at e
  revert e
  cases T.ceil key .nil with
  | nil => exact fun e => by simp [Tr.top] at e
  | node p k' d' v' l r =>
    intro e
    simp [Tr.top] at e
    obtain ⟨rfl, rfl, rfl⟩ := e
    exact ⟨p, l, r, rfl⟩
theorem put_at {U : Tr α} {key : Int} {draw : Nat} (h : U = .nil ∨ ∃ p k d v l r, U = .node p k d v l r ∧ ¬ Abv k d key draw) (n : Nat) (x : α) : U.put n key draw x = .node n key draw x (U.split key).1 (U.split key).2 := by
  rcases h with rfl | ⟨p, k, d, v, l, r, rfl, h⟩
  · rfl
  · rw [Tr.put, if_neg h]
/-- What a key that is dropped leaves. -/
theorem Rep.dropped {w w' : World} {b o p : Nat} {k : Int} {d : Nat} {v : α} {l r : Tr α} (g : Rep S w w' b o (fun x => l.Mem x ∨ r.Mem x) (l.join r)) : Rep S w w' b o (Tr.node p k d v l r).Mem ((Tr.node p k d v l r).drop k) := by
  rw [Tr.drop, if_pos rfl]
  exact ⟨g.only.mono (fun x _ hx => .inr hx), g.inn, g.own, fun x hx => (g.sub x hx).imp (fun e => .inr e) (fun e => e)⟩
theorem Hung.joinPre {w : World} {b o p : Nat} {k : Int} {d : Nat} {v : α} {l r : Tr α} (h : Hung S w b o (.node p k d v l r)) : JoinPre S w l r b o :=
  ⟨h.inn.2.1, h.inn.2.2, h.own.2.2.2.1, h.own.2.2.2.2, h.own.2.2.1, fun e => h.out (.inr (.inl e)), fun e => h.out (.inr (.inr e)), ⟨_, h.lk⟩⟩
/-- The node that is dropped lies as it lay. -/
theorem Rep.nodeKept {w w' : World} {b o p : Nat} {k : Int} {d : Nat} {v : α} {l r : Tr α} (h : Hung S w b o (.node p k d v l r)) (g : Rep S w w' b o (fun x => l.Mem x ∨ r.Mem x) (l.join r)) : w'.heap[p]? = w.heap[p]? := by
  have hp : p < w.heap.size := lt_of_heap h.inn.1
  rw [g.only.block p (by rw [setCell_size]; exact hp) (fun e => e.elim h.own.1 h.own.2.1), heap_setCell_ne (fun e => h.out (.inl e.symm))]
end trees
end Go.Proofs.Ytafamfjgehnddaa
