/- Trees in memory: each node at a block of its own, hung at a cell. (Of any program.) -/
import Derived.Test.YtafamfjgehnddaaTre
import Derived.Outline
import Derived.Deep.QuietTactic
import Derived.Carry
namespace Go.Proofs.Ytafamfjgehnddaa
open Go.RowKit

/-- How a node of values α lies in a block. -/
structure Sh (α : Type) where
  ty : TypeId
  blk : Int → Nat → α → Value → Value → Array Value
  lo : Nat
  hi : Nat
  ne : lo ≠ hi
  setL : ∀ k d v a b c, (blk k d v a b).setIfInBounds lo c = blk k d v c b
  setR : ∀ k d v a b c, (blk k d v a b).setIfInBounds hi c = blk k d v a c
  getL : ∀ k d v a b, (blk k d v a b)[lo]? = some a
  getR : ∀ k d v a b, (blk k d v a b)[hi]? = some b

/-- Worlds of one memory. -/
structure Alike (a b : World) : Prop where
  heap : b.heap = a.heap
  os : b.os = a.os
  tape : b.tape = a.tape
  output : b.output = a.output

theorem Alike.refl (a : World) : Alike a a := ⟨rfl, rfl, rfl, rfl⟩
theorem Alike.symm {a b : World} (h : Alike a b) : Alike b a := ⟨h.heap.symm, h.os.symm, h.tape.symm, h.output.symm⟩
theorem Alike.trans {a b c : World} (h : Alike a b) (g : Alike b c) : Alike a c := ⟨g.heap.trans h.heap, g.os.trans h.os, g.tape.trans h.tape, g.output.trans h.output⟩
theorem Alike.drewN (a : World) (n : Nat) : Alike a (a.drewN n) := ⟨rfl, rfl, rfl, rfl⟩
theorem Alike.setCell {a b : World} (h : Alike a b) (p : Addr) (v : Value) : Alike (a.setCell p v) (b.setCell p v) := by
  obtain ⟨h1, h2, h3, h4⟩ := h
  exact ⟨by simp only [World.setCell, h1], by simpa [World.setCell] using h2, by simpa [World.setCell] using h3, by simpa [World.setCell] using h4⟩
theorem Alike.only {a b : World} (h : Alike a b) (M : Nat → Prop) : Only M a b := ⟨h.os, h.tape, h.output, by rw [h.heap]; exact Nat.le_refl _, fun k _ _ => by rw [h.heap]⟩
theorem Alike.below {a b : World} (h : Alike a b) (n : Nat) : Below n a b := ⟨h.os, h.tape, h.output, by rw [h.heap]; exact Nat.le_refl _, fun k _ => by rw [h.heap]⟩
theorem Only.left {M : Nat → Prop} {a b c : World} (g : Only M b c) (h : Alike a b) : Only M a c :=
  ⟨g.os.trans h.os, g.tape.trans h.tape, g.output.trans h.output, by have := g.size; rw [h.heap] at this; exact this, fun k hk hn => (g.block k (by rw [h.heap]; exact hk) hn).trans (by rw [h.heap])⟩
theorem Only.right {M : Nat → Prop} {a b c : World} (g : Only M a b) (h : Alike b c) : Only M a c := g.trans (h.only M)

theorem heap_setCell_mem {w : World} {b o x : Nat} {v : Value} {P : Nat → Prop} (hx : P x) (hn : ¬ P b) : (w.setCell ⟨b, o, none⟩ v).heap[x]? = w.heap[x]? :=
  heap_setCell_ne (fun (e : x = b) => hn (e ▸ hx)) _

theorem setCell_size (w : World) (p : Addr) (v : Value) : (w.setCell p v).heap.size = w.heap.size := by simp [World.setCell]

/-- In the cell (b, o) lies v. -/
def Lk (w : World) (b o : Nat) (v : Value) : Prop := ∃ c e, w.heap[b]? = some (.cells c e (0, 0)) ∧ c[o]? = some v

theorem Lk.cell {w : World} {b o : Nat} {v : Value} (h : Lk w b o v) : w.cell? ⟨b, o, none⟩ = some v := by
  obtain ⟨c, e, h1, h2⟩ := h; exact (cell_of_heap h1).trans h2
theorem Lk.frozen {w : World} {b o : Nat} {v : Value} (h : Lk w b o v) : w.frozen? ⟨b, o, none⟩ = false := by
  obtain ⟨c, e, h1, _⟩ := h; exact frozen_of_heap h1
theorem Lk.lt {w : World} {b o : Nat} {v : Value} (h : Lk w b o v) : b < w.heap.size := by
  obtain ⟨c, e, h1, _⟩ := h; exact lt_of_heap h1
/-- Laying what lies there turns nothing. -/
theorem Lk.same {w : World} {b o : Nat} {v : Value} (h : Lk w b o v) (x : Nat) : (w.setCell ⟨b, o, none⟩ v).heap[x]? = w.heap[x]? := by
  obtain ⟨c, e, h1, h2⟩ := h
  by_cases hx : x = b
  · subst hx
    rw [heap_setCell_at h1, h1]
    congr 2
    apply Array.ext_getElem?
    intro i
    rw [Array.getElem?_setIfInBounds]
    by_cases hi : o = i
    · subst hi; rw [h2]
      have hs : o < c.size := by
        by_cases hs : o < c.size
        · exact hs
        · rw [Array.getElem?_eq_none (by omega)] at h2; cases h2
      simp [hs]
    · simp [hi]
  · exact heap_setCell_ne hx _
theorem Lk.kept {w w' : World} {b o : Nat} {v : Value} (h : Lk w b o v) (e : w'.heap[b]? = w.heap[b]?) : Lk w' b o v := by
  obtain ⟨c, t, h1, h2⟩ := h; exact ⟨c, t, e.trans h1, h2⟩
theorem Lk.set {w : World} {b o b' o' : Nat} {v u : Value} (h : Lk w b o v) (ne : ¬ (b = b' ∧ o = o')) : Lk (w.setCell ⟨b', o', none⟩ u) b o v := by
  by_cases hb : b = b'
  · subst hb
    obtain ⟨c, t, h1, h2⟩ := h
    exact ⟨_, t, heap_setCell_at h1 _, by rw [Array.getElem?_setIfInBounds]; have : o' ≠ o := fun e => ne ⟨rfl, e.symm⟩; simp [this, h2]⟩
  · exact h.kept (heap_setCell_ne hb _)
theorem Lk.alike {w w' : World} {b o : Nat} {v : Value} (h : Lk w b o v) (g : Alike w w') : Lk w' b o v := h.kept (by rw [g.heap])
/-- Laid in a cell that is there. -/
theorem Lk.setAt {w : World} {b o : Nat} {v : Value} (h : Lk w b o v) (u : Value) : Lk (w.setCell ⟨b, o, none⟩ u) b o u := by
  obtain ⟨c, t, h1, h2⟩ := h
  refine ⟨_, t, heap_setCell_at h1 _, ?_⟩
  have hs : o < c.size := by
    by_cases hs : o < c.size
    · exact hs
    · rw [Array.getElem?_eq_none (by omega)] at h2; cases h2
  simp [hs]

namespace Tr
variable {α : Type}
def adr : Tr α → Option Addr
  | nil => none
  | node p _ _ _ _ _ => some ⟨p, 0, none⟩
abbrev ptr (T : Tr α) : Value := .pointer T.adr
theorem adr_nil : (nil : Tr α).adr = none := rfl
theorem adr_node (p : Nat) (k : Int) (d : Nat) (v : α) (l r : Tr α) : (node p k d v l r).adr = some ⟨p, 0, none⟩ := rfl
def In (S : Sh α) (w : World) : Tr α → Prop
  | nil => True
  | node p k d v l r => w.heap[p]? = some (.cells (S.blk k d v l.ptr r.ptr) S.ty (0, 0)) ∧ l.In S w ∧ r.In S w

theorem In.lt {S : Sh α} {w : World} {T : Tr α} (h : T.In S w) {x : Nat} (hx : T.Mem x) : x < w.heap.size := by
  induction T with
  | nil => exact hx.elim
  | node p k d v l r ihl ihr =>
    rcases hx with rfl | hx | hx
    · exact lt_of_heap h.1
    · exact ihl h.2.1 hx
    · exact ihr h.2.2 hx
theorem In.same {S : Sh α} {w w' : World} {T : Tr α} (h : T.In S w) (e : ∀ x, T.Mem x → w'.heap[x]? = w.heap[x]?) : T.In S w' := by
  induction T with
  | nil => trivial
  | node p k d v l r ihl ihr =>
    exact ⟨(e p (.inl rfl)).trans h.1, ihl h.2.1 (fun x hx => e x (.inr (.inl hx))), ihr h.2.2 (fun x hx => e x (.inr (.inr hx)))⟩
theorem In.kept {S : Sh α} {w w' : World} {T : Tr α} {M : Nat → Prop} (h : T.In S w) (o : Only M w w') (hn : ∀ x, T.Mem x → ¬ M x) : T.In S w' :=
  h.same fun x hx => o.block x (h.lt hx) (hn x hx)
theorem In.set {S : Sh α} {w : World} {T : Tr α} (h : T.In S w) {b : Nat} (hn : ¬ T.Mem b) (o : Nat) (u : Value) : T.In S (w.setCell ⟨b, o, none⟩ u) :=
  h.same fun _ hx => heap_setCell_mem hx hn
end Tr

section trees
variable {α : Type} {S : Sh α}

/-- In w' the tree T hangs at (b, o); but for this cell, for M and for new blocks the worlds are one. -/
structure Rep (S : Sh α) (w w' : World) (b o : Nat) (M : Nat → Prop) (T : Tr α) : Prop where
  only : Only M (w.setCell ⟨b, o, none⟩ T.ptr) w'
  inn : T.In S w'
  own : T.Own
  sub : ∀ x, T.Mem x → M x ∨ w.heap.size ≤ x

theorem Rep.left {w u w' : World} {b o : Nat} {M : Nat → Prop} {T : Tr α} (h : Rep S u w' b o M T) (g : Alike w u) : Rep S w w' b o M T :=
  ⟨h.only.left (g.setCell _ _), h.inn, h.own, fun x hx => by have := h.sub x hx; rw [g.heap] at this; exact this⟩
theorem Rep.right {w u w' : World} {b o : Nat} {M : Nat → Prop} {T : Tr α} (h : Rep S w u b o M T) (g : Alike u w') : Rep S w w' b o M T :=
  ⟨h.only.right g, h.inn.same (fun x _ => by rw [g.heap]), h.own, h.sub⟩

/-- The way from the cell (b0, o0), at which T0 hangs, to a cell at which T hangs; F lays another tree in T's place. -/
inductive Path (S : Sh α) (b0 o0 : Nat) (T0 : Tr α) : Nat → Nat → Tr α → (Tr α → Tr α) → Prop
  | here : Path S b0 o0 T0 b0 o0 T0 (fun x => x)
  | left {b o p : Nat} {k : Int} {d : Nat} {v : α} {l r : Tr α} {F : Tr α → Tr α} (h : Path S b0 o0 T0 b o (.node p k d v l r) F) : Path S b0 o0 T0 p S.lo l (fun x => F (.node p k d v x r))
  | right {b o p : Nat} {k : Int} {d : Nat} {v : α} {l r : Tr α} {F : Tr α → Tr α} (h : Path S b0 o0 T0 b o (.node p k d v l r) F) : Path S b0 o0 T0 p S.hi r (fun x => F (.node p k d v l x))

/-- A tree that hangs at (b, o). -/
structure Hung (S : Sh α) (w : World) (b o : Nat) (T : Tr α) : Prop where
  inn : T.In S w
  own : T.Own
  out : ¬ T.Mem b
  lk : Lk w b o T.ptr

theorem Hung.left {w : World} {b o p : Nat} {k : Int} {d : Nat} {v : α} {l r : Tr α} (h : Hung S w b o (.node p k d v l r)) : Hung S w p S.lo l :=
  ⟨h.inn.2.1, h.own.2.2.2.1, h.own.1, ⟨_, _, h.inn.1, S.getL _ _ _ _ _⟩⟩
theorem Hung.right {w : World} {b o p : Nat} {k : Int} {d : Nat} {v : α} {l r : Tr α} (h : Hung S w b o (.node p k d v l r)) : Hung S w p S.hi r :=
  ⟨h.inn.2.2, h.own.2.2.2.2, h.own.2.1, ⟨_, _, h.inn.1, S.getR _ _ _ _ _⟩⟩
theorem Hung.same {w w' : World} {b o : Nat} {T : Tr α} (h : Hung S w b o T) (e : ∀ x, x < w.heap.size → w'.heap[x]? = w.heap[x]?) : Hung S w' b o T :=
  ⟨h.inn.same (fun x hx => e x (h.inn.lt hx)), h.own, h.out, h.lk.kept (e b h.lk.lt)⟩
theorem Hung.alike {w w' : World} {b o : Nat} {T : Tr α} (h : Hung S w b o T) (g : Alike w w') : Hung S w' b o T := h.same (fun x _ => by rw [g.heap])

theorem Rep.up_left {w w' : World} {b o p : Nat} {k : Int} {d : Nat} {v : α} {l r l' : Tr α} (h : Hung S w b o (.node p k d v l r)) (g : Rep S w w' p S.lo l.Mem l') :
    Rep S w w' b o (Tr.node p k d v l r).Mem (.node p k d v l' r) := by
  obtain ⟨hin, hown, hout, hlk⟩ := h
  have hp : p < w.heap.size := lt_of_heap hin.1
  refine ⟨⟨?_, ?_, ?_, ?_, fun x hx hn => ?_⟩, ⟨?_, g.inn, ?_⟩, ⟨fun hm => ?_, hown.2.1, fun x hx hr => ?_, g.own, hown.2.2.2.2⟩, fun x hx => ?_⟩
  · exact g.only.os
  · exact g.only.tape
  · exact g.only.output
  · have := g.only.size; rw [setCell_size] at this ⊢; exact this
  · rw [setCell_size] at hx
    rw [g.only.block x (by rw [setCell_size]; exact hx) (fun h => hn (.inr (.inl h))), heap_setCell_ne (fun e => hn (.inl e))]
    exact (hlk.same x).symm
  · rw [g.only.block p (by rw [setCell_size]; exact hp) hown.1, heap_setCell_at hin.1, S.setL]
  · exact hin.2.2.same fun x hx => by
      rw [g.only.block x (by rw [setCell_size]; exact hin.2.2.lt hx) (fun hl => hown.2.2.1 x hl hx), heap_setCell_mem hx hown.2.1]
  · rcases g.sub p hm with hm | hm
    · exact hown.1 hm
    · omega
  · rcases g.sub x hx with hm | hm
    · exact hown.2.2.1 x hm hr
    · have := hin.2.2.lt hr; omega
  · rcases hx with rfl | hx | hx
    · exact .inl (.inl rfl)
    · rcases g.sub x hx with hm | hm
      · exact .inl (.inr (.inl hm))
      · exact .inr hm
    · exact .inl (.inr (.inr hx))

theorem Rep.up_right {w w' : World} {b o p : Nat} {k : Int} {d : Nat} {v : α} {l r r' : Tr α} (h : Hung S w b o (.node p k d v l r)) (g : Rep S w w' p S.hi r.Mem r') :
    Rep S w w' b o (Tr.node p k d v l r).Mem (.node p k d v l r') := by
  obtain ⟨hin, hown, hout, hlk⟩ := h
  have hp : p < w.heap.size := lt_of_heap hin.1
  refine ⟨⟨?_, ?_, ?_, ?_, fun x hx hn => ?_⟩, ⟨?_, ?_, g.inn⟩, ⟨hown.1, fun hm => ?_, fun x hl hx => ?_, hown.2.2.2.1, g.own⟩, fun x hx => ?_⟩
  · exact g.only.os
  · exact g.only.tape
  · exact g.only.output
  · have := g.only.size; rw [setCell_size] at this ⊢; exact this
  · rw [setCell_size] at hx
    rw [g.only.block x (by rw [setCell_size]; exact hx) (fun h => hn (.inr (.inr h))), heap_setCell_ne (fun e => hn (.inl e))]
    exact (hlk.same x).symm
  · rw [g.only.block p (by rw [setCell_size]; exact hp) hown.2.1, heap_setCell_at hin.1, S.setR]
  · exact hin.2.1.same fun x hx => by
      rw [g.only.block x (by rw [setCell_size]; exact hin.2.1.lt hx) (fun hr => hown.2.2.1 x hx hr), heap_setCell_mem hx hown.1]
  · rcases g.sub p hm with hm | hm
    · exact hown.2.1 hm
    · omega
  · rcases g.sub x hx with hm | hm
    · exact hown.2.2.1 x hl hm
    · have := hin.2.1.lt hl; omega
  · rcases hx with rfl | hx | hx
    · exact .inl (.inl rfl)
    · exact .inl (.inr (.inl hx))
    · rcases g.sub x hx with hm | hm
      · exact .inl (.inr (.inr hm))
      · exact .inr hm

theorem Path.hung {w : World} {b0 o0 b o : Nat} {T0 T : Tr α} {F : Tr α → Tr α} (h : Path S b0 o0 T0 b o T F) (h0 : Hung S w b0 o0 T0) : Hung S w b o T := by
  induction h with
  | here => exact h0
  | left _ ih => exact ih.left
  | right _ ih => exact ih.right
theorem Path.sub {b0 o0 b o : Nat} {T0 T : Tr α} {F : Tr α → Tr α} (h : Path S b0 o0 T0 b o T F) : ∀ x, (x = b ∨ T.Mem x) → (x = b0 ∨ T0.Mem x) := by
  induction h with
  | here => exact fun _ h => h
  | left _ ih => exact fun x hx => ih x (.inr (hx.elim .inl fun h => .inr (.inl h)))
  | right _ ih => exact fun x hx => ih x (.inr (hx.elim .inl fun h => .inr (.inr h)))
/-- What is turned at the end of a way is turned from its start on. -/
theorem Path.rep {w w' : World} {b0 o0 b o : Nat} {T0 T : Tr α} {F : Tr α → Tr α} (h : Path S b0 o0 T0 b o T F) (h0 : Hung S w b0 o0 T0) : ∀ {T' : Tr α}, Rep S w w' b o T.Mem T' → Rep S w w' b0 o0 T0.Mem (F T') := by
  induction h with
  | here => exact fun g => g
  | left h ih => exact fun g => ih (Rep.up_left (h.hung h0) g)
  | right h ih => exact fun g => ih (Rep.up_right (h.hung h0) g)

/-- In w' the trees A, B hang at two cells. -/
structure Rep2 (S : Sh α) (w w' : World) (b1 o1 b2 o2 : Nat) (M : Nat → Prop) (A B : Tr α) : Prop where
  only : Only M ((w.setCell ⟨b1, o1, none⟩ A.ptr).setCell ⟨b2, o2, none⟩ B.ptr) w'
  inA : A.In S w'
  inB : B.In S w'
  ownA : A.Own
  ownB : B.Own
  dis : ∀ x, A.Mem x → ¬ B.Mem x
  subA : ∀ x, A.Mem x → M x
  subB : ∀ x, B.Mem x → M x

theorem Rep2.left {w u w' : World} {b1 o1 b2 o2 : Nat} {M : Nat → Prop} {A B : Tr α} (h : Rep2 S u w' b1 o1 b2 o2 M A B) (g : Alike w u) : Rep2 S w w' b1 o1 b2 o2 M A B :=
  ⟨h.only.left ((g.setCell _ _).setCell _ _), h.inA, h.inB, h.ownA, h.ownB, h.dis, h.subA, h.subB⟩

/-- What split starts from. -/
structure SplPre (S : Sh α) (w : World) (T : Tr α) (b1 o1 b2 o2 : Nat) : Prop where
  inn : T.In S w
  own : T.Own
  out1 : ¬ T.Mem b1
  out2 : ¬ T.Mem b2
  ne : ¬ (b2 = b1 ∧ o2 = o1)
  lk1 : ∃ u, Lk w b1 o1 u
  lk2 : ∃ u, Lk w b2 o2 u

theorem SplPre.alike {w u : World} {T : Tr α} {b1 o1 b2 o2 : Nat} (h : SplPre S w T b1 o1 b2 o2) (g : Alike w u) : SplPre S u T b1 o1 b2 o2 :=
  ⟨h.inn.same (fun x _ => by rw [g.heap]), h.own, h.out1, h.out2, h.ne, h.lk1.imp fun _ l => l.alike g, h.lk2.imp fun _ l => l.alike g⟩

theorem SplPre.less {w : World} {b1 o1 b2 o2 p : Nat} {k : Int} {d : Nat} {v : α} {l r : Tr α} (h : SplPre S w (.node p k d v l r) b1 o1 b2 o2) :
    SplPre S (w.setCell ⟨b1, o1, none⟩ (.pointer (some ⟨p, 0, none⟩))) r p S.hi b2 o2 := by
  have n1 : p ≠ b1 := fun e => h.out1 (.inl e.symm)
  have n2 : p ≠ b2 := fun e => h.out2 (.inl e.symm)
  refine ⟨h.inn.2.2.set (fun hm => h.out1 (.inr (.inr hm))) _ _, h.own.2.2.2.2, h.own.2.1, fun hm => h.out2 (.inr (.inr hm)), fun e => n2 e.1.symm, ⟨r.ptr, _, _, (heap_setCell_ne n1 _).trans h.inn.1, S.getR _ _ _ _ _⟩, h.lk2.imp fun u lk => lk.set h.ne⟩

theorem SplPre.more {w : World} {b1 o1 b2 o2 p : Nat} {k : Int} {d : Nat} {v : α} {l r : Tr α} (h : SplPre S w (.node p k d v l r) b1 o1 b2 o2) :
    SplPre S (w.setCell ⟨b2, o2, none⟩ (.pointer (some ⟨p, 0, none⟩))) l b1 o1 p S.lo := by
  have n1 : p ≠ b1 := fun e => h.out1 (.inl e.symm)
  have n2 : p ≠ b2 := fun e => h.out2 (.inl e.symm)
  refine ⟨h.inn.2.1.set (fun hm => h.out2 (.inr (.inl hm))) _ _, h.own.2.2.2.1, fun hm => h.out1 (.inr (.inl hm)), h.own.1, fun e => n1 e.1, h.lk1.imp fun u lk => lk.set (fun e => h.ne ⟨e.1.symm, e.2.symm⟩), ⟨l.ptr, _, _, (heap_setCell_ne n2 _).trans h.inn.1, S.getL _ _ _ _ _⟩⟩

theorem Rep2.less {w w' : World} {b1 o1 b2 o2 p : Nat} {k key : Int} {d : Nat} {v : α} {l r : Tr α} (h : SplPre S w (.node p k d v l r) b1 o1 b2 o2) (hk : k < key)
    (g : Rep2 S (w.setCell ⟨b1, o1, none⟩ (.pointer (some ⟨p, 0, none⟩))) w' p S.hi b2 o2 r.Mem (r.split key).1 (r.split key).2) :
    Rep2 S w w' b1 o1 b2 o2 (Tr.node p k d v l r).Mem ((Tr.node p k d v l r).split key).1 ((Tr.node p k d v l r).split key).2 := by
  have n1 : p ≠ b1 := fun e => h.out1 (.inl e.symm)
  have n2 : p ≠ b2 := fun e => h.out2 (.inl e.symm)
  have hp : p < w.heap.size := lt_of_heap h.inn.1
  have ho := h.own
  have blk : ∀ x, x < w.heap.size → ¬ r.Mem x → x ≠ p → w'.heap[x]? = ((w.setCell ⟨b1, o1, none⟩ (.pointer (some ⟨p, 0, none⟩))).setCell ⟨b2, o2, none⟩ (r.split key).2.ptr).heap[x]? := by
    intro x hx hr hxp
    rw [g.only.block x (by simp only [setCell_size]; exact hx) hr]
    by_cases hb : x = b2
    · subst hb
      obtain ⟨u, c, e, c1, c2⟩ := h.lk2
      by_cases hb1 : x = b1
      · subst hb1
        have q := heap_setCell_at (o := o1) c1 (.pointer (some ⟨p, 0, none⟩))
        rw [heap_setCell_at ((heap_setCell_ne (fun e => n2 e.symm) _).trans q), heap_setCell_at q]
      · have q := (heap_setCell_ne (o := o1) hb1 (.pointer (some ⟨p, 0, none⟩))).trans c1
        rw [heap_setCell_at ((heap_setCell_ne (fun e => n2 e.symm) _).trans q), heap_setCell_at q]
    · rw [heap_setCell_ne hb, heap_setCell_ne hxp, heap_setCell_ne hb]
  simp only [Tr.split, hk, if_true]
  refine ⟨⟨g.only.os, g.only.tape, g.only.output, ?_, fun x hx hn => ?_⟩, ⟨?_, ?_, g.inA⟩, g.inB, ⟨ho.1, fun hm => ho.2.1 (g.subA p hm), fun x hl hm => ho.2.2.1 x hl (g.subA x hm), ho.2.2.2.1, g.ownA⟩, g.ownB, fun x hx hb => ?_, fun x hx => ?_, fun x hx => .inr (.inr (g.subB x hx))⟩
  · have := g.only.size; simp only [setCell_size] at this ⊢; exact this
  · simp only [setCell_size] at hx
    exact blk x hx (fun hr => hn (.inr (.inr hr))) (fun e => hn (.inl e))
  · rw [g.only.block p (by simp only [setCell_size]; exact hp) ho.2.1, heap_setCell_ne n2, heap_setCell_at ((heap_setCell_ne n1 _).trans h.inn.1), S.setR]
  · refine h.inn.2.1.same fun x hx => ?_
    rw [blk x (h.inn.2.1.lt hx) (fun hr => ho.2.2.1 x hx hr) (fun e => ho.1 (e ▸ hx)), heap_setCell_mem hx (fun m => h.out2 (.inr (.inl m))), heap_setCell_mem hx (fun m => h.out1 (.inr (.inl m)))]
  · rcases hx with rfl | hx | hx
    · exact ho.2.1 (g.subB _ hb)
    · exact ho.2.2.1 x hx (g.subB x hb)
    · exact g.dis x hx hb
  · rcases hx with rfl | hx | hx
    · exact .inl rfl
    · exact .inr (.inl hx)
    · exact .inr (.inr (g.subA x hx))

theorem Rep2.more {w w' : World} {b1 o1 b2 o2 p : Nat} {k key : Int} {d : Nat} {v : α} {l r : Tr α} (h : SplPre S w (.node p k d v l r) b1 o1 b2 o2) (hk : ¬ k < key)
    (g : Rep2 S (w.setCell ⟨b2, o2, none⟩ (.pointer (some ⟨p, 0, none⟩))) w' b1 o1 p S.lo l.Mem (l.split key).1 (l.split key).2) :
    Rep2 S w w' b1 o1 b2 o2 (Tr.node p k d v l r).Mem ((Tr.node p k d v l r).split key).1 ((Tr.node p k d v l r).split key).2 := by
  have n1 : p ≠ b1 := fun e => h.out1 (.inl e.symm)
  have n2 : p ≠ b2 := fun e => h.out2 (.inl e.symm)
  have hp : p < w.heap.size := lt_of_heap h.inn.1
  have ho := h.own
  have blk : ∀ x, x < w.heap.size → ¬ l.Mem x → x ≠ p → w'.heap[x]? = ((w.setCell ⟨b1, o1, none⟩ (l.split key).1.ptr).setCell ⟨b2, o2, none⟩ (.pointer (some ⟨p, 0, none⟩))).heap[x]? := by
    intro x hx hr hxp
    rw [g.only.block x (by simp only [setCell_size]; exact hx) hr, heap_setCell_ne hxp]
    by_cases hb : x = b1
    · subst hb
      obtain ⟨u, c, e, c1, c2⟩ := h.lk1
      by_cases hb2 : x = b2
      · subst hb2
        rw [heap_setCell_at (heap_setCell_at c1 _), heap_setCell_at (heap_setCell_at c1 _)]
        congr 2
        rw [Array.setIfInBounds_comm _ _ (fun e => h.ne ⟨rfl, e⟩)]
      · rw [heap_setCell_at ((heap_setCell_ne hb2 _).trans c1), heap_setCell_ne hb2, heap_setCell_at c1]
    · rw [heap_setCell_ne hb]
      by_cases hb2 : x = b2
      · subst hb2
        obtain ⟨u, c, e, c1, c2⟩ := h.lk2
        rw [heap_setCell_at c1, heap_setCell_at ((heap_setCell_ne hb _).trans c1)]
      · rw [heap_setCell_ne hb2, heap_setCell_ne hb2, heap_setCell_ne hb]
  simp only [Tr.split, hk, if_false]
  refine ⟨⟨g.only.os, g.only.tape, g.only.output, ?_, fun x hx hn => ?_⟩, g.inA, ⟨?_, g.inB, ?_⟩, g.ownA, ⟨fun hm => ho.1 (g.subB p hm), ho.2.1, fun x hm hr => ho.2.2.1 x (g.subB x hm) hr, g.ownB, ho.2.2.2.2⟩, fun x hx hb => ?_, fun x hx => .inr (.inl (g.subA x hx)), fun x hx => ?_⟩
  · have := g.only.size; simp only [setCell_size] at this ⊢; exact this
  · simp only [setCell_size] at hx
    exact blk x hx (fun hr => hn (.inr (.inl hr))) (fun e => hn (.inl e))
  · rw [g.only.block p (by simp only [setCell_size]; exact hp) ho.1, heap_setCell_at ((heap_setCell_ne n1 _).trans ((heap_setCell_ne n2 _).trans h.inn.1)), S.setL]
  · refine h.inn.2.2.same fun x hx => ?_
    rw [blk x (h.inn.2.2.lt hx) (fun hl => ho.2.2.1 x hl hx) (fun e => ho.2.1 (e ▸ hx)), heap_setCell_mem hx (fun m => h.out2 (.inr (.inr m))), heap_setCell_mem hx (fun m => h.out1 (.inr (.inr m)))]
  · rcases hb with rfl | hb | hb
    · exact ho.1 (g.subA _ hx)
    · exact g.dis x hx hb
    · exact ho.2.2.1 x (g.subA x hx) hb
  · rcases hx with rfl | hx | hx
    · exact .inl rfl
    · exact .inr (.inl (g.subB x hx))
    · exact .inr (.inr hx)

theorem Rep2.nil (w : World) (b1 o1 b2 o2 : Nat) (key : Int) :
    Rep2 S w ((w.setCell ⟨b1, o1, none⟩ (.pointer none)).setCell ⟨b2, o2, none⟩ (.pointer none)) b1 o1 b2 o2 (Tr.nil : Tr α).Mem ((Tr.nil : Tr α).split key).1 ((Tr.nil : Tr α).split key).2 :=
  ⟨Only.refl _ _, trivial, trivial, trivial, trivial, fun _ h => h.elim, fun _ h => h.elim, fun _ h => h.elim⟩

/-- What join starts from. -/
structure JoinPre (S : Sh α) (w : World) (A B : Tr α) (b o : Nat) : Prop where
  inA : A.In S w
  inB : B.In S w
  ownA : A.Own
  ownB : B.Own
  dis : ∀ x, A.Mem x → ¬ B.Mem x
  outA : ¬ A.Mem b
  outB : ¬ B.Mem b
  lk : ∃ u, Lk w b o u

theorem JoinPre.alike {w u : World} {A B : Tr α} {b o : Nat} (h : JoinPre S w A B b o) (g : Alike w u) : JoinPre S u A B b o :=
  ⟨h.inA.same (fun x _ => by rw [g.heap]), h.inB.same (fun x _ => by rw [g.heap]), h.ownA, h.ownB, h.dis, h.outA, h.outB, h.lk.imp fun _ l => l.alike g⟩

theorem JoinPre.toA {w : World} {b o p : Nat} {k : Int} {d : Nat} {v : α} {l r B : Tr α} (h : JoinPre S w (.node p k d v l r) B b o) :
    JoinPre S (w.setCell ⟨b, o, none⟩ (.pointer (some ⟨p, 0, none⟩))) r B p S.hi := by
  have n1 : p ≠ b := fun e => h.outA (.inl e.symm)
  exact ⟨h.inA.2.2.set (fun hm => h.outA (.inr (.inr hm))) _ _, h.inB.set h.outB _ _, h.ownA.2.2.2.2, h.ownB, fun x hx => h.dis x (.inr (.inr hx)), h.ownA.2.1, h.dis p (.inl rfl), ⟨r.ptr, _, _, (heap_setCell_ne n1 _).trans h.inA.1, S.getR _ _ _ _ _⟩⟩

theorem JoinPre.toB {w : World} {b o p : Nat} {k : Int} {d : Nat} {v : α} {l r A : Tr α} (h : JoinPre S w A (.node p k d v l r) b o) :
    JoinPre S (w.setCell ⟨b, o, none⟩ (.pointer (some ⟨p, 0, none⟩))) A l p S.lo := by
  have n1 : p ≠ b := fun e => h.outB (.inl e.symm)
  exact ⟨h.inA.set h.outA _ _, h.inB.2.1.set (fun hm => h.outB (.inr (.inl hm))) _ _, h.ownA, h.ownB.2.2.2.1, fun x hx hm => h.dis x hx (.inr (.inl hm)), fun hm => h.dis p hm (.inl rfl), h.ownB.1, ⟨l.ptr, _, _, (heap_setCell_ne n1 _).trans h.inB.1, S.getL _ _ _ _ _⟩⟩

theorem Rep.toA {w w' : World} {b o p : Nat} {k : Int} {d : Nat} {v : α} {l r B J : Tr α} (h : JoinPre S w (.node p k d v l r) B b o)
    (g : Rep S (w.setCell ⟨b, o, none⟩ (.pointer (some ⟨p, 0, none⟩))) w' p S.hi (fun x => r.Mem x ∨ B.Mem x) J) :
    Rep S w w' b o (fun x => (Tr.node p k d v l r).Mem x ∨ B.Mem x) (.node p k d v l J) := by
  have n1 : p ≠ b := fun e => h.outA (.inl e.symm)
  have hp : p < w.heap.size := lt_of_heap h.inA.1
  have ho := h.ownA
  have nJ : ∀ x, x < w.heap.size → J.Mem x → r.Mem x ∨ B.Mem x := fun x hx hm => (g.sub x hm).resolve_right (by rw [setCell_size]; omega)
  refine ⟨⟨g.only.os, g.only.tape, g.only.output, ?_, fun x hx hn => ?_⟩, ⟨?_, ?_, g.inn⟩, ⟨ho.1, fun hm => ?_, fun x hl hm => ?_, ho.2.2.2.1, g.own⟩, fun x hx => ?_⟩
  · have := g.only.size; simp only [setCell_size] at this ⊢; exact this
  · simp only [setCell_size] at hx
    rw [g.only.block x (by simp only [setCell_size]; exact hx) (fun e => e.elim (fun e => hn (.inl (.inr (.inr e)))) (fun e => hn (.inr e))), heap_setCell_ne (fun e => hn (.inl (.inl e)))]
    rfl
  · rw [g.only.block p (by simp only [setCell_size]; exact hp) (fun e => e.elim ho.2.1 (h.dis p (.inl rfl))), heap_setCell_at ((heap_setCell_ne n1 _).trans h.inA.1), S.setR]
  · refine h.inA.2.1.same fun x hx => ?_
    rw [g.only.block x (by simp only [setCell_size]; exact h.inA.2.1.lt hx) (fun e => e.elim (ho.2.2.1 x hx) (h.dis x (.inr (.inl hx)))), heap_setCell_mem hx ho.1, heap_setCell_mem hx (fun m => h.outA (.inr (.inl m)))]
  · exact (nJ p hp hm).elim ho.2.1 (h.dis p (.inl rfl))
  · exact (nJ x (h.inA.2.1.lt hl) hm).elim (ho.2.2.1 x hl) (h.dis x (.inr (.inl hl)))
  · rcases hx with rfl | hx | hx
    · exact .inl (.inl (.inl rfl))
    · exact .inl (.inl (.inr (.inl hx)))
    · rcases g.sub x hx with (hm | hm) | hm
      · exact .inl (.inl (.inr (.inr hm)))
      · exact .inl (.inr hm)
      · rw [setCell_size] at hm; exact .inr hm

theorem Rep.toB {w w' : World} {b o p : Nat} {k : Int} {d : Nat} {v : α} {l r A J : Tr α} (h : JoinPre S w A (.node p k d v l r) b o)
    (g : Rep S (w.setCell ⟨b, o, none⟩ (.pointer (some ⟨p, 0, none⟩))) w' p S.lo (fun x => A.Mem x ∨ l.Mem x) J) :
    Rep S w w' b o (fun x => A.Mem x ∨ (Tr.node p k d v l r).Mem x) (.node p k d v J r) := by
  have n1 : p ≠ b := fun e => h.outB (.inl e.symm)
  have hp : p < w.heap.size := lt_of_heap h.inB.1
  have ho := h.ownB
  have nJ : ∀ x, x < w.heap.size → J.Mem x → A.Mem x ∨ l.Mem x := fun x hx hm => (g.sub x hm).resolve_right (by rw [setCell_size]; omega)
  refine ⟨⟨g.only.os, g.only.tape, g.only.output, ?_, fun x hx hn => ?_⟩, ⟨?_, g.inn, ?_⟩, ⟨fun hm => ?_, ho.2.1, fun x hm hr => ?_, g.own, ho.2.2.2.2⟩, fun x hx => ?_⟩
  · have := g.only.size; simp only [setCell_size] at this ⊢; exact this
  · simp only [setCell_size] at hx
    rw [g.only.block x (by simp only [setCell_size]; exact hx) (fun e => e.elim (fun e => hn (.inl e)) (fun e => hn (.inr (.inr (.inl e))))), heap_setCell_ne (fun e => hn (.inr (.inl e)))]
    rfl
  · rw [g.only.block p (by simp only [setCell_size]; exact hp) (fun e => e.elim (fun e => h.dis p e (.inl rfl)) ho.1), heap_setCell_at ((heap_setCell_ne n1 _).trans h.inB.1), S.setL]
  · refine h.inB.2.2.same fun x hx => ?_
    rw [g.only.block x (by simp only [setCell_size]; exact h.inB.2.2.lt hx) (fun e => e.elim (fun e => h.dis x e (.inr (.inr hx))) (fun e => ho.2.2.1 x e hx)), heap_setCell_mem hx ho.2.1, heap_setCell_mem hx (fun m => h.outB (.inr (.inr m)))]
  · exact (nJ p hp hm).elim (fun e => h.dis p e (.inl rfl)) ho.1
  · exact (nJ x (h.inB.2.2.lt hr) hm).elim (fun e => h.dis x e (.inr (.inr hr))) (fun e => ho.2.2.1 x e hr)
  · rcases hx with rfl | hx | hx
    · exact .inl (.inr (.inl rfl))
    · rcases g.sub x hx with (hm | hm) | hm
      · exact .inl (.inl hm)
      · exact .inl (.inr (.inr (.inl hm)))
      · rw [setCell_size] at hm; exact .inr hm
    · exact .inl (.inr (.inr (.inr hx)))

theorem Rep.endA {w : World} {b o : Nat} {A : Tr α} (h : JoinPre S w A .nil b o) : Rep S w (w.setCell ⟨b, o, none⟩ A.ptr) b o (fun x => A.Mem x ∨ (Tr.nil : Tr α).Mem x) (A.join .nil) := by
  rw [Tr.join_nil]
  exact ⟨Only.refl _ _, h.inA.set h.outA _ _, h.ownA, fun x hx => .inl (.inl hx)⟩
theorem Rep.endB {w : World} {b o : Nat} {B : Tr α} (h : JoinPre S w .nil B b o) : Rep S w (w.setCell ⟨b, o, none⟩ B.ptr) b o (fun x => (Tr.nil : Tr α).Mem x ∨ B.Mem x) (Tr.join .nil B) := by
  rw [Tr.nil_join]
  exact ⟨Only.refl _ _, h.inB.set h.outB _ _, h.ownB, fun x hx => .inl (.inr hx)⟩
end trees
end Go.Proofs.Ytafamfjgehnddaa
