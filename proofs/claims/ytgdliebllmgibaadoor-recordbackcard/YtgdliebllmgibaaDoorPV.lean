/- Numbers of package tag: a head, its page, its tag, the head that follows. No program is named here. What the functions of packages tag and dustpanref6 answer, each at every argument. Package stack: where a head's word is, where the word is that names what lies below a page; new machines. A block that lies by itself: read, turned, made, left. (Of any program.) Package stack: what a pop and a push have in common, beside an arena. Whether a pop, or a push, has a step to do in an arena. Package stack: the load of a head, and its swap, by a machine in memory beside an arena. A pop's step, each way. A push's step, each way; a step that is none; Done, Page (printed by gen/stkpush.py). List: the pages that lie in a stack. -/
import Derived.Test.YtgdliebllmgibaaDoorLeaves
import Derived.Test.YtgdliebllmgibaaDoorLayName
import Derived.Test.YtgdliebllmgibaaDoorPS
import Derived.Test.YtgdliebllmgibaaDoorPhaseL
import Derived.RangeFuncBox
namespace Go.Proofs.YtgdliebllmgibaaDoor.Tg

/-- The head of tag t and page p. -/
def head (t : Nat) (p : Int) : Nat := t * 4294967296 + (p + 1).toNat
def make (t : Nat) (p : Int) : Nat × Bool := if -1 ≤ p ∧ p < 4096 then (head t p, true) else (0, false)
def low (x : Nat) : Nat := x % 4294967296
def page (x : Nat) : Int := if low x ≤ 4096 then (low x : Int) - 1 else -1
def tag (x : Nat) : Nat := x / 4294967296
def succ (t : Nat) : Nat := (t + 1) % 4294967296
def next (x : Nat) (p : Int) : Nat × Bool := make (succ (tag x)) p

theorem tag_lt (x : Nat) (h : x < 18446744073709551616) : tag x < 4294967296 := by unfold tag; omega
theorem low_lt (x : Nat) : low x < 4294967296 := by unfold low; omega
theorem succ_lt (t : Nat) : succ t < 4294967296 := by unfold succ; omega
theorem head_lt (t : Nat) (p : Int) (ht : t < 4294967296) (h1 : -1 ≤ p) (h2 : p < 4096) : head t p < 18446744073709551616 := by unfold head; omega
theorem tag_head (t : Nat) (p : Int) (h1 : -1 ≤ p) (h2 : p < 4096) : tag (head t p) = t := by unfold tag head; omega
theorem page_head (t : Nat) (p : Int) (h1 : -1 ≤ p) (h2 : p < 4096) : page (head t p) = p := by
  have e : low (head t p) = (p + 1).toNat := by unfold low head; omega
  unfold page
  rw [e, if_pos (by omega)]
  omega
theorem page_may (x : Nat) : -1 ≤ page x ∧ page x < 4096 := by
  unfold page
  split <;> omega
theorem page_low (x : Nat) (h : page x ≠ -1) : (low x : Int) = page x + 1 := by
  unfold page at h ⊢
  split at h
  · rename_i h1
    rw [if_pos h1]
    omega
  · exact absurd rfl h
theorem make_in (t : Nat) (p : Int) (h1 : -1 ≤ p) (h2 : p < 4096) : make t p = (head t p, true) := by unfold make; rw [if_pos ⟨h1, h2⟩]
theorem make_out (t : Nat) (p : Int) (h : ¬ (-1 ≤ p ∧ p < 4096)) : make t p = (0, false) := by unfold make; rw [if_neg h]
theorem make_may (t : Nat) (p : Int) : (make t p).2 = decide (-1 ≤ p ∧ p < 4096) := by
  unfold make
  split <;> simp_all
theorem or_head (t k : Nat) (hk : k < 4294967296) : t * 4294967296 ||| k = t * 4294967296 + k := by
  have h := Nat.shiftLeft_add_eq_or_of_lt (i := 32) (b := k) (by omega) t
  rw [Nat.shiftLeft_eq] at h
  exact h.symm

end Go.Proofs.YtgdliebllmgibaaDoor.Tg

namespace Go.Proofs.YtgdliebllmgibaaDoor
open Go.RowKit

theorem or_key (t : Nat) (p : Int) (ht : t < 4294967296) (h1 : -1 ≤ p) (h2 : p < 4096) :
    bits BinOp.or IntKind.u64 ((t : Int) * 4294967296) (p + 1) = (Tg.head t p : Int) := by
  obtain ⟨k, hk⟩ : ∃ k : Nat, p + 1 = (k : Int) := ⟨(p + 1).toNat, by omega⟩
  have e : (t : Int) * 4294967296 = ((t * 4294967296 : Nat) : Int) := by simp
  rw [hk, e, bits_or_u64_nat _ _ (by omega) (by omega), Tg.or_head t k (by omega)]
  unfold Tg.head
  omega

/-! ### Page, Tag -/

theorem field_low (x : Nat) (hx : x < 18446744073709551616) (w : World) :
    Calls Tryd.prog 89 #[.int .u64 x, .int .i64 0, .int .i64 32] w fun e w' => e = .returned (.int .u64 (Tg.low x)) ∧ ∃ q, w' = w.drewN q := by
  have h := field17 x hx 0 32 w (by omega)
  have e : fieldAns x 0 32 = Tg.low x := by
    unfold fieldAns
    rw [if_pos (by decide)]
    show x / 2 ^ 0 &&& (2 ^ 32 - 1) = _
    rw [Nat.and_two_pow_sub_one_eq_mod, Nat.pow_zero, Nat.div_one]
    rfl
  rw [e] at h
  exact h

theorem field_tag (x : Nat) (hx : x < 18446744073709551616) (w : World) :
    Calls Tryd.prog 89 #[.int .u64 x, .int .i64 32, .int .i64 32] w fun e w' => e = .returned (.int .u64 (Tg.tag x)) ∧ ∃ q, w' = w.drewN q := by
  have h := field17 x hx 32 32 w (by omega)
  have e : fieldAns x 32 32 = Tg.tag x := by
    unfold fieldAns
    rw [if_pos (by decide)]
    show x / 2 ^ 32 &&& (2 ^ 32 - 1) = _
    rw [Nat.and_two_pow_sub_one_eq_mod]
    have := Tg.tag_lt x hx
    unfold Tg.tag at *
    omega
  rw [e] at h
  exact h

/-! ### the document's -/

/-! ### awake -/

end Go.Proofs.YtgdliebllmgibaaDoor

namespace Go.Proofs.YtgdliebllmgibaaDoor
open Go.RowKit

/-- A head's word is at a. -/
def Lay.isHead (P T a : Int) : Bool := (Lay.name P T a).2 && decide ((Lay.name P T a).1.1 = 7)
theorem Lay.isHead_iff {P T a : Int} : Lay.isHead P T a = true ↔ Lay.may P T = true ∧ 8 ≤ a ∧ a < 68 := by
  unfold Lay.isHead Lay.name Lay.spot
  cases hm : Lay.may P T
  · rw [Lay.words_out hm]
    have : Lay.below a 0 = false := Lay.below_false.2 (by omega)
    simp [this]
  · have h90 := (Lay.words_bd hm).1
    cases hb : Lay.below a (Lay.words P T)
    · have := Lay.below_false.1 hb
      simp only [Bool.false_eq_true, if_false, Bool.false_and, false_iff]
      omega
    · have := Lay.below_iff.1 hb
      simp only [if_true, Bool.true_and, decide_eq_true_eq, true_and]
      unfold Lay.states Lay.index Lay.used Lay.gone
      by_cases h8 : a < 8
      · rw [if_pos h8]
        dsimp only
        split <;> omega
      · rw [if_neg h8]
        by_cases h68 : a < 68
        · rw [if_pos h68]; dsimp only; omega
        · rw [if_neg h68]
          split
          · dsimp only; omega
          · split
            · dsimp only; omega
            · split
              · dsimp only; omega
              · split
                · dsimp only; omega
                · dsimp only; omega

/-- What a pop, a push holds. -/
def popC (P T h g : Int) (was : Nat) (page below : Int) : Array Value := #[.int .i64 P, .int .i64 T, .int .i64 h, .int .i64 g, .int .u64 (was : Int), .int .i64 page, .int .i64 below]
def pushC (P T h g : Int) (was : Nat) (page : Int) : Array Value := #[.int .i64 P, .int .i64 T, .int .i64 h, .int .i64 g, .int .u64 (was : Int), .int .i64 page]
end Go.Proofs.YtgdliebllmgibaaDoor

namespace Go.Proofs.YtgdliebllmgibaaDoor
open Go.RowKit

theorem Own.boSet {R : Res} {w0 w : World} {m : Nat} {c : Array Value} {ty : TypeId} (l : Loc R) (h : Own (Sep (BO m (.cells c ty (0, 0))) R) w0 w) (k : Nat) (v : Value) :
    Own (Sep (BO m (.cells (c.setIfInBounds k v) ty (0, 0))) R) w0 (w.setCell ⟨m, k, none⟩ v) := by
  obtain ⟨G, ⟨G1, G2, ⟨h1, e⟩, r, cc, d⟩, h2, h3⟩ := h
  exact Own.step (G1 := G1) (G1' := G1) (G2 := G2) l h3 (fun x hx => h2 x ((d x).2 hx)) r cc ⟨heap_setCell_at h1 v, e⟩ ((Only.refl _ w).setCell (.inl ((e m).2 rfl)) v) (fun x hx => .inl hx)
theorem Own.boNew {R : Res} {w0 w w' : World} {m : Nat} {o : Obj} (l : Loc R) (h : Own R w0 w) (h1 : w'.heap[m]? = some o) (hm : w.heap.size ≤ m) (b : Below w.heap.size w w') : Own (Sep (BO m o) R) w0 w' :=
  Own.fresh (R1 := BO m o) l h (G := fun x => x = m) ⟨h1, fun _ => Iff.rfl⟩ (fun x hx => by rw [hx]; exact hm) b
theorem Own.boAt {R : Res} {w0 w : World} {m : Nat} {o : Obj} (h : Own (Sep (BO m o) R) w0 w) : w.heap[m]? = some o := by
  obtain ⟨_, ⟨_, _, a, _⟩, _⟩ := h
  exact a.1
theorem BO.swap {m : Nat} {o : Obj} {A R : Res} : Sep (BO m o) (Sep A R) = Sep A (Sep (BO m o) R) := by ac_rfl
theorem Own.drop {A R : Res} {w0 w : World} (h : Own (Sep A R) w0 w) : Own R w0 w := by
  obtain ⟨G, ⟨G1, G2, _, b, _, d⟩, h2, h3⟩ := h
  exact ⟨G2, b, fun x hx => h2 x ((d x).2 (.inr hx)), h3⟩
/-- What lies beside. -/
theorem Own.has {R R' : Res} {w0 w : World} {m : Nat} {o : Obj} (h : Own R' w0 w) (e : R' = Sep (BO m o) R) : w.heap[m]? = some o := Own.boAt (h.cast e)
theorem Own.putDid {A : Res} {w0 w : World} {rb : Nat} {u0 u1 u2 u3 : Value} (l : Loc A) (h : Own (Sep (BO rb (.cells #[u0, u1, u2, u3] 34 (0, 0))) A) w0 w) {v0 v1 v2 v3 : Value} {Q : World → Prop}
    (k : ∀ W : World, Own A w0 W → W.cell? ⟨rb, 0, none⟩ = some v0 → W.cell? ⟨rb, 1, none⟩ = some v1 → W.cell? ⟨rb, 2, none⟩ = some v2 → W.cell? ⟨rb, 3, none⟩ = some v3 → Q W) :
    Q ((((w.setCell ⟨rb, 0, none⟩ v0).setCell ⟨rb, 1, none⟩ v1).setCell ⟨rb, 2, none⟩ v2).setCell ⟨rb, 3, none⟩ v3) := by
  have h4 := Own.boSet l (Own.boSet l (Own.boSet l (Own.boSet l h 0 v0) 1 v1) 2 v2) 3 v3
  have e := Own.boAt h4
  exact k _ h4.drop (cell_of_heap e) (cell_of_heap e) (cell_of_heap e) (cell_of_heap e)
/-- A cell of block m holds v. -/
def Cel (m k : Nat) (v : Value) (w : World) : Prop := w.cell? ⟨m, k, none⟩ = some v
end Go.Proofs.YtgdliebllmgibaaDoor

namespace Go.Proofs.YtgdliebllmgibaaDoor
open Go.RowKit

section
variable {R : Res} {w0 w : World} {q : Nat} {P T : Int} {p r : Nat} {s : St} {pg : Nat} {ds : List Nat} {dn : Nat} {L : RL}
theorem lastX (l : Loc R) (h : Own (Sep (AX q P T p r s pg ds dn L) R) w0 w) :
    Calls Tryd.prog 69 #[.pointer (some ⟨p, 0, none⟩)] w fun e w' => e = .returned s.did ∧ Own (Sep (AX q P T p r s pg ds dn L) R) w0 w' := by
  obtain ⟨b, hS⟩ := AX.st h
  exact (last_of w p b s hS).mono fun _ _ ⟨e, h1⟩ => ⟨e, h.below (Loc.ax.sep l) h1⟩
end

/-- The five cells that a pop and a push have in common, in block m. -/
structure TurnAt (m : Nat) (P T h g : Int) (was : Nat) (w : World) : Prop where
  c0 : w.cell? ⟨m, 0, none⟩ = some (.int .i64 P)
  c1 : w.cell? ⟨m, 1, none⟩ = some (.int .i64 T)
  c2 : w.cell? ⟨m, 2, none⟩ = some (.int .i64 h)
  c3 : w.cell? ⟨m, 3, none⟩ = some (.int .i64 g)
  c4 : w.cell? ⟨m, 4, none⟩ = some (.int .u64 (was : Int))
theorem TurnAt.below {w w' : World} {m : Nat} {P T h g : Int} {was : Nat} (k : TurnAt m P T h g was w) (b : Below w.heap.size w w') : TurnAt m P T h g was w' :=
  ⟨(b.cell (block_lt_of_cell k.c0)).trans k.c0, (b.cell (block_lt_of_cell k.c1)).trans k.c1, (b.cell (block_lt_of_cell k.c2)).trans k.c2, (b.cell (block_lt_of_cell k.c3)).trans k.c3, (b.cell (block_lt_of_cell k.c4)).trans k.c4⟩

end Go.Proofs.YtgdliebllmgibaaDoor

namespace Go.Proofs.YtgdliebllmgibaaDoor
open Go.RowKit

end Go.Proofs.YtgdliebllmgibaaDoor

namespace Go.Proofs.YtgdliebllmgibaaDoor
open Go.RowKit

/-- The third cell of block m holds i. -/
def Third (m : Nat) (ty : TypeId) (i : Int) (w : World) : Prop := ∃ c : Array Value, w.heap[m]? = some (.cells c ty (0, 0)) ∧ c[2]? = some (.int .i64 i)
theorem Third.set {m : Nat} {ty : TypeId} {i : Int} {w : World} (h : Third m ty i w) (v : Value) : Third m ty i (w.setCell ⟨m, 4, none⟩ v) := by
  obtain ⟨c, h1, h2⟩ := h
  exact ⟨_, heap_setCell_at h1 v, by rw [Array.getElem?_setIfInBounds]; simpa using h2⟩

section
variable {R : Res} {w0 w : World} {m : Nat} {c : Array Value} {ty : TypeId} {q : Nat} {P T : Int} {p r : Nat} {s : St} {pg : Nat} {ds : List Nat} {dn : Nat} {L : RL}

/-- The machine's block, as it is turned by the load. -/
def loaded (c : Array Value) (x : Nat) : Array Value := (c.setIfInBounds 4 (.int .u64 (x : Int))).setIfInBounds 3 (.int .i64 1)

/-- The machine's block behind a swap. -/
def swapped (c : Array Value) (won : Bool) : Array Value := if won = true then c.setIfInBounds 3 (.int .i64 3) else (c.setIfInBounds 3 (.int .i64 3)).setIfInBounds 3 (.int .i64 0)

end
end Go.Proofs.YtgdliebllmgibaaDoor

namespace Go.Proofs.YtgdliebllmgibaaDoor
open Go.RowKit

def didO : Obj := .cells #[.int .i64 0, .int .i64 0, .int .u64 0, .int .u64 0] 34 (0, 0)

section
variable {R : Res} {w0 w : World} {m : Nat} {q : Nat} {P T : Int} {p r : Nat} {s : St} {pg : Nat} {ds : List Nat} {dn : Nat} {L : RL}

end
end Go.Proofs.YtgdliebllmgibaaDoor

namespace Go.Proofs.YtgdliebllmgibaaDoor
open Go.RowKit

section
variable {R : Res} {w0 w : World} {m : Nat} {q : Nat} {P T : Int} {p r : Nat} {s : St} {pg : Nat} {ds : List Nat} {dn : Nat} {L : RL}

end

end Go.Proofs.YtgdliebllmgibaaDoor

namespace Go.Proofs.YtgdliebllmgibaaDoor
open Go.RowKit

/-- The page that a word names. -/
def nmd (x : Nat) : Int := if x ≤ 4096 then (x : Int) - 1 else -1
theorem nmd_bd (x : Nat) : -1 ≤ nmd x ∧ nmd x ≤ 4095 := by unfold nmd; split <;> omega
/-- What lies from page p on. -/
def lst (ws : List Nat) (P T : Int) : Nat → Int → List Int
  | 0, _ => []
  | n + 1, p => if (Lay.page P T 11 p).2 = true then p :: lst ws P T n (nmd (ws.getD (Lay.page P T 11 p).1.toNat 0)) else []
theorem lst_len (ws : List Nat) (P T : Int) : ∀ (n : Nat) (p : Int), (lst ws P T n p).length ≤ n
  | 0, _ => by simp [lst]
  | n + 1, p => by
    unfold lst
    split
    · have := lst_len ws P T n (nmd (ws.getD (Lay.page P T 11 p).1.toNat 0)); rw [List.length_cons]; omega
    · simp
theorem next_may {P T p : Int} (h : (Lay.page P T 11 p).2 = true) : Lay.may P T = true ∧ 0 ≤ p ∧ p < P ∧ (Lay.page P T 11 p).1 = 70 + 14 * T + 5 * p := by
  unfold Lay.page at h ⊢
  split at h
  · rename_i hc
    rw [if_pos hc]
    simp only [Bool.and_eq_true, Lay.below_iff] at hc
    refine ⟨hc.1.1, hc.1.2.1, hc.1.2.2, ?_⟩
    simp only [Lay.states]
    rw [if_neg (by omega)]
    omega
  · cases h
theorem next_in {P T p : Int} (hm : Lay.may P T = true) (h1 : 0 ≤ p) (h2 : p < P) : Lay.page P T 11 p = (70 + 14 * T + 5 * p, true) := by
  unfold Lay.page
  rw [if_pos (by simp [hm, Lay.below_iff, h1, h2])]
  simp only [Lay.states]
  rw [if_neg (by omega)]
  congr 1
  omega
theorem next_out {P T p : Int} (h : p < 0 ∨ P ≤ p) : Lay.page P T 11 p = (0, false) := by
  unfold Lay.page
  rw [if_neg]
  simp only [Bool.and_eq_true, Lay.below_iff]
  omega
theorem next_lt {P T p : Int} (h : (Lay.page P T 11 p).2 = true) : (Lay.page P T 11 p).1.toNat < (Lay.words P T).toNat ∧ ((Lay.page P T 11 p).1.toNat : Int) = (Lay.page P T 11 p).1 := by
  obtain ⟨h1, h2, h3, h4⟩ := next_may h
  obtain ⟨m1, m2, m3, m4⟩ := Lay.may_iff.1 h1
  have := Lay.maps_bd m1 m2
  rw [h4, Lay.words_in h1]
  unfold Lay.total
  omega

/-- A load of a store's copy turns the copy's head alone. -/
theorem s_load1 (w : World) (p b : Nat) (s : St) (h : StoreAt 104 w p b s) (i : Nat) (hi : i < s.words.length) :
    Calls Tryd.prog 65 #[.pointer (some ⟨p, 0, none⟩), .int .i64 (i : Int)] w fun e w' => e = .returned (.tuple #[.int .u64 (s.words.getD i 0 : Nat), .int .i64 0]) ∧ StoreAt 104 w' p b (s.load i) ∧ Only (fun k => k = p) w w' := by
  refine (s_load w p b s h i hi).mono fun e w' ⟨h1, h2, h3⟩ => ⟨h1, h2, h3.os, h3.tape, h3.output, h3.size, fun k hk hn => ?_⟩
  by_cases e : k = b
  · subst e
    rw [h2.row, h.row, load_words]
  · exact h3.block k hk (by rintro (h | h); exact hn h; exact e h)

/-- How long a slice is. -/
def lenV : Value → Nat | .slice _ n _ => n | _ => 0

/-- What List has on the way. -/
structure LstAt (w wr : World) (b5 b6 b : Nat) (P T : Int) (ws : List Nat) (v : Value) (l : List Int) : Prop where
  box : w.heap.size ≤ b5 ∧ b5 < b6 ∧ b6 < wr.heap.size
  bk : b < w.heap.size
  l0 : wr.heap[b5]? = some (.cells #[.int .i64 P, .int .i64 T] 24 (0, 0))
  st : ∃ s, StoreAt 104 wr b6 b s ∧ s.words = ws
  row : wr.ownsRow (b6 + 1) 3 1 v l.length (intVals l)
  below : Below w.heap.size w wr

theorem LstAt.grow {w wr w' : World} {b5 b6 b : Nat} {P T : Int} {ws : List Nat} {v : Value} {l : List Int} (h : LstAt w wr b5 b6 b P T ws v l) (hb : Below wr.heap.size wr w') : LstAt w w' b5 b6 b P T ws v l := by
  obtain ⟨s, h1, h2⟩ := h.st
  exact ⟨⟨h.box.1, h.box.2.1, Nat.lt_of_lt_of_le h.box.2.2 hb.size⟩, h.bk, (hb.block _ (lt_of_heap h.l0)).trans h.l0, ⟨s, h1.below hb, h2⟩, ownsRow_only h.row (Below.only hb (fun _ => False)) (fun _ f => f.elim), h.below.trans (hb.mono h.below.size)⟩
theorem LstAt.load {w wr w' : World} {b5 b6 b : Nat} {P T : Int} {ws : List Nat} {v : Value} {l : List Int} (h : LstAt w wr b5 b6 b P T ws v l) {s : St} (hs : StoreAt 104 w' b6 b s) (hw : s.words = ws) (ho : Only (fun k => k = b6) wr w') : LstAt w w' b5 b6 b P T ws v l := by
  refine ⟨⟨h.box.1, h.box.2.1, Nat.lt_of_lt_of_le h.box.2.2 ho.size⟩, h.bk, (ho.block _ (lt_of_heap h.l0) (by have := h.box.2.1; omega)).trans h.l0, ⟨s, hs, hw⟩, ownsRow_only h.row ho (fun k hk => by omega), h.below.trans (ho.below h.below.size (fun i hi => by have := h.box; omega))⟩

theorem below_row {N : Nat} {W w3 : World} {tmp : Obj} {v : Value} {t : TypeId} {size k : Nat} {xs : List Value} (hN : N ≤ W.heap.size) (hrow : W.ownsRow N t size v k xs)
    (hgrow : (W.alloc tmp).grownBy w3 v.ownBlock) : Below N W w3 := by
  refine ((Below.refl N W).alloc hN tmp).grown hgrow (by simp; omega) (fun j ej => ?_)
  rcases hrow.2 with ⟨rfl, _⟩ | ⟨g, cap, cur, rfl, hb, _, _⟩
  · simp [Value.ownBlock] at ej
  · obtain rfl : g = j := by simpa [Value.ownBlock] using ej
    exact hb
theorem LstAt.push {w wr w3 : World} {b5 b6 b : Nat} {P T : Int} {ws : List Nat} {v v' : Value} {l : List Int} {x : Int} {tmp : Obj} (h : LstAt w wr b5 b6 b P T ws v l) (hown : w3.ownsRow (b6 + 1) 3 1 v' (l.length + 1) (intVals l ++ [.int .i64 x]))
    (hgrow : (wr.alloc tmp).grownBy w3 v.ownBlock) : LstAt w w3 b5 b6 b P T ws v' (l ++ [x]) := by
  have hb : Below (b6 + 1) wr w3 := below_row (by have := h.box; omega) h.row hgrow
  obtain ⟨s, h1, h2⟩ := h.st
  have hb6 := h.box
  have hk := h.bk
  refine ⟨⟨h.box.1, h.box.2.1, Nat.lt_of_lt_of_le h.box.2.2 hb.size⟩, h.bk, (hb.block _ (by omega)).trans h.l0, ⟨s, ⟨(hb.block _ (by omega)).trans h1.head, (hb.block _ (by omega)).trans h1.row, h1.ne, h1.len, h1.bd⟩, h2⟩, ?_, h.below.trans (hb.mono (by omega))⟩
  have e : intVals (l ++ [x]) = intVals l ++ [.int .i64 x] := by simp [intVals]
  rw [e, List.length_append, List.length_singleton]
  exact hown
theorem infoI12 : (Tryd.prog.info? 3).map (fun i => (i.zero, i.size, i.bytes)) = some (some (.int .i64 0), 1, 8) := by kernel_rfl

end Go.Proofs.YtgdliebllmgibaaDoor
