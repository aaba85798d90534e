/- Going through a tree by a stack of one's own: what is still to come. (Of any program.) -/
import Derived.Test.YtafamfjgehnddaaTreAt
import Derived.Test.YtafamfjgehnddaaPhaseIn
import Derived.RangeFuncBox
import Derived.Maps.AppendAt
namespace Go.Proofs.Ytafamfjgehnddaa
open Go.RowKit
section
variable {α : Type}

def Tr.keys (T : Tr α) : List Int := T.items.map (·.1)
theorem Tr.keys_node (p : Nat) (k : Int) (d : Nat) (v : α) (l r : Tr α) : (Tr.node p k d v l r).keys = l.keys ++ k :: r.keys := by simp [Tr.keys, Tr.items]
theorem Tr.keys_length (T : Tr α) : T.keys.length = T.size := by rw [Tr.keys, List.length_map, Tr.size_items]
def Tr.upK : Tr α → List Int
  | .nil => []
  | .node _ k _ _ _ r => k :: r.keys
/-- What is still to come of the keys, rising. -/
def remK (U : Tr α) (st : List (Tr α)) : List Int := U.keys ++ st.flatMap Tr.upK
theorem remK_push (p : Nat) (k : Int) (d : Nat) (v : α) (l r : Tr α) (st : List (Tr α)) : remK (.node p k d v l r) st = remK l (.node p k d v l r :: st) := by
  simp [remK, Tr.keys_node, Tr.upK]
theorem remK_pop (p : Nat) (k : Int) (d : Nat) (v : α) (l r : Tr α) (st : List (Tr α)) : remK .nil (.node p k d v l r :: st) = k :: remK r st := by
  simp [remK, Tr.keys, Tr.items, Tr.upK]

/-- The tree lies below A. -/
def OkT (S : Sh α) (A : Nat) (w : World) (U : Tr α) : Prop := U.In S w ∧ ∀ x, U.Mem x → x < A
theorem OkT.left {S : Sh α} {A : Nat} {w : World} {p : Nat} {k : Int} {d : Nat} {v : α} {l r : Tr α} (h : OkT S A w (.node p k d v l r)) : OkT S A w l := ⟨h.1.2.1, fun x hx => h.2 x (.inr (.inl hx))⟩
theorem OkT.right {S : Sh α} {A : Nat} {w : World} {p : Nat} {k : Int} {d : Nat} {v : α} {l r : Tr α} (h : OkT S A w (.node p k d v l r)) : OkT S A w r := ⟨h.1.2.2, fun x hx => h.2 x (.inr (.inr hx))⟩
theorem OkT.below {S : Sh α} {A B : Nat} {w w' : World} {U : Tr α} (h : OkT S A w U) (b : Below B w w') (hB : A ≤ B) : OkT S A w' U :=
  ⟨h.1.same (fun x hx => b.block x (Nat.lt_of_lt_of_le (h.2 x hx) hB)), h.2⟩
theorem OkT.only {S : Sh α} {A B : Nat} {w w' : World} {U : Tr α} (h : OkT S A w U) (o : Only (fun k => A ≤ k ∧ k < B) w w') : OkT S A w' U :=
  ⟨h.1.kept o (fun x hx e => by have := h.2 x hx; omega), h.2⟩

theorem ownsRow_only {w w' : World} {base e size n : Nat} {v : Value} {xs : List Value} {M : Nat → Prop} (h : w.ownsRow base e size v n xs) (o : Only M w w') (hM : ∀ k, M k → k < base) : w'.ownsRow base e size v n xs := by
  refine ⟨h.1, ?_⟩
  rcases h.2 with h0 | ⟨g, cap, cur, h1, h2, h3, h4⟩
  · exact .inl h0
  · exact .inr ⟨g, cap, cur, h1, h2, (o.block g (lt_of_heap h3) (fun e => by have := hM g e; omega)).trans h3, h4⟩
theorem ownsRow_alike {w w' : World} {base e size n : Nat} {v : Value} {xs : List Value} (h : w.ownsRow base e size v n xs) (o : Alike w w') : w'.ownsRow base e size v n xs :=
  ownsRow_only h (o.only (fun _ => False)) (fun _ h => h.elim)
/-- A shorter piece of it. -/
theorem ownsRow_cut {w : World} {base e size n m cap g : Nat} {xs ys : List Value} (h : w.ownsRow base e size (.slice (some ⟨g, 0, none⟩) (n + m) cap) (n + m) (xs ++ ys)) (hl : xs.length = n * size) : w.ownsRow base e size (.slice (some ⟨g, 0, none⟩) n cap) n xs := by
  refine ⟨hl, ?_⟩
  rcases h.2 with ⟨h0, _⟩ | ⟨g', cap', cur, h1, h2, h3, h4, h5, h6, h7⟩
  · cases h0
  · cases h1
    refine .inr ⟨g, cap, cur, rfl, h2, h3, by omega, h5, h6, ?_⟩
    have := congrArg (List.take (n * size)) h7
    rw [List.take_take, Nat.min_eq_left (Nat.mul_le_mul_right _ (by omega))] at this
    rw [this, ← hl, List.take_left']
    rfl
theorem grown_below {w w' : World} {base e size n : Nat} {v : Value} {xs : List Value} (h : w.ownsRow base e size v n xs) (g : w.grownBy w' v.ownBlock) (hb : base ≤ w.heap.size) : Below base w w' := by
  refine ⟨g.os, g.tape, g.output, g.size, fun k hk => ?_⟩
  refine g.block k (by omega) ?_
  rcases h.2 with ⟨rfl, _⟩ | ⟨b, cap, cur, rfl, h2, _⟩
  · simp [Value.ownBlock]
  · simp only [Value.ownBlock]; intro e; cases e; omega
theorem ownsRow_slice {w : World} {base e size n : Nat} {v : Value} {xs : List Value} (h : w.ownsRow base e size v n xs) : ∃ a c, v = .slice a n c := by
  rcases h.2 with ⟨rfl, rfl⟩ | ⟨g, cap, cur, rfl, _⟩
  · exact ⟨none, 0, rfl⟩
  · exact ⟨_, _, rfl⟩
theorem ownsRow_cap {w : World} {base e size n m g cap : Nat} {xs : List Value} (h : w.ownsRow base e size (.slice (some ⟨g, 0, none⟩) n cap) m xs) : m ≤ cap ∧ cap ≤ maxLen := by
  rcases h.2 with ⟨h0, _⟩ | ⟨g', cap', cur, h1, _, _, h4, h5, _⟩
  · cases h0
  · cases h1; exact ⟨h4, h5⟩
theorem remK_len {U : Tr α} {st : List (Tr α)} (h : ∀ x ∈ st, x ≠ .nil) : st.length ≤ (remK U st).length := by
  unfold remK
  rw [List.length_append]
  suffices hh : st.length ≤ (st.flatMap Tr.upK).length by omega
  induction st with
  | nil => simp
  | cons x st ih =>
    have := ih (fun y hy => h y (by simp [hy]))
    have hx := h x (by simp)
    cases x with
    | nil => exact absurd rfl hx
    | node p k d v l r => simp [List.flatMap_cons, Tr.upK] at this ⊢; omega
/-- The topmost of a stack. -/
theorem stack_top {w : World} {base e g cap : Nat} {x : Tr α} {st : List (Tr α)} (h : w.ownsRow base e 1 (.slice (some ⟨g, 0, none⟩) (st.length + 1) cap) (st.length + 1) ((x :: st).reverse.map Tr.ptr)) :
    w.cell? ⟨g, st.length, none⟩ = some (.pointer x.adr) ∧ w.ownsRow base e 1 (.slice (some ⟨g, 0, none⟩) st.length cap) st.length (st.reverse.map Tr.ptr) := by
  have hc := World.ownsRow.cellAt h st.length (by omega)
  refine ⟨?_, ownsRow_cut (m := 1) (ys := [x.ptr]) (by simpa using h) (by simp)⟩
  rw [hc]
  simp
theorem ownsRow_below {w w' : World} {base e size n m g cap B : Nat} {xs : List Value} (h : w.ownsRow base e size (.slice (some ⟨g, 0, none⟩) n cap) m xs) (b : Below B w w') (hg : g < B) : w'.ownsRow base e size (.slice (some ⟨g, 0, none⟩) n cap) m xs := by
  refine ⟨h.1, ?_⟩
  rcases h.2 with ⟨h0, _⟩ | ⟨g', cap', cur, h1, h2, h3, h4⟩
  · cases h0
  · cases h1; exact .inr ⟨g, cap, cur, rfl, h2, (b.block g hg).trans h3, h4⟩
theorem ownsRow_same {w w' : World} {base e size n m g cap : Nat} {xs : List Value} (h : w.ownsRow base e size (.slice (some ⟨g, 0, none⟩) n cap) m xs) (b : w'.heap[g]? = w.heap[g]?) : w'.ownsRow base e size (.slice (some ⟨g, 0, none⟩) n cap) m xs := by
  refine ⟨h.1, ?_⟩
  rcases h.2 with ⟨h0, _⟩ | ⟨g', cap', cur, h1, h2, h3, h4⟩
  · cases h0
  · cases h1; exact .inr ⟨g, cap, cur, rfl, h2, b.trans h3, h4⟩
theorem Only.grown {M : Nat → Prop} {a w w' : World} {g : Nat} (h : Only M a w) (hg : w.grownBy w' (some g)) (hM : M g ∨ a.heap.size ≤ g) : Only M a w' :=
  ⟨hg.os.trans h.os, hg.tape.trans h.tape, hg.output.trans h.output, Nat.le_trans h.size hg.size, fun k hk hn => (hg.block k (Nat.lt_of_lt_of_le hk h.size) (by intro e; cases e; rcases hM with hM | hM; exact hn hM; omega)).trans (h.block k hk hn)⟩
def intVals (l : List Int) : List Value := l.map (Value.int .i64)
end
end Go.Proofs.Ytafamfjgehnddaa
