/- Going through a tree from the root on, by a stack of one's own. (Of any program.) -/
import Derived.Test.YtafamfjgehnddaaTreWalk
import Derived.OwnWalkIn
namespace Go.Proofs.Ytafamfjgehnddaa
open Go.RowKit
section
variable {α : Type}

abbrev Sd (α : Type) := Tr α × Nat
/-- What is still to come, from the root on. -/
def remS (st : List (Sd α)) : List (Int × Nat) := st.flatMap fun s => s.1.shape s.2
def sideVals (st : List (Sd α)) : List Value := st.flatMap fun s => [.pointer s.1.adr, .int .i64 (s.2 : Int)]
/-- How many rounds are still to come. -/
def costS : List (Sd α) → Nat
  | [] => 0
  | s :: st => 2 * s.1.size + 1 + costS st
theorem remS_nil (e : Nat) (st : List (Sd α)) : remS ((.nil, e) :: st) = remS st := by simp [remS, Tr.shape]
theorem remS_node (p : Nat) (k : Int) (d : Nat) (v : α) (l r : Tr α) (e : Nat) (st : List (Sd α)) : remS ((.node p k d v l r, e) :: st) = (k, e) :: remS ((l, e + 1) :: (r, e + 1) :: st) := by
  simp [remS, Tr.shape]
theorem costS_len (st : List (Sd α)) : st.length ≤ costS st := by
  induction st with
  | nil => exact Nat.le_refl _
  | cons s st ih => simp [costS]; omega
theorem sideVals_length (st : List (Sd α)) : (sideVals st).length = st.length * 2 := by
  induction st with
  | nil => rfl
  | cons s st ih =>
    have e : sideVals (s :: st) = [Value.pointer s.1.adr, .int .i64 (s.2 : Int)] ++ sideVals st := rfl
    rw [e, List.length_append, ih, List.length_cons]; simp; omega
theorem sideVals_app (a b : List (Sd α)) : sideVals (a ++ b) = sideVals a ++ sideVals b := by simp [sideVals]
/-- The topmost of a stack of sides. -/
theorem side_top {w : World} {base e g cap : Nat} {s : Sd α} {st : List (Sd α)} (h : w.ownsRow base e 2 (.slice (some ⟨g, 0, none⟩) (st.length + 1) cap) (st.length + 1) (sideVals (s :: st).reverse)) :
    w.cell? ⟨g, st.length * 2, none⟩ = some (.pointer s.1.adr) ∧ w.cell? ⟨g, st.length * 2 + 1, none⟩ = some (.int .i64 (s.2 : Int)) ∧ w.ownsRow base e 2 (.slice (some ⟨g, 0, none⟩) st.length cap) st.length (sideVals st.reverse) := by
  rw [List.reverse_cons, sideVals_app] at h
  have hl : (sideVals st.reverse).length = st.length * 2 := by rw [sideVals_length, List.length_reverse]
  have h1 := World.ownsRow.cellAt h (st.length * 2) (by omega)
  have h2 := World.ownsRow.cellAt h (st.length * 2 + 1) (by omega)
  refine ⟨?_, ?_, ownsRow_cut (m := 1) h hl⟩
  · rw [h1, List.getElem?_append_right (by omega), hl]; simp [sideVals]
  · rw [h2, List.getElem?_append_right (by omega), hl]; simp [sideVals]

/-- What some cells hold. -/
def CellsOf (l : List (Nat × Nat × Value)) (u : World) : Prop := ∀ c ∈ l, u.cell? ⟨c.1, c.2.1, none⟩ = some c.2.2
theorem CellsOf.only {l : List (Nat × Nat × Value)} {w w' : World} {M : Nat → Prop} (h : CellsOf l w) (o : Only M w w') (hM : ∀ c ∈ l, c.1 < w.heap.size ∧ ¬ M c.1) : CellsOf l w' := fun c hc =>
  (o.cell (p := ⟨c.1, c.2.1, none⟩) (hM c hc).1 (hM c hc).2).trans (h c hc)

theorem cell_four_new (w : World) (a b c d : Value) (t : TypeId) : ∀ j u, [a, b, c, d][j]? = some u → (w.alloc (.cells #[a, b, c, d] t)).cell? ((⟨w.heap.size, 0, none⟩ : Addr).add j) = some u := by
  intro j u hj
  match j, hj with
  | 0, hj => simp at hj; subst hj; simp [Addr.add]
  | 1, hj => simp at hj; subst hj; simp [Addr.add]
  | 2, hj => simp at hj; subst hj; simp [Addr.add]
  | 3, hj => simp at hj; subst hj; simp [Addr.add]
  | j + 4, hj => simp at hj

def nodeVals (l : List (Int × Nat)) : List Value := l.flatMap fun p => [.int .i64 p.1, .int .i64 (p.2 : Int)]

/-- 'append' as an operation that writes. -/
theorem operIn_append_own {F : Fence} {n : Nat} {P : Program} (w : World) {o : Oper} {a : Act} {Q : Exit → Act → World → Prop} {K : Act → World → Prop} (hF : ∀ f, F.fn f)
    (s x : Operand) (t : TypeId) (hop : o.op = Op.call { callee := Callee.builtin Builtin.append, args := #[s, x], argTypes := #[t, t] })
    (base : Nat) (e : TypeId) (i : TypeInfo) (z : Value) (size bytes : Nat) (h1 : P.underlying t = some (.slice e)) (h2 : P.info? e = some i) (h3 : i.zero = some z) (h4 : i.size = size) (h5 : i.bytes = bytes) (h6 : z.cells.size = size) (h7 : 0 < size)
    (v : Value) (k : Nat) (xs : List Value) (hs : a.eval s = v) (hown : w.ownsRow base e size v k xs) (ad : Addr) (m c : Nat) (news : List Value) (hx : a.eval x = .slice (some ad) m c) (hn : news.length = m * size)
    (hc : ∀ j u, news[j]? = some u → w.cell? (ad.add j) = some u) (h1c : ∀ u ∈ news, u.oneCell' = true) (b1 : k + m ≤ maxLen) (b2 : (k + m) * bytes ≤ 140737488355328) (b3 : base ≤ w.heap.size)
    (hK : ∀ v' w', w'.ownsRow base e size v' (k + m) (xs ++ news) → w.grownBy w' v.ownBlock → K (a.put o.dst v') w') :
    Oper.wpIn F n P o a w K Q := by
  obtain ⟨v', w', hrun, r1, r2, r3⟩ := run_append_own (P := P) w base t o.type e i z size bytes h1 h2 h3 h4 h5 h6 h7 v k xs hown ad m c news hn hc h1c b1 b2 b3
  unfold Oper.wpIn
  refine ⟨fun f _ => hF f, ?_⟩
  rw [Oper.semAt_plain F _ _ (by rw [hop]; intro c hc'; cases hc')]
  simp [execOp, hop, resolve, invoke, builtin, hs, hx, hrun, Result.andThen]
  exact hK _ _ r1 r2
end
end Go.Proofs.Ytafamfjgehnddaa
