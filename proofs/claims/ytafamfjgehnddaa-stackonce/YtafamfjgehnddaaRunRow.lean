/- A row that grows, in a box of its own; slices.AppendSeq and slices.Collect of runs. -/
import Derived.Test.YtafamfjgehnddaaRunAllR
import Derived.Maps.AppendAt
namespace Go.Proofs.Ytafamfjgehnddaa
open Go.RowKit

theorem wpListIn_append_at {F : Fence} {n : Nat} {P : Program} (w : World) {ops : Array Oper} {rest : List Oper} {o : Oper} {a : Act} {Q : Exit → Act → World → Prop}
    (hg : o.guard = none) (s x : Operand) (t : TypeId) (hop : o.op = Op.call { callee := Callee.builtin Builtin.append, args := #[s, x], argTypes := #[t, t] })
    (base : Nat) (e : TypeId) (i : TypeInfo) (z : Value) (size bytes : Nat) (h1 : P.underlying t = some (.slice e)) (h2 : P.info? e = some i) (h3 : i.zero = some z) (h4 : i.size = size) (h5 : i.bytes = bytes) (h6 : z.cells.size = size) (h7 : 0 < size)
    (v : Value) (k : Nat) (xs : List Value) (hs : a.eval s = v) (hown : w.ownsRow base e size v k xs) (ad : Addr) (m c : Nat) (news : List Value) (hx : a.eval x = .slice (some ad) m c) (hn : news.length = m * size)
    (hc : ∀ j u, news[j]? = some u → w.cell? (ad.add j) = some u) (h1c : ∀ u ∈ news, u.oneCell' = true) (b1 : k + m ≤ maxLen) (b2 : (k + m) * bytes ≤ 140737488355328) (b3 : base ≤ w.heap.size)
    (hK : ∀ v' w', w'.ownsRow base e size v' (k + m) (xs ++ news) → w.grownBy w' v.ownBlock → (v'.ownBlock = v.ownBlock ∨ v'.ownBlock = some w.heap.size) → wpListIn F n P ops Q rest (a.put o.dst v') w') :
    wpListIn F n P ops Q (o :: rest) a w := by
  refine wpListIn_plain hg fun K hK' => ?_
  obtain ⟨v', w', hrun, r1, r2, _, r4⟩ := run_append_own_at (P := P) w base t o.type e i z size bytes h1 h2 h3 h4 h5 h6 h7 v k xs hown ad m c news hn hc h1c b1 b2 b3
  unfold Oper.wpIn
  refine ⟨?_, ?_⟩
  · simp [Oper.about, hop, resolve, Target.leads, Sem.run_pure]
  · rw [Oper.semAt_plain F _ _ (by rw [hop]; intro c hc'; cases hc')]
    simp [execOp, hop, resolve, invoke, builtin, hs, hx, hrun, Result.andThen]
    exact hK' _ _ (hK v' w' r1 r2 r4)

attribute [local go_sem] Oper.semAt_some

/-- At B lies a slice, whose row is the call's own. -/
def BoxRow (B : Nat) (T e : TypeId) (base size k : Nat) (xs : List Value) : Res := fun W G => ∃ v, Boxed W B T v ∧ W.ownsRow base e size v k xs ∧ ∀ x, G x ↔ x = B ∨ v.ownBlock = some x
theorem Loc.boxRow {B : Nat} {T e : TypeId} {base size k : Nat} {xs : List Value} : Loc (BoxRow B T e base size k xs) := by
  refine ⟨fun {w w' M G} ⟨v, h1, h2, h3⟩ o hn => ⟨v, (o.block B h1.lt (hn B ((h3 B).2 (.inl rfl)))).trans h1, ⟨h2.1, ?_⟩, h3⟩, fun {w G x} ⟨v, h1, h2, h3⟩ hx => ?_⟩
  · rcases h2.2 with q | ⟨g, cap, cur, rfl, q1, q2, q3⟩
    · exact .inl q
    · exact .inr ⟨g, cap, cur, rfl, q1, (o.block g (Array.getElem?_eq_some_iff.1 q2).1 (hn g ((h3 g).2 (.inr rfl)))).trans q2, q3⟩
  · rcases (h3 x).1 hx with rfl | q
    · exact h1.lt
    · exact (h2.lt x q).2
/-- Behind an append, and the store of what came out. -/
theorem BoxRow.appended {B : Nat} {T e : TypeId} {base size k m : Nat} {xs ys : List Value} {W w1 : World} {G : Nat → Prop} {v v' : Value} {tmp : Obj} (h1 : Boxed W B T v) (hte : T ≠ e) (h2 : W.ownsRow base e size v k xs) (h3 : ∀ x, G x ↔ x = B ∨ v.ownBlock = some x)
    (hown : w1.ownsRow base e size v' m ys) (hgrow : (W.alloc tmp).grownBy w1 v.ownBlock) (hat : v'.ownBlock = v.ownBlock ∨ v'.ownBlock = some (W.heap.size + 1)) :
    Boxed w1 B T v ∧ Only G W (w1.setCell ⟨B, 0, none⟩ v') ∧ BoxRow B T e base size m ys (w1.setCell ⟨B, 0, none⟩ v') (fun x => x = B ∨ v'.ownBlock = some x) ∧ ∀ y, (y = B ∨ v'.ownBlock = some y) → G y ∨ W.heap.size ≤ y := by
  have hv1 : Boxed w1 B T v := (h1.alloc tmp).kept hgrow (h1.not_row hte h2)
  have nr := hv1.not_row hte hown
  refine ⟨hv1, ?_, ⟨v', hv1.set v', ?_, fun _ => Iff.rfl⟩, fun y hy => ?_⟩
  · have o1 : Only G W w1 := by
      refine ⟨hgrow.os, hgrow.tape, hgrow.output, by have := hgrow.size; simp at this; omega, fun j hj hn => ?_⟩
      rw [hgrow.block j (by simp; omega) (fun e => hn ((h3 j).2 (.inr e.symm))), Below.heap_alloc _ _ _ hj]
    exact o1.setCell (.inl ((h3 B).2 (.inl rfl))) _
  · refine ⟨hown.1, ?_⟩
    rcases hown.2 with q | ⟨g, cap, cur, rfl, q1, q2, q3⟩
    · exact .inl q
    · exact .inr ⟨g, cap, cur, rfl, q1, (heap_setCell_ne (fun e => nr (by rw [← e]; rfl)) _).trans q2, q3⟩
  · rcases hy with rfl | hy
    · exact .inl ((h3 _).2 (.inl rfl))
    · rcases hat with q | q
      · exact .inl ((h3 y).2 (.inr (by rw [← q]; exact hy)))
      · rw [q] at hy; cases hy; exact .inr (by omega)

def pairsI (l : List (Int × Int)) : List Value := l.flatMap fun p => [.int .i64 p.1, .int .i64 p.2]
theorem pairsI_length (l : List (Int × Int)) : (pairsI l).length = l.length * 2 := by
  induction l with
  | nil => rfl
  | cons p l ih =>
    have e : pairsI (p :: l) = [Value.int .i64 p.1, Value.int .i64 p.2] ++ pairsI l := rfl
    rw [e, List.length_append, ih, List.length_cons]
    simp
    omega
theorem pairsI_get : ∀ (l : List (Int × Int)) (i : Nat), i < l.length → (pairsI l)[i * 2]? = some (.int .i64 (l.getD i (0, 0)).1) ∧ (pairsI l)[i * 2 + 1]? = some (.int .i64 (l.getD i (0, 0)).2)
  | [], i, h => by simp at h
  | p :: l, 0, _ => by simp [pairsI]
  | p :: l, i + 1, h => by
    have ih := pairsI_get l i (by simpa using h)
    have e : pairsI (p :: l) = Value.int .i64 p.1 :: Value.int .i64 p.2 :: pairsI l := rfl
    rw [e, show (i + 1) * 2 = i * 2 + 1 + 1 from by omega, show i * 2 + 1 + 1 + 1 = (i * 2 + 1) + 1 + 1 from rfl, List.getElem?_cons_succ, List.getElem?_cons_succ, List.getElem?_cons_succ, List.getElem?_cons_succ]
    simpa using ih
theorem infoRun : (Try.prog.info? 147).map (fun i => (i.zero, i.size, i.bytes)) = some (some (.agg #[.int .i64 0, .int .i64 0]), 2, 16) := by kernel_rfl

end Go.Proofs.Ytafamfjgehnddaa
