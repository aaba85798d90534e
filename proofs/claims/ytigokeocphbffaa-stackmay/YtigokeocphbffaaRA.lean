/- Package runs: Take. Package runs: the iterator all; Total. Package runs: the iterator all, told so that both sides may grow. A row that grows, in a box of its own; slices.AppendSeq and slices.Collect of runs. slices.SortFunc and slices.SortedFunc of runs; List. Package runs: Put. -/
import Derived.Test.YtigokeocphbffaaRunLay
import Derived.Test.YtigokeocphbffaaPhaseC
import Derived.Sort.LoopGhostIn
import Derived.Shelf.Abstract
import Derived.Sort.QuietIn
import Derived.OwnWalkIn
import Derived.Test.YtigokeocphbffaaPhaseR
import Derived.Maps.AppendAt
import Derived.Shelf.SlSortCmp.NoneTotal
import Derived.Shelf.Lay
import Derived.Ground.SlsfProg
import Derived.Deep.CutRange
import Derived.Deep.CutBlock
namespace Go.Proofs.Ytigokeocphbffaa
open Go.RowKit

end Go.Proofs.Ytigokeocphbffaa

namespace Go.Proofs.Ytigokeocphbffaa
open Go.RowKit

attribute [local go_sem] Oper.semAt_some

def runVal (k : Int) : Array Value := #[.int .i64 (rA k), .int .i64 (rN k)]

/-- How many pages are free. -/
def totL (L : RL) : Int := (L.map fun i => rN i.1).sum
theorem tot_bd {pg : Nat} {ds : List Nat} {dn : Nat} {L : RL} (hf : Fine pg ds dn L) : ∀ M : List Int, M <+: L.map (·.1) → 0 ≤ (M.map rN).sum ∧ (M.map rN).sum ≤ 4096 * M.length := by
  intro M hM
  have hk : ∀ k ∈ M, 0 ≤ rN k ∧ rN k ≤ 4096 := fun k hk => by
    obtain ⟨i, hi, rfl⟩ := List.mem_map.1 (hM.subset hk)
    have := hf.key hi; have := rA_bd i.1; omega
  clear hM
  induction M with
  | nil => simp
  | cons k M ih =>
    have h1 := ih (fun x hx => hk x (by simp [hx]))
    have h2 := hk k (by simp)
    simp only [List.map_cons, List.sum_cons, List.length_cons]
    omega

end Go.Proofs.Ytigokeocphbffaa

namespace Go.Proofs.Ytigokeocphbffaa
open Go.RowKit

attribute [local go_sem] Oper.semAt_some

end Go.Proofs.Ytigokeocphbffaa

namespace Go.Proofs.Ytigokeocphbffaa
open Go.RowKit

theorem wpListIn_append_at {F : Fence} {n : Nat} {P : Program} (w : World) {ops : Array Oper} {rest : List Oper} {o : Oper} {a : Act} {Q : Exit → Act → World → Prop}
    (hg : o.guard = none) (s x : Operand) (t : TypeId) (hop : o.op = Op.call { callee := Callee.builtin Builtin.append, args := #[s, x], argTypes := #[t, t] })
    (base : Nat) (e : TypeId) (i : TypeInfo) (z : Value) (size bytes : Nat) (h1 : P.underlying t = some (.slice e)) (h2 : P.info? e = some i) (h3 : i.zero = some z) (h4 : i.size = size) (h5 : i.bytes = bytes) (h6 : z.cells.size = size) (h7 : 0 < size)
    (v : Value) (k : Nat) (xs : List Value) (hs : a.eval s = v) (hown : w.ownsRow base e size v k xs) (ad : Addr) (m c : Nat) (news : List Value) (hx : a.eval x = .slice (some ad) m c) (hn : news.length = m * size)
    (hc : ∀ j u, news[j]? = some u → w.cell? (ad.add j) = some u) (h1c : ∀ u ∈ news, u.oneCell' = true) (b1 : k + m ≤ maxLen) (b2 : (k + m) * bytes ≤ 140737488355328) (b3 : base ≤ w.heap.size)
    (hK : ∀ v' w', w'.ownsRow base e size v' (k + m) (xs ++ news) → w.grownBy w' v.ownBlock → (v'.ownBlock = v.ownBlock ∨ v'.ownBlock = some w.heap.size) → wpListIn F n P ops Q rest (a.put o.dst v') w') :
    wpListIn F n P ops Q (o :: rest) a w := by
  refine wpListIn_plain hg fun K hK' => ?_
  obtain ⟨v', w', hrun, r1, r2, _, r4⟩ := run_append_own_at (P := P) w base t o.type e i z size bytes h1 h2 h3 h4 h5 h6 h7 v k xs hown ad m c news hn hc h1c b1 b2 b3
  unfold Oper.wpIn
  refine ⟨?_, ?_⟩
  · simp [Oper.about, hop, resolve, Target.leads, Sem.run_pure]
  · rw [Oper.semAt_plain F _ _ (by rw [hop]; intro c hc'; cases hc')]
    simp [execOp, hop, resolve, invoke, builtin, hs, hx, hrun, Result.andThen]
    exact hK' _ _ (hK v' w' r1 r2 r4)

attribute [local go_sem] Oper.semAt_some

/-- At B lies a slice, whose row is the call's own. -/
def BoxRow (B : Nat) (T e : TypeId) (base size k : Nat) (xs : List Value) : Res := fun W G => ∃ v, Boxed W B T v ∧ W.ownsRow base e size v k xs ∧ ∀ x, G x ↔ x = B ∨ v.ownBlock = some x
theorem Loc.boxRow {B : Nat} {T e : TypeId} {base size k : Nat} {xs : List Value} : Loc (BoxRow B T e base size k xs) := by
  refine ⟨fun {w w' M G} ⟨v, h1, h2, h3⟩ o hn => ⟨v, (o.block B h1.lt (hn B ((h3 B).2 (.inl rfl)))).trans h1, ⟨h2.1, ?_⟩, h3⟩, fun {w G x} ⟨v, h1, h2, h3⟩ hx => ?_⟩
  · rcases h2.2 with q | ⟨g, cap, cur, rfl, q1, q2, q3⟩
    · exact .inl q
    · exact .inr ⟨g, cap, cur, rfl, q1, (o.block g (Array.getElem?_eq_some_iff.1 q2).1 (hn g ((h3 g).2 (.inr rfl)))).trans q2, q3⟩
  · rcases (h3 x).1 hx with rfl | q
    · exact h1.lt
    · exact (h2.lt x q).2
/-- Behind an append, and the store of what came out. -/
theorem BoxRow.appended {B : Nat} {T e : TypeId} {base size k m : Nat} {xs ys : List Value} {W w1 : World} {G : Nat → Prop} {v v' : Value} {tmp : Obj} (h1 : Boxed W B T v) (hte : T ≠ e) (h2 : W.ownsRow base e size v k xs) (h3 : ∀ x, G x ↔ x = B ∨ v.ownBlock = some x)
    (hown : w1.ownsRow base e size v' m ys) (hgrow : (W.alloc tmp).grownBy w1 v.ownBlock) (hat : v'.ownBlock = v.ownBlock ∨ v'.ownBlock = some (W.heap.size + 1)) :
    Boxed w1 B T v ∧ Only G W (w1.setCell ⟨B, 0, none⟩ v') ∧ BoxRow B T e base size m ys (w1.setCell ⟨B, 0, none⟩ v') (fun x => x = B ∨ v'.ownBlock = some x) ∧ ∀ y, (y = B ∨ v'.ownBlock = some y) → G y ∨ W.heap.size ≤ y := by
  have hv1 : Boxed w1 B T v := (h1.alloc tmp).kept hgrow (h1.not_row hte h2)
  have nr := hv1.not_row hte hown
  refine ⟨hv1, ?_, ⟨v', hv1.set v', ?_, fun _ => Iff.rfl⟩, fun y hy => ?_⟩
  · have o1 : Only G W w1 := by
      refine ⟨hgrow.os, hgrow.tape, hgrow.output, by have := hgrow.size; simp at this; omega, fun j hj hn => ?_⟩
      rw [hgrow.block j (by simp; omega) (fun e => hn ((h3 j).2 (.inr e.symm))), Below.heap_alloc _ _ _ hj]
    exact o1.setCell (.inl ((h3 B).2 (.inl rfl))) _
  · refine ⟨hown.1, ?_⟩
    rcases hown.2 with q | ⟨g, cap, cur, rfl, q1, q2, q3⟩
    · exact .inl q
    · exact .inr ⟨g, cap, cur, rfl, q1, (heap_setCell_ne (fun e => nr (by rw [← e]; rfl)) _).trans q2, q3⟩
  · rcases hy with rfl | hy
    · exact .inl ((h3 _).2 (.inl rfl))
    · rcases hat with q | q
      · exact .inl ((h3 y).2 (.inr (by rw [← q]; exact hy)))
      · rw [q] at hy; cases hy; exact .inr (by omega)

def pairsI (l : List (Int × Int)) : List Value := l.flatMap fun p => [.int .i64 p.1, .int .i64 p.2]
theorem pairsI_length (l : List (Int × Int)) : (pairsI l).length = l.length * 2 := by
  induction l with
  | nil => rfl
  | cons p l ih =>
    have e : pairsI (p :: l) = [Value.int .i64 p.1, Value.int .i64 p.2] ++ pairsI l := rfl
    rw [e, List.length_append, ih, List.length_cons]
    simp
    omega
theorem pairsI_get : ∀ (l : List (Int × Int)) (i : Nat), i < l.length → (pairsI l)[i * 2]? = some (.int .i64 (l.getD i (0, 0)).1) ∧ (pairsI l)[i * 2 + 1]? = some (.int .i64 (l.getD i (0, 0)).2)
  | [], i, h => by simp at h
  | p :: l, 0, _ => by simp [pairsI]
  | p :: l, i + 1, h => by
    have ih := pairsI_get l i (by simpa using h)
    have e : pairsI (p :: l) = Value.int .i64 p.1 :: Value.int .i64 p.2 :: pairsI l := rfl
    rw [e, show (i + 1) * 2 = i * 2 + 1 + 1 from by omega, show i * 2 + 1 + 1 + 1 = (i * 2 + 1) + 1 + 1 from rfl, List.getElem?_cons_succ, List.getElem?_cons_succ, List.getElem?_cons_succ, List.getElem?_cons_succ]
    simpa using ih
theorem infoRun : (Try.prog.info? 139).map (fun i => (i.zero, i.size, i.bytes)) = some (some (.agg #[.int .i64 0, .int .i64 0]), 2, 16) := by kernel_rfl

end Go.Proofs.Ytigokeocphbffaa

namespace Go.Proofs.Ytigokeocphbffaa
open Go.RowKit Go.Shelf

/-- Which comes first? -/
def cmpI (x y : Int) : Int := if x < y then -1 else if y < x then 1 else 0
def encR (x : Int × Int) : List Value := [.int .i64 x.1, .int .i64 x.2]
def cmpR (x y : Int × Int) : Int := cmpI x.1 y.1
theorem ltR (x y : Int × Int) : ltOf cmpR x y = decide (x.1 < y.1) := by
  unfold ltOf cmpR cmpI
  by_cases h1 : x.1 < y.1
  · simp [h1]
  · by_cases h2 : y.1 < x.1 <;> simp [h1, h2]
theorem swoR : Sort.SWO (ltOf cmpR) where
  irrefl x := by rw [ltR]; simp
  trans x y z h1 h2 := by rw [ltR] at *; simp at *; omega
  ntrans x y z h1 h2 := by rw [ltR] at *; simp at *; omega

/-- A value that is such a list of runs. -/
def RunsV (W : World) (v : Value) (l : List (Int × Int)) : Prop := ∃ a c, v = .slice a l.length c ∧ (l ≠ [] → ∃ g, a = some ⟨g, 0, none⟩ ∧ g < W.heap.size ∧ ∀ i, i < l.length → W.cell? ⟨g, i * 2, none⟩ = some (.int .i64 (l.getD i (0, 0)).1) ∧ W.cell? ⟨g, i * 2 + 1, none⟩ = some (.int .i64 (l.getD i (0, 0)).2))
theorem RunsV.kept {W W' : World} {v : Value} {l : List (Int × Int)} {M : Nat → Prop} (h : RunsV W v l) (ho : Only M W W') (hM : ∀ a m c, v = .slice (some a) m c → ¬ M a.block) : RunsV W' v l := by
  obtain ⟨a, c, e, h⟩ := h
  refine ⟨a, c, e, fun hne => ?_⟩
  obtain ⟨g, e2, h2, h3⟩ := h hne
  have hg : ¬ M g := hM ⟨g, 0, none⟩ l.length c (by rw [e, e2])
  exact ⟨g, e2, Nat.lt_of_lt_of_le h2 ho.size, fun i hi => ⟨(ho.cell (p := ⟨g, i * 2, none⟩) h2 hg).trans (h3 i hi).1, (ho.cell (p := ⟨g, i * 2 + 1, none⟩) h2 hg).trans (h3 i hi).2⟩⟩
theorem RunsV.below {W W' : World} {v : Value} {l : List (Int × Int)} (h : RunsV W v l) (hb : Below W.heap.size W W') : RunsV W' v l := h.kept (Below.only hb (fun _ => False)) (fun _ _ _ _ h => h)

theorem holds_of_owns {W : World} {base g cap n : Nat} {l : List (Int × Int)} (h : W.ownsRow base 139 2 (.slice (some ⟨g, 0, none⟩) n cap) n (pairsI l)) (hl : l.length = n) : Sort.HoldsK encR 2 W g 0 l.toArray := by
  intro j hj
  rw [Sort.size_flatK] at hj
  simp only [List.size_toArray] at hj
  have hd : j / 2 < l.length := by omega
  rw [Sort.get_flatK _ _ _ _ (by simpa using hj), Nat.zero_add]
  refine ⟨?_, h.frozenAt j⟩
  rw [World.ownsRow.cellAt h j (by omega)]
  have hg : (l.toArray[j / 2]!) = l.getD (j / 2) (0, 0) := by simp [List.getD, hd]
  rw [hg]
  obtain ⟨q1, q2⟩ := pairsI_get l (j / 2) hd
  rcases Nat.mod_two_eq_zero_or_one j with e | e
  · rw [show j = j / 2 * 2 from by omega, q1]
    simp [encR]
  · rw [show j = j / 2 * 2 + 1 from by omega, q2, show (j / 2 * 2 + 1) / 2 = j / 2 from by omega, show (j / 2 * 2 + 1) % 2 = 1 from by omega]
    simp [encR]
theorem runs_of_holds {W : World} {g cap : Nat} {l : List (Int × Int)} (h : Sort.HoldsK encR 2 W g 0 l.toArray) (hg : g < W.heap.size) : RunsV W (.slice (some ⟨g, 0, none⟩) l.length cap) l := by
  refine ⟨_, _, rfl, fun _ => ⟨g, rfl, hg, fun i hi => ?_⟩⟩
  have e : (l.toArray[i]!) = l.getD i (0, 0) := by simp [List.getD, hi]
  have h0 := (Sort.HoldsK.cell h (i := i) (c := 0) (by simpa using hi) (by decide)).1
  have h1 := (Sort.HoldsK.cell h (i := i) (c := 1) (by simpa using hi) (by decide)).1
  rw [e] at h0 h1
  simp only [Nat.zero_add, Nat.add_zero] at h0 h1
  exact ⟨h0, h1⟩
theorem sorted_below {w : World} {b g n : Nat} {os : Array Obj} (d : Array (Int × Int)) (hb : b ≤ g) (hw : b ≤ w.heap.size) : Below b w (sortWorldK encR 2 w g 0 n d os) := by
  refine ⟨rfl, rfl, rfl, ?_, fun k hk => ?_⟩
  · simp [sortWorldK, Sort.grow, Sort.putRowK, Sort.putRow, Sort.mapBlock, Sort.ahead]
  · have : g ≠ k := by omega
    unfold sortWorldK
    rw [Sort.heap_grow_old _ _ (by simp [Sort.putRowK, Sort.putRow, Sort.mapBlock, Sort.ahead]; omega)]
    simp [Sort.putRowK, Sort.putRow, Sort.mapBlock, Sort.ahead, Array.getElem?_modify, this]

attribute [local go_sem] Oper.semAt_some

end Go.Proofs.Ytigokeocphbffaa

namespace Go.Proofs.Ytigokeocphbffaa
open Go.RowKit

attribute [local go_sem] Oper.semAt_some

def PutS (B : Nat) (q : Prop) : Res := fun W G => q ∧ Boxed W (B + 1) 73 (.int .i64 4) ∧ ∀ z, G z ↔ z = B + 1
theorem Loc.putS {B : Nat} {q : Prop} : Loc (PutS B q) :=
  ⟨fun ⟨h0, h1, h2⟩ o hn => ⟨h0, (o.block _ h1.lt (hn _ ((h2 _).2 rfl))).trans h1, h2⟩, fun ⟨_, h1, h2⟩ hz => by have := (h2 _).1 hz; subst this; exact h1.lt⟩
end Go.Proofs.Ytigokeocphbffaa
