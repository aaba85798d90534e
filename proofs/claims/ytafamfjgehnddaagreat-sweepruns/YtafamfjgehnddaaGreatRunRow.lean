/- A row that grows, in a box of its own; slices.AppendSeq and slices.Collect of runs. -/
import Derived.Test.YtafamfjgehnddaaGreatRunAllR
import Derived.Maps.AppendAt
namespace Go.Proofs.YtafamfjgehnddaaGreat
open Go.RowKit

theorem wpListIn_append_at {F : Fence} {n : Nat} {P : Program} (w : World) {ops : Array Oper} {rest : List Oper} {o : Oper} {a : Act} {Q : Exit → Act → World → Prop}
    (hg : o.guard = none) (s x : Operand) (t : TypeId) (hop : o.op = Op.call { callee := Callee.builtin Builtin.append, args := #[s, x], argTypes := #[t, t] })
    (base : Nat) (e : TypeId) (i : TypeInfo) (z : Value) (size bytes : Nat) (h1 : P.underlying t = some (.slice e)) (h2 : P.info? e = some i) (h3 : i.zero = some z) (h4 : i.size = size) (h5 : i.bytes = bytes) (h6 : z.cells.size = size) (h7 : 0 < size)
    (v : Value) (k : Nat) (xs : List Value) (hs : a.eval s = v) (hown : w.ownsRow base e size v k xs) (ad : Addr) (m c : Nat) (news : List Value) (hx : a.eval x = .slice (some ad) m c) (hn : news.length = m * size)
    (hc : ∀ j u, news[j]? = some u → w.cell? (ad.add j) = some u) (h1c : ∀ u ∈ news, u.oneCell' = true) (b1 : k + m ≤ maxLen) (b2 : (k + m) * bytes ≤ 140737488355328) (b3 : base ≤ w.heap.size)
    (hK : ∀ v' w', w'.ownsRow base e size v' (k + m) (xs ++ news) → w.grownBy w' v.ownBlock → (v'.ownBlock = v.ownBlock ∨ v'.ownBlock = some w.heap.size) → wpListIn F n P ops Q rest (a.put o.dst v') w') :
    wpListIn F n P ops Q (o :: rest) a w := by
  refine wpListIn_plain hg fun K hK' => ?_
  obtain ⟨v', w', hrun, r1, r2, _, r4⟩ := run_append_own_at (P := P) w base t o.type e i z size bytes h1 h2 h3 h4 h5 h6 h7 v k xs hown ad m c news hn hc h1c b1 b2 b3
  unfold Oper.wpIn
  refine ⟨?_, ?_⟩
  · simp [Oper.about, hop, resolve, Target.leads, Sem.run_pure]
  · rw [Oper.semAt_plain F _ _ (by rw [hop]; intro c hc'; cases hc')]
    simp [execOp, hop, resolve, invoke, builtin, hs, hx, hrun, Result.andThen]
    exact hK' _ _ (hK v' w' r1 r2 r4)

attribute [local go_sem] Oper.semAt_some

/-- At B lies a slice, whose row is the call's own. -/
def BoxRow (B : Nat) (T e : TypeId) (base size k : Nat) (xs : List Value) : Res := fun W G => ∃ v, Boxed W B T v ∧ W.ownsRow base e size v k xs ∧ ∀ x, G x ↔ x = B ∨ v.ownBlock = some x
theorem Loc.boxRow {B : Nat} {T e : TypeId} {base size k : Nat} {xs : List Value} : Loc (BoxRow B T e base size k xs) := by
  refine ⟨fun {w w' M G} ⟨v, h1, h2, h3⟩ o hn => ⟨v, (o.block B h1.lt (hn B ((h3 B).2 (.inl rfl)))).trans h1, ⟨h2.1, ?_⟩, h3⟩, fun {w G x} ⟨v, h1, h2, h3⟩ hx => ?_⟩
  · rcases h2.2 with q | ⟨g, cap, cur, rfl, q1, q2, q3⟩
    · exact .inl q
    · exact .inr ⟨g, cap, cur, rfl, q1, (o.block g (Array.getElem?_eq_some_iff.1 q2).1 (hn g ((h3 g).2 (.inr rfl)))).trans q2, q3⟩
  · rcases (h3 x).1 hx with rfl | q
    · exact h1.lt
    · exact (h2.lt x q).2
/-- Behind an append, and the store of what came out. -/
theorem BoxRow.appended {B : Nat} {T e : TypeId} {base size k m : Nat} {xs ys : List Value} {W w1 : World} {G : Nat → Prop} {v v' : Value} {tmp : Obj} (h1 : Boxed W B T v) (hte : T ≠ e) (h2 : W.ownsRow base e size v k xs) (h3 : ∀ x, G x ↔ x = B ∨ v.ownBlock = some x)
    (hown : w1.ownsRow base e size v' m ys) (hgrow : (W.alloc tmp).grownBy w1 v.ownBlock) (hat : v'.ownBlock = v.ownBlock ∨ v'.ownBlock = some (W.heap.size + 1)) :
    Boxed w1 B T v ∧ Only G W (w1.setCell ⟨B, 0, none⟩ v') ∧ BoxRow B T e base size m ys (w1.setCell ⟨B, 0, none⟩ v') (fun x => x = B ∨ v'.ownBlock = some x) ∧ ∀ y, (y = B ∨ v'.ownBlock = some y) → G y ∨ W.heap.size ≤ y := by
  have hv1 : Boxed w1 B T v := (h1.alloc tmp).kept hgrow (h1.not_row hte h2)
  have nr := hv1.not_row hte hown
  refine ⟨hv1, ?_, ⟨v', hv1.set v', ?_, fun _ => Iff.rfl⟩, fun y hy => ?_⟩
  · have o1 : Only G W w1 := by
      refine ⟨hgrow.os, hgrow.tape, hgrow.output, by have := hgrow.size; simp at this; omega, fun j hj hn => ?_⟩
      rw [hgrow.block j (by simp; omega) (fun e => hn ((h3 j).2 (.inr e.symm))), Below.heap_alloc _ _ _ hj]
    exact o1.setCell (.inl ((h3 B).2 (.inl rfl))) _
  · refine ⟨hown.1, ?_⟩
    rcases hown.2 with q | ⟨g, cap, cur, rfl, q1, q2, q3⟩
    · exact .inl q
    · exact .inr ⟨g, cap, cur, rfl, q1, (heap_setCell_ne (fun e => nr (by rw [← e]; rfl)) _).trans q2, q3⟩
  · rcases hy with rfl | hy
    · exact .inl ((h3 _).2 (.inl rfl))
    · rcases hat with q | q
      · exact .inl ((h3 y).2 (.inr (by rw [← q]; exact hy)))
      · rw [q] at hy; cases hy; exact .inr (by omega)

def pairsI (l : List (Int × Int)) : List Value := l.flatMap fun p => [.int .i64 p.1, .int .i64 p.2]
theorem pairsI_length (l : List (Int × Int)) : (pairsI l).length = l.length * 2 := by
  induction l with
  | nil => rfl
  | cons p l ih =>
    have e : pairsI (p :: l) = [Value.int .i64 p.1, Value.int .i64 p.2] ++ pairsI l := rfl
    rw [e, List.length_append, ih, List.length_cons]
    simp
    omega
theorem pairsI_get : ∀ (l : List (Int × Int)) (i : Nat), i < l.length → (pairsI l)[i * 2]? = some (.int .i64 (l.getD i (0, 0)).1) ∧ (pairsI l)[i * 2 + 1]? = some (.int .i64 (l.getD i (0, 0)).2)
  | [], i, h => by simp at h
  | p :: l, 0, _ => by simp [pairsI]
  | p :: l, i + 1, h => by
    have ih := pairsI_get l i (by simpa using h)
    have e : pairsI (p :: l) = Value.int .i64 p.1 :: Value.int .i64 p.2 :: pairsI l := rfl
    rw [e, show (i + 1) * 2 = i * 2 + 1 + 1 from by omega, show i * 2 + 1 + 1 + 1 = (i * 2 + 1) + 1 + 1 from rfl, List.getElem?_cons_succ, List.getElem?_cons_succ, List.getElem?_cons_succ, List.getElem?_cons_succ]
    simpa using ih
theorem infoRun : (Tryz.prog.info? 128).map (fun i => (i.zero, i.size, i.bytes)) = some (some (.agg #[.int .i64 0, .int .i64 0]), 2, 16) := by kernel_rfl

set_option maxRecDepth 100000 in
set_option maxHeartbeats 2000000 in
theorem appendSeq67 (n : Nat) (hn : 3 ≤ n) (gf : Nat) (lb : Array Value) (eg : ∀ args w, (callFunc gf args).run Tryz.prog w = .ok (.enter gf args) w) (K : List Int) (hKl : K.length ≤ 100000) (w : World)
    (hseq : SeqR Fence.wide (n - 1) Tryz.prog gf lb (fun k => #[.agg (runVal k)]) K w) :
    CallsIn Fence.wide n Tryz.prog 167 #[.slice none 0 0, .func (.func gf) #[] lb] w fun e w' => ∃ v, e = .returned v ∧ w'.ownsRow w.heap.size 128 2 v K.length (pairsI (K.map rOf)) ∧ Below w.heap.size w w' := by
  have h1 : 1 ≤ n := by omega
  obtain ⟨i0, hi, hz0, hz1, hz2⟩ := info_parts infoRun
  refine callsIn_of_wp_marks Tryz.func167 rfl trivial ?_ rfl
  simp only [Tryz.ntmps167, List.size_toArray, List.length_cons, List.length_nil, Nat.reduceAdd, Nat.reduceSub, Array.replicate_succ, Array.replicate_zero, List.push_toArray, List.append_toArray, List.nil_append, List.cons_append]
  gi_wp2
  have b0 := Boxed.new w 102 (.slice none 0 0)
  have hB0 : Below w.heap.size w (w.alloc (.cells #[.slice none 0 0] 102)) := (Below.refl _ w).alloc (Nat.le_refl _) _
  refine wpIn_rangeR (s := 7) (t := 5) rfl h1 (gf := gf) (lb := lb) rfl trivial eg runVal 128 hseq hB0
    (fun pre => BoxRow w.heap.size 102 128 w.heap.size 2 pre.length (pairsI (pre.map rOf))) (fun _ _ => False) (fun _ => Loc.boxRow) ⟨fun h _ _ => h.elim, fun h => h.elim⟩ (G0 := fun x => x = w.heap.size)
    ⟨.slice none 0 0, b0, World.ownsRow_nil _ _ _ _, fun x => ⟨.inl, fun h => h.elim (fun h => h) (fun h => by simp [Value.ownBlock] at h)⟩⟩
    ?assign ?body ?done (fun _ _ _ _ _ h => h.elim)
  case assign =>
    intro l y W K hK
    unfold runVal
    gi_wp2
    exact hK
  case body =>
    rintro l pre x b V G1 hb hbV hnb ⟨v, hv, hrw, hG1⟩ hbox hpx
    have hc := hv.cell
    have e0 : V.cell? ⟨b, 0, none⟩ = some (.int .i64 (rA x)) := cell_of_heap hbox
    have e1 : V.cell? ⟨b, 1, none⟩ = some (.int .i64 (rN x)) := cell_of_heap hbox
    have HV : Hid (pairsI ((pre ++ [x]).map rOf) = pairsI (pre.map rOf) ++ [.int .i64 (rA x), .int .i64 (rN x)]) := hide (by simp [pairsI, rOf])
    have HL : Hid ((pre ++ [x]).length = pre.length + 1) := hide (by simp)
    have hpl : pre.length + 1 ≤ 100000 := by have := hpx.length_le; rw [HL.out] at this; omega
    have HG1 := hide hG1
    have hsz : w.heap.size ≤ V.heap.size := by simp at hb; omega
    clear hbox hpx hG1
    generalize rA x = y at *
    generalize rN x = z at *
    gi_wp2_with (gi_at_builtin; refine wpListIn_append_at _ rfl _ _ 102 rfl w.heap.size 128 i0 (.agg #[.int .i64 0, .int .i64 0]) 2 16 Tryz.underlying102 hi hz0 hz1 hz2 rfl (by decide) _ _ _ rfl (hrw.alloc _) ⟨V.heap.size, 0, none⟩ 1 1 [.int .i64 y, .int .i64 z] rfl rfl (cell_two_new _ _ _ _) (by simp [Value.oneCell']) (by unfold maxLen; omega) (by omega) (by simp; omega) ?_; intro v' w3 hown' hgrow' hat; obtain ⟨g', cap', rfl⟩ := ownsRow_succ hown'; obtain ⟨hv1, ho3, hr3, hg3⟩ := BoxRow.appended hv (by decide) hrw HG1.out hown' hgrow' (by have q := hat; rw [World.size_alloc] at q; exact q); have hc1 := hv1.cell; have hf1 := hv1.frozen)
    refine endR.mk _ ho3 hg3 ?_
    show BoxRow _ _ _ _ _ _ _ _ _
    rw [HV.out, HL.out]
    exact hr3
  case done =>
    rintro D W G hD hnD ⟨v, hv, hrw, hG⟩ ho hg hK
    have hc := hv.cell
    have HR := hide hrw
    have HO := hide ho
    simp only [World.size_alloc] at hD
    clear hrw ho hg
    gi_wp2
    refine ⟨by simp, .inl ⟨_, _, rfl, run_takeDeferred hK, ?_⟩⟩
    exact ⟨_, results_tmp rfl _ _ _, v, rfl, ownsRow_putObj HR.out _ hK rfl, (hB0.trans (HO.out.below hB0.size (fun i hi => by subst hi; exact Nat.le_refl _))).trans (Below.putObj W _ (by omega))⟩

theorem collect58 (n : Nat) (hn : 4 ≤ n) (gf : Nat) (lb : Array Value) (eg : ∀ args w, (callFunc gf args).run Tryz.prog w = .ok (.enter gf args) w) (K : List Int) (hKl : K.length ≤ 100000) (w : World)
    (hseq : SeqR Fence.wide (n - 1 - 1) Tryz.prog gf lb (fun k => #[.agg (runVal k)]) K w) :
    CallsIn Fence.wide n Tryz.prog 115 #[.func (.func gf) #[] lb] w fun e w' => ∃ v, e = .returned v ∧ w'.ownsRow w.heap.size 128 2 v K.length (pairsI (K.map rOf)) ∧ Below w.heap.size w w' := by
  have h1 : 1 ≤ n := by omega
  have H := hide (appendSeq67 (n - 1) (by omega) gf lb eg K hKl w hseq)
  clear hseq hKl
  refine callsIn_of_wp Tryz.func115 rfl trivial ?_ rfl
  simp only [Tryz.ntmps115, List.size_toArray, List.length_cons, List.length_nil, Nat.reduceAdd, Nat.reduceSub, Array.replicate_succ, Array.replicate_zero, List.push_toArray, List.append_toArray, List.nil_append, List.cons_append]
  gi_wp2_with (refine ⟨trivial, ?_⟩; gi_at_call 167; refine H.out.mono ?_; rintro e w' ⟨v, rfl, hrow, hbel⟩)
  go_ret
  exact ⟨v, rfl, hrow, hbel⟩
end Go.Proofs.YtafamfjgehnddaaGreat
