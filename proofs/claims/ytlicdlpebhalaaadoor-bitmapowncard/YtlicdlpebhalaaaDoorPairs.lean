/- Rows of pairs of numbers; the collecting of an iterator's pairs into a new row. -/
import Derived.Test.YtlicdlpebhalaaaDoorTurned
import Derived.WalkSmall
import Derived.Maps.AppendAt
namespace Go.Proofs.YtlicdlpebhalaaaDoor
open Go.RowKit Go.Shelf

attribute [local go_sem] Oper.semAt_some

def pairVals (k : IntKind) (l : List (Nat × Nat)) : List Value := l.flatMap fun p => [.int .i64 (p.1 : Int), .int k (p.2 : Int)]
theorem pairVals_length (k : IntKind) (l : List (Nat × Nat)) : (pairVals k l).length = l.length * 2 := by
  induction l with
  | nil => rfl
  | cons p l ih =>
    have e : pairVals k (p :: l) = [Value.int .i64 (p.1 : Int), Value.int k (p.2 : Int)] ++ pairVals k l := rfl
    rw [e, List.length_append, ih, List.length_cons]
    simp
    omega

theorem pairVals_get (k : IntKind) : ∀ (l : List (Nat × Nat)) (i : Nat), i < l.length → (pairVals k l)[2 * i]? = some (.int .i64 ((l.getD i (0, 0)).1 : Int)) ∧ (pairVals k l)[2 * i + 1]? = some (.int k ((l.getD i (0, 0)).2 : Int))
  | [], i, h => by simp at h
  | p :: l, 0, _ => by simp [pairVals]
  | p :: l, i + 1, h => by
    have ih := pairVals_get k l i (by simpa using h)
    have e : pairVals k (p :: l) = Value.int .i64 (p.1 : Int) :: Value.int k (p.2 : Int) :: pairVals k l := rfl
    rw [e, show 2 * (i + 1) = 2 * i + 1 + 1 from by omega, show 2 * i + 1 + 1 + 1 = (2 * i + 1) + 1 + 1 from rfl, List.getElem?_cons_succ, List.getElem?_cons_succ, List.getElem?_cons_succ, List.getElem?_cons_succ]
    simpa using ih

/-- The pairs of l lie where a points. -/
def PairsIn (k : IntKind) (W : World) (a : Option Addr) (l : List (Nat × Nat)) : Prop :=
  l ≠ [] → ∃ g, a = some ⟨g, 0, none⟩ ∧ g < W.heap.size ∧ ∀ i, i < l.length → W.cell? ⟨g, 2 * i, none⟩ = some (.int .i64 ((l.getD i (0, 0)).1 : Int)) ∧ W.cell? ⟨g, 2 * i + 1, none⟩ = some (.int k ((l.getD i (0, 0)).2 : Int))

theorem PairsIn.below {k : IntKind} {W W' : World} {n : Nat} {a : Option Addr} {l : List (Nat × Nat)} (h : PairsIn k W a l) (hb : Below n W W') (hn : W.heap.size ≤ n) : PairsIn k W' a l := fun hne => by
  obtain ⟨g, e, h2, h3⟩ := h hne
  exact ⟨g, e, Nat.lt_of_lt_of_le h2 hb.size, fun i hi => ⟨(hb.cell (p := ⟨g, 2 * i, none⟩) (by simp; omega)).trans (h3 i hi).1, (hb.cell (p := ⟨g, 2 * i + 1, none⟩) (by simp; omega)).trans (h3 i hi).2⟩⟩

theorem PairsIn.at {k : IntKind} {W : World} {a : Option Addr} {l : List (Nat × Nat)} (h : PairsIn k W a l) {i : Nat} (hi : i < l.length) : ∃ g, a = some ⟨g, 0, none⟩ ∧ g < W.heap.size ∧ W.cell? ⟨g, 2 * i, none⟩ = some (.int .i64 ((l.getD i (0, 0)).1 : Int)) ∧ W.cell? ⟨g, 2 * i + 1, none⟩ = some (.int k ((l.getD i (0, 0)).2 : Int)) := by
  obtain ⟨g, e, h2, h3⟩ := h (fun e => by simp [e] at hi)
  exact ⟨g, e, h2, h3 i hi⟩

/-- A value that is such a list. -/
def PairsV (k : IntKind) (W : World) (v : Value) (l : List (Nat × Nat)) : Prop := ∃ a c, v = .slice a l.length c ∧ PairsIn k W a l
theorem PairsV.below {k : IntKind} {W W' : World} {n : Nat} {v : Value} {l : List (Nat × Nat)} (h : PairsV k W v l) (hb : Below n W W') (hn : W.heap.size ≤ n) : PairsV k W' v l := by
  obtain ⟨a, c, e, hp⟩ := h
  exact ⟨a, c, e, hp.below hb hn⟩
theorem PairsV.nil (k : IntKind) (W : World) : PairsV k W (.slice none 0 0) [] := ⟨none, 0, rfl, fun h => absurd rfl h⟩

theorem pairs_of_owns {k : IntKind} {W : World} {base : Nat} {t : TypeId} {v : Value} {l : List (Nat × Nat)} (h : W.ownsRow base t 2 v l.length (pairVals k l)) : ∃ a c, v = .slice a l.length c ∧ PairsIn k W a l := by
  have hh := h
  rcases h.2 with ⟨rfl, h0⟩ | ⟨g, cap, cur, rfl, hb, hg, hle, hm, hsz, hcur⟩
  · exact ⟨none, 0, by rw [h0], fun hne => absurd (List.length_eq_zero_iff.1 h0) hne⟩
  · refine ⟨_, _, rfl, fun _ => ⟨g, rfl, (Array.getElem?_eq_some_iff.1 hg).1, fun i hi => ?_⟩⟩
    have h1 := World.ownsRow.cellAt hh (2 * i) (by omega)
    have h2 := World.ownsRow.cellAt hh (2 * i + 1) (by omega)
    rw [h1, h2]
    exact pairVals_get k l i hi

theorem infoRun : (Tryd.prog.info? 47).map (fun i => (i.zero, i.size, i.bytes)) = some (some (.agg #[.int .i64 0, .int .i64 0]), 2, 16) := by kernel_rfl

set_option maxRecDepth 100000 in
set_option maxHeartbeats 2000000 in
theorem appendRunIn (n : Nat) (hn : 3 ≤ n) {α : Type} (f : α → Nat × Nat) (gf : Nat) (lb : Array Value) (eg : ∀ args w, (callFunc gf args).run Tryd.prog w = .ok (.enter gf args) w) {S Sp : List α → Prop} {N : Nat} (hN : N ≤ 1099511627776) (w : World)
    (hseq : SeqStopsK Fence.wide (n - 1) Tryd.prog gf lb (fun x => #[.agg #[.int .i64 ((f x).1 : Int), .int .i64 ((f x).2 : Int)]]) (Below w.heap.size) S Sp N w) :
    CallsIn Fence.wide n Tryd.prog 45 #[.slice none 0 0, .func (.func gf) #[] lb] w fun e w' => ∃ ys v, S ys ∧ e = .returned v ∧ w'.ownsRow w.heap.size 47 2 v ys.length (pairVals .i64 (ys.map f)) ∧ Below w.heap.size w w' := by
  have h1 : 1 ≤ n := by omega
  obtain ⟨i0, hi, hz0, hz1, hz2⟩ := info_parts infoRun
  refine callsIn_of_wp_marks Tryd.func45 rfl trivial ?_ rfl
  simp only [Tryd.ntmps45, List.size_toArray, List.length_cons, List.length_nil, Nat.reduceAdd, Nat.reduceSub, Array.replicate_succ, Array.replicate_zero, List.push_toArray, List.append_toArray, List.nil_append, List.cons_append]
  gi_wp2
  have b0 := Boxed.new w 32 (.slice none 0 0)
  have hB0 : Below w.heap.size w (w.alloc (.cells #[.slice none 0 0] 32)) := (Below.refl _ w).alloc (Nat.le_refl _) _
  refine wpIn_range_boxed (t := 5) rfl h1 (gf := gf) (lb := lb) rfl trivial eg (fun x => #[.int .i64 ((f x).1 : Int), .int .i64 ((f x).2 : Int)]) 47 hseq belowK_t (belowK_b (by simp)) hB0
    (fun pre W => (∃ v, Boxed W w.heap.size 32 v ∧ W.ownsRow w.heap.size 47 2 v pre.length (pairVals .i64 (pre.map f)) ∧ True) ∧ Below w.heap.size w W ∧ w.heap.size + 1 ≤ W.heap.size)
    (fun _ _ _ => False)
    (OwnFrom.and (Own.from (holdsRow_own w.heap.size w.heap.size 32 47 2 (fun pre : List α => pre.length) (fun pre => pairVals .i64 (pre.map f)) (fun _ _ => True)) _) (OwnFrom.and (ownFrom_below (Nat.le_refl _) (by simp)) (fun _ _ _ _ hs hg _ => Nat.le_trans hs hg.size)))
    (fun _ _ _ _ _ hs _ _ => hs)
    ⟨⟨_, b0, World.ownsRow_nil _ _ _ _, trivial⟩, hB0, by simp⟩
    (fun W o hW => (Below.refl _ W).alloc (by simp at hW; omega) o) (fun pre W hI => by have := hI.2.2; simp; omega)
    ?assign ?body ?done ?stop
  case assign =>
    intro l y W K hK
    gi_wp2
    exact hK
  case body =>
    rintro L pre x b W hb ⟨⟨v, hv, hrw, _⟩, hB, hz3⟩ hbox hlt
    have hc := hv.cell
    simp only [World.size_alloc] at hb
    have e0 : W.cell? ⟨b, 0, none⟩ = some (.int .i64 ((f x).1 : Int)) := cell_of_heap hbox
    have e1 : W.cell? ⟨b, 1, none⟩ = some (.int .i64 ((f x).2 : Int)) := cell_of_heap hbox
    have HV : Hid (pairVals .i64 ((pre ++ [x]).map f) = pairVals .i64 (pre.map f) ++ [.int .i64 ((f x).1 : Int), .int .i64 ((f x).2 : Int)]) := by show pairVals _ _ = _; simp [pairVals]
    have HL : Hid ((pre ++ [x]).length = pre.length + 1) := by show (pre ++ [x]).length = _; simp
    generalize (f x).1 = y at *
    generalize (f x).2 = z at *
    clear hbox
    gi_wp2_with (gi_at_builtin; refine wpListIn_append_own _ rfl _ _ 32 rfl w.heap.size 47 i0 (.agg #[.int .i64 0, .int .i64 0]) 2 16 Tryd.underlying32 hi hz0 hz1 hz2 rfl (by decide) _ _ _ rfl (hrw.alloc _) ⟨W.heap.size, 0, none⟩ 1 1 [.int .i64 (y : Int), .int .i64 (z : Int)] rfl rfl (cell_two_new _ _ _ _) (by simp [Value.oneCell']) (by unfold maxLen; omega) (by omega) (by simp; omega) ?_; intro v' w3 hown' hgrow' _; obtain ⟨g', cap', rfl⟩ := ownsRow_succ hown'; obtain ⟨hv1, hv2, hr2, hk2, hb2⟩ := hv.appended (by decide) hrw (by omega) (Nat.le_refl _) hown' hgrow'; have hc1 := hv1.cell; have hf1 := hv1.frozen)
    exact ⟨hk2.from _, hb2, ⟨_, hv2, by rw [HV.out, HL.out]; exact hr2, trivial⟩, hB.trans hb2, Nat.le_trans hz3 hb2.size⟩
  case done =>
    rintro D ys W hD hS ⟨⟨v, hv, hrw, _⟩, hB, hz3⟩ hK
    have hc := hv.cell
    have HS := hide hS
    have HR := hide hrw
    clear hS hrw
    simp only [World.size_alloc] at hD
    gi_wp2
    refine ⟨by simp, .inl ⟨_, _, rfl, run_takeDeferred hK, ?_⟩⟩
    exact ⟨_, results_tmp rfl _ _ _, ys, v, HS.out, rfl, ownsRow_putObj HR.out _ hK rfl, hB.trans (belowK_b (w := w) (Nat.le_refl _) W D _ _ (by omega) hK rfl rfl)⟩
  case stop =>
    rintro D c pre W _ _ h _
    exact h.elim

theorem collectRunIn (n : Nat) (hn : 4 ≤ n) {α : Type} (f : α → Nat × Nat) (gf : Nat) (lb : Array Value) (eg : ∀ args w, (callFunc gf args).run Tryd.prog w = .ok (.enter gf args) w) {S Sp : List α → Prop} {N : Nat} (hN : N ≤ 1099511627776) (w : World)
    (hseq : SeqStopsK Fence.wide (n - 1 - 1) Tryd.prog gf lb (fun x => #[.agg #[.int .i64 ((f x).1 : Int), .int .i64 ((f x).2 : Int)]]) (Below w.heap.size) S Sp N w) :
    CallsIn Fence.wide n Tryd.prog 36 #[.func (.func gf) #[] lb] w fun e w' => ∃ ys v, S ys ∧ e = .returned v ∧ w'.ownsRow w.heap.size 47 2 v ys.length (pairVals .i64 (ys.map f)) ∧ Below w.heap.size w w' := by
  have h1 : 1 ≤ n := by omega
  have H := hide (appendRunIn (n - 1) (by omega) f gf lb eg hN w hseq)
  refine callsIn_of_wp Tryd.func36 rfl trivial ?_ rfl
  simp only [Tryd.ntmps36, List.size_toArray, List.length_cons, List.length_nil, Nat.reduceAdd, Nat.reduceSub, Array.replicate_succ, Array.replicate_zero, List.push_toArray, List.append_toArray, List.nil_append, List.cons_append]
  gi_wp2_with (refine ⟨trivial, ?_⟩; gi_at_call 45; refine H.out.mono ?_; rintro e w' ⟨ys, v, hS, rfl, hrow, hbel⟩; have HS := hide hS; clear hS)
  go_ret
  exact ⟨ys, v, HS.out, rfl, hrow, hbel⟩

theorem infoPart : (Tryd.prog.info? 41).map (fun i => (i.zero, i.size, i.bytes)) = some (some (.agg #[.int .i64 0, .int .u64 0]), 2, 16) := by kernel_rfl

set_option maxRecDepth 100000 in
set_option maxHeartbeats 2000000 in
theorem appendPartIn (n : Nat) (hn : 3 ≤ n) {α : Type} (f : α → Nat × Nat) (gf : Nat) (lb : Array Value) (eg : ∀ args w, (callFunc gf args).run Tryd.prog w = .ok (.enter gf args) w) {S Sp : List α → Prop} {N : Nat} (hN : N ≤ 1099511627776) (w : World)
    (hseq : SeqStopsK Fence.wide (n - 1) Tryd.prog gf lb (fun x => #[.agg #[.int .i64 ((f x).1 : Int), .int .u64 ((f x).2 : Int)]]) (Below w.heap.size) S Sp N w) :
    CallsIn Fence.wide n Tryd.prog 47 #[.slice none 0 0, .func (.func gf) #[] lb] w fun e w' => ∃ ys v, S ys ∧ e = .returned v ∧ w'.ownsRow w.heap.size 41 2 v ys.length (pairVals .u64 (ys.map f)) ∧ Below w.heap.size w w' := by
  have h1 : 1 ≤ n := by omega
  obtain ⟨i0, hi, hz0, hz1, hz2⟩ := info_parts infoPart
  refine callsIn_of_wp_marks Tryd.func47 rfl trivial ?_ rfl
  simp only [Tryd.ntmps47, List.size_toArray, List.length_cons, List.length_nil, Nat.reduceAdd, Nat.reduceSub, Array.replicate_succ, Array.replicate_zero, List.push_toArray, List.append_toArray, List.nil_append, List.cons_append]
  gi_wp2
  have b0 := Boxed.new w 36 (.slice none 0 0)
  have hB0 : Below w.heap.size w (w.alloc (.cells #[.slice none 0 0] 36)) := (Below.refl _ w).alloc (Nat.le_refl _) _
  refine wpIn_range_boxed (t := 5) rfl h1 (gf := gf) (lb := lb) rfl trivial eg (fun x => #[.int .i64 ((f x).1 : Int), .int .u64 ((f x).2 : Int)]) 41 hseq belowK_t (belowK_b (by simp)) hB0
    (fun pre W => (∃ v, Boxed W w.heap.size 36 v ∧ W.ownsRow w.heap.size 41 2 v pre.length (pairVals .u64 (pre.map f)) ∧ True) ∧ Below w.heap.size w W ∧ w.heap.size + 1 ≤ W.heap.size)
    (fun _ _ _ => False)
    (OwnFrom.and (Own.from (holdsRow_own w.heap.size w.heap.size 36 41 2 (fun pre : List α => pre.length) (fun pre => pairVals .u64 (pre.map f)) (fun _ _ => True)) _) (OwnFrom.and (ownFrom_below (Nat.le_refl _) (by simp)) (fun _ _ _ _ hs hg _ => Nat.le_trans hs hg.size)))
    (fun _ _ _ _ _ hs _ _ => hs)
    ⟨⟨_, b0, World.ownsRow_nil _ _ _ _, trivial⟩, hB0, by simp⟩
    (fun W o hW => (Below.refl _ W).alloc (by simp at hW; omega) o) (fun pre W hI => by have := hI.2.2; simp; omega)
    ?assign ?body ?done ?stop
  case assign =>
    intro l y W K hK
    gi_wp2
    exact hK
  case body =>
    rintro L pre x b W hb ⟨⟨v, hv, hrw, _⟩, hB, hz3⟩ hbox hlt
    have hc := hv.cell
    simp only [World.size_alloc] at hb
    have e0 : W.cell? ⟨b, 0, none⟩ = some (.int .i64 ((f x).1 : Int)) := cell_of_heap hbox
    have e1 : W.cell? ⟨b, 1, none⟩ = some (.int .u64 ((f x).2 : Int)) := cell_of_heap hbox
    have HV : Hid (pairVals .u64 ((pre ++ [x]).map f) = pairVals .u64 (pre.map f) ++ [.int .i64 ((f x).1 : Int), .int .u64 ((f x).2 : Int)]) := by show pairVals _ _ = _; simp [pairVals]
    have HL : Hid ((pre ++ [x]).length = pre.length + 1) := by show (pre ++ [x]).length = _; simp
    generalize (f x).1 = y at *
    generalize (f x).2 = z at *
    clear hbox
    gi_wp2_with (gi_at_builtin; refine wpListIn_append_own _ rfl _ _ 36 rfl w.heap.size 41 i0 (.agg #[.int .i64 0, .int .u64 0]) 2 16 Tryd.underlying36 hi hz0 hz1 hz2 rfl (by decide) _ _ _ rfl (hrw.alloc _) ⟨W.heap.size, 0, none⟩ 1 1 [.int .i64 (y : Int), .int .u64 (z : Int)] rfl rfl (cell_two_new _ _ _ _) (by simp [Value.oneCell']) (by unfold maxLen; omega) (by omega) (by simp; omega) ?_; intro v' w3 hown' hgrow' _; obtain ⟨g', cap', rfl⟩ := ownsRow_succ hown'; obtain ⟨hv1, hv2, hr2, hk2, hb2⟩ := hv.appended (by decide) hrw (by omega) (Nat.le_refl _) hown' hgrow'; have hc1 := hv1.cell; have hf1 := hv1.frozen)
    exact ⟨hk2.from _, hb2, ⟨_, hv2, by rw [HV.out, HL.out]; exact hr2, trivial⟩, hB.trans hb2, Nat.le_trans hz3 hb2.size⟩
  case done =>
    rintro D ys W hD hS ⟨⟨v, hv, hrw, _⟩, hB, hz3⟩ hK
    have hc := hv.cell
    have HS := hide hS
    have HR := hide hrw
    clear hS hrw
    simp only [World.size_alloc] at hD
    gi_wp2
    refine ⟨by simp, .inl ⟨_, _, rfl, run_takeDeferred hK, ?_⟩⟩
    exact ⟨_, results_tmp rfl _ _ _, ys, v, HS.out, rfl, ownsRow_putObj HR.out _ hK rfl, hB.trans (belowK_b (w := w) (Nat.le_refl _) W D _ _ (by omega) hK rfl rfl)⟩
  case stop =>
    rintro D c pre W _ _ h _
    exact h.elim

theorem collectPartIn (n : Nat) (hn : 4 ≤ n) {α : Type} (f : α → Nat × Nat) (gf : Nat) (lb : Array Value) (eg : ∀ args w, (callFunc gf args).run Tryd.prog w = .ok (.enter gf args) w) {S Sp : List α → Prop} {N : Nat} (hN : N ≤ 1099511627776) (w : World)
    (hseq : SeqStopsK Fence.wide (n - 1 - 1) Tryd.prog gf lb (fun x => #[.agg #[.int .i64 ((f x).1 : Int), .int .u64 ((f x).2 : Int)]]) (Below w.heap.size) S Sp N w) :
    CallsIn Fence.wide n Tryd.prog 38 #[.func (.func gf) #[] lb] w fun e w' => ∃ ys v, S ys ∧ e = .returned v ∧ w'.ownsRow w.heap.size 41 2 v ys.length (pairVals .u64 (ys.map f)) ∧ Below w.heap.size w w' := by
  have h1 : 1 ≤ n := by omega
  have H := hide (appendPartIn (n - 1) (by omega) f gf lb eg hN w hseq)
  refine callsIn_of_wp Tryd.func38 rfl trivial ?_ rfl
  simp only [Tryd.ntmps38, List.size_toArray, List.length_cons, List.length_nil, Nat.reduceAdd, Nat.reduceSub, Array.replicate_succ, Array.replicate_zero, List.push_toArray, List.append_toArray, List.nil_append, List.cons_append]
  gi_wp2_with (refine ⟨trivial, ?_⟩; gi_at_call 47; refine H.out.mono ?_; rintro e w' ⟨ys, v, hS, rfl, hrow, hbel⟩; have HS := hide hS; clear hS)
  go_ret
  exact ⟨ys, v, HS.out, rfl, hrow, hbel⟩

end Go.Proofs.YtlicdlpebhalaaaDoor
