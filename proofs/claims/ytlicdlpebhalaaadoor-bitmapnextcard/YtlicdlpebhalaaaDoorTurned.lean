/- Turn: what the program's answers, at every list and every stretch. -/
import Derived.Test.YtlicdlpebhalaaaDoorGoing
import Derived.Test.YtlicdlpebhalaaaDoorSmall
import Derived.Test.YtlicdlpebhalaaaDoorLast
import Derived.RangeFuncNested
namespace Go.Proofs.YtlicdlpebhalaaaDoor
open Go.RowKit Go.Shelf

attribute [local go_sem] Oper.semAt_some

theorem heap_own {β : Type} (b : Nat) (f : β → Array Value) (t : TypeId) (z : Nat × Nat) : Own (fun (s : β) W => W.heap[b]? = some (.cells (f s) t z)) := fun s X Y row hs hg hrow =>
  (hg.block b (lt_of_heap hs) (fun e => by obtain ⟨o, ho, hc⟩ := hrow b e.symm; rw [hs] at ho; cases ho; cases hc)).trans hs

theorem row_own {β : Type} (base : Nat) (t : TypeId) (size : Nat) (v : Value) (n : Nat) (f : β → List Value) : Own (fun (s : β) W => W.ownsRow base t size v n (f s)) := fun s X Y row hs hg hrow => by
  refine hs.kept hg ?_
  rcases hs.2 with ⟨rfl, _⟩ | ⟨g, cap, cur, rfl, _, hg', _⟩
  · exact .inl rfl
  · refine .inr (fun e => ?_)
    obtain ⟨o, ho, hc⟩ := hrow g e.symm
    rw [hg'] at ho; cases ho; cases hc

theorem wpIn_range_boxed {F : Fence} {n : Nat} {P : Program} {α : Type} {g : Operand} {s t : Tmp} {assign body : Code} {Q : Exit → Act → World → Prop} {a : Act} {w : World}
    (hro : F.round = none) (h1 : 1 ≤ n) {gf : Nat} {lb : Array Value} (hg : a.eval g = .func (.func gf) #[] lb) (hFg : F.fn gf) (eg : ∀ args w, (callFunc gf args).run P w = .ok (.enter gf args) w)
    (cs : α → Array Value) (T : TypeId) {Kp : World → World → Prop} {S Sp : List α → Prop} {N : Nat} {w0 : World} (hseq : SeqStopsK F (n - 1) P gf lb (fun x => #[.agg (cs x)]) Kp S Sp N w0)
    (hKt : ∀ {A B C : World}, Kp A B → Kp B C → Kp A C) (hKb : ∀ (W : World) (l : Nat) (o o' : Obj), w.heap.size ≤ l → W.heap[l]? = some o → o.isCells = false → o.isWalk = false → Kp W (W.putObj l o')) (hb0 : Below w0.heap.size w0 w)
    (I : List α → World → Prop) (Ix : Code → List α → World → Prop) (hI : OwnFrom w.heap.size I) (hIx : ∀ c, OwnFrom w.heap.size (Ix c)) (h0 : I [] w)
    (hKa : ∀ (W : World) (o : Obj), w.heap.size ≤ W.heap.size → Kp W (W.alloc o)) (hIz : ∀ pre W, I pre W → w.heap.size ≤ W.heap.size)
    (hassign : ∀ (l : Nat) (x : α) (W : World) (K : Act → World → Prop), K { tmps := (a.tmps.setIfInBounds s (.agg (cs x))).setIfInBounds t (.pointer (some ⟨W.heap.size, 0, none⟩)), defers := [] } (W.alloc (.cells (cs x) T)) →
      assign.wpIn (F.inRound l) (n - 1 - 1) P (Exit.then K (fun _ _ _ => False)) { tmps := a.tmps.setIfInBounds s (.agg (cs x)), defers := [] } W)
    (hbody : ∀ (l : Nat) (pre : List α) (x : α) (b : Nat) (W : World), w.heap.size ≤ b → I pre W → W.heap[b]? = some (.cells (cs x) T (0, 0)) → pre.length < N →
      body.wpIn (F.inRound l) (n - 1 - 1) P (ownPostG w.heap.size Kp I Ix (pre ++ [x]) W) { tmps := (a.tmps.setIfInBounds s (.agg (cs x))).setIfInBounds t (.pointer (some ⟨b, 0, none⟩)), defers := [] } W)
    (hdone : ∀ (D : Nat) (xs : List α) (W : World), w.heap.size ≤ D → S xs → I xs W → W.heap[D]? = some (.deferred (some [])) → Q .normal { a with defers := { target := .collected D, args := #[] } :: a.defers } W)
    (hstop : ∀ (D : Nat) (c : Code) (pre : List α) (W : World), w.heap.size ≤ D → Sp pre → Ix c pre W → W.heap[D]? = some (.deferred (some [])) → c.wpIn F n P Q { a with defers := { target := .collected D, args := #[] } :: a.defers } W) :
    (Code.rangeFunc g #[s] assign body).wpIn F n P Q a w := by
  refine wpIn_rangeFunc_ownH hro h1 hg hFg eg hseq hKt hKb hb0 (fun _ => rfl) I Ix hI hIx h0
    (fun x a' W => ∃ b, (w.heap.size ≤ b ∧ a' = { tmps := (a.tmps.setIfInBounds s (.agg (cs x))).setIfInBounds t (.pointer (some ⟨b, 0, none⟩)), defers := [] }) ∧ W.heap[b]? = some (.cells (cs x) T (0, 0)))
    (fun x a' _ X Y row hs hg' hr => by obtain ⟨b, hb, hc⟩ := hs; exact ⟨b, hb, heap_own b (fun _ : Unit => cs x) T (0, 0) () X Y row hc hg' (fun r e => (hr r e).2)⟩)
    (fun l pre x W K hi hK => ?_) (fun l pre x a' W _ _ hi hax hlen => ?_) hdone hstop
  · have := hassign l x W K (hK _ _ ((KeepsOthers.alloc W _).from _) (hKa W _ (hIz pre W hi)) (hI.alloc _ hi) ⟨_, ⟨hIz pre W hi, rfl⟩, World.alloc_heap_new W _⟩)
    simpa using this
  · obtain ⟨b, ⟨hb, rfl⟩, hc⟩ := hax
    exact hbody l pre x b W hb hi hc hlen

theorem wordVals_put (Y : List Nat) (x u : Nat) : (wordVals Y).set x (.int .u64 (u : Int)) = wordVals (Y.set x u) := by simp [wordVals, List.map_set]

theorem fold_fit {k : Nat} (on : Bool) (pre : List (Part k)) : ∀ {l : List Nat}, Bitm.Fit l → Bitm.Fit ((pre.map (·.1)).foldl (Bitm.turnPart on) l) := by
  induction pre with
  | nil => intro l h; exact h
  | cons p pre ih => intro l h; exact ih (Bitm.turnPart_fit h p.2.2)

theorem row_base {w : World} {base b' n : Nat} {t : TypeId} {size : Nat} {v : Value} {xs : List Value} (h : w.ownsRow base t size v n xs) (hb : b' ≤ base) : w.ownsRow b' t size v n xs := by
  refine ⟨h.1, ?_⟩
  rcases h.2 with h | ⟨g, cap, cur, h1, h2, h3⟩
  · exact .inl h
  · exact .inr ⟨g, cap, cur, h1, Nat.le_trans hb h2, h3⟩

theorem row_lt {w : World} {base g n c : Nat} {t : TypeId} {size : Nat} {xs : List Value} (h : w.ownsRow base t size (.slice (some ⟨g, 0, none⟩) n c) n xs) : g < w.heap.size := (h.lt g rfl).2

/-- Do the n bits from at on lie in k words? -/
def turnOk (k : Nat) (a n : Int) : Bool := decide (0 ≤ a ∧ 0 ≤ n ∧ n ≤ 64 * (k : Int) - a)
theorem turnOk_iff (k : Nat) (a n : Int) : turnOk k a n = true ↔ 0 ≤ a ∧ 0 ≤ n ∧ n ≤ 64 * (k : Int) - a := by simp [turnOk]
theorem turnOk_no (k : Nat) (a n : Int) (h : ¬ (0 ≤ a ∧ 0 ≤ n ∧ n ≤ 64 * (k : Int) - a)) : turnOk k a n = false := by simp only [turnOk]; exact decide_eq_false h
def turnL (l : List Nat) (a n : Int) (on : Bool) : List Nat := if turnOk l.length a n then Bitm.turnTo l a.toNat on n.toNat else []

set_option maxRecDepth 100000 in
set_option maxHeartbeats 2000000 in
theorem turn10In (n : Nat) (hn : 3 ≤ n) (l : List Nat) (hl : l.length ≤ 1099511627776) (hf : Bitm.Fit l) (a : Option Addr) (c : Nat) (hz : a = none → c = 0) (p q : Nat) (hpq : p + q ≤ 64 * l.length) (on : Bool) (w : World) (h : WordsIn w a l) :
    CallsIn Fence.wide n Tryd.prog 10 #[.slice a l.length c, .int .i64 (p : Int), .int .i64 (q : Int), .bool on] w fun e w' => ∃ v, e = .returned (.tuple #[v, .bool true]) ∧ WordsOwn w' w.heap.size v (Bitm.turnTo l p on q) ∧ Below w.heap.size w w' := by
  have h1 : 1 ≤ n := by omega
  have HB := fun n w => hide ((callsIn_wide (n := n)).2 (bitsOf27 a l.length c (by omega) w))
  have HC := fun n => hide ((callsIn_wide (n := n)).2 (clone28 l hl a c hz _ (h.alloc (.cells #[.bool on] 4))))
  have HF := hide hf
  obtain ⟨k, hk⟩ : ∃ k, l.length = k := ⟨_, rfl⟩
  have HK := hide hk
  rw [hk] at hl hpq HB HC ⊢
  clear hk h hz hf
  refine callsIn_of_wp_marks Tryd.func10 rfl trivial ?_ rfl
  simp only [Tryd.ntmps10, List.size_toArray, List.length_cons, List.length_nil, Nat.reduceAdd, Nat.reduceSub, Array.replicate_succ, Array.replicate_zero, List.push_toArray, List.append_toArray, List.nil_append, List.cons_append]
  gi_wp2_with (first | (refine ⟨trivial, ?_⟩; gi_at_call 27; refine (HB _ _).out.mono ?_; rintro e w' ⟨rfl, rfl⟩) | (refine ⟨trivial, ?_⟩; gi_at_call 28; refine (HC _).out.mono ?_; rintro e w1 ⟨v, he, hown, hbel⟩; obtain ⟨va, vc, hv, _⟩ := hown.words; rw [HK.out] at hv; subst hv; subst he) | (refine ⟨trivial, ?_⟩; gi_at_call 29; refine (partsIn (n - 1) _ _ _).mono ?_; rintro e w2 ⟨rfl, rfl⟩))
  obtain ⟨z, hz⟩ : ∃ z, z = w1.heap.size := ⟨_, rfl⟩
  have hsz : w.heap.size + 1 ≤ z := by have := hbel.size; simp at this; omega
  have b0 : Boxed w1 w.heap.size 4 (.bool on) := (hbel.block _ (by simp)).trans (Boxed.new w 4 (.bool on))
  have b1 := Boxed.new w1 22 (.slice va k vc)
  have b2 := Boxed.new (w1.alloc (.cells #[.slice va k vc] 22)) 3 (.int .i64 (p : Int))
  have b3 := Boxed.new ((w1.alloc (.cells #[.slice va k vc] 22)).alloc (.cells #[.int .i64 (p : Int)] 3)) 3 (.int .i64 ((p : Int) + (q : Int)))
  simp only [World.size_alloc] at b2 b3
  have hB1 : Below w.heap.size w w1 := ((Below.refl _ w).alloc (Nat.le_refl _) _).trans (hbel.mono (by simp))
  have hB0 : Below w.heap.size w (((w1.alloc (.cells #[.slice va k vc] 22)).alloc (.cells #[.int .i64 (p : Int)] 3)).alloc (.cells #[.int .i64 ((p : Int) + (q : Int))] 3)) := ((hB1.alloc hB1.size _).alloc (by simp; omega) _).alloc (by simp; omega) _
  refine wpIn_range_boxed (t := 11) rfl h1 (gf := 40) (lb := #[.pointer (some ⟨w1.heap.size + 1, 0, none⟩), .pointer (some ⟨w1.heap.size + 1 + 1, 0, none⟩)]) rfl trivial (enters_of Tryd.func40 (by kernel_rfl) rfl)
    (fun x : Part k => #[.int .i64 (x.1.1 : Int), .int .u64 (x.1.2 : Int)]) 41
    (partsStops (n - 1) (by omega) (w1.heap.size + 1) (w1.heap.size + 1 + 1) p (p + q) k hpq (by omega) (KeepsAt (w1.heap.size + 1 + 1)) (fun _ _ h => h.cell) _ (by simp) (by simp) (b2.alloc _).cell (by have := b3.cell; simpa using this))
    KeepsAt.trans (KeepsAt.put (by simp)) (Below.refl _ _)
    (fun pre W => (Boxed W w.heap.size 4 (.bool on) ∧ Boxed W z 22 (.slice va k vc)) ∧ W.ownsRow (w.heap.size + 1) 39 1 (.slice va k vc) k (wordVals ((pre.map (·.1)).foldl (Bitm.turnPart on) l)) ∧ Below w.heap.size w W ∧ z + 3 ≤ W.heap.size)
    (fun _ _ _ => False)
    (OwnFrom.and (OwnFrom.and (Own.from (boxed_own _ _ (fun _ => _)) _) (Own.from (boxed_own _ _ (fun _ => _)) _)) (OwnFrom.and (Own.from (row_own _ _ _ _ _ (fun pre : List (Part k) => wordVals ((pre.map (·.1)).foldl (Bitm.turnPart on) l))) _) (OwnFrom.and (ownFrom_below (Nat.le_refl _) (by simp; omega)) (fun _ _ _ _ hs hg _ => Nat.le_trans hs hg.size))))
    (fun _ _ _ _ _ hs _ _ => hs)
    ⟨⟨((b0.alloc _).alloc _).alloc _, hz ▸ (b1.alloc _).alloc _⟩, (((by have := hown; rw [WordsOwn, HK.out] at this; simpa using this : w1.ownsRow (w.heap.size + 1) 39 1 (.slice va k vc) k (wordVals l)).alloc _).alloc _).alloc _, hB0, by simp; omega⟩
    (fun W o hW => (KeepsAt.refl _ W).alloc (by simp at hW; omega) o) (fun pre W hI => by have := hI.2.2.2; simp; omega)
    ?assign ?body ?done ?stop
  case assign =>
    intro l y W K hK
    gi_wp2
    exact hK
  case body =>
    rintro L pre ⟨⟨x, m⟩, hx, hm⟩ b W hb ⟨⟨c0, c1⟩, hrow, hB, hz3⟩ hbox hlen
    simp only at hx hm hbox ⊢
    simp only [World.size_alloc] at hb
    have d0 := c0.cell
    have d1 := c1.cell
    rw [hz] at d1
    have e0 : W.cell? ⟨b, 0, none⟩ = some (.int .i64 (x : Int)) := cell_of_heap hbox
    have e1 : W.cell? ⟨b, 1, none⟩ = some (.int .u64 (m : Int)) := cell_of_heap hbox
    rcases hrow.2 with ⟨_, h00⟩ | ⟨g, cap, cur, hv, hgb, hgc, _⟩
    · omega
    · cases hv
      have hlen2 : ((pre.map (·.1)).foldl (Bitm.turnPart on) l).length = k := by have := hrow.1; rw [wordVals_length] at this; omega
      have e2 := hrow.cellAt x (by omega)
      have e3 := hrow.frozenAt x
      have hst := hrow.stored x
      have hfit := fold_fit on pre HF.out
      have hgl : g < w1.heap.size := row_lt (by have := hown; rw [WordsOwn, HK.out] at this; exact this)
      generalize hY : (pre.map (·.1)).foldl (Bitm.turnPart on) l = Y at *
      rw [← List.getElem?_toArray, wordVals_get _ _ (by omega)] at e2
      have hy := Bitm.getD_fit hfit x
      have hend : ∀ u, u = Bitm.turnWord (Y.getD x 0) m on → ownPostG (((w1.alloc (.cells #[.slice (some ⟨g, 0, none⟩) k vc] 22)).alloc (.cells #[.int .i64 (p : Int)] 3)).alloc (.cells #[.int .i64 ((p : Int) + (q : Int))] 3)).heap.size (KeepsAt (w1.heap.size + 1 + 1))
          (fun (pre : List (Part k)) W => (Boxed W w.heap.size 4 (.bool on) ∧ Boxed W z 22 (.slice (some ⟨g, 0, none⟩) k vc)) ∧ W.ownsRow (w.heap.size + 1) 39 1 (.slice (some ⟨g, 0, none⟩) k vc) k (wordVals ((pre.map (·.1)).foldl (Bitm.turnPart on) l)) ∧ Below w.heap.size w W ∧ z + 3 ≤ W.heap.size)
          (fun _ _ _ => False) (pre ++ [⟨(x, m), hx, hm⟩]) W .normal ⟨#[], []⟩ (W.setCell ⟨g, x, none⟩ (.int .u64 (u : Int))).drew := by
        intro u hu
        subst hu
        refine ⟨((KeepsOthers.setCell W _ _).trans (KeepsOthers.drew _)).from _, (KeepsAt.refl _ W).set (by simp; omega) _, ⟨(heap_setCell_ne (by omega) _).trans c0, (heap_setCell_ne (by omega) _).trans c1⟩, ?_, (hB.setCell (p := ⟨g, x, none⟩) (by simp; omega) _).drew, by simpa using hz3⟩
        have := (hst (.int .u64 (Bitm.turnWord (Y.getD x 0) m on : Int))).1
        rw [wordVals_put] at this
        rw [List.map_append, List.foldl_append, hY]
        exact this
      have HEnd := hide hend
      generalize Y.getD x 0 = y at *
      clear hend hst hrow hY
      cases on with
      | true =>
        gi_wp2
        refine round_start 9 (by kernel_rfl) (by kernel_rfl) (by rintro ⟨_, _, h⟩; exact h.elim) ?_
        refine reads (fuel := 1) (by kernel_rfl) (fun _ _ _ _ _ h => h) [0, 1, 2, 3, 4, 5, 6, 7, 8] (by kernel_rfl) (by kernel_rfl) ?_
        simp only [List.filterMap_cons, List.filterMap_nil, List.getElem?_toArray, List.getElem?_cons_zero, List.getElem?_cons_succ]
        show wpQuiet _ _ _ _ [_, _, _, _, _, _, _, _, _] _
        repeat (go_big_quiet_step (fail))
        refine wpQuiet_nil ?_
        refine last rfl (by kernel_rfl) (by kernel_rfl) (fun K hK => ?_)
        go_simp
        refine hK _ _ ?_
        have := HEnd.out _ rfl
        rw [show ((Bitm.turnWord y m true : Nat) : Int) = bits BinOp.or IntKind.u64 (y : Int) (m : Int) from (bits_or_u64_nat y m hy hm).symm] at this
        exact this
      | false =>
        gi_wp2
        refine round_start 9 (by kernel_rfl) (by kernel_rfl) (by rintro ⟨_, _, h⟩; exact h.elim) ?_
        refine reads (fuel := 1) (by kernel_rfl) (fun _ _ _ _ _ h => h) [0, 1, 2, 3, 4, 5, 6, 7, 8] (by kernel_rfl) (by kernel_rfl) ?_
        simp only [List.filterMap_cons, List.filterMap_nil, List.getElem?_toArray, List.getElem?_cons_zero, List.getElem?_cons_succ]
        show wpQuiet _ _ _ _ [_, _, _, _, _, _, _, _, _] _
        repeat (go_big_quiet_step (fail))
        refine wpQuiet_nil ?_
        refine last rfl (by kernel_rfl) (by kernel_rfl) (fun K hK => ?_)
        go_simp
        refine hK _ _ ?_
        have := HEnd.out _ rfl
        rw [show ((Bitm.turnWord y m false : Nat) : Int) = bits BinOp.andNot IntKind.u64 (y : Int) (m : Int) from (bits_andNot_u64 y m hy hm).symm] at this
        exact this
  case done =>
    rintro D ys W hD hS ⟨⟨c0, c1⟩, hrow, hB, hz3⟩ hK
    have d1 := c1.cell
    rw [hz] at d1
    simp only [World.size_alloc] at hD
    have hT : WordsOwn W w.heap.size (.slice va k vc) (Bitm.turnTo l p on q) := by
      rw [hS, Bitm.turn_parts on (p + q) _ p l rfl (by omega) (by rw [HK.out]; exact hpq) HF.out, show p + q - p = q from by omega] at hrow
      rw [WordsOwn, Bitm.turnTo_len, HK.out]
      exact row_base hrow (by omega)
    have HTT := hide hT
    clear hrow hT hS
    gi_wp2
    refine ⟨by simp, .inl ⟨_, _, rfl, run_takeDeferred hK, ?_⟩⟩
    refine ⟨.tuple #[.slice va k vc, .bool true], ?_, _, rfl, ownsRow_putObj HTT.out _ hK rfl, hB.trans (belowK_b (w := w) (Nat.le_refl _) W D _ _ (by omega) hK rfl rfl)⟩
    simp [results, Tryd.f10, go_sem]
  case stop =>
    rintro D c pre W _ _ h _
    exact h.elim

/-- Turn at every argument. -/
theorem turn10 (l : List Nat) (hl : l.length ≤ 1099511627776) (hf : Bitm.Fit l) (a : Option Addr) (c : Nat) (hz : a = none → c = 0) (p q : Int) (hp1 : -9223372036854775808 ≤ p) (hp2 : p ≤ 9223372036854775807) (hq1 : -9223372036854775808 ≤ q) (hq2 : q ≤ 9223372036854775807) (on : Bool) (w : World) (h : WordsIn w a l) :
    Calls Tryd.prog 10 #[.slice a l.length c, .int .i64 p, .int .i64 q, .bool on] w fun e w' => ∃ v, e = .returned (.tuple #[v, .bool (turnOk l.length p q)]) ∧ WordsOwn w' w.heap.size v (turnL l p q on) ∧ Below w.heap.size w w' := by
  by_cases hok : 0 ≤ p ∧ 0 ≤ q ∧ q ≤ 64 * (l.length : Int) - p
  · obtain ⟨p', rfl⟩ : ∃ k : Nat, p = (k : Int) := ⟨p.toNat, by omega⟩
    obtain ⟨q', rfl⟩ : ∃ k : Nat, q = (k : Int) := ⟨q.toNat, by omega⟩
    rw [turnL, (turnOk_iff _ _ _).2 hok, if_pos rfl]
    exact callsIn_wide.1 (turn10In 3 (Nat.le_refl _) l hl hf a c hz p' q' (by omega) on w h)
  · rw [turnL, turnOk_no _ _ _ hok, if_neg (by simp)]
    have HB := fun w => hide (bitsOf27 a l.length c (by omega) w)
    have hN : Hid (∀ w' : World, WordsOwn w' w.heap.size (.slice none 0 0) []) := fun w' => World.ownsRow_nil _ _ _ _
    clear hf hz h
    generalize l.length = k at *
    by_cases h0 : 0 ≤ p
    · by_cases h1 : 0 ≤ q
      · have h2 : ¬ q ≤ 64 * (k : Int) - p := fun h => hok ⟨h0, h1, h⟩
        clear hok
        go_enter Tryd.func10, Tryd.ntmps10
        go_wp2_with (go_at_call 27; refine (HB _).out.mono ?_; rintro e w' ⟨rfl, rfl⟩)
        go_ret2
        exact ⟨_, rfl, hN.out _, (Below.refl w.heap.size w).alloc (Nat.le_refl _) _⟩
      · clear hok
        go_enter Tryd.func10, Tryd.ntmps10
        go_wp2
        go_ret2
        exact ⟨_, rfl, hN.out _, (Below.refl w.heap.size w).alloc (Nat.le_refl _) _⟩
    · clear hok
      go_enter Tryd.func10, Tryd.ntmps10
      go_wp2
      go_ret2
      exact ⟨_, rfl, hN.out _, (Below.refl w.heap.size w).alloc (Nat.le_refl _) _⟩

end Go.Proofs.YtlicdlpebhalaaaDoor
