/- Count and the search for a bit: what the program's answer, at every list and every number. -/
import Derived.Test.YtlicdlpebhalaaaDoorTurned
namespace Go.Proofs.YtlicdlpebhalaaaDoor
open Go.RowKit Go.Shelf

attribute [local go_sem] Oper.semAt_some

def sumTo {k : Nat} (l : List Nat) (pre : List (Part k)) : Nat := ((pre.map (·.1)).map (Bitm.countPart l)).sum
theorem sumTo_snoc {k : Nat} (l : List Nat) (pre : List (Part k)) (p : Part k) : sumTo l (pre ++ [p]) = sumTo l pre + Bitm.countPart l p.1 := by simp [sumTo]
theorem sumTo_le {k : Nat} (l : List Nat) (pre : List (Part k)) : sumTo l pre ≤ 64 * pre.length := by
  induction pre with
  | nil => simp [sumTo]
  | cons p pre ih =>
    have := Plain.cnt_le (l.getD p.1.1 0 &&& p.1.2)
    simp only [sumTo, List.map_cons, List.sum_cons, List.length_cons, Bitm.countPart] at ih ⊢
    omega

set_option maxRecDepth 100000 in
set_option maxHeartbeats 2000000 in
theorem count17In (n : Nat) (hn : 3 ≤ n) (l : List Nat) (hl : l.length ≤ 1099511627776) (hf : Bitm.Fit l) (a : Option Addr) (c : Nat) (m : Int) (w : World) (h : WordsIn w a l) :
    CallsIn Fence.wide n Tryd.prog 17 #[.slice a l.length c, .int .i64 m] w fun e w' => e = .returned (.int .i64 (Bitm.countTo l (heldN m l.length))) ∧ Below w.heap.size w w' := by
  have h1 : 1 ≤ n := by omega
  have HH := fun n w => hide ((callsIn_wide (n := n)).2 (bheld31 a l.length c (by omega) m w))
  have HF := hide hf
  have HW := hide h
  have he := heldN_le m l.length
  obtain ⟨k, hk⟩ : ∃ k, l.length = k := ⟨_, rfl⟩
  have HK := hide hk
  rw [hk] at hl HH he ⊢
  generalize heldN m k = e at *
  have HS : Hid (sumTo (k := k) l [] = 0) := rfl
  have hN := Bitm.parts_len 0 (e - 0)
  clear hk h hf
  refine callsIn_of_wp_marks Tryd.func17 rfl trivial ?_ rfl
  simp only [Tryd.ntmps17, List.size_toArray, List.length_cons, List.length_nil, Nat.reduceAdd, Nat.reduceSub, Array.replicate_succ, Array.replicate_zero, List.push_toArray, List.append_toArray, List.nil_append, List.cons_append]
  gi_wp2_with (first | (refine ⟨trivial, ?_⟩; gi_at_call 31; refine (HH _ _).out.mono ?_; rintro e w' ⟨rfl, rfl⟩) | (refine ⟨trivial, ?_⟩; gi_at_call 29; refine (partsIn (n - 1) _ _ _).mono ?_; rintro e w2 ⟨rfl, rfl⟩))
  have b0 := (((Boxed.new w 22 (.slice a k c)).alloc (.cells #[.int .i64 0] 3)).alloc (.cells #[.int .i64 0] 3)).alloc (.cells #[.int .i64 (e : Int)] 3)
  have b1 := ((Boxed.new (w.alloc (.cells #[.slice a k c] 22)) 3 (.int .i64 0)).alloc (.cells #[.int .i64 0] 3)).alloc (.cells #[.int .i64 (e : Int)] 3)
  have b2 := (Boxed.new ((w.alloc (.cells #[.slice a k c] 22)).alloc (.cells #[.int .i64 0] 3)) 3 (.int .i64 0)).alloc (.cells #[.int .i64 (e : Int)] 3)
  have b3 := Boxed.new (((w.alloc (.cells #[.slice a k c] 22)).alloc (.cells #[.int .i64 0] 3)).alloc (.cells #[.int .i64 0] 3)) 3 (.int .i64 (e : Int))
  have hB0 : Below w.heap.size w ((((w.alloc (.cells #[.slice a k c] 22)).alloc (.cells #[.int .i64 0] 3)).alloc (.cells #[.int .i64 0] 3)).alloc (.cells #[.int .i64 (e : Int)] 3)) := ((((Below.refl _ w).alloc (Nat.le_refl _) _).alloc (by simp) _).alloc (by simp; omega) _).alloc (by simp; omega) _
  have hs3 : ((((w.alloc (.cells #[.slice a k c] 22)).alloc (.cells #[.int .i64 0] 3)).alloc (.cells #[.int .i64 0] 3)).alloc (.cells #[.int .i64 (e : Int)] 3)).heap.size = w.heap.size + 1 + 1 + 1 + 1 := by simp
  simp only [World.size_alloc] at b1 b2 b3
  generalize ((((w.alloc (.cells #[.slice a k c] 22)).alloc (.cells #[.int .i64 0] 3)).alloc (.cells #[.int .i64 0] 3)).alloc (.cells #[.int .i64 (e : Int)] 3)) = w3 at *
  refine wpIn_range_boxed (t := 6) rfl h1 (gf := 40) (lb := #[.pointer (some ⟨w.heap.size + 1 + 1, 0, none⟩), .pointer (some ⟨w.heap.size + 1 + 1 + 1, 0, none⟩)]) rfl trivial (enters_of Tryd.func40 (by kernel_rfl) rfl)
    (fun x : Part k => #[.int .i64 (x.1.1 : Int), .int .u64 (x.1.2 : Int)]) 41
    (partsStops (n - 1) (by omega) (w.heap.size + 1 + 1) (w.heap.size + 1 + 1 + 1) 0 e k he (by omega) (KeepsAt (w.heap.size + 1 + 1 + 1)) (fun _ _ h => h.cell) _ (by omega) (by omega) b2.cell b3.cell)
    KeepsAt.trans (KeepsAt.put (by omega)) (Below.refl _ _)
    (fun pre W => (Boxed W w.heap.size 22 (.slice a k c) ∧ Boxed W (w.heap.size + 1) 3 (.int .i64 (sumTo l pre : Int))) ∧ Below w.heap.size w W ∧ w3.heap.size ≤ W.heap.size)
    (fun _ _ _ => False)
    (OwnFrom.and (OwnFrom.and (Own.from (boxed_own _ _ (fun _ => _)) _) (Own.from (boxed_own _ _ (fun pre : List (Part k) => .int .i64 (sumTo l pre : Int))) _)) (OwnFrom.and (ownFrom_below (Nat.le_refl _) (by omega)) (fun _ _ _ _ hs hg _ => Nat.le_trans hs hg.size)))
    (fun _ _ _ _ _ hs _ _ => hs)
    ⟨⟨b0, b1⟩, hB0, Nat.le_refl _⟩
    (fun W o hW => (KeepsAt.refl _ W).alloc (by omega) o) (fun pre W hI => hI.2.2)
    ?assign ?body ?done ?stop
  case assign =>
    intro l y W K hK
    gi_wp2
    exact hK
  case body =>
    rintro L pre ⟨⟨x, m⟩, hx, hm⟩ b W hb ⟨⟨c0, c1⟩, hB, hz3⟩ hbox hlen
    simp only at hx hm hbox ⊢
    have d0 := c0.cell
    have d1 := c1.cell
    have f1 := c1.frozen
    have e0 : W.cell? ⟨b, 0, none⟩ = some (.int .i64 (x : Int)) := cell_of_heap hbox
    have e1 : W.cell? ⟨b, 1, none⟩ = some (.int .u64 (m : Int)) := cell_of_heap hbox
    obtain ⟨g, o, rfl, hg, hcell⟩ := (HW.out.below hB (Nat.le_refl _)).word (q := x) (by rw [HK.out]; exact hx)
    have hy := Bitm.getD_fit HF.out x
    have hsum := sumTo_le l pre
    have HSS := hide (sumTo_snoc l pre ⟨(x, m), hx, hm⟩)
    have hcp : Hid (Bitm.countPart l (x, m) = Plain.cnt (l.getD x 0 &&& m)) := rfl
    generalize l.getD x 0 = y at *
    have hand := bits_and_u64_nat y m hy hm
    have hlt : (y &&& m) < 18446744073709551616 := Nat.lt_of_le_of_lt Nat.and_le_left hy
    have hcnt := Plain.cnt_le (y &&& m)
    have HC := fun w => hide (count19 (y &&& m) hlt w)
    have hend : ∀ u : Nat, u = sumTo l (pre ++ [⟨(x, m), hx, hm⟩]) → ownPostG w3.heap.size (KeepsAt (w.heap.size + 1 + 1 + 1))
        (fun (pre : List (Part k)) W => (Boxed W w.heap.size 22 (.slice (some ⟨g, o, none⟩) k c) ∧ Boxed W (w.heap.size + 1) 3 (.int .i64 (sumTo l pre : Int))) ∧ Below w.heap.size w W ∧ w3.heap.size ≤ W.heap.size)
        (fun _ _ _ => False) (pre ++ [⟨(x, m), hx, hm⟩]) W .normal ⟨#[], []⟩ (W.setCell ⟨w.heap.size + 1, 0, none⟩ (.int .i64 (u : Int))).drew := by
      intro u hu
      subst hu
      exact ⟨((KeepsOthers.setCell W _ _).trans (KeepsOthers.drew _)).from _, (KeepsAt.refl _ W).set (by simp; omega) _, ⟨c0.other (by omega) _, c1.set _⟩, (hB.setCell (p := ⟨w.heap.size + 1, 0, none⟩) (by simp) _).drew, by simpa using hz3⟩
    have HEnd := hide hend
    generalize sumTo l pre = S at *
    generalize (y &&& m) = ym at *
    generalize Plain.cnt ym = cy at *
    clear hend
    gi_wp2
    refine round_start 11 (by kernel_rfl) (by kernel_rfl) (by rintro ⟨_, _, h⟩; exact h.elim) ?_
    refine reads (fuel := 3) (by kernel_rfl) (fun _ _ _ _ _ h => h) [0, 1, 2, 3, 4, 5, 6, 7, 8] (by kernel_rfl) (by kernel_rfl) ?_
    simp only [List.filterMap_cons, List.filterMap_nil, List.getElem?_toArray, List.getElem?_cons_zero, List.getElem?_cons_succ]
    show wpQuiet _ _ _ _ [_, _, _, _, _, _, _, _, _] _
    repeat (go_big_quiet_step (fail))
    refine wpQuiet_nil ?_
    refine one (k := 9) rfl (by kernel_rfl) (by decide) (fun K hK => ?_)
    go_simp
    refine (HC _).out.mono ?_
    rintro e w4 ⟨rfl, rfl⟩
    refine hK _ ?_
    clear hK K
    refine reads (fuel := 1) (by kernel_rfl) (fun _ _ _ _ _ h => h) [10] (by kernel_rfl) (by kernel_rfl) ?_
    simp only [List.filterMap_cons, List.filterMap_nil, List.getElem?_toArray, List.getElem?_cons_zero, List.getElem?_cons_succ]
    show wpQuiet _ _ _ _ [_] _
    repeat (go_big_quiet_step (fail))
    refine wpQuiet_nil ?_
    refine last rfl (by kernel_rfl) (by kernel_rfl) (fun K hK => ?_)
    go_simp
    refine hK _ _ ?_
    have := HEnd.out (S + cy) (by rw [HSS.out, hcp.out])
    rw [Int.natCast_add] at this
    exact this
  case done =>
    rintro D ys W hD hS ⟨⟨c0, c1⟩, hB, hz3⟩ hK
    have d1 := c1.cell
    have hT : sumTo l ys = Bitm.countTo l e := by
      have := Bitm.count_parts l e e 0 (by omega) (by omega)
      rw [sumTo, hS]
      simpa [Bitm.countTo] using this
    rw [hT] at d1
    clear hT hS
    gi_wp2
    refine ⟨by simp, .inl ⟨_, _, rfl, run_takeDeferred hK, ?_⟩⟩
    exact ⟨_, results_tmp rfl _ _ _, rfl, hB.trans (belowK_b (w := w) (Nat.le_refl _) W D _ _ (by omega) hK rfl rfl)⟩
  case stop =>
    rintro D c pre W _ _ h _
    exact h.elim

theorem count17 (l : List Nat) (hl : l.length ≤ 1099511627776) (hf : Bitm.Fit l) (a : Option Addr) (c : Nat) (m : Int) (w : World) (h : WordsIn w a l) :
    Calls Tryd.prog 17 #[.slice a l.length c, .int .i64 m] w fun e w' => e = .returned (.int .i64 (Bitm.countTo l (heldN m l.length))) ∧ Below w.heap.size w w' := callsIn_wide.1 (count17In 3 (Nat.le_refl _) l hl hf a c m w h)

def hitOf {k : Nat} (l : List Nat) (on : Bool) (pre : List (Part k)) : Nat := match pre.getLast? with | some p => Bitm.hit l on p.1 | none => 0
theorem hitOf_snoc {k : Nat} (l : List Nat) (on : Bool) (pre : List (Part k)) (p : Part k) : hitOf l on (pre ++ [p]) = Bitm.hit l on p.1 := by simp [hitOf]

/-- What is found in one word. -/
theorem lowOf (y : Nat) (hy : y < 18446744073709551616) (w : World) (hT : Tab w) (b : Bool) (r : Nat) (hb : if Plain.low (Plain.inv y) < 64 then b = true ∧ r = Plain.low (Plain.inv y) else b = false ∧ r = 0) :
    Calls Tryd.prog 42 #[.int .u64 (y : Int), .int .i64 64] w fun e w' => e = .returned (.tuple #[.int .i64 (r : Int), .bool b]) ∧ w' = w := by
  have hh := low11 y hy 64 w hT
  have e64 : Plain.hold 64 = 64 := by decide +kernel
  by_cases h : Plain.low (Plain.inv y) < 64
  · rw [if_pos h] at hb
    rw [lowAns, e64, if_pos h] at hh
    rw [hb.1, hb.2]
    exact hh
  · rw [if_neg h] at hb
    rw [lowAns, e64, if_neg h] at hh
    rw [hb.1, hb.2]
    exact hh

set_option maxRecDepth 100000 in
set_option maxHeartbeats 2000000 in
theorem next30In (n : Nat) (hn : 3 ≤ n) (l : List Nat) (hl : l.length ≤ 1099511627776) (hf : Bitm.Fit l) (a : Option Addr) (c : Nat) (e lo : Nat) (he : e ≤ 64 * l.length) (on : Bool) (w : World) (hT : Tab w) (h : WordsIn w a l) :
    CallsIn Fence.wide n Tryd.prog 30 #[.slice a l.length c, .int .i64 (e : Int), .int .i64 (lo : Int), .bool on] w fun x w' => ∃ r ok, x = .returned (.tuple #[.int .i64 ((r : Nat) : Int), .bool ok]) ∧ Bitm.NextIs l on lo e r ok ∧ Below w.heap.size w w' := by
  have h1 : 1 ≤ n := by omega
  have HF := hide hf
  have HW := hide h
  have HT := hide hT
  have hpos := hT.lt
  obtain ⟨k, hk⟩ : ∃ k, l.length = k := ⟨_, rfl⟩
  have HK := hide hk
  rw [hk] at hl he ⊢
  clear hk h hf hT
  refine callsIn_of_wp_marks Tryd.func30 rfl trivial ?_ rfl
  simp only [Tryd.ntmps30, List.size_toArray, List.length_cons, List.length_nil, Nat.reduceAdd, Nat.reduceSub, Array.replicate_succ, Array.replicate_zero, List.push_toArray, List.append_toArray, List.nil_append, List.cons_append]
  gi_wp2_with (first | (refine ⟨trivial, ?_⟩; gi_at_call 29; refine (partsIn (n - 1) _ _ _).mono ?_; rintro e w2 ⟨rfl, rfl⟩))
  have b0 := ((((((Boxed.new w 22 (.slice a k c)).alloc (.cells #[.bool on] 4)).alloc (.cells #[.int .i64 0] 3)).alloc (.cells #[.bool false] 4)).alloc (.cells #[.int .i64 (lo : Int)] 3)).alloc (.cells #[.int .i64 (e : Int)] 3))
  have b1 := (((((Boxed.new (w.alloc (.cells #[.slice a k c] 22)) 4 (.bool on)).alloc (.cells #[.int .i64 0] 3)).alloc (.cells #[.bool false] 4)).alloc (.cells #[.int .i64 (lo : Int)] 3)).alloc (.cells #[.int .i64 (e : Int)] 3))
  have b2 := ((((Boxed.new ((w.alloc (.cells #[.slice a k c] 22)).alloc (.cells #[.bool on] 4)) 3 (.int .i64 0)).alloc (.cells #[.bool false] 4)).alloc (.cells #[.int .i64 (lo : Int)] 3)).alloc (.cells #[.int .i64 (e : Int)] 3))
  have b3 := (((Boxed.new (((w.alloc (.cells #[.slice a k c] 22)).alloc (.cells #[.bool on] 4)).alloc (.cells #[.int .i64 0] 3)) 4 (.bool false)).alloc (.cells #[.int .i64 (lo : Int)] 3)).alloc (.cells #[.int .i64 (e : Int)] 3))
  have b4 := ((Boxed.new ((((w.alloc (.cells #[.slice a k c] 22)).alloc (.cells #[.bool on] 4)).alloc (.cells #[.int .i64 0] 3)).alloc (.cells #[.bool false] 4)) 3 (.int .i64 (lo : Int))).alloc (.cells #[.int .i64 (e : Int)] 3))
  have b5 := (Boxed.new (((((w.alloc (.cells #[.slice a k c] 22)).alloc (.cells #[.bool on] 4)).alloc (.cells #[.int .i64 0] 3)).alloc (.cells #[.bool false] 4)).alloc (.cells #[.int .i64 (lo : Int)] 3)) 3 (.int .i64 (e : Int)))
  have hB0 : Below w.heap.size w ((((((w.alloc (.cells #[.slice a k c] 22)).alloc (.cells #[.bool on] 4)).alloc (.cells #[.int .i64 0] 3)).alloc (.cells #[.bool false] 4)).alloc (.cells #[.int .i64 (lo : Int)] 3)).alloc (.cells #[.int .i64 (e : Int)] 3)) := (((((((Below.refl _ w).alloc (Nat.le_refl _) _).alloc (by simp) _).alloc (by simp; omega) _).alloc (by simp; omega) _).alloc (by simp; omega) _).alloc (by simp; omega) _)
  have hs3 : ((((((w.alloc (.cells #[.slice a k c] 22)).alloc (.cells #[.bool on] 4)).alloc (.cells #[.int .i64 0] 3)).alloc (.cells #[.bool false] 4)).alloc (.cells #[.int .i64 (lo : Int)] 3)).alloc (.cells #[.int .i64 (e : Int)] 3)).heap.size = w.heap.size + 1 + 1 + 1 + 1 + 1 + 1 := by simp
  simp only [World.size_alloc] at b1 b2 b3 b4 b5
  generalize ((((((w.alloc (.cells #[.slice a k c] 22)).alloc (.cells #[.bool on] 4)).alloc (.cells #[.int .i64 0] 3)).alloc (.cells #[.bool false] 4)).alloc (.cells #[.int .i64 (lo : Int)] 3)).alloc (.cells #[.int .i64 (e : Int)] 3)) = w3 at *
  have HT3 := hide (HT.out.below hpos hB0)
  refine wpIn_range_boxed (t := 10) rfl h1 (gf := 40) (lb := #[.pointer (some ⟨w.heap.size + 1 + 1 + 1 + 1, 0, none⟩), .pointer (some ⟨w.heap.size + 1 + 1 + 1 + 1 + 1, 0, none⟩)]) rfl trivial (enters_of Tryd.func40 (by kernel_rfl) rfl)
    (fun x : Part k => #[.int .i64 (x.1.1 : Int), .int .u64 (x.1.2 : Int)]) 41
    (partsStops (n - 1) (by omega) (w.heap.size + 1 + 1 + 1 + 1) (w.heap.size + 1 + 1 + 1 + 1 + 1) lo e k he (by omega) (KeepsAt (w.heap.size + 1 + 1 + 1 + 1 + 1)) (fun _ _ h => h.cell) _ (by omega) (by omega) b4.cell b5.cell)
    KeepsAt.trans (KeepsAt.put (by omega)) (Below.refl _ _)
    (fun pre W => ((Boxed W w.heap.size 22 (.slice a k c) ∧ Boxed W (w.heap.size + 1) 4 (.bool on)) ∧ (Boxed W (w.heap.size + 1 + 1) 3 (.int .i64 0) ∧ Boxed W (w.heap.size + 1 + 1 + 1) 4 (.bool false))) ∧ (∀ p ∈ pre, Bitm.Missed l on p.1) ∧ Below w.heap.size w W ∧ w3.heap.size ≤ W.heap.size)
    (fun c pre W => (Boxed W (w.heap.size + 1 + 1) 3 (.int .i64 (hitOf l on pre : Int)) ∧ Boxed W (w.heap.size + 1 + 1 + 1) 4 (.bool true)) ∧ (c = .ret ∧ ∃ pre' p, pre = pre' ++ [p] ∧ (∀ q ∈ pre', Bitm.Missed l on q.1) ∧ ¬ Bitm.Missed l on p.1) ∧ Below w.heap.size w W)
    (OwnFrom.and (OwnFrom.and (OwnFrom.and (Own.from (boxed_own _ _ (fun _ => _)) _) (Own.from (boxed_own _ _ (fun _ => _)) _)) (OwnFrom.and (Own.from (boxed_own _ _ (fun _ => _)) _) (Own.from (boxed_own _ _ (fun _ => _)) _))) (OwnFrom.and (ownFrom_pure _ _) (OwnFrom.and (ownFrom_below (Nat.le_refl _) (by omega)) (fun _ _ _ _ hs hg _ => Nat.le_trans hs hg.size))))
    (fun c => OwnFrom.and (OwnFrom.and (Own.from (boxed_own _ _ (fun pre : List (Part k) => .int .i64 (hitOf l on pre : Int))) _) (Own.from (boxed_own _ _ (fun _ => _)) _)) (OwnFrom.and (ownFrom_pure _ _) (ownFrom_below (Nat.le_refl _) (by omega))))
    ⟨⟨⟨b0, b1⟩, b2, b3⟩, by simp, hB0, Nat.le_refl _⟩
    (fun W o hW => (KeepsAt.refl _ W).alloc (by omega) o) (fun pre W hI => hI.2.2.2)
    ?assign ?body ?done ?stop
  case assign =>
    intro l y W K hK
    gi_wp2
    exact hK
  case body =>
    rintro L pre ⟨⟨x, m⟩, hx, hm⟩ b W hb ⟨⟨⟨c0, c1⟩, c2, c3⟩, hmiss, hB, hz3⟩ hbox hlen
    simp only at hx hm hbox ⊢
    have d0 := c0.cell
    have d1 := c1.cell
    have d2 := c2.cell
    have d3 := c3.cell
    have f2 := c2.frozen
    have f3 := c3.frozen
    have e0 : W.cell? ⟨b, 0, none⟩ = some (.int .i64 (x : Int)) := cell_of_heap hbox
    have e1 : W.cell? ⟨b, 1, none⟩ = some (.int .u64 (m : Int)) := cell_of_heap hbox
    obtain ⟨g, o, rfl, hg, hcell⟩ := (HW.out.below hB (Nat.le_refl _)).word (q := x) (by rw [HK.out]; exact hx)
    have hy := Bitm.getD_fit HF.out x
    have hP := Bitm.passed_lt HF.out on (x, m)
    have HTW : Hid (Tab W) := HT.out.below hpos hB
    have hor : (if on then Plain.inv (l.getD x 0) else l.getD x 0) ||| Plain.inv m = Bitm.passed l on (x, m) := rfl
    have him := inv_key m hm
    have hiy := inv_key (l.getD x 0) hy
    have himl := Plain.inv_lt m
    have hiyl := Plain.inv_lt (l.getD x 0)
    by_cases hmm : Bitm.Missed l on (x, m)
    · have HL := fun w (hT : Tab w) => hide (lowOf (Bitm.passed l on (x, m)) hP w hT false 0 (by rw [if_neg hmm]; exact ⟨rfl, rfl⟩))
      have hend : ∀ a', ownPostG w3.heap.size (KeepsAt (w.heap.size + 1 + 1 + 1 + 1 + 1))
          (fun (pre : List (Part k)) W => ((Boxed W w.heap.size 22 (.slice (some ⟨g, o, none⟩) k c) ∧ Boxed W (w.heap.size + 1) 4 (.bool on)) ∧ (Boxed W (w.heap.size + 1 + 1) 3 (.int .i64 0) ∧ Boxed W (w.heap.size + 1 + 1 + 1) 4 (.bool false))) ∧ (∀ p ∈ pre, Bitm.Missed l on p.1) ∧ Below w.heap.size w W ∧ w3.heap.size ≤ W.heap.size)
          (fun c (pre : List (Part k)) W => (Boxed W (w.heap.size + 1 + 1) 3 (.int .i64 (hitOf l on pre : Int)) ∧ Boxed W (w.heap.size + 1 + 1 + 1) 4 (.bool true)) ∧ (c = .ret ∧ ∃ pre' p, pre = pre' ++ [p] ∧ (∀ q ∈ pre', Bitm.Missed l on q.1) ∧ ¬ Bitm.Missed l on p.1) ∧ Below w.heap.size w W) (pre ++ [⟨(x, m), hx, hm⟩]) W .normal a' W := by
        intro a'
        refine ⟨KeepsFrom.refl _ _, KeepsAt.refl _ _, ⟨⟨c0, c1⟩, c2, c3⟩, fun q hq => ?_, hB, hz3⟩
        rcases List.mem_append.1 hq with hq | hq
        · exact hmiss q hq
        · rw [List.mem_singleton] at hq; subst hq; exact hmm
      have HEnd := hide hend
      generalize Bitm.passed l on (x, m) = py at *
      generalize l.getD x 0 = y at *
      generalize Plain.inv m = im at *
      generalize Plain.inv y = iy at *
      clear hend hmiss hmm
      cases on with
      | true =>
        rw [if_pos rfl] at hor
        have hor' := bits_or_u64_nat iy im hiyl himl
        rw [hor] at hor'
        clear hor
        gi_wp2
        refine ⟨trivial, fun _ => by omega, (CallsIn.inRound L ((callsIn_wide (n := _)).2 (HL _ HTW.out).out)).mono ?_⟩
        rintro e w' ⟨rfl, rfl⟩
        gi_wp2
        exact HEnd.out _
      | false =>
        rw [if_neg (by simp)] at hor
        have hor' := bits_or_u64_nat y im hy himl
        rw [hor] at hor'
        clear hor
        gi_wp2
        refine ⟨trivial, fun _ => by omega, (CallsIn.inRound L ((callsIn_wide (n := _)).2 (HL _ HTW.out).out)).mono ?_⟩
        rintro e w' ⟨rfl, rfl⟩
        gi_wp2
        exact HEnd.out _
    · have hlow : Plain.low (Plain.inv (Bitm.passed l on (x, m))) < 64 := by unfold Bitm.Missed at hmm; omega
      have HL := fun w (hT : Tab w) => hide (lowOf (Bitm.passed l on (x, m)) hP w hT true (Plain.low (Plain.inv (Bitm.passed l on (x, m)))) (by rw [if_pos hlow]; exact ⟨rfl, rfl⟩))
      have hhit : Hid (Bitm.hit l on (x, m) = x * 64 + Plain.low (Plain.inv (Bitm.passed l on (x, m)))) := rfl
      have hend : ∀ a', ownPostG w3.heap.size (KeepsAt (w.heap.size + 1 + 1 + 1 + 1 + 1))
          (fun (pre : List (Part k)) W => ((Boxed W w.heap.size 22 (.slice (some ⟨g, o, none⟩) k c) ∧ Boxed W (w.heap.size + 1) 4 (.bool on)) ∧ (Boxed W (w.heap.size + 1 + 1) 3 (.int .i64 0) ∧ Boxed W (w.heap.size + 1 + 1 + 1) 4 (.bool false))) ∧ (∀ p ∈ pre, Bitm.Missed l on p.1) ∧ Below w.heap.size w W ∧ w3.heap.size ≤ W.heap.size)
          (fun c (pre : List (Part k)) W => (Boxed W (w.heap.size + 1 + 1) 3 (.int .i64 (hitOf l on pre : Int)) ∧ Boxed W (w.heap.size + 1 + 1 + 1) 4 (.bool true)) ∧ (c = .ret ∧ ∃ pre' p, pre = pre' ++ [p] ∧ (∀ q ∈ pre', Bitm.Missed l on q.1) ∧ ¬ Bitm.Missed l on p.1) ∧ Below w.heap.size w W) (pre ++ [⟨(x, m), hx, hm⟩]) W .ret a' ((W.setCell ⟨w.heap.size + 1 + 1, 0, none⟩ (.int .i64 (Bitm.hit l on (x, m) : Int))).setCell ⟨w.heap.size + 1 + 1 + 1, 0, none⟩ (.bool true)) := by
        intro a'
        refine ⟨((KeepsOthers.setCell _ _ _).trans (KeepsOthers.setCell _ _ _)).from _, ⟨?_, (c3.other (by omega) _).set _⟩, ⟨rfl, pre, _, rfl, hmiss, hmm⟩, (hB.setCell (p := ⟨w.heap.size + 1 + 1, 0, none⟩) (by simp; omega) _).setCell (p := ⟨w.heap.size + 1 + 1 + 1, 0, none⟩) (by simp; omega) _⟩
        rw [hitOf_snoc]
        exact (c2.set _).other (by omega) _
      have HEnd := hide hend
      generalize Bitm.hit l on (x, m) = ht at *
      generalize Bitm.passed l on (x, m) = py at *
      generalize l.getD x 0 = y at *
      generalize Plain.inv m = im at *
      generalize Plain.inv y = iy at *
      generalize Plain.low (Plain.inv py) = lw at *
      clear hend hmiss hmm
      have hhit2 : ((x : Int) * 64 + (lw : Int)) = (ht : Int) := by have := hhit.out; omega
      cases on with
      | true =>
        rw [if_pos rfl] at hor
        have hor' := bits_or_u64_nat iy im hiyl himl
        rw [hor] at hor'
        clear hor
        gi_wp2
        refine ⟨trivial, fun _ => by omega, (CallsIn.inRound L ((callsIn_wide (n := _)).2 (HL _ HTW.out).out)).mono ?_⟩
        rintro e w' ⟨rfl, rfl⟩
        gi_wp2
        exact HEnd.out _
      | false =>
        rw [if_neg (by simp)] at hor
        have hor' := bits_or_u64_nat y im hy himl
        rw [hor] at hor'
        clear hor
        gi_wp2
        refine ⟨trivial, fun _ => by omega, (CallsIn.inRound L ((callsIn_wide (n := _)).2 (HL _ HTW.out).out)).mono ?_⟩
        rintro e w' ⟨rfl, rfl⟩
        gi_wp2
        exact HEnd.out _
  case done =>
    rintro D ys W hD hS ⟨⟨⟨c0, c1⟩, c2, c3⟩, hmiss, hB, hz3⟩ hK
    have d2 := c2.cell
    have d3 := c3.cell
    have f2 := c2.frozen
    have f3 := c3.frozen
    have hNx : Bitm.NextIs l on lo e 0 false := by
      refine ⟨fun x => (by cases x), fun _ => ⟨rfl, ?_⟩⟩
      by_cases hle : lo ≤ e
      · refine Bitm.all_missed HF.out on e _ lo rfl hle (fun p hp => ?_)
        rw [← hS] at hp
        obtain ⟨q, hq, rfl⟩ := List.mem_map.1 hp
        exact hmiss q hq
      · intro j h1 h2; omega
    have HN := hide hNx
    clear hNx hmiss hS
    gi_wp2
    have hK1 := (KeepsOthers.setCell W ⟨w.heap.size + 1 + 1, 0, none⟩ (.int .i64 0)).same D _ hK rfl
    have hK2 := (KeepsOthers.setCell _ ⟨w.heap.size + 1 + 1 + 1, 0, none⟩ (.bool false)).same D _ hK1 rfl
    refine ⟨by simp, .inl ⟨_, _, rfl, run_takeDeferred hK2, ?_⟩⟩
    have e1 := cell_kept ((c2.set (.int .i64 0)).other (by omega : w.heap.size + 1 + 1 ≠ w.heap.size + 1 + 1 + 1) (.bool false)).cell (grownBy_putObj' _ D (.deferred none)) (fun r e => by cases e; exact ⟨_, hK2, rfl⟩)
    have e2 := cell_kept ((c3.other (by omega : w.heap.size + 1 + 1 + 1 ≠ w.heap.size + 1 + 1) (.int .i64 0)).set (.bool false)).cell (grownBy_putObj' _ D (.deferred none)) (fun r e => by cases e; exact ⟨_, hK2, rfl⟩)
    refine ⟨.tuple #[.int .i64 0, .bool false], ?_, 0, false, rfl, HN.out, ((hB.setCell (p := ⟨w.heap.size + 1 + 1, 0, none⟩) (by simp; omega) _).setCell (p := ⟨w.heap.size + 1 + 1 + 1, 0, none⟩) (by simp; omega) _).trans (belowK_b (w := w) (Nat.le_refl _) _ D _ _ (by omega) hK2 rfl rfl)⟩
    simp [results, Tryd.f30, go_sem, e1, e2]
  case stop =>
    rintro D c pre W hD hpre ⟨⟨c2, c3⟩, ⟨rfl, pre', p, rfl, hm1, hm2⟩, hB⟩ hK
    have hNx : Bitm.NextIs l on lo e (Bitm.hit l on p.1) true := by
      rw [List.map_append] at hpre
      by_cases hle : lo ≤ e
      · exact Bitm.first_hit HF.out on e _ lo rfl hle _ _ hpre (fun q hq => by obtain ⟨q', hq', rfl⟩ := List.mem_map.1 hq; exact hm1 q' hq') hm2
      · rw [Bitm.parts_none _ _ (by omega)] at hpre
        have := hpre.length_le
        simp at this
    rw [hitOf_snoc] at c2
    have HN := hide hNx
    clear hNx hpre hm1 hm2
    generalize Bitm.hit l on p.1 = ht at *
    gi_wp2
    refine ⟨by simp, .inl ⟨_, _, rfl, run_takeDeferred hK, ?_⟩⟩
    have e1 := cell_kept c2.cell (grownBy_putObj' _ D (.deferred none)) (fun r e => by cases e; exact ⟨_, hK, rfl⟩)
    have e2 := cell_kept c3.cell (grownBy_putObj' _ D (.deferred none)) (fun r e => by cases e; exact ⟨_, hK, rfl⟩)
    refine ⟨.tuple #[.int .i64 (ht : Int), .bool true], ?_, ht, true, rfl, HN.out, hB.trans (belowK_b (w := w) (Nat.le_refl _) W D _ _ (by omega) hK rfl rfl)⟩
    simp [results, Tryd.f30, go_sem, e1, e2]

theorem next30 (l : List Nat) (hl : l.length ≤ 1099511627776) (hf : Bitm.Fit l) (a : Option Addr) (c : Nat) (e lo : Nat) (he : e ≤ 64 * l.length) (on : Bool) (w : World) (hT : Tab w) (h : WordsIn w a l) :
    Calls Tryd.prog 30 #[.slice a l.length c, .int .i64 (e : Int), .int .i64 (lo : Int), .bool on] w fun x w' => ∃ r ok, x = .returned (.tuple #[.int .i64 ((r : Nat) : Int), .bool ok]) ∧ Bitm.NextIs l on lo e r ok ∧ Below w.heap.size w w' :=
  callsIn_wide.1 (next30In 3 (Nat.le_refl _) l hl hf a c e lo he on w hT h)

end Go.Proofs.YtlicdlpebhalaaaDoor
