/- Package record: what the words of a page say, and of all pages. -/
import Derived.Test.YtgdliebllmgibaaDoorRecNew
import Derived.Test.YtgdliebllmgibaaDoorPS
import Derived.Test.YtgdliebllmgibaaDoorPV
namespace Go.Proofs.YtgdliebllmgibaaDoor
open Go Go.RowKit

def spanC (x : Rec.Sp) : Array Value := #[.int .i64 x.page, .int .i64 x.pages, .int .i64 x.cls, .int .i64 x.gen, .int .i64 x.ph, .int .u64 (x.alloc : Int), .int .u64 (x.mark : Int)]
def spanV (x : Rec.Sp) : Value := .agg (spanC x)
def spanL (x : Rec.Sp) : List Value := [.int .i64 x.page, .int .i64 x.pages, .int .i64 x.cls, .int .i64 x.gen, .int .i64 x.ph, .int .u64 (x.alloc : Int), .int .u64 (x.mark : Int)]
def spanVals : List Rec.Sp → List Value
  | [] => []
  | x :: r => spanL x ++ spanVals r
theorem spanVals_len : ∀ l, (spanVals l).length = l.length * 7
  | [] => rfl
  | x :: r => by have := spanVals_len r; simp only [spanVals, spanL, List.length_append, List.length_cons, List.length_nil, this]; omega
theorem spanVals_app : ∀ l m, spanVals (l ++ m) = spanVals l ++ spanVals m
  | [], m => rfl
  | x :: r, m => by simp only [List.cons_append, spanVals, spanVals_app r m, List.append_assoc]
theorem spanVals_snoc (l : List Rec.Sp) (x : Rec.Sp) : spanVals (l ++ [x]) = spanVals l ++ spanL x := by rw [spanVals_app]; simp [spanVals]
theorem spanVals_get : ∀ (l : List Rec.Sp) (i : Nat) (hi : i < l.length) (j : Nat), j < 7 → (spanVals l).getD (7 * i + j) (.bool false) = (spanL l[i]).getD j (.bool false)
  | x :: r, 0, _, j, hj => by
    rw [List.getD_eq_getElem?_getD, List.getD_eq_getElem?_getD]
    simp only [spanVals, Nat.mul_zero, Nat.zero_add, List.getElem_cons_zero]
    rw [List.getElem?_append_left (by simp [spanL]; omega)]
  | x :: r, i + 1, hi, j, hj => by
    have := spanVals_get r i (by simpa using hi) j hj
    rw [List.getD_eq_getElem?_getD] at this ⊢
    simp only [spanVals, List.getElem_cons_succ]
    rw [List.getElem?_append_right (by simp [spanL]; omega), show 7 * (i + 1) + j - (spanL x).length = 7 * i + j from by simp [spanL]; omega]
    exact this

/-- An arena: its layout, its words. -/
structure ArW (q : Nat) (P T : Int) (p r : Nat) (ws : List Nat) (w : World) : Prop where
  hd : w.heap[q]? = some (.cells #[.int .i64 P, .int .i64 T, .pointer (some ⟨p, 0, none⟩), .pointer (some ⟨r, 0, none⟩)] 77 (0, 0))
  st : ∃ b s, StoreAt 104 w p b s ∧ s.words = ws
theorem ArW.below {q : Nat} {P T : Int} {p r : Nat} {ws : List Nat} {w w' : World} (k : ArW q P T p r ws w) (b : Below w.heap.size w w') : ArW q P T p r ws w' := by
  obtain ⟨c, s, h, e⟩ := k.st
  exact ⟨(b.block _ (lt_of_heap k.hd)).trans k.hd, c, s, h.below b, e⟩
theorem ArW.of {R : Res} {w0 w : World} {q : Nat} {P T : Int} {p r : Nat} {s : St} {pg : Nat} {ds : List Nat} {dn : Nat} {L : RL} (h : Own (Sep (AX q P T p r s pg ds dn L) R) w0 w) : ArW q P T p r s.words w := by
  obtain ⟨b, hS⟩ := AX.st h
  exact ⟨AX.head h, b, s, hS, rfl⟩
theorem ArW.at_ {q : Nat} {P T : Int} {p r : Nat} {ws : List Nat} {w : World} (k : ArW q P T p r ws w) : ArAt q P T p r ws.length w := by
  obtain ⟨b, s, h, e⟩ := k.st
  exact ⟨k.hd, b, s, h, by rw [e]⟩
theorem ArW.bd {q : Nat} {P T : Int} {p r : Nat} {ws : List Nat} {w : World} (k : ArW q P T p r ws w) : ∀ x ∈ ws, x < 18446744073709551616 := by
  obtain ⟨b, s, h, e⟩ := k.st
  rw [← e]; exact h.bd

theorem toldNil (k p : Int) (w : World) :
    Calls Tryd.prog 38 #[.pointer none, .int .i64 k, .int .i64 p] w fun e w' => e = .returned (.int .u64 0) ∧ Below w.heap.size w w' := by
  have HK := hide (fun w => lpage 0 0 k p w)
  rw [Rec.page_bad (P := 0) (T := 0) (k := k) (p := p) rfl] at HK
  go_enter Tryd.func38, Tryd.ntmps38
  go_wp2_with fail
  refine (layoutNil _).mono ?_
  rintro e w1 ⟨rfl, b1⟩
  have HB1 := hide b1
  clear b1
  go_wp2_with fail
  refine (HK.out _).mono ?_
  rintro e w2 ⟨rfl, b2⟩
  have HB2 := hide (HB1.out.trans (b2.mono HB1.out.size))
  clear b2 HB1
  go_wp2
  go_ret
  exact ⟨rfl, HB2.out⟩

set_option maxHeartbeats 2000000 in
theorem toldA {q : Nat} {P T : Int} {p r : Nat} {ws : List Nat} {w : World} (h : ArW q P T p r ws w) (hl : ws.length = (Lay.words P T).toNat) (k pg : Int) (x : Nat) (hx : Rec.tol ws P T k pg = x) :
    Calls Tryd.prog 38 #[.pointer (some ⟨q, 0, none⟩), .int .i64 k, .int .i64 pg] w fun e w' => e = .returned (.int .u64 (x : Int)) ∧ Below w.heap.size w w' := by
  have HK := hide (fun w => lpage P T k pg w)
  have HA := hide h.at_
  obtain ⟨b, s, hS, hs⟩ := h.st
  have HS := hide hS
  unfold Rec.tol at hx
  cases hp : (Lay.page P T k pg).2 with
  | false =>
    rw [hp] at HK hx
    rw [if_neg (by simp)] at hx
    subst hx
    generalize (Lay.page P T k pg).1 = y at *
    clear h hl hS hs HS hp
    go_enter Tryd.func38, Tryd.ntmps38
    go_wp2_with fail
    refine (HA.out.layout).mono ?_
    rintro e w1 ⟨rfl, b1⟩
    have HB1 := hide b1
    clear b1
    go_wp2_with fail
    refine (HK.out _).mono ?_
    rintro e w2 ⟨rfl, b2⟩
    have HB2 := hide (HB1.out.trans (b2.mono HB1.out.size))
    clear b2 HB1
    go_wp2
    go_ret
    exact ⟨rfl, HB2.out⟩
  | true =>
    obtain ⟨q1, q2⟩ := Rec.page_lt hp
    rw [hp] at HK hx
    rw [if_pos rfl] at hx
    obtain ⟨j, hj⟩ : ∃ j : Nat, (Lay.page P T k pg).1.toNat = j := ⟨_, rfl⟩
    rw [hj] at q1 q2 hx
    rw [← q2] at HK
    have HJ := hide (show j < s.words.length by rw [hs, hl]; exact q1)
    have HX := hide (show s.words.getD j 0 = x by rw [hs]; exact hx)
    have hbk : b < w.heap.size := lt_of_heap hS.row
    clear h hl hS hs hp hj q1 q2 hx
    go_enter Tryd.func38, Tryd.ntmps38
    go_wp2_with fail
    refine (HA.out.layout).mono ?_
    rintro e w1 ⟨rfl, b1⟩
    have HA1 := hide (HA.out.below b1)
    have HS1 := hide (HS.out.below b1)
    have HB1 := hide b1
    clear HA HS b1
    go_wp2_with fail
    refine (HK.out _).mono ?_
    rintro e w3 ⟨rfl, b3⟩
    have HA3 := hide (HA1.out.below b3)
    have HS3 := hide (HS1.out.below b3)
    have HB3 := hide (HB1.out.trans (b3.mono HB1.out.size))
    clear HA1 HS1 HB1 b3
    go_wp2_with fail
    refine (HA3.out.store).mono ?_
    rintro e w4 ⟨rfl, b4⟩
    have HS4 := hide (HS3.out.below b4)
    have HB4 := hide (HB3.out.trans (b4.mono HB3.out.size))
    clear HA3 HS3 HB3 b4
    have c0 : w4.cell? ⟨p, 0, none⟩ = some (.slice (some ⟨b, 0, none⟩) s.words.length s.words.length) := cell_of_heap HS4.out.head
    have c1 : w4.cell? ⟨p, 1, none⟩ = some (.int .i64 s.kind) := cell_of_heap HS4.out.head
    have c2 : w4.cell? ⟨p, 2, none⟩ = some (.int .i64 s.place) := cell_of_heap HS4.out.head
    have c3 : w4.cell? ⟨p, 3, none⟩ = some (.int .u64 s.old) := cell_of_heap HS4.out.head
    have c4 : w4.cell? ⟨p, 4, none⟩ = some (.int .u64 s.new) := cell_of_heap HS4.out.head
    have c5 : w4.cell? ⟨p, 5, none⟩ = some (.int .i64 s.count) := cell_of_heap HS4.out.head
    have HC := hide HS4.out.copy
    have HB5 := hide (HB4.out.alloc (o := (.cells #[.slice (some ⟨b, 0, none⟩) s.words.length s.words.length, .int .i64 s.kind, .int .i64 s.place, .int .u64 s.old, .int .u64 s.new, .int .i64 s.count] 104)) HB4.out.size)
    have hs5 := HB4.out.size
    go_wp2_with fail
    clear c0 c1 c2 c3 c4 c5 HS4 HB4
    generalize w4.alloc (.cells #[.slice (some ⟨b, 0, none⟩) s.words.length s.words.length, .int .i64 s.kind, .int .i64 s.place, .int .u64 s.old, .int .u64 s.new, .int .i64 s.count] 104) = w5 at *
    generalize w4.heap.size = b6 at *
    refine (s_load1 _ _ _ _ HC.out j HJ.out).mono ?_
    rintro e w6 ⟨rfl, h6, o6⟩
    rw [HX.out]
    have HB6 := hide (HB5.out.trans (o6.below HB5.out.size (fun i hi => by omega)))
    clear h6 o6 HC HB5
    go_wp2
    go_ret
    exact ⟨rfl, HB6.out⟩

/-- Seven cells of a new block, stored one by one. -/
theorem putSpan {w0 w : World} {rb : Nat} {c : Array Value} {ty : TypeId} (hb : Below w0.heap.size w0 w) (hr : w0.heap.size ≤ rb) (h : w.heap[rb]? = some (.cells c ty (0, 0))) {v0 v1 v2 v3 v4 v5 v6 : Value} {Q : World → Prop}
    (k : ∀ W : World, Below w0.heap.size w0 W → W.heap[rb]? = some (.cells (((((((c.setIfInBounds 0 v0).setIfInBounds 1 v1).setIfInBounds 2 v2).setIfInBounds 3 v3).setIfInBounds 4 v4).setIfInBounds 5 v5).setIfInBounds 6 v6) ty (0, 0)) → Q W) :
    Q (((((((w.setCell ⟨rb, 0, none⟩ v0).setCell ⟨rb, 1, none⟩ v1).setCell ⟨rb, 2, none⟩ v2).setCell ⟨rb, 3, none⟩ v3).setCell ⟨rb, 4, none⟩ v4).setCell ⟨rb, 5, none⟩ v5).setCell ⟨rb, 6, none⟩ v6) :=
  k _ (((((((hb.setCell (p := ⟨rb, 0, none⟩) hr _).setCell (p := ⟨rb, 1, none⟩) hr _).setCell (p := ⟨rb, 2, none⟩) hr _).setCell (p := ⟨rb, 3, none⟩) hr _).setCell (p := ⟨rb, 4, none⟩) hr _).setCell (p := ⟨rb, 5, none⟩) hr _).setCell (p := ⟨rb, 6, none⟩) hr _)
    (heap_setCell_at (o := 6) (heap_setCell_at (o := 5) (heap_setCell_at (o := 4) (heap_setCell_at (o := 3) (heap_setCell_at (o := 2) (heap_setCell_at (o := 1) (heap_setCell_at (o := 0) h v0) v1) v2) v3) v4) v5) v6)

def spanO (x : Rec.Sp) : Obj := .cells (spanC x) 45 (0, 0)
theorem readNil (pg : Int) (w : World) :
    Calls Tryd.prog 10 #[.pointer none, .int .i64 pg] w fun e w' => e = .returned (.tuple #[spanV Rec.Sp.zero, .bool false]) ∧ Below w.heap.size w w' := by
  have HT := hide (fun w => toldNil 9 pg w)
  have hA := heap_alloc_at w (.cells #[.int .i64 0, .int .i64 0, .int .i64 0, .int .i64 0, .int .i64 0, .int .u64 0, .int .u64 0] 45)
  have HB := hide (grown1 w (.cells #[.int .i64 0, .int .i64 0, .int .i64 0, .int .i64 0, .int .i64 0, .int .u64 0, .int .u64 0] 45))
  go_enter Tryd.func10, Tryd.ntmps10
  go_wp2_with fail
  generalize w.alloc (.cells #[.int .i64 0, .int .i64 0, .int .i64 0, .int .i64 0, .int .i64 0, .int .u64 0, .int .u64 0] 45) = w1 at *
  refine (HT.out _).mono ?_
  rintro e w2 ⟨rfl, b2⟩
  have A2 := (b2.block _ (lt_of_heap hA)).trans hA
  have B2 := hide (HB.out.trans (b2.mono HB.out.size))
  clear b2 HB hA
  have hl := Nat.le_refl w.heap.size
  generalize hrb : w.heap.size = rb at *
  have r0 : w2.cell? ⟨rb, 0, none⟩ = some (.int .i64 0) := cell_of_heap A2
  have r1 : w2.cell? ⟨rb, 1, none⟩ = some (.int .i64 0) := cell_of_heap A2
  have r2 : w2.cell? ⟨rb, 2, none⟩ = some (.int .i64 0) := cell_of_heap A2
  have r3 : w2.cell? ⟨rb, 3, none⟩ = some (.int .i64 0) := cell_of_heap A2
  have r4 : w2.cell? ⟨rb, 4, none⟩ = some (.int .i64 0) := cell_of_heap A2
  have r5 : w2.cell? ⟨rb, 5, none⟩ = some (.int .u64 0) := cell_of_heap A2
  have r6 : w2.cell? ⟨rb, 6, none⟩ = some (.int .u64 0) := cell_of_heap A2
  have fr : ∀ o, w2.frozen? ⟨rb, o, none⟩ = false := fun o => frozen_of_heap A2
  subst hrb
  have HA2 := hide A2
  clear A2 HT
  go_wp2
  clear r0 r1 r2 r3 r4 r5 r6 fr
  refine putSpan (Q := bodyPost _ _ _ _ _) B2.out (Nat.le_refl _) HA2.out ?_
  intro W hW hr
  have z0 : W.cell? ⟨w.heap.size, 0, none⟩ = some (.int .i64 0) := cell_of_heap hr
  have z1 : W.cell? ⟨w.heap.size, 1, none⟩ = some (.int .i64 0) := cell_of_heap hr
  have z2 : W.cell? ⟨w.heap.size, 2, none⟩ = some (.int .i64 0) := cell_of_heap hr
  have z3 : W.cell? ⟨w.heap.size, 3, none⟩ = some (.int .i64 0) := cell_of_heap hr
  have z4 : W.cell? ⟨w.heap.size, 4, none⟩ = some (.int .i64 0) := cell_of_heap hr
  have z5 : W.cell? ⟨w.heap.size, 5, none⟩ = some (.int .u64 0) := cell_of_heap hr
  have z6 : W.cell? ⟨w.heap.size, 6, none⟩ = some (.int .u64 0) := cell_of_heap hr
  refine bodyPost_ret (by simp [results, Tryd.results10, z0, z1, z2, z3, z4, z5, z6, go_sem]; try rfl) rfl ?_
  exact ⟨rfl, hW⟩

/-- On the way through Read: the result's block, the arena. -/
structure RdAt (w u : World) (q : Nat) (P T : Int) (p r : Nat) (ws : List Nat) : Prop where
  below : Below w.heap.size w u
  res : u.heap[w.heap.size]? = some (.cells #[.int .i64 0, .int .i64 0, .int .i64 0, .int .i64 0, .int .i64 0, .int .u64 0, .int .u64 0] 45 (0, 0))
  ar : ArW q P T p r ws u
theorem RdAt.grow {w u u' : World} {q : Nat} {P T : Int} {p r : Nat} {ws : List Nat} (h : RdAt w u q P T p r ws) (b : Below u.heap.size u u') : RdAt w u' q P T p r ws :=
  ⟨h.below.trans (b.mono h.below.size), (b.block _ (lt_of_heap h.res)).trans h.res, h.ar.below b⟩
theorem RdAt.drewN {w u : World} {q : Nat} {P T : Int} {p r : Nat} {ws : List Nat} (h : RdAt w u q P T p r ws) (n : Nat) : RdAt w (u.drewN n) q P T p r ws := h.grow (below_drewN (Below.refl _ _) n)

set_option maxRecDepth 100000 in
set_option maxHeartbeats 4000000 in
theorem readA {q : Nat} {P T : Int} {p r : Nat} {ws : List Nat} {w : World} (h : ArW q P T p r ws w) (hl : ws.length = (Lay.words P T).toNat) (pg : Int) (x : Rec.Sp) (ok : Bool) (hx : Rec.read ws P T pg = (x, ok)) :
    Calls Tryd.prog 10 #[.pointer (some ⟨q, 0, none⟩), .int .i64 pg] w fun e w' => e = .returned (.tuple #[spanV x, .bool ok]) ∧ Below w.heap.size w w' := by
  have HT := hide (fun (k : Int) (u : World) (hu : ArW q P T p r ws u) (x : Nat) (hx : Rec.tol ws P T k pg = x) => toldA hu hl k pg x hx)
  have I1 : Hid (RdAt w (w.alloc (.cells #[.int .i64 0, .int .i64 0, .int .i64 0, .int .i64 0, .int .i64 0, .int .u64 0, .int .u64 0] 45)) q P T p r ws) := hide ⟨grown1 _ _, heap_alloc_at _ _, h.below (grown1 _ _)⟩
  have hb := h.bd
  have HS := Rec.tol_bd hb P T 9 pg
  have HB := Rec.tol_bd hb P T 10 pg
  unfold Rec.read Rec.said at hx
  obtain ⟨s9, h9⟩ : ∃ x, Rec.tol ws P T 9 pg = x := ⟨_, rfl⟩
  obtain ⟨s10, h10⟩ : ∃ x, Rec.tol ws P T 10 pg = x := ⟨_, rfl⟩
  obtain ⟨s12, h12⟩ : ∃ x, Rec.tol ws P T 12 pg = x := ⟨_, rfl⟩
  obtain ⟨s13, h13⟩ : ∃ x, Rec.tol ws P T 13 pg = x := ⟨_, rfl⟩
  rw [h9, h10, h12, h13] at hx
  rw [h9] at HS
  rw [h10] at HB
  have H9 := hide (fun u hu => HT.out 9 u hu s9 h9)
  have H10 := hide (fun u hu => HT.out 10 u hu s10 h10)
  have H12 := hide (fun u hu => HT.out 12 u hu s12 h12)
  have H13 := hide (fun u hu => HT.out 13 u hu s13 h13)
  have HG := hide (fun w => genP s9 HS w)
  have HP := hide (fun w => phP s9 HS w)
  clear h hl hb h9 h10 h12 h13 HT
  by_cases h0 : s9 = 0
  · rw [if_pos h0] at hx
    simp only [Prod.mk.injEq] at hx
    obtain ⟨rfl, rfl⟩ := hx
    have d0 : ((s9 : Int) == 0) = true := by simp [h0]
    have HD := hide d0
    clear h0 d0
    go_enter Tryd.func10, Tryd.ntmps10
    go_wp2_with fail
    generalize w.alloc (.cells #[.int .i64 0, .int .i64 0, .int .i64 0, .int .i64 0, .int .i64 0, .int .u64 0, .int .u64 0] 45) = w1 at *
    refine (H9.out _ I1.out.ar).mono ?_
    rintro e w2 ⟨rfl, b2⟩
    have I2 := hide (I1.out.grow b2)
    clear b2 I1
    have d0 := HD.out
    have A2 := I2.out.res
    have r0 : w2.cell? ⟨w.heap.size, 0, none⟩ = some (.int .i64 0) := cell_of_heap A2
    have r1 : w2.cell? ⟨w.heap.size, 1, none⟩ = some (.int .i64 0) := cell_of_heap A2
    have r2 : w2.cell? ⟨w.heap.size, 2, none⟩ = some (.int .i64 0) := cell_of_heap A2
    have r3 : w2.cell? ⟨w.heap.size, 3, none⟩ = some (.int .i64 0) := cell_of_heap A2
    have r4 : w2.cell? ⟨w.heap.size, 4, none⟩ = some (.int .i64 0) := cell_of_heap A2
    have r5 : w2.cell? ⟨w.heap.size, 5, none⟩ = some (.int .u64 0) := cell_of_heap A2
    have r6 : w2.cell? ⟨w.heap.size, 6, none⟩ = some (.int .u64 0) := cell_of_heap A2
    have fr : ∀ o, w2.frozen? ⟨w.heap.size, o, none⟩ = false := fun o => frozen_of_heap A2
    clear A2
    go_wp2
    clear r0 r1 r2 r3 r4 r5 r6 fr
    refine putSpan (Q := bodyPost _ _ _ _ _) I2.out.below (Nat.le_refl _) I2.out.res ?_
    intro W hW hr
    have z0 : W.cell? ⟨w.heap.size, 0, none⟩ = some (.int .i64 0) := cell_of_heap hr
    have z1 : W.cell? ⟨w.heap.size, 1, none⟩ = some (.int .i64 0) := cell_of_heap hr
    have z2 : W.cell? ⟨w.heap.size, 2, none⟩ = some (.int .i64 0) := cell_of_heap hr
    have z3 : W.cell? ⟨w.heap.size, 3, none⟩ = some (.int .i64 0) := cell_of_heap hr
    have z4 : W.cell? ⟨w.heap.size, 4, none⟩ = some (.int .i64 0) := cell_of_heap hr
    have z5 : W.cell? ⟨w.heap.size, 5, none⟩ = some (.int .u64 0) := cell_of_heap hr
    have z6 : W.cell? ⟨w.heap.size, 6, none⟩ = some (.int .u64 0) := cell_of_heap hr
    refine bodyPost_ret (by simp [results, Tryd.results10, z0, z1, z2, z3, z4, z5, z6, go_sem]; try rfl) rfl ?_
    exact ⟨rfl, hW⟩
  · rw [if_neg h0] at hx
    simp only [Prod.mk.injEq] at hx
    obtain ⟨hx, rfl⟩ := hx
    have HX := hide hx
    have d0 : ((s9 : Int) == 0) = false := by simp; omega
    have HD := hide d0
    obtain ⟨gg, hgg⟩ : ∃ x, Ph.gen s9 = x := ⟨_, rfl⟩
    obtain ⟨ph, hph⟩ : ∃ x, Ph.ph s9 = x := ⟨_, rfl⟩
    rw [hgg] at HG HX
    rw [hph] at HP HX
    clear h0 d0 hx hgg hph
    go_enter Tryd.func10, Tryd.ntmps10
    go_wp2_with fail
    generalize w.alloc (.cells #[.int .i64 0, .int .i64 0, .int .i64 0, .int .i64 0, .int .i64 0, .int .u64 0, .int .u64 0] 45) = w1 at *
    refine (H9.out _ I1.out.ar).mono ?_
    rintro e w2 ⟨rfl, b2⟩
    have I2 := hide (I1.out.grow b2)
    clear b2 I1
    have d0 := HD.out
    clear HD
    go_wp2_with fail
    refine (H10.out _ I2.out.ar).mono ?_
    rintro e w3 ⟨rfl, b3⟩
    have I3 := hide (I2.out.grow b3)
    clear b3 I2 d0
    go_wp2_with fail
    refine (HG.out _).mono ?_
    rintro e w4 ⟨rfl, n4, rfl⟩
    have I4 := hide (I3.out.drewN n4)
    clear I3
    generalize w3.drewN n4 = w4 at *
    go_wp2_with fail
    refine (HP.out _).mono ?_
    rintro e w5 ⟨rfl, n5, rfl⟩
    have I5 := hide (I4.out.drewN n5)
    clear I4
    generalize w4.drewN n5 = w5 at *
    go_wp2_with fail
    refine (H12.out _ I5.out.ar).mono ?_
    rintro e w6 ⟨rfl, b6⟩
    have I6 := hide (I5.out.grow b6)
    clear b6 I5
    go_wp2_with fail
    refine (H13.out _ I6.out.ar).mono ?_
    rintro e w7 ⟨rfl, b7⟩
    have I7 := hide (I6.out.grow b7)
    clear b7 I6
    have A2 := I7.out.res
    have r0 : w7.cell? ⟨w.heap.size, 0, none⟩ = some (.int .i64 0) := cell_of_heap A2
    have r1 : w7.cell? ⟨w.heap.size, 1, none⟩ = some (.int .i64 0) := cell_of_heap A2
    have r2 : w7.cell? ⟨w.heap.size, 2, none⟩ = some (.int .i64 0) := cell_of_heap A2
    have r3 : w7.cell? ⟨w.heap.size, 3, none⟩ = some (.int .i64 0) := cell_of_heap A2
    have r4 : w7.cell? ⟨w.heap.size, 4, none⟩ = some (.int .i64 0) := cell_of_heap A2
    have r5 : w7.cell? ⟨w.heap.size, 5, none⟩ = some (.int .u64 0) := cell_of_heap A2
    have r6 : w7.cell? ⟨w.heap.size, 6, none⟩ = some (.int .u64 0) := cell_of_heap A2
    have fr : ∀ o, w7.frozen? ⟨w.heap.size, o, none⟩ = false := fun o => frozen_of_heap A2
    clear A2
    go_wp2
    clear r0 r1 r2 r3 r4 r5 r6 fr
    refine putSpan (Q := bodyPost _ _ _ _ _) I7.out.below (Nat.le_refl _) I7.out.res ?_
    intro W hW hr
    have z0 := cell_of_heap (o := 0) hr
    have z1 := cell_of_heap (o := 1) hr
    have z2 := cell_of_heap (o := 2) hr
    have z3 := cell_of_heap (o := 3) hr
    have z4 := cell_of_heap (o := 4) hr
    have z5 := cell_of_heap (o := 5) hr
    have z6 := cell_of_heap (o := 6) hr
    simp at z0 z1 z2 z3 z4 z5 z6
    refine bodyPost_ret (by simp [results, Tryd.results10, z0, z1, z2, z3, z4, z5, z6, go_sem]; try rfl) rfl ?_
    refine ⟨?_, hW⟩
    rw [← HX.out]
    rfl
end Go.Proofs.YtgdliebllmgibaaDoor
