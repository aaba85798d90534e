/- What a word is for: the call Name of package layout, at every argument. -/
import Derived.Test.YtafamfjgehnddaaLayFns
namespace Go.Proofs.Ytafamfjgehnddaa
open Go.RowKit

set_option maxHeartbeats 2000000 in
theorem ltwo4 (i : Int) (h1 : 0 ≤ i) (h2 : i ≤ 100000) (w : World) :
    Calls Try.prog 91 #[.int .i64 7, .int .i64 i, .int .i64 4] w fun e w' => e = .returned (.agg #[.int .i64 7, .int .i64 (i / 4), .int .i64 (i % 4)]) ∧ Below w.heap.size w w' := by
  go_enter Try.func91, Try.ntmps91
  go_wp2
  go_region
  all_goals (go_wp2; go_returns; exact ⟨rfl, (grown1 _ _).drew⟩)

set_option maxHeartbeats 2000000 in
theorem ltwo14 (i : Int) (h1 : 0 ≤ i) (h2 : i ≤ 100000) (w : World) :
    Calls Try.prog 91 #[.int .i64 8, .int .i64 i, .int .i64 14] w fun e w' => e = .returned (.agg #[.int .i64 8, .int .i64 (i / 14), .int .i64 (i % 14)]) ∧ Below w.heap.size w w' := by
  go_enter Try.func91, Try.ntmps91
  go_wp2
  go_region
  all_goals (go_wp2; go_returns; exact ⟨rfl, (grown1 _ _).drew⟩)

/-- A layout lies in block b, three noughts in block r, of the world w, which has grown of w0. -/
structure RBox (w0 w : World) (b r : Nat) (P T : Int) : Prop where
  low : w0.heap.size ≤ r
  below : Below w0.heap.size w0 w
  c0 : w.cell? ⟨b, 0, none⟩ = some (.int .i64 P)
  c1 : w.cell? ⟨b, 1, none⟩ = some (.int .i64 T)
  spot : w.heap[r]? = some (.cells #[.int .i64 0, .int .i64 0, .int .i64 0] 131)

theorem RBox.new (w : World) (P T : Int) (t : TypeId) : RBox w ((w.alloc (.cells #[.int .i64 P, .int .i64 T] t)).alloc (.cells #[.int .i64 0, .int .i64 0, .int .i64 0] 131)) w.heap.size (w.heap.size + 1) P T :=
  ⟨by omega, (grown1 w _).alloc (by simp) _, cell_of_heap (heap_alloc_old (heap_alloc_at _ _)), cell_of_heap (heap_alloc_old (heap_alloc_at _ _)), by
    have h := heap_alloc_at (w.alloc (.cells #[.int .i64 P, .int .i64 T] t)) (.cells #[.int .i64 0, .int .i64 0, .int .i64 0] 131)
    rw [show (w.alloc (.cells #[.int .i64 P, .int .i64 T] t)).heap.size = w.heap.size + 1 by simp] at h
    exact h⟩

theorem RBox.grow {w0 w w' : World} {b r : Nat} {P T : Int} (h : RBox w0 w b r P T) (hb : Below w.heap.size w w') : RBox w0 w' b r P T :=
  ⟨h.low, h.below.trans (hb.mono h.below.size), (hb.cell (block_lt_of_cell h.c0)).trans h.c0, (hb.cell (block_lt_of_cell h.c1)).trans h.c1, (hb.block _ (lt_of_heap h.spot)).trans h.spot⟩

theorem RBox.r0 {w0 w : World} {b r : Nat} {P T : Int} (h : RBox w0 w b r P T) : w.cell? ⟨r, 0, none⟩ = some (.int .i64 0) := cell_of_heap h.spot
theorem RBox.r1 {w0 w : World} {b r : Nat} {P T : Int} (h : RBox w0 w b r P T) : w.cell? ⟨r, 1, none⟩ = some (.int .i64 0) := cell_of_heap h.spot
theorem RBox.r2 {w0 w : World} {b r : Nat} {P T : Int} (h : RBox w0 w b r P T) : w.cell? ⟨r, 2, none⟩ = some (.int .i64 0) := cell_of_heap h.spot
theorem RBox.fr {w0 w : World} {b r : Nat} {P T : Int} (h : RBox w0 w b r P T) (j : Nat) : w.frozen? ⟨r, j, none⟩ = false := frozen_of_heap h.spot

/-- Three cells put into block r: whatever holds of a world in which they lie holds of the one in which they were put. -/
theorem RBox.put {w0 w : World} {b r : Nat} {P T : Int} (h : RBox w0 w b r P T) {v0 v1 v2 : Value} {R : World → Prop}
    (k : ∀ W : World, Below w0.heap.size w0 W → W.cell? ⟨r, 0, none⟩ = some v0 → W.cell? ⟨r, 1, none⟩ = some v1 → W.cell? ⟨r, 2, none⟩ = some v2 → R W) :
    R (((w.setCell ⟨r, 0, none⟩ v0).setCell ⟨r, 1, none⟩ v1).setCell ⟨r, 2, none⟩ v2) := by
  have e := heap_setCell_at (o := 2) (heap_setCell_at (o := 1) (heap_setCell_at (o := 0) h.spot v0) v1) v2
  refine k _ (((h.below.setCell ?_ _).setCell ?_ _).setCell ?_ _) (cell_of_heap e) (cell_of_heap e) (cell_of_heap e)
  all_goals exact h.low

set_option maxHeartbeats 2000000 in
theorem lname_out (P T a : Int) (h : Lay.below a (Lay.words P T) = false) (w : World) :
    Calls Try.prog 70 #[.agg #[.int .i64 P, .int .i64 T], .int .i64 a] w fun e w' => e = .returned (.tuple #[.agg #[.int .i64 0, .int .i64 0, .int .i64 0], .bool false]) ∧ Below w.heap.size w w' := by
  have M := hide (fun w => lwords P T w)
  have C := hide (fun w => lbelow a (Lay.words P T) w)
  rw [h] at C
  clear h
  generalize Lay.words P T = S at *
  go_enter Try.func70, Try.ntmps70
  have B0 := RBox.new w P T 26
  go_wp2_with fail
  refine (M.out _).mono ?_
  rintro e w1 ⟨rfl, hb⟩
  have B1 := RBox.grow (by assumption) hb
  have b0 := B1.c0
  have b1 := B1.c1
  have r0 := B1.r0
  have r1 := B1.r1
  have r2 := B1.r2
  have fr := B1.fr
  go_wp2_with fail
  refine (C.out _).mono ?_
  rintro e w9 ⟨rfl, rfl⟩
  go_wp2
  refine B1.put (R := bodyPost _ _ _ _ _) ?_
  intro W hB z0 z1 z2
  refine bodyPost_ret (by simp [results, Try.results70, z0, z1, z2, go_sem]; try rfl) rfl ?_
  exact ⟨rfl, hB⟩

theorem ret_spot {a b c a' b' c' : Int} {d : Bool} (h : a = a') (h' : b = b') (h'' : c = c') :
    Ending.returned (.tuple #[.agg #[.int .i64 a, .int .i64 b, .int .i64 c], .bool d]) = .returned (.tuple #[.agg #[.int .i64 a', .int .i64 b', .int .i64 c'], .bool d]) := by rw [h, h', h'']

set_option maxHeartbeats 2000000 in
theorem lname_1 (P T a X  : Int) (_h0 : 0 ≤ a) (_h1 : a ≤ 100000) (t0 : decide (a < 8) = true) (w : World)
    (M : Hid (∀ w, Calls Try.prog 78 #[.agg #[.int .i64 P, .int .i64 T]] w fun e w' => e = .returned (.int .i64 X) ∧ Below w.heap.size w w'))
    (C : Hid (∀ w, Calls Try.prog 82 #[.int .i64 a, .int .i64 X] w fun e w' => e = .returned (.bool true) ∧ w' = w))
    : Calls Try.prog 70 #[.agg #[.int .i64 P, .int .i64 T], .int .i64 a] w fun e w' => e = .returned (.tuple #[.agg #[.int .i64 (Lay.alone a), .int .i64 (0), .int .i64 (0)], .bool true]) ∧ Below w.heap.size w w' := by
  have _s0 : a < 8 := by simpa using t0
  have A := hide (fun w => lalone a _h0 w)
  generalize Lay.alone a = Y at *
  go_enter Try.func70, Try.ntmps70
  have B0 := RBox.new w P T 26
  go_wp2_with fail
  refine (M.out _).mono ?_
  rintro e w1 ⟨rfl, hb⟩
  have B1 := RBox.grow (by assumption) hb
  have bc0 := B1.c0
  have bc1 := B1.c1
  have br0 := B1.r0
  have br1 := B1.r1
  have br2 := B1.r2
  have fr := B1.fr
  go_wp2_with fail
  refine (C.out _).mono ?_
  rintro e w9 ⟨rfl, rfl⟩
  go_wp2_with fail
  refine (A.out _).mono ?_
  rintro e w9 ⟨rfl, rfl⟩
  go_wp2
  refine B1.put (R := bodyPost _ _ _ _ _) ?_
  intro W hB z0 z1 z2
  refine bodyPost_ret (by simp [results, Try.results70, z0, z1, z2, go_sem]; try rfl) rfl ?_
  exact ⟨ret_spot (by first | rfl | omega) (by first | rfl | omega) (by first | rfl | omega), hB⟩

set_option maxHeartbeats 2000000 in
theorem lname_2 (P T a X  : Int) (_h0 : 0 ≤ a) (_h1 : a ≤ 100000) (t0 : decide (a < 8) = false) (t1 : decide (a < 68) = true) (w : World)
    (M : Hid (∀ w, Calls Try.prog 78 #[.agg #[.int .i64 P, .int .i64 T]] w fun e w' => e = .returned (.int .i64 X) ∧ Below w.heap.size w w'))
    (C : Hid (∀ w, Calls Try.prog 82 #[.int .i64 a, .int .i64 X] w fun e w' => e = .returned (.bool true) ∧ w' = w))
    : Calls Try.prog 70 #[.agg #[.int .i64 P, .int .i64 T], .int .i64 a] w fun e w' => e = .returned (.tuple #[.agg #[.int .i64 (7), .int .i64 ((a - 8) / 4), .int .i64 ((a - 8) % 4)], .bool true]) ∧ Below w.heap.size w w' := by
  have _s0 : 8 ≤ a := by simpa using t0
  have _s1 : a < 68 := by simpa using t1
  have A := hide (fun w => ltwo4 (a - 8) (by omega) (by omega) w)
  go_enter Try.func70, Try.ntmps70
  have B0 := RBox.new w P T 26
  go_wp2_with fail
  refine (M.out _).mono ?_
  rintro e w1 ⟨rfl, hb⟩
  have B1 := RBox.grow (by assumption) hb
  have bc0 := B1.c0
  have bc1 := B1.c1
  have br0 := B1.r0
  have br1 := B1.r1
  have br2 := B1.r2
  have fr := B1.fr
  go_wp2_with fail
  refine (C.out _).mono ?_
  rintro e w9 ⟨rfl, rfl⟩
  go_wp2_with fail
  refine (A.out _).mono ?_
  rintro e w1 ⟨rfl, hb⟩
  have B1 := RBox.grow (by assumption) hb
  have bc0 := B1.c0
  have bc1 := B1.c1
  have br0 := B1.r0
  have br1 := B1.r1
  have br2 := B1.r2
  have fr := B1.fr
  go_wp2
  refine B1.put (R := bodyPost _ _ _ _ _) ?_
  intro W hB z0 z1 z2
  refine bodyPost_ret (by simp [results, Try.results70, z0, z1, z2, go_sem]; try rfl) rfl ?_
  exact ⟨ret_spot (by first | rfl | omega) (by first | rfl | omega) (by first | rfl | omega), hB⟩

set_option maxHeartbeats 2000000 in
theorem lname_3 (P T a X S : Int) (_h0 : 0 ≤ a) (_h1 : a ≤ 100000) (t0 : decide (a < 8) = false) (t1 : decide (a < 68) = false) (t2 : decide (a < S) = true) (_s1 : 0 ≤ S) (_s2 : S ≤ 100000) (w : World)
    (M : Hid (∀ w, Calls Try.prog 78 #[.agg #[.int .i64 P, .int .i64 T]] w fun e w' => e = .returned (.int .i64 X) ∧ Below w.heap.size w w'))
    (C : Hid (∀ w, Calls Try.prog 82 #[.int .i64 a, .int .i64 X] w fun e w' => e = .returned (.bool true) ∧ w' = w))
    (CS : Hid (∀ w, Calls Try.prog 84 #[.agg #[.int .i64 P, .int .i64 T]] w fun e w' => e = .returned (.int .i64 S) ∧ Below w.heap.size w w'))
    : Calls Try.prog 70 #[.agg #[.int .i64 P, .int .i64 T], .int .i64 a] w fun e w' => e = .returned (.tuple #[.agg #[.int .i64 (8), .int .i64 ((a - 68) / 14), .int .i64 ((a - 68) % 14)], .bool true]) ∧ Below w.heap.size w w' := by
  have _s0 : 8 ≤ a := by simpa using t0
  have _s1 : 68 ≤ a := by simpa using t1
  have _s2 : a < S := by simpa using t2
  have A := hide (fun w => ltwo14 (a - 68) (by omega) (by omega) w)
  go_enter Try.func70, Try.ntmps70
  have B0 := RBox.new w P T 26
  go_wp2_with fail
  refine (M.out _).mono ?_
  rintro e w1 ⟨rfl, hb⟩
  have B1 := RBox.grow (by assumption) hb
  have bc0 := B1.c0
  have bc1 := B1.c1
  have br0 := B1.r0
  have br1 := B1.r1
  have br2 := B1.r2
  have fr := B1.fr
  go_wp2_with fail
  refine (C.out _).mono ?_
  rintro e w9 ⟨rfl, rfl⟩
  go_wp2_with fail
  refine (CS.out _).mono ?_
  rintro e w1 ⟨rfl, hb⟩
  have B1 := RBox.grow (by assumption) hb
  have bc0 := B1.c0
  have bc1 := B1.c1
  have br0 := B1.r0
  have br1 := B1.r1
  have br2 := B1.r2
  have fr := B1.fr
  go_wp2_with fail
  refine (A.out _).mono ?_
  rintro e w1 ⟨rfl, hb⟩
  have B1 := RBox.grow (by assumption) hb
  have bc0 := B1.c0
  have bc1 := B1.c1
  have br0 := B1.r0
  have br1 := B1.r1
  have br2 := B1.r2
  have fr := B1.fr
  go_wp2
  refine B1.put (R := bodyPost _ _ _ _ _) ?_
  intro W hB z0 z1 z2
  refine bodyPost_ret (by simp [results, Try.results70, z0, z1, z2, go_sem]; try rfl) rfl ?_
  exact ⟨ret_spot (by first | rfl | omega) (by first | rfl | omega) (by first | rfl | omega), hB⟩

set_option maxHeartbeats 2000000 in
theorem lname_4 (P T a X S I : Int) (_h0 : 0 ≤ a) (_h1 : a ≤ 100000) (t0 : decide (a < 8) = false) (t1 : decide (a < 68) = false) (t2 : decide (a < S) = false) (t3 : decide (a < I) = true) (_s1 : 0 ≤ S) (_s2 : S ≤ 100000) (_i1 : 0 ≤ I) (_i2 : I ≤ 100000) (w : World)
    (M : Hid (∀ w, Calls Try.prog 78 #[.agg #[.int .i64 P, .int .i64 T]] w fun e w' => e = .returned (.int .i64 X) ∧ Below w.heap.size w w'))
    (C : Hid (∀ w, Calls Try.prog 82 #[.int .i64 a, .int .i64 X] w fun e w' => e = .returned (.bool true) ∧ w' = w))
    (CS : Hid (∀ w, Calls Try.prog 84 #[.agg #[.int .i64 P, .int .i64 T]] w fun e w' => e = .returned (.int .i64 S) ∧ Below w.heap.size w w'))
    (CI : Hid (∀ w, Calls Try.prog 83 #[.agg #[.int .i64 P, .int .i64 T]] w fun e w' => e = .returned (.int .i64 I) ∧ Below w.heap.size w w'))
    : Calls Try.prog 70 #[.agg #[.int .i64 P, .int .i64 T], .int .i64 a] w fun e w' => e = .returned (.tuple #[.agg #[.int .i64 (9 + (a - S) % 5), .int .i64 ((a - S) / 5), .int .i64 (0)], .bool true]) ∧ Below w.heap.size w w' := by
  have _s0 : 8 ≤ a := by simpa using t0
  have _s1 : 68 ≤ a := by simpa using t1
  have _s2 : S ≤ a := by simpa using t2
  have _s3 : a < I := by simpa using t3
  go_enter Try.func70, Try.ntmps70
  have B0 := RBox.new w P T 26
  go_wp2_with fail
  refine (M.out _).mono ?_
  rintro e w1 ⟨rfl, hb⟩
  have B1 := RBox.grow (by assumption) hb
  have bc0 := B1.c0
  have bc1 := B1.c1
  have br0 := B1.r0
  have br1 := B1.r1
  have br2 := B1.r2
  have fr := B1.fr
  go_wp2_with fail
  refine (C.out _).mono ?_
  rintro e w9 ⟨rfl, rfl⟩
  go_wp2_with fail
  refine (CS.out _).mono ?_
  rintro e w1 ⟨rfl, hb⟩
  have B1 := RBox.grow (by assumption) hb
  have bc0 := B1.c0
  have bc1 := B1.c1
  have br0 := B1.r0
  have br1 := B1.r1
  have br2 := B1.r2
  have fr := B1.fr
  go_wp2_with fail
  refine (CI.out _).mono ?_
  rintro e w1 ⟨rfl, hb⟩
  have B1 := RBox.grow (by assumption) hb
  have bc0 := B1.c0
  have bc1 := B1.c1
  have br0 := B1.r0
  have br1 := B1.r1
  have br2 := B1.r2
  have fr := B1.fr
  go_wp2_with fail
  refine (CS.out _).mono ?_
  rintro e w1 ⟨rfl, hb⟩
  have B1 := RBox.grow (by assumption) hb
  have bc0 := B1.c0
  have bc1 := B1.c1
  have br0 := B1.r0
  have br1 := B1.r1
  have br2 := B1.r2
  have fr := B1.fr
  go_wp2
  refine B1.put (R := bodyPost _ _ _ _ _) ?_
  intro W hB z0 z1 z2
  refine bodyPost_ret (by simp [results, Try.results70, z0, z1, z2, go_sem]; try rfl) rfl ?_
  exact ⟨ret_spot (by first | rfl | omega) (by first | rfl | omega) (by first | rfl | omega), hB⟩

set_option maxHeartbeats 2000000 in
theorem lname_5 (P T a X S I U : Int) (_h0 : 0 ≤ a) (_h1 : a ≤ 100000) (t0 : decide (a < 8) = false) (t1 : decide (a < 68) = false) (t2 : decide (a < S) = false) (t3 : decide (a < I) = false) (t4 : decide (a < U) = true) (_s1 : 0 ≤ S) (_s2 : S ≤ 100000) (_i1 : 0 ≤ I) (_i2 : I ≤ 100000) (_u1 : 0 ≤ U) (_u2 : U ≤ 100000) (w : World)
    (M : Hid (∀ w, Calls Try.prog 78 #[.agg #[.int .i64 P, .int .i64 T]] w fun e w' => e = .returned (.int .i64 X) ∧ Below w.heap.size w w'))
    (C : Hid (∀ w, Calls Try.prog 82 #[.int .i64 a, .int .i64 X] w fun e w' => e = .returned (.bool true) ∧ w' = w))
    (CS : Hid (∀ w, Calls Try.prog 84 #[.agg #[.int .i64 P, .int .i64 T]] w fun e w' => e = .returned (.int .i64 S) ∧ Below w.heap.size w w'))
    (CI : Hid (∀ w, Calls Try.prog 83 #[.agg #[.int .i64 P, .int .i64 T]] w fun e w' => e = .returned (.int .i64 I) ∧ Below w.heap.size w w'))
    (CU : Hid (∀ w, Calls Try.prog 92 #[.agg #[.int .i64 P, .int .i64 T]] w fun e w' => e = .returned (.int .i64 U) ∧ Below w.heap.size w w'))
    : Calls Try.prog 70 #[.agg #[.int .i64 P, .int .i64 T], .int .i64 a] w fun e w' => e = .returned (.tuple #[.agg #[.int .i64 (14), .int .i64 (a - I), .int .i64 (0)], .bool true]) ∧ Below w.heap.size w w' := by
  have _s0 : 8 ≤ a := by simpa using t0
  have _s1 : 68 ≤ a := by simpa using t1
  have _s2 : S ≤ a := by simpa using t2
  have _s3 : I ≤ a := by simpa using t3
  have _s4 : a < U := by simpa using t4
  go_enter Try.func70, Try.ntmps70
  have B0 := RBox.new w P T 26
  go_wp2_with fail
  refine (M.out _).mono ?_
  rintro e w1 ⟨rfl, hb⟩
  have B1 := RBox.grow (by assumption) hb
  have bc0 := B1.c0
  have bc1 := B1.c1
  have br0 := B1.r0
  have br1 := B1.r1
  have br2 := B1.r2
  have fr := B1.fr
  go_wp2_with fail
  refine (C.out _).mono ?_
  rintro e w9 ⟨rfl, rfl⟩
  go_wp2_with fail
  refine (CS.out _).mono ?_
  rintro e w1 ⟨rfl, hb⟩
  have B1 := RBox.grow (by assumption) hb
  have bc0 := B1.c0
  have bc1 := B1.c1
  have br0 := B1.r0
  have br1 := B1.r1
  have br2 := B1.r2
  have fr := B1.fr
  go_wp2_with fail
  refine (CI.out _).mono ?_
  rintro e w1 ⟨rfl, hb⟩
  have B1 := RBox.grow (by assumption) hb
  have bc0 := B1.c0
  have bc1 := B1.c1
  have br0 := B1.r0
  have br1 := B1.r1
  have br2 := B1.r2
  have fr := B1.fr
  go_wp2_with fail
  refine (CU.out _).mono ?_
  rintro e w1 ⟨rfl, hb⟩
  have B1 := RBox.grow (by assumption) hb
  have bc0 := B1.c0
  have bc1 := B1.c1
  have br0 := B1.r0
  have br1 := B1.r1
  have br2 := B1.r2
  have fr := B1.fr
  go_wp2_with fail
  refine (CI.out _).mono ?_
  rintro e w1 ⟨rfl, hb⟩
  have B1 := RBox.grow (by assumption) hb
  have bc0 := B1.c0
  have bc1 := B1.c1
  have br0 := B1.r0
  have br1 := B1.r1
  have br2 := B1.r2
  have fr := B1.fr
  go_wp2
  refine B1.put (R := bodyPost _ _ _ _ _) ?_
  intro W hB z0 z1 z2
  refine bodyPost_ret (by simp [results, Try.results70, z0, z1, z2, go_sem]; try rfl) rfl ?_
  exact ⟨ret_spot (by first | rfl | omega) (by first | rfl | omega) (by first | rfl | omega), hB⟩

set_option maxHeartbeats 2000000 in
theorem lname_6 (P T a X S I U G : Int) (_h0 : 0 ≤ a) (_h1 : a ≤ 100000) (t0 : decide (a < 8) = false) (t1 : decide (a < 68) = false) (t2 : decide (a < S) = false) (t3 : decide (a < I) = false) (t4 : decide (a < U) = false) (t5 : decide (a < G) = true) (_s1 : 0 ≤ S) (_s2 : S ≤ 100000) (_i1 : 0 ≤ I) (_i2 : I ≤ 100000) (_u1 : 0 ≤ U) (_u2 : U ≤ 100000) (_g1 : 0 ≤ G) (_g2 : G ≤ 100000) (w : World)
    (M : Hid (∀ w, Calls Try.prog 78 #[.agg #[.int .i64 P, .int .i64 T]] w fun e w' => e = .returned (.int .i64 X) ∧ Below w.heap.size w w'))
    (C : Hid (∀ w, Calls Try.prog 82 #[.int .i64 a, .int .i64 X] w fun e w' => e = .returned (.bool true) ∧ w' = w))
    (CS : Hid (∀ w, Calls Try.prog 84 #[.agg #[.int .i64 P, .int .i64 T]] w fun e w' => e = .returned (.int .i64 S) ∧ Below w.heap.size w w'))
    (CI : Hid (∀ w, Calls Try.prog 83 #[.agg #[.int .i64 P, .int .i64 T]] w fun e w' => e = .returned (.int .i64 I) ∧ Below w.heap.size w w'))
    (CU : Hid (∀ w, Calls Try.prog 92 #[.agg #[.int .i64 P, .int .i64 T]] w fun e w' => e = .returned (.int .i64 U) ∧ Below w.heap.size w w'))
    (CG : Hid (∀ w, Calls Try.prog 93 #[.agg #[.int .i64 P, .int .i64 T]] w fun e w' => e = .returned (.int .i64 G) ∧ Below w.heap.size w w'))
    : Calls Try.prog 70 #[.agg #[.int .i64 P, .int .i64 T], .int .i64 a] w fun e w' => e = .returned (.tuple #[.agg #[.int .i64 (15), .int .i64 (a - U), .int .i64 (0)], .bool true]) ∧ Below w.heap.size w w' := by
  have _s0 : 8 ≤ a := by simpa using t0
  have _s1 : 68 ≤ a := by simpa using t1
  have _s2 : S ≤ a := by simpa using t2
  have _s3 : I ≤ a := by simpa using t3
  have _s4 : U ≤ a := by simpa using t4
  have _s5 : a < G := by simpa using t5
  go_enter Try.func70, Try.ntmps70
  have B0 := RBox.new w P T 26
  go_wp2_with fail
  refine (M.out _).mono ?_
  rintro e w1 ⟨rfl, hb⟩
  have B1 := RBox.grow (by assumption) hb
  have bc0 := B1.c0
  have bc1 := B1.c1
  have br0 := B1.r0
  have br1 := B1.r1
  have br2 := B1.r2
  have fr := B1.fr
  go_wp2_with fail
  refine (C.out _).mono ?_
  rintro e w9 ⟨rfl, rfl⟩
  go_wp2_with fail
  refine (CS.out _).mono ?_
  rintro e w1 ⟨rfl, hb⟩
  have B1 := RBox.grow (by assumption) hb
  have bc0 := B1.c0
  have bc1 := B1.c1
  have br0 := B1.r0
  have br1 := B1.r1
  have br2 := B1.r2
  have fr := B1.fr
  go_wp2_with fail
  refine (CI.out _).mono ?_
  rintro e w1 ⟨rfl, hb⟩
  have B1 := RBox.grow (by assumption) hb
  have bc0 := B1.c0
  have bc1 := B1.c1
  have br0 := B1.r0
  have br1 := B1.r1
  have br2 := B1.r2
  have fr := B1.fr
  go_wp2_with fail
  refine (CU.out _).mono ?_
  rintro e w1 ⟨rfl, hb⟩
  have B1 := RBox.grow (by assumption) hb
  have bc0 := B1.c0
  have bc1 := B1.c1
  have br0 := B1.r0
  have br1 := B1.r1
  have br2 := B1.r2
  have fr := B1.fr
  go_wp2_with fail
  refine (CG.out _).mono ?_
  rintro e w1 ⟨rfl, hb⟩
  have B1 := RBox.grow (by assumption) hb
  have bc0 := B1.c0
  have bc1 := B1.c1
  have br0 := B1.r0
  have br1 := B1.r1
  have br2 := B1.r2
  have fr := B1.fr
  go_wp2_with fail
  refine (CU.out _).mono ?_
  rintro e w1 ⟨rfl, hb⟩
  have B1 := RBox.grow (by assumption) hb
  have bc0 := B1.c0
  have bc1 := B1.c1
  have br0 := B1.r0
  have br1 := B1.r1
  have br2 := B1.r2
  have fr := B1.fr
  go_wp2
  refine B1.put (R := bodyPost _ _ _ _ _) ?_
  intro W hB z0 z1 z2
  refine bodyPost_ret (by simp [results, Try.results70, z0, z1, z2, go_sem]; try rfl) rfl ?_
  exact ⟨ret_spot (by first | rfl | omega) (by first | rfl | omega) (by first | rfl | omega), hB⟩

set_option maxHeartbeats 2000000 in
theorem lname_7 (P T a X S I U G : Int) (_h0 : 0 ≤ a) (_h1 : a ≤ 100000) (t0 : decide (a < 8) = false) (t1 : decide (a < 68) = false) (t2 : decide (a < S) = false) (t3 : decide (a < I) = false) (t4 : decide (a < U) = false) (t5 : decide (a < G) = false) (_s1 : 0 ≤ S) (_s2 : S ≤ 100000) (_i1 : 0 ≤ I) (_i2 : I ≤ 100000) (_u1 : 0 ≤ U) (_u2 : U ≤ 100000) (_g1 : 0 ≤ G) (_g2 : G ≤ 100000) (w : World)
    (M : Hid (∀ w, Calls Try.prog 78 #[.agg #[.int .i64 P, .int .i64 T]] w fun e w' => e = .returned (.int .i64 X) ∧ Below w.heap.size w w'))
    (C : Hid (∀ w, Calls Try.prog 82 #[.int .i64 a, .int .i64 X] w fun e w' => e = .returned (.bool true) ∧ w' = w))
    (CS : Hid (∀ w, Calls Try.prog 84 #[.agg #[.int .i64 P, .int .i64 T]] w fun e w' => e = .returned (.int .i64 S) ∧ Below w.heap.size w w'))
    (CI : Hid (∀ w, Calls Try.prog 83 #[.agg #[.int .i64 P, .int .i64 T]] w fun e w' => e = .returned (.int .i64 I) ∧ Below w.heap.size w w'))
    (CU : Hid (∀ w, Calls Try.prog 92 #[.agg #[.int .i64 P, .int .i64 T]] w fun e w' => e = .returned (.int .i64 U) ∧ Below w.heap.size w w'))
    (CG : Hid (∀ w, Calls Try.prog 93 #[.agg #[.int .i64 P, .int .i64 T]] w fun e w' => e = .returned (.int .i64 G) ∧ Below w.heap.size w w'))
    : Calls Try.prog 70 #[.agg #[.int .i64 P, .int .i64 T], .int .i64 a] w fun e w' => e = .returned (.tuple #[.agg #[.int .i64 (16), .int .i64 (a - G), .int .i64 (0)], .bool true]) ∧ Below w.heap.size w w' := by
  have _s0 : 8 ≤ a := by simpa using t0
  have _s1 : 68 ≤ a := by simpa using t1
  have _s2 : S ≤ a := by simpa using t2
  have _s3 : I ≤ a := by simpa using t3
  have _s4 : U ≤ a := by simpa using t4
  have _s5 : G ≤ a := by simpa using t5
  go_enter Try.func70, Try.ntmps70
  have B0 := RBox.new w P T 26
  go_wp2_with fail
  refine (M.out _).mono ?_
  rintro e w1 ⟨rfl, hb⟩
  have B1 := RBox.grow (by assumption) hb
  have bc0 := B1.c0
  have bc1 := B1.c1
  have br0 := B1.r0
  have br1 := B1.r1
  have br2 := B1.r2
  have fr := B1.fr
  go_wp2_with fail
  refine (C.out _).mono ?_
  rintro e w9 ⟨rfl, rfl⟩
  go_wp2_with fail
  refine (CS.out _).mono ?_
  rintro e w1 ⟨rfl, hb⟩
  have B1 := RBox.grow (by assumption) hb
  have bc0 := B1.c0
  have bc1 := B1.c1
  have br0 := B1.r0
  have br1 := B1.r1
  have br2 := B1.r2
  have fr := B1.fr
  go_wp2_with fail
  refine (CI.out _).mono ?_
  rintro e w1 ⟨rfl, hb⟩
  have B1 := RBox.grow (by assumption) hb
  have bc0 := B1.c0
  have bc1 := B1.c1
  have br0 := B1.r0
  have br1 := B1.r1
  have br2 := B1.r2
  have fr := B1.fr
  go_wp2_with fail
  refine (CU.out _).mono ?_
  rintro e w1 ⟨rfl, hb⟩
  have B1 := RBox.grow (by assumption) hb
  have bc0 := B1.c0
  have bc1 := B1.c1
  have br0 := B1.r0
  have br1 := B1.r1
  have br2 := B1.r2
  have fr := B1.fr
  go_wp2_with fail
  refine (CG.out _).mono ?_
  rintro e w1 ⟨rfl, hb⟩
  have B1 := RBox.grow (by assumption) hb
  have bc0 := B1.c0
  have bc1 := B1.c1
  have br0 := B1.r0
  have br1 := B1.r1
  have br2 := B1.r2
  have fr := B1.fr
  go_wp2_with fail
  refine (CG.out _).mono ?_
  rintro e w1 ⟨rfl, hb⟩
  have B1 := RBox.grow (by assumption) hb
  have bc0 := B1.c0
  have bc1 := B1.c1
  have br0 := B1.r0
  have br1 := B1.r1
  have br2 := B1.r2
  have fr := B1.fr
  go_wp2
  refine B1.put (R := bodyPost _ _ _ _ _) ?_
  intro W hB z0 z1 z2
  refine bodyPost_ret (by simp [results, Try.results70, z0, z1, z2, go_sem]; try rfl) rfl ?_
  exact ⟨ret_spot (by first | rfl | omega) (by first | rfl | omega) (by first | rfl | omega), hB⟩

theorem lname_in (P T a : Int) (hm : Lay.may P T = true) (hb : Lay.below a (Lay.words P T) = true) (w : World) :
    Calls Try.prog 70 #[.agg #[.int .i64 P, .int .i64 T], .int .i64 a] w fun e w' => e = .returned (.tuple #[.agg #[.int .i64 (Lay.spot P T a).1, .int .i64 (Lay.spot P T a).2.1, .int .i64 (Lay.spot P T a).2.2], .bool true]) ∧ Below w.heap.size w w' := by
  have M := hide (fun w => lwords P T w)
  have C := hide (fun w => lbelow a (Lay.words P T) w)
  rw [hb] at C
  obtain ⟨a0, a1⟩ := Lay.below_iff.1 hb
  obtain ⟨m1, m2, m3, m4⟩ := Lay.may_iff.1 hm
  obtain ⟨_, a2⟩ := Lay.words_bd hm
  have CS := hide (fun w => lstates P T m3 m4 w)
  have CI := hide (fun w => lindex P T m1 m2 m3 m4 w)
  have CU := hide (fun w => lused P T m1 m2 m3 m4 w)
  have CG := hide (fun w => lgone P T m1 m2 m3 m4 w)
  obtain ⟨s1, s2⟩ : 0 ≤ Lay.states T ∧ Lay.states T ≤ 100000 := by unfold Lay.states; omega
  obtain ⟨i1, i2⟩ : 0 ≤ Lay.index P T ∧ Lay.index P T ≤ 100000 := by unfold Lay.index; omega
  obtain ⟨u1, u2⟩ : 0 ≤ Lay.used P T ∧ Lay.used P T ≤ 100000 := by unfold Lay.used; omega
  obtain ⟨g1, g2⟩ : 0 ≤ Lay.gone P T ∧ Lay.gone P T ≤ 100000 := by unfold Lay.gone Lay.maps; omega
  unfold Lay.spot
  by_cases t1 : a < 8
  · rw [if_pos t1]
    exact lname_1 P T a _ a0 (by omega) (decide_eq_true t1) w M C
  rw [if_neg t1]
  by_cases t2 : a < 68
  · rw [if_pos t2]
    exact lname_2 P T a _ a0 (by omega) (decide_eq_false t1) (decide_eq_true t2) w M C
  rw [if_neg t2]
  by_cases t3 : a < Lay.states T
  · rw [if_pos t3]
    exact lname_3 P T a _ _ a0 (by omega) (decide_eq_false t1) (decide_eq_false t2) (decide_eq_true t3) s1 s2 w M C CS
  rw [if_neg t3]
  by_cases t4 : a < Lay.index P T
  · rw [if_pos t4]
    exact lname_4 P T a _ _ _ a0 (by omega) (decide_eq_false t1) (decide_eq_false t2) (decide_eq_false t3) (decide_eq_true t4) s1 s2 i1 i2 w M C CS CI
  rw [if_neg t4]
  by_cases t5 : a < Lay.used P T
  · rw [if_pos t5]
    exact lname_5 P T a _ _ _ _ a0 (by omega) (decide_eq_false t1) (decide_eq_false t2) (decide_eq_false t3) (decide_eq_false t4) (decide_eq_true t5) s1 s2 i1 i2 u1 u2 w M C CS CI CU
  rw [if_neg t5]
  by_cases t6 : a < Lay.gone P T
  · rw [if_pos t6]
    exact lname_6 P T a _ _ _ _ _ a0 (by omega) (decide_eq_false t1) (decide_eq_false t2) (decide_eq_false t3) (decide_eq_false t4) (decide_eq_false t5) (decide_eq_true t6) s1 s2 i1 i2 u1 u2 g1 g2 w M C CS CI CU CG
  rw [if_neg t6]
  exact lname_7 P T a _ _ _ _ _ a0 (by omega) (decide_eq_false t1) (decide_eq_false t2) (decide_eq_false t3) (decide_eq_false t4) (decide_eq_false t5) (decide_eq_false t6) s1 s2 i1 i2 u1 u2 g1 g2 w M C CS CI CU CG

theorem lname (P T a : Int) (w : World) :
    Calls Try.prog 70 #[.agg #[.int .i64 P, .int .i64 T], .int .i64 a] w fun e w' => e = .returned (.tuple #[.agg #[.int .i64 (Lay.name P T a).1.1, .int .i64 (Lay.name P T a).1.2.1, .int .i64 (Lay.name P T a).1.2.2], .bool (Lay.name P T a).2]) ∧ Below w.heap.size w w' := by
  unfold Lay.name
  cases hb : Lay.below a (Lay.words P T)
  · exact lname_out P T a hb w
  · cases hm : Lay.may P T
    · exfalso
      rw [Lay.words_out hm] at hb
      have := Lay.below_iff.1 hb
      omega
    · exact lname_in P T a hm hb w

end Go.Proofs.Ytafamfjgehnddaa
