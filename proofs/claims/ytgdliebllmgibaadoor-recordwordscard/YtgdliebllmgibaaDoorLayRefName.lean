/- The document's name of a word, at every argument. -/
import Derived.Test.YtgdliebllmgibaaDoorLayRef
import Derived.Deep.RegionWith
namespace Go.Proofs.YtgdliebllmgibaaDoor
open Go.RowKit

theorem RBox.drew {w0 w : World} {b r : Nat} {P T : Int} (h : RBox w0 w b r P T) : RBox w0 w.drew b r P T := h.grow (Below.refl _ w).drew

set_option maxHeartbeats 2000000 in
theorem rlname_neg (P T a : Int) (t : decide (a < 0) = true) (w : World) :
    Calls Tryd.prog 79 #[.agg #[.int .i64 P, .int .i64 T], .int .i64 a] w fun e w' => e = .returned (.tuple #[.agg #[.int .i64 (0), .int .i64 (0), .int .i64 (0)], .bool false]) ∧ Below w.heap.size w w' := by
  have _s : a < 0 := by simpa using t
  go_enter Tryd.func79, Tryd.ntmps79
  have B0 := RBox.new w P T 24
  go_wp2
  go_returns
  exact ⟨rfl, B0.below⟩

set_option maxHeartbeats 2000000 in
theorem rlname_out (P T a X : Int) (t0 : decide (a < 0) = false) (t1 : decide (X ≤ a) = true) (M : Hid (∀ w, Calls Tryd.prog 72 #[.agg #[.int .i64 P, .int .i64 T]] w fun e w' => e = .returned (.int .i64 X) ∧ Below w.heap.size w w')) (w : World) :
    Calls Tryd.prog 79 #[.agg #[.int .i64 P, .int .i64 T], .int .i64 a] w fun e w' => e = .returned (.tuple #[.agg #[.int .i64 (0), .int .i64 (0), .int .i64 (0)], .bool false]) ∧ Below w.heap.size w w' := by
  go_enter Tryd.func79, Tryd.ntmps79
  have B0 := RBox.new w P T 24
  go_wp2_with fail
  refine (M.out _).mono ?_
  rintro e w1 ⟨rfl, hb⟩
  have B1 := RBox.grow (by assumption) hb
  have bc0 := B1.c0
  have bc1 := B1.c1
  have br0 := B1.r0
  have br1 := B1.r1
  have br2 := B1.r2
  have fr := B1.fr
  go_wp2
  refine B1.put (R := bodyPost _ _ _ _ _) ?_
  intro W hB z0 z1 z2
  refine bodyPost_ret (by simp [results, Tryd.results79, z0, z1, z2, go_sem]; try rfl) rfl ?_
  exact ⟨ret_spot (by first | rfl | omega) (by first | rfl | omega) (by first | rfl | omega), hB⟩

set_option maxHeartbeats 2000000 in
theorem rlname_lo (P T a X : Int) (a0 : 0 ≤ a) (_a1 : a < 5) (t0 : decide (a < 8) = true) (t1 : decide (X ≤ a) = false) (M : Hid (∀ w, Calls Tryd.prog 72 #[.agg #[.int .i64 P, .int .i64 T]] w fun e w' => e = .returned (.int .i64 X) ∧ Below w.heap.size w w')) (w : World) :
    Calls Tryd.prog 79 #[.agg #[.int .i64 P, .int .i64 T], .int .i64 a] w fun e w' => e = .returned (.tuple #[.agg #[.int .i64 (a + 1), .int .i64 (0), .int .i64 (0)], .bool true]) ∧ Below w.heap.size w w' := by
  have _s : a < 8 := by simpa using t0
  have tn : decide (a < 0) = false := by simp; omega
  go_enter Tryd.func79, Tryd.ntmps79
  have B0 := RBox.new w P T 24
  go_wp2_with fail
  refine (M.out _).mono ?_
  rintro e w1 ⟨rfl, hb⟩
  have B1 := RBox.grow (by assumption) hb
  have bc0 := B1.c0
  have bc1 := B1.c1
  have br0 := B1.r0
  have br1 := B1.r1
  have br2 := B1.r2
  have fr := B1.fr
  go_wp2
  all_goals try (exfalso; omega)
  all_goals (refine B1.put (R := bodyPost _ _ _ _ _) ?_; intro W hB z0 z1 z2; refine bodyPost_ret (by simp [results, Tryd.results79, z0, z1, z2, go_sem]; try rfl) rfl ?_; exact ⟨ret_spot (by first | rfl | omega) (by first | rfl | omega) (by first | rfl | omega), hB⟩)

set_option maxHeartbeats 2000000 in
theorem rlname_hi (P T a X : Int) (a0 : 0 ≤ a) (_a1 : 5 ≤ a) (t0 : decide (a < 8) = true) (t1 : decide (X ≤ a) = false) (M : Hid (∀ w, Calls Tryd.prog 72 #[.agg #[.int .i64 P, .int .i64 T]] w fun e w' => e = .returned (.int .i64 X) ∧ Below w.heap.size w w')) (w : World) :
    Calls Tryd.prog 79 #[.agg #[.int .i64 P, .int .i64 T], .int .i64 a] w fun e w' => e = .returned (.tuple #[.agg #[.int .i64 (6), .int .i64 (0), .int .i64 (0)], .bool true]) ∧ Below w.heap.size w w' := by
  have _s : a < 8 := by simpa using t0
  have tn : decide (a < 0) = false := by simp; omega
  go_enter Tryd.func79, Tryd.ntmps79
  have B0 := RBox.new w P T 24
  go_wp2_with fail
  refine (M.out _).mono ?_
  rintro e w1 ⟨rfl, hb⟩
  have B1 := RBox.grow (by assumption) hb
  have bc0 := B1.c0
  have bc1 := B1.c1
  have br0 := B1.r0
  have br1 := B1.r1
  have br2 := B1.r2
  have fr := B1.fr
  go_wp2
  all_goals try (exfalso; omega)
  all_goals (refine B1.put (R := bodyPost _ _ _ _ _) ?_; intro W hB z0 z1 z2; refine bodyPost_ret (by simp [results, Tryd.results79, z0, z1, z2, go_sem]; try rfl) rfl ?_; exact ⟨ret_spot (by first | rfl | omega) (by first | rfl | omega) (by first | rfl | omega), hB⟩)

set_option maxHeartbeats 2000000 in
theorem rlname_2 (P T a X : Int) (a0 : 0 ≤ a) (_a1 : a ≤ 100000) (_p1 : 1 ≤ P) (_p2 : P ≤ 4096) (_h1 : 1 ≤ T) (_h2 : T ≤ 64) (tx : decide (X ≤ a) = false) (t0 : decide (a < 8) = false) (t1 : decide (a < 68) = true) (M : Hid (∀ w, Calls Tryd.prog 72 #[.agg #[.int .i64 P, .int .i64 T]] w fun e w' => e = .returned (.int .i64 X) ∧ Below w.heap.size w w')) (w : World) :
    Calls Tryd.prog 79 #[.agg #[.int .i64 P, .int .i64 T], .int .i64 a] w fun e w' => e = .returned (.tuple #[.agg #[.int .i64 (7), .int .i64 ((a - 8) / 4), .int .i64 ((a - 8) % 4)], .bool true]) ∧ Below w.heap.size w w' := by
  have tn : decide (a < 0) = false := by simp; omega
  have _s0 : ¬ (a < 8) := by simpa using t0
  have _s1 : a < 68 := by simpa using t1
  go_enter Tryd.func79, Tryd.ntmps79
  have B0 := RBox.new w P T 24
  go_wp2_with fail
  refine (M.out _).mono ?_
  rintro e w1 ⟨rfl, hb⟩
  have B1 := RBox.grow (by assumption) hb
  have bc0 := B1.c0
  have bc1 := B1.c1
  have br0 := B1.r0
  have br1 := B1.r1
  have br2 := B1.r2
  have fr := B1.fr
  go_wp2
  refine B1.put (R := bodyPost _ _ _ _ _) ?_
  intro W hB z0 z1 z2
  refine bodyPost_ret (by simp [results, Tryd.results79, z0, z1, z2, go_sem]; try rfl) rfl ?_
  exact ⟨ret_spot (by first | rfl | omega) (by first | rfl | omega) (by first | rfl | omega), hB⟩

set_option maxHeartbeats 2000000 in
theorem rlname_3 (P T a X : Int) (a0 : 0 ≤ a) (_a1 : a ≤ 100000) (_p1 : 1 ≤ P) (_p2 : P ≤ 4096) (_h1 : 1 ≤ T) (_h2 : T ≤ 64) (tx : decide (X ≤ a) = false) (t0 : decide (a < 8) = false) (t1 : decide (a < 68) = false) (t2 : decide (a - 68 < 14 * T) = true) (M : Hid (∀ w, Calls Tryd.prog 72 #[.agg #[.int .i64 P, .int .i64 T]] w fun e w' => e = .returned (.int .i64 X) ∧ Below w.heap.size w w')) (w : World) :
    Calls Tryd.prog 79 #[.agg #[.int .i64 P, .int .i64 T], .int .i64 a] w fun e w' => e = .returned (.tuple #[.agg #[.int .i64 (8), .int .i64 ((a - 68) / 14), .int .i64 ((a - 68) % 14)], .bool true]) ∧ Below w.heap.size w w' := by
  have tn : decide (a < 0) = false := by simp; omega
  have _s0 : ¬ (a < 8) := by simpa using t0
  have _s1 : ¬ (a < 68) := by simpa using t1
  have _s2 : a - 68 < 14 * T := by simpa using t2
  go_enter Tryd.func79, Tryd.ntmps79
  have B0 := RBox.new w P T 24
  go_wp2_with fail
  refine (M.out _).mono ?_
  rintro e w1 ⟨rfl, hb⟩
  have B1 := RBox.grow (by assumption) hb
  have bc0 := B1.c0
  have bc1 := B1.c1
  have br0 := B1.r0
  have br1 := B1.r1
  have br2 := B1.r2
  have fr := B1.fr
  go_wp2
  refine B1.put (R := bodyPost _ _ _ _ _) ?_
  intro W hB z0 z1 z2
  refine bodyPost_ret (by simp [results, Tryd.results79, z0, z1, z2, go_sem]; try rfl) rfl ?_
  exact ⟨ret_spot (by first | rfl | omega) (by first | rfl | omega) (by first | rfl | omega), hB⟩

set_option maxHeartbeats 2000000 in
theorem rlname_4 (P T a X : Int) (a0 : 0 ≤ a) (_a1 : a ≤ 100000) (_p1 : 1 ≤ P) (_p2 : P ≤ 4096) (_h1 : 1 ≤ T) (_h2 : T ≤ 64) (tx : decide (X ≤ a) = false) (t0 : decide (a < 8) = false) (t1 : decide (a < 68) = false) (t2 : decide (a - 68 < 14 * T) = false) (t3 : decide (a - 68 - 14 * T < 5 * P) = true) (M : Hid (∀ w, Calls Tryd.prog 72 #[.agg #[.int .i64 P, .int .i64 T]] w fun e w' => e = .returned (.int .i64 X) ∧ Below w.heap.size w w')) (w : World) :
    Calls Tryd.prog 79 #[.agg #[.int .i64 P, .int .i64 T], .int .i64 a] w fun e w' => e = .returned (.tuple #[.agg #[.int .i64 (9 + (a - 68 - 14 * T) % 5), .int .i64 ((a - 68 - 14 * T) / 5), .int .i64 (0)], .bool true]) ∧ Below w.heap.size w w' := by
  have tn : decide (a < 0) = false := by simp; omega
  have _s0 : ¬ (a < 8) := by simpa using t0
  have _s1 : ¬ (a < 68) := by simpa using t1
  have _s2 : ¬ (a - 68 < 14 * T) := by simpa using t2
  have _s3 : a - 68 - 14 * T < 5 * P := by simpa using t3
  go_enter Tryd.func79, Tryd.ntmps79
  have B0 := RBox.new w P T 24
  go_wp2_with fail
  refine (M.out _).mono ?_
  rintro e w1 ⟨rfl, hb⟩
  have B1 := RBox.grow (by assumption) hb
  have bc0 := B1.c0
  have bc1 := B1.c1
  have br0 := B1.r0
  have br1 := B1.r1
  have br2 := B1.r2
  have fr := B1.fr
  go_wp2
  refine B1.put (R := bodyPost _ _ _ _ _) ?_
  intro W hB z0 z1 z2
  refine bodyPost_ret (by simp [results, Tryd.results79, z0, z1, z2, go_sem]; try rfl) rfl ?_
  exact ⟨ret_spot (by first | rfl | omega) (by first | rfl | omega) (by first | rfl | omega), hB⟩

set_option maxHeartbeats 2000000 in
theorem rlname_5 (P T a X : Int) (a0 : 0 ≤ a) (_a1 : a ≤ 100000) (_p1 : 1 ≤ P) (_p2 : P ≤ 4096) (_h1 : 1 ≤ T) (_h2 : T ≤ 64) (tx : decide (X ≤ a) = false) (t0 : decide (a < 8) = false) (t1 : decide (a < 68) = false) (t2 : decide (a - 68 < 14 * T) = false) (t3 : decide (a - 68 - 14 * T < 5 * P) = false) (t4 : decide (a - 68 - 14 * T - 5 * P < P) = true) (M : Hid (∀ w, Calls Tryd.prog 72 #[.agg #[.int .i64 P, .int .i64 T]] w fun e w' => e = .returned (.int .i64 X) ∧ Below w.heap.size w w')) (w : World) :
    Calls Tryd.prog 79 #[.agg #[.int .i64 P, .int .i64 T], .int .i64 a] w fun e w' => e = .returned (.tuple #[.agg #[.int .i64 (14), .int .i64 (a - 68 - 14 * T - 5 * P), .int .i64 (0)], .bool true]) ∧ Below w.heap.size w w' := by
  have tn : decide (a < 0) = false := by simp; omega
  have _s0 : ¬ (a < 8) := by simpa using t0
  have _s1 : ¬ (a < 68) := by simpa using t1
  have _s2 : ¬ (a - 68 < 14 * T) := by simpa using t2
  have _s3 : ¬ (a - 68 - 14 * T < 5 * P) := by simpa using t3
  have _s4 : a - 68 - 14 * T - 5 * P < P := by simpa using t4
  go_enter Tryd.func79, Tryd.ntmps79
  have B0 := RBox.new w P T 24
  go_wp2_with fail
  refine (M.out _).mono ?_
  rintro e w1 ⟨rfl, hb⟩
  have B1 := RBox.grow (by assumption) hb
  have bc0 := B1.c0
  have bc1 := B1.c1
  have br0 := B1.r0
  have br1 := B1.r1
  have br2 := B1.r2
  have fr := B1.fr
  go_wp2
  refine B1.put (R := bodyPost _ _ _ _ _) ?_
  intro W hB z0 z1 z2
  refine bodyPost_ret (by simp [results, Tryd.results79, z0, z1, z2, go_sem]; try rfl) rfl ?_
  exact ⟨ret_spot (by first | rfl | omega) (by first | rfl | omega) (by first | rfl | omega), hB⟩

set_option maxHeartbeats 4000000 in
theorem rlname_6 (P T a X Y N : Int) (a0 : 0 ≤ a) (_a1 : a ≤ 100000) (_p1 : 1 ≤ P) (_p2 : P ≤ 4096) (_h1 : 1 ≤ T) (_h2 : T ≤ 64) (tx : decide (X ≤ a) = false) (t0 : decide (a < 8) = false) (t1 : decide (a < 68) = false) (t2 : decide (a - 68 < 14 * T) = false) (t3 : decide (a - 68 - 14 * T < 5 * P) = false) (t4 : decide (a - 68 - 14 * T - 5 * P < P) = false) (eY : a - 68 - 14 * T - 5 * P - P = Y) (n1 : 1 ≤ N) (_n2 : N ≤ 64) (M : Hid (∀ w, Calls Tryd.prog 72 #[.agg #[.int .i64 P, .int .i64 T]] w fun e w' => e = .returned (.int .i64 X) ∧ Below w.heap.size w w'))
    (G : Hid (∀ w, Calls Tryd.prog 90 #[.agg #[.int .i64 P, .int .i64 T]] w fun e w' => e = .returned (.int .i64 N) ∧ Below w.heap.size w w')) (w : World) :
    Calls Tryd.prog 79 #[.agg #[.int .i64 P, .int .i64 T], .int .i64 a] w fun e w' => e = .returned (.tuple #[.agg #[.int .i64 (15 + Y / N), .int .i64 (Y % N), .int .i64 (0)], .bool true]) ∧ Below w.heap.size w w' := by
  have tn : decide (a < 0) = false := by simp; omega
  have _s0 : ¬ (a < 8) := by simpa using t0
  have _s1 : ¬ (a < 68) := by simpa using t1
  have _s2 : ¬ (a - 68 < 14 * T) := by simpa using t2
  have _s3 : ¬ (a - 68 - 14 * T < 5 * P) := by simpa using t3
  have _s4 : ¬ (a - 68 - 14 * T - 5 * P < P) := by simpa using t4
  have _y0 : 0 ≤ Y := by omega
  have _y1 : Y ≤ 100000 := by omega
  have dN : (N == 0) = false := by simp; omega
  have q0 : 0 ≤ Y / N := Int.ediv_nonneg (by omega) (by omega)
  have em : Y.tmod N = Y % N := Int.tmod_eq_emod_of_nonneg (by omega)
  have q1 : Y / N ≤ 100000 := Int.le_trans (Int.ediv_le_self _ (by omega)) (by omega)
  have e15 : IntKind.i64.wrap (15 + Y / N) = 15 + Y / N := by generalize Y / N = q at *; go_arith
  have e16 : IntKind.i64.wrap (15 + IntKind.i64.wrap (Y.tdiv N)) = 15 + Y / N := by rw [Int.tdiv_eq_ediv_of_nonneg (by omega), show IntKind.i64.wrap (Y / N) = Y / N by generalize Y / N = q at *; go_arith]; exact e15
  have HE := hide (And.intro e15 (And.intro e16 em))
  clear e15 e16 em
  go_enter Tryd.func79, Tryd.ntmps79
  have B0 := RBox.new w P T 24
  go_wp2_with fail
  refine (M.out _).mono ?_
  rintro e w1 ⟨rfl, hb⟩
  have B1 := RBox.grow (by assumption) hb
  have bc0 := B1.c0
  have bc1 := B1.c1
  have br0 := B1.r0
  have br1 := B1.r1
  have br2 := B1.r2
  have fr := B1.fr
  go_wp2_with fail
  have B2 := B1.drew
  go_region_with (go_at_call 90; refine (G.out _).mono ?_; rintro e w1 ⟨rfl, hb⟩; have B1 := RBox.grow (by assumption) hb; have bc0 := B1.c0; have bc1 := B1.c1; have br0 := B1.r0; have br1 := B1.r1; have br2 := B1.r2; have fr := B1.fr)
  all_goals (have ⟨e15, e16, em⟩ := HE.out; go_wp2; refine B1.put (R := bodyPost _ _ _ _ _) ?_; intro W hB z0 z1 z2; refine bodyPost_ret (by simp [results, Tryd.results79, z0, z1, z2, go_sem]; try rfl) rfl ?_; exact ⟨ret_spot (by first | rfl | exact e15 | exact e16) (by first | rfl | exact em) rfl, hB⟩)

theorem div_once {y n : Int} (h1 : 0 ≤ y) (h2 : y < n) : y / n = 0 ∧ y % n = y := ⟨Int.ediv_eq_zero_of_lt h1 h2, Int.emod_eq_of_lt h1 h2⟩
theorem div_twice {y n : Int} (h0 : 0 < n) (h1 : n ≤ y) (h2 : y < 2 * n) : y / n = 1 ∧ y % n = y - n := by
  have e : y = (y - n) + n := by omega
  have d := div_once (y := y - n) (n := n) (by omega) (by omega)
  constructor
  · rw [e, Int.add_ediv_of_dvd_right (Int.dvd_refl n), Int.ediv_self (by omega), d.1]; rfl
  · rw [e, Int.add_emod_right, d.2]; omega

theorem rlname_in (P T a : Int) (hm : Lay.may P T = true) (hb : Lay.below a (Lay.words P T) = true) (w : World) :
    Calls Tryd.prog 79 #[.agg #[.int .i64 P, .int .i64 T], .int .i64 a] w fun e w' => e = .returned (.tuple #[.agg #[.int .i64 (Lay.spot P T a).1, .int .i64 (Lay.spot P T a).2.1, .int .i64 (Lay.spot P T a).2.2], .bool true]) ∧ Below w.heap.size w w' := by
  have M := hide (fun w => rlwords P T w)
  obtain ⟨a0, a1⟩ := Lay.below_iff.1 hb
  obtain ⟨m1, m2, m3, m4⟩ := Lay.may_iff.1 hm
  obtain ⟨_, a2⟩ := Lay.words_bd hm
  have G := hide (fun w => rlmaps P T m1 m2 w)
  obtain ⟨n1, n2, _⟩ := Lay.maps_bd m1 m2
  have hx : decide (Lay.words P T ≤ a) = false := decide_eq_false (by omega)
  have hw : a < Lay.total P T := by rw [← Lay.words_in hm]; exact a1
  unfold Lay.total at hw
  unfold Lay.spot Lay.states Lay.index Lay.used Lay.gone
  by_cases t1 : a < 8
  · rw [if_pos t1]
    by_cases t : a < 5
    · rw [if_pos t]
      exact rlname_lo P T a _ a0 t (decide_eq_true t1) hx M w
    · rw [if_neg t]
      exact rlname_hi P T a _ a0 (by omega) (decide_eq_true t1) hx M w
  rw [if_neg t1]
  by_cases t2 : a < 68
  · rw [if_pos t2]
    exact rlname_2 P T a _ a0 (by omega) m1 m2 m3 m4 hx (decide_eq_false t1) (decide_eq_true t2) M w
  rw [if_neg t2]
  by_cases t3 : a < 68 + 14 * T
  · rw [if_pos t3]
    exact rlname_3 P T a _ a0 (by omega) m1 m2 m3 m4 hx (decide_eq_false t1) (decide_eq_false t2) (decide_eq_true (by omega)) M w
  rw [if_neg t3]
  by_cases t4 : a < 68 + 14 * T + 5 * P
  · rw [if_pos t4]
    have e : a - (68 + 14 * T) = a - 68 - 14 * T := by omega
    rw [e]
    exact rlname_4 P T a _ a0 (by omega) m1 m2 m3 m4 hx (decide_eq_false t1) (decide_eq_false t2) (decide_eq_false (by omega)) (decide_eq_true (by omega)) M w
  rw [if_neg t4]
  by_cases t5 : a < 68 + 14 * T + 6 * P
  · rw [if_pos t5]
    have e : a - (68 + 14 * T + 5 * P) = a - 68 - 14 * T - 5 * P := by omega
    rw [e]
    exact rlname_5 P T a _ a0 (by omega) m1 m2 m3 m4 hx (decide_eq_false t1) (decide_eq_false t2) (decide_eq_false (by omega)) (decide_eq_false (by omega)) (decide_eq_true (by omega)) M w
  rw [if_neg t5]
  have k := rlname_6 P T a _ _ _ a0 (by omega) m1 m2 m3 m4 hx (decide_eq_false t1) (decide_eq_false t2) (decide_eq_false (by omega)) (decide_eq_false (by omega)) (decide_eq_false (by omega)) rfl n1 n2 M G w
  generalize Lay.maps P = n at *
  by_cases t6 : a < 68 + 14 * T + 6 * P + n
  · rw [if_pos t6]
    have d := div_once (y := a - 68 - 14 * T - 5 * P - P) (n := n) (by omega) (by omega)
    rw [d.1, d.2] at k
    have e : a - 68 - 14 * T - 5 * P - P = a - (68 + 14 * T + 6 * P) := by omega
    rw [e] at k
    exact k
  · rw [if_neg t6]
    have d := div_twice (y := a - 68 - 14 * T - 5 * P - P) (n := n) (by omega) (by omega) (by omega)
    rw [d.1, d.2] at k
    have e : a - 68 - 14 * T - 5 * P - P - n = a - (68 + 14 * T + 6 * P + n) := by omega
    rw [e] at k
    exact k

theorem rlname (P T a : Int) (w : World) :
    Calls Tryd.prog 79 #[.agg #[.int .i64 P, .int .i64 T], .int .i64 a] w fun e w' => e = .returned (.tuple #[.agg #[.int .i64 (Lay.name P T a).1.1, .int .i64 (Lay.name P T a).1.2.1, .int .i64 (Lay.name P T a).1.2.2], .bool (Lay.name P T a).2]) ∧ Below w.heap.size w w' := by
  unfold Lay.name
  cases hb : Lay.below a (Lay.words P T)
  · by_cases h0 : a < 0
    · exact rlname_neg P T a (decide_eq_true h0) w
    · have h1 := Lay.below_false.1 hb
      exact rlname_out P T a _ (decide_eq_false h0) (decide_eq_true (by omega)) (hide (fun w => rlwords P T w)) w
  · cases hm : Lay.may P T
    · exfalso
      rw [Lay.words_out hm] at hb
      have := Lay.below_iff.1 hb
      omega
    · exact rlname_in P T a hm hb w

end Go.Proofs.YtgdliebllmgibaaDoor
