/- Of a layout that may not be there are no words: the law LayoutNone answers true at every input, and its arguments read behind the call as they read before. -/
import Derived.Test.YtcjfnlijkkefaaaLayOpen
namespace Go.Proofs.Ytcjfnlijkkefaaa.layoutNone
open Go.ChangeShapes Go.WideShapes Go.ChangeAt Go.RowKit

set_option maxHeartbeats 2000000 in
theorem isThere (P T k a b : Int) (f : Bool) (p1 : 1 ≤ P) (p2 : P ≤ 4096) (t1 : 1 ≤ T) (t2 : T ≤ 64) (w : World) :
    Calls Try.prog 7 #[.agg #[.int .i64 P, .int .i64 T], .int .i64 k, .int .i64 a, .int .i64 b, .bool f] w fun e w' => e = .returned (.bool true) ∧ Below w.heap.size w w' := by
  have hm := Lay.may_iff.2 ⟨p1, p2, t1, t2⟩
  have M := hide (fun w => lmay P T w)
  have C := hide (fun w => lwords P T w)
  have A := hide (fun w => awake8 w)
  have h90 := (Lay.words_bd hm).1
  rw [hm] at M
  clear hm
  generalize Lay.words P T = X at *
  go_enter Try.func7, Try.ntmps7
  have L := LBox.new w P T 23
  go_wp2_with fail
  refine (M.out _).mono ?_
  rintro e w1 ⟨rfl, hb⟩
  replace L := L.grow hb
  have Lc0 := L.c0
  have Lc1 := L.c1
  go_wp2_with fail
  refine (C.out _).mono ?_
  rintro e w1 ⟨rfl, hb⟩
  replace L := L.grow hb
  have Lc0 := L.c0
  have Lc1 := L.c1
  go_wp2_with fail
  refine (A.out _).mono ?_
  rintro e w1 ⟨rfl, hb⟩
  replace L := L.grow hb
  have Lc0 := L.c0
  have Lc1 := L.c1
  go_wp2
  go_ret
  exact ⟨rfl, L.below⟩

set_option maxHeartbeats 2000000 in
theorem none0 (P T k a b : Int) (f : Bool)  (h : decide (1 ≤ P) = false) (w : World)
    (H : Hid (∀ w, Calls Try.prog 12 #[.agg #[.int .i64 P, .int .i64 T], .int .i64 a, .bool f, .int .i64 b] w fun e w' => e = .returned (.tuple #[.int .i64 0, .bool false]) ∧ Below w.heap.size w w'))
    (C : Hid (∀ w, Calls Try.prog 14 #[.agg #[.int .i64 P, .int .i64 T], .int .i64 a, .int .i64 b] w fun e w' => e = .returned (.tuple #[.int .i64 0, .bool false]) ∧ Below w.heap.size w w'))
    (G : Hid (∀ w, Calls Try.prog 16 #[.agg #[.int .i64 P, .int .i64 T], .int .i64 k, .int .i64 a] w fun e w' => e = .returned (.tuple #[.int .i64 0, .bool false]) ∧ Below w.heap.size w w'))
    (D : Hid (∀ w, Calls Try.prog 18 #[.agg #[.int .i64 P, .int .i64 T], .int .i64 k, .int .i64 a] w fun e w' => e = .returned (.tuple #[.int .i64 0, .bool false]) ∧ Below w.heap.size w w'))
    (N : Hid (∀ w, Calls Try.prog 20 #[.agg #[.int .i64 P, .int .i64 T], .int .i64 a] w fun e w' => e = .returned (.tuple #[.agg #[.int .i64 0, .int .i64 0, .int .i64 0], .bool false]) ∧ Below w.heap.size w w'))
    (M : Hid (∀ w, Calls Try.prog 8 #[.agg #[.int .i64 P, .int .i64 T]] w fun e w' => e = .returned (.bool false) ∧ Below w.heap.size w w'))
    (X : Hid (∀ w, Calls Try.prog 10 #[.agg #[.int .i64 P, .int .i64 T]] w fun e w' => e = .returned (.int .i64 0) ∧ Below w.heap.size w w')) :
    Calls Try.prog 7 #[.agg #[.int .i64 P, .int .i64 T], .int .i64 k, .int .i64 a, .int .i64 b, .bool f] w fun e w' => e = .returned (.bool true) ∧ Below w.heap.size w w' := by
  have A := hide (fun w => awake8 w)
  go_enter Try.func7, Try.ntmps7
  have L := LBox.new w P T 23
  go_wp2_with fail
  refine (H.out _).mono ?_
  rintro e w1 ⟨rfl, hb⟩
  replace L := L.grow hb
  have Lc0 := L.c0
  have Lc1 := L.c1
  go_wp2_with fail
  refine (C.out _).mono ?_
  rintro e w1 ⟨rfl, hb⟩
  replace L := L.grow hb
  have Lc0 := L.c0
  have Lc1 := L.c1
  go_wp2_with fail
  refine (G.out _).mono ?_
  rintro e w1 ⟨rfl, hb⟩
  replace L := L.grow hb
  have Lc0 := L.c0
  have Lc1 := L.c1
  go_wp2_with fail
  refine (D.out _).mono ?_
  rintro e w1 ⟨rfl, hb⟩
  replace L := L.grow hb
  have Lc0 := L.c0
  have Lc1 := L.c1
  go_wp2_with fail
  refine (N.out _).mono ?_
  rintro e w1 ⟨rfl, hb⟩
  replace L := L.grow hb
  have Lc0 := L.c0
  have Lc1 := L.c1
  replace L := L.grow (grown1 _ (.cells #[.int .i64 0, .int .i64 0, .int .i64 0] 30))
  have Lc0 := L.c0
  have Lc1 := L.c1
  go_wp2_with fail
  refine (M.out _).mono ?_
  rintro e w1 ⟨rfl, hb⟩
  replace L := L.grow hb
  have Lc0 := L.c0
  have Lc1 := L.c1
  go_wp2_with fail
  refine (X.out _).mono ?_
  rintro e w1 ⟨rfl, hb⟩
  replace L := L.grow hb
  have Lc0 := L.c0
  have Lc1 := L.c1
  go_wp2_with fail
  refine (A.out _).mono ?_
  rintro e w1 ⟨rfl, hb⟩
  replace L := L.grow hb
  have Lc0 := L.c0
  have Lc1 := L.c1
  go_wp2
  go_ret
  exact ⟨rfl, L.below⟩

set_option maxHeartbeats 2000000 in
theorem none1 (P T k a b : Int) (f : Bool) (_h0 : 1 ≤ P) (h : decide (P ≤ 4096) = false) (w : World)
    (H : Hid (∀ w, Calls Try.prog 12 #[.agg #[.int .i64 P, .int .i64 T], .int .i64 a, .bool f, .int .i64 b] w fun e w' => e = .returned (.tuple #[.int .i64 0, .bool false]) ∧ Below w.heap.size w w'))
    (C : Hid (∀ w, Calls Try.prog 14 #[.agg #[.int .i64 P, .int .i64 T], .int .i64 a, .int .i64 b] w fun e w' => e = .returned (.tuple #[.int .i64 0, .bool false]) ∧ Below w.heap.size w w'))
    (G : Hid (∀ w, Calls Try.prog 16 #[.agg #[.int .i64 P, .int .i64 T], .int .i64 k, .int .i64 a] w fun e w' => e = .returned (.tuple #[.int .i64 0, .bool false]) ∧ Below w.heap.size w w'))
    (D : Hid (∀ w, Calls Try.prog 18 #[.agg #[.int .i64 P, .int .i64 T], .int .i64 k, .int .i64 a] w fun e w' => e = .returned (.tuple #[.int .i64 0, .bool false]) ∧ Below w.heap.size w w'))
    (N : Hid (∀ w, Calls Try.prog 20 #[.agg #[.int .i64 P, .int .i64 T], .int .i64 a] w fun e w' => e = .returned (.tuple #[.agg #[.int .i64 0, .int .i64 0, .int .i64 0], .bool false]) ∧ Below w.heap.size w w'))
    (M : Hid (∀ w, Calls Try.prog 8 #[.agg #[.int .i64 P, .int .i64 T]] w fun e w' => e = .returned (.bool false) ∧ Below w.heap.size w w'))
    (X : Hid (∀ w, Calls Try.prog 10 #[.agg #[.int .i64 P, .int .i64 T]] w fun e w' => e = .returned (.int .i64 0) ∧ Below w.heap.size w w')) :
    Calls Try.prog 7 #[.agg #[.int .i64 P, .int .i64 T], .int .i64 k, .int .i64 a, .int .i64 b, .bool f] w fun e w' => e = .returned (.bool true) ∧ Below w.heap.size w w' := by
  have A := hide (fun w => awake8 w)
  go_enter Try.func7, Try.ntmps7
  have L := LBox.new w P T 23
  go_wp2_with fail
  refine (H.out _).mono ?_
  rintro e w1 ⟨rfl, hb⟩
  replace L := L.grow hb
  have Lc0 := L.c0
  have Lc1 := L.c1
  go_wp2_with fail
  refine (C.out _).mono ?_
  rintro e w1 ⟨rfl, hb⟩
  replace L := L.grow hb
  have Lc0 := L.c0
  have Lc1 := L.c1
  go_wp2_with fail
  refine (G.out _).mono ?_
  rintro e w1 ⟨rfl, hb⟩
  replace L := L.grow hb
  have Lc0 := L.c0
  have Lc1 := L.c1
  go_wp2_with fail
  refine (D.out _).mono ?_
  rintro e w1 ⟨rfl, hb⟩
  replace L := L.grow hb
  have Lc0 := L.c0
  have Lc1 := L.c1
  go_wp2_with fail
  refine (N.out _).mono ?_
  rintro e w1 ⟨rfl, hb⟩
  replace L := L.grow hb
  have Lc0 := L.c0
  have Lc1 := L.c1
  replace L := L.grow (grown1 _ (.cells #[.int .i64 0, .int .i64 0, .int .i64 0] 30))
  have Lc0 := L.c0
  have Lc1 := L.c1
  go_wp2_with fail
  refine (M.out _).mono ?_
  rintro e w1 ⟨rfl, hb⟩
  replace L := L.grow hb
  have Lc0 := L.c0
  have Lc1 := L.c1
  go_wp2_with fail
  refine (X.out _).mono ?_
  rintro e w1 ⟨rfl, hb⟩
  replace L := L.grow hb
  have Lc0 := L.c0
  have Lc1 := L.c1
  go_wp2_with fail
  refine (A.out _).mono ?_
  rintro e w1 ⟨rfl, hb⟩
  replace L := L.grow hb
  have Lc0 := L.c0
  have Lc1 := L.c1
  go_wp2
  go_ret
  exact ⟨rfl, L.below⟩

set_option maxHeartbeats 2000000 in
theorem none2 (P T k a b : Int) (f : Bool) (_h0 : 1 ≤ P) (_h1 : P ≤ 4096) (h : decide (1 ≤ T) = false) (w : World)
    (H : Hid (∀ w, Calls Try.prog 12 #[.agg #[.int .i64 P, .int .i64 T], .int .i64 a, .bool f, .int .i64 b] w fun e w' => e = .returned (.tuple #[.int .i64 0, .bool false]) ∧ Below w.heap.size w w'))
    (C : Hid (∀ w, Calls Try.prog 14 #[.agg #[.int .i64 P, .int .i64 T], .int .i64 a, .int .i64 b] w fun e w' => e = .returned (.tuple #[.int .i64 0, .bool false]) ∧ Below w.heap.size w w'))
    (G : Hid (∀ w, Calls Try.prog 16 #[.agg #[.int .i64 P, .int .i64 T], .int .i64 k, .int .i64 a] w fun e w' => e = .returned (.tuple #[.int .i64 0, .bool false]) ∧ Below w.heap.size w w'))
    (D : Hid (∀ w, Calls Try.prog 18 #[.agg #[.int .i64 P, .int .i64 T], .int .i64 k, .int .i64 a] w fun e w' => e = .returned (.tuple #[.int .i64 0, .bool false]) ∧ Below w.heap.size w w'))
    (N : Hid (∀ w, Calls Try.prog 20 #[.agg #[.int .i64 P, .int .i64 T], .int .i64 a] w fun e w' => e = .returned (.tuple #[.agg #[.int .i64 0, .int .i64 0, .int .i64 0], .bool false]) ∧ Below w.heap.size w w'))
    (M : Hid (∀ w, Calls Try.prog 8 #[.agg #[.int .i64 P, .int .i64 T]] w fun e w' => e = .returned (.bool false) ∧ Below w.heap.size w w'))
    (X : Hid (∀ w, Calls Try.prog 10 #[.agg #[.int .i64 P, .int .i64 T]] w fun e w' => e = .returned (.int .i64 0) ∧ Below w.heap.size w w')) :
    Calls Try.prog 7 #[.agg #[.int .i64 P, .int .i64 T], .int .i64 k, .int .i64 a, .int .i64 b, .bool f] w fun e w' => e = .returned (.bool true) ∧ Below w.heap.size w w' := by
  have A := hide (fun w => awake8 w)
  go_enter Try.func7, Try.ntmps7
  have L := LBox.new w P T 23
  go_wp2_with fail
  refine (H.out _).mono ?_
  rintro e w1 ⟨rfl, hb⟩
  replace L := L.grow hb
  have Lc0 := L.c0
  have Lc1 := L.c1
  go_wp2_with fail
  refine (C.out _).mono ?_
  rintro e w1 ⟨rfl, hb⟩
  replace L := L.grow hb
  have Lc0 := L.c0
  have Lc1 := L.c1
  go_wp2_with fail
  refine (G.out _).mono ?_
  rintro e w1 ⟨rfl, hb⟩
  replace L := L.grow hb
  have Lc0 := L.c0
  have Lc1 := L.c1
  go_wp2_with fail
  refine (D.out _).mono ?_
  rintro e w1 ⟨rfl, hb⟩
  replace L := L.grow hb
  have Lc0 := L.c0
  have Lc1 := L.c1
  go_wp2_with fail
  refine (N.out _).mono ?_
  rintro e w1 ⟨rfl, hb⟩
  replace L := L.grow hb
  have Lc0 := L.c0
  have Lc1 := L.c1
  replace L := L.grow (grown1 _ (.cells #[.int .i64 0, .int .i64 0, .int .i64 0] 30))
  have Lc0 := L.c0
  have Lc1 := L.c1
  go_wp2_with fail
  refine (M.out _).mono ?_
  rintro e w1 ⟨rfl, hb⟩
  replace L := L.grow hb
  have Lc0 := L.c0
  have Lc1 := L.c1
  go_wp2_with fail
  refine (X.out _).mono ?_
  rintro e w1 ⟨rfl, hb⟩
  replace L := L.grow hb
  have Lc0 := L.c0
  have Lc1 := L.c1
  go_wp2_with fail
  refine (A.out _).mono ?_
  rintro e w1 ⟨rfl, hb⟩
  replace L := L.grow hb
  have Lc0 := L.c0
  have Lc1 := L.c1
  go_wp2
  go_ret
  exact ⟨rfl, L.below⟩

set_option maxHeartbeats 2000000 in
theorem none3 (P T k a b : Int) (f : Bool) (_h0 : 1 ≤ P) (_h1 : P ≤ 4096) (_h2 : 1 ≤ T) (h : decide (T ≤ 64) = false) (w : World)
    (H : Hid (∀ w, Calls Try.prog 12 #[.agg #[.int .i64 P, .int .i64 T], .int .i64 a, .bool f, .int .i64 b] w fun e w' => e = .returned (.tuple #[.int .i64 0, .bool false]) ∧ Below w.heap.size w w'))
    (C : Hid (∀ w, Calls Try.prog 14 #[.agg #[.int .i64 P, .int .i64 T], .int .i64 a, .int .i64 b] w fun e w' => e = .returned (.tuple #[.int .i64 0, .bool false]) ∧ Below w.heap.size w w'))
    (G : Hid (∀ w, Calls Try.prog 16 #[.agg #[.int .i64 P, .int .i64 T], .int .i64 k, .int .i64 a] w fun e w' => e = .returned (.tuple #[.int .i64 0, .bool false]) ∧ Below w.heap.size w w'))
    (D : Hid (∀ w, Calls Try.prog 18 #[.agg #[.int .i64 P, .int .i64 T], .int .i64 k, .int .i64 a] w fun e w' => e = .returned (.tuple #[.int .i64 0, .bool false]) ∧ Below w.heap.size w w'))
    (N : Hid (∀ w, Calls Try.prog 20 #[.agg #[.int .i64 P, .int .i64 T], .int .i64 a] w fun e w' => e = .returned (.tuple #[.agg #[.int .i64 0, .int .i64 0, .int .i64 0], .bool false]) ∧ Below w.heap.size w w'))
    (M : Hid (∀ w, Calls Try.prog 8 #[.agg #[.int .i64 P, .int .i64 T]] w fun e w' => e = .returned (.bool false) ∧ Below w.heap.size w w'))
    (X : Hid (∀ w, Calls Try.prog 10 #[.agg #[.int .i64 P, .int .i64 T]] w fun e w' => e = .returned (.int .i64 0) ∧ Below w.heap.size w w')) :
    Calls Try.prog 7 #[.agg #[.int .i64 P, .int .i64 T], .int .i64 k, .int .i64 a, .int .i64 b, .bool f] w fun e w' => e = .returned (.bool true) ∧ Below w.heap.size w w' := by
  have A := hide (fun w => awake8 w)
  go_enter Try.func7, Try.ntmps7
  have L := LBox.new w P T 23
  go_wp2_with fail
  refine (H.out _).mono ?_
  rintro e w1 ⟨rfl, hb⟩
  replace L := L.grow hb
  have Lc0 := L.c0
  have Lc1 := L.c1
  go_wp2_with fail
  refine (C.out _).mono ?_
  rintro e w1 ⟨rfl, hb⟩
  replace L := L.grow hb
  have Lc0 := L.c0
  have Lc1 := L.c1
  go_wp2_with fail
  refine (G.out _).mono ?_
  rintro e w1 ⟨rfl, hb⟩
  replace L := L.grow hb
  have Lc0 := L.c0
  have Lc1 := L.c1
  go_wp2_with fail
  refine (D.out _).mono ?_
  rintro e w1 ⟨rfl, hb⟩
  replace L := L.grow hb
  have Lc0 := L.c0
  have Lc1 := L.c1
  go_wp2_with fail
  refine (N.out _).mono ?_
  rintro e w1 ⟨rfl, hb⟩
  replace L := L.grow hb
  have Lc0 := L.c0
  have Lc1 := L.c1
  replace L := L.grow (grown1 _ (.cells #[.int .i64 0, .int .i64 0, .int .i64 0] 30))
  have Lc0 := L.c0
  have Lc1 := L.c1
  go_wp2_with fail
  refine (M.out _).mono ?_
  rintro e w1 ⟨rfl, hb⟩
  replace L := L.grow hb
  have Lc0 := L.c0
  have Lc1 := L.c1
  go_wp2_with fail
  refine (X.out _).mono ?_
  rintro e w1 ⟨rfl, hb⟩
  replace L := L.grow hb
  have Lc0 := L.c0
  have Lc1 := L.c1
  go_wp2_with fail
  refine (A.out _).mono ?_
  rintro e w1 ⟨rfl, hb⟩
  replace L := L.grow hb
  have Lc0 := L.c0
  have Lc1 := L.c1
  go_wp2
  go_ret
  exact ⟨rfl, L.below⟩

theorem walk (P T : Int) (_hP : -9223372036854775808 ≤ P ∧ P ≤ 9223372036854775807) (_hT : -9223372036854775808 ≤ T ∧ T ≤ 9223372036854775807) (k : Int) (_hk : -9223372036854775808 ≤ k ∧ k ≤ 9223372036854775807) (a : Int) (_ha : -9223372036854775808 ≤ a ∧ a ≤ 9223372036854775807) (b : Int) (_hb : -9223372036854775808 ≤ b ∧ b ≤ 9223372036854775807) (f : Bool) (w : World) :
    Calls Try.prog 7 #[.agg #[.int .i64 P, .int .i64 T], .int .i64 k, .int .i64 a, .int .i64 b, .bool f] w fun e w' => e = .returned (.bool true) ∧ Below w.heap.size w w' := by
  cases hm : Lay.may P T
  · have H := hide (fun w => lhead P T a f b w)
    have C := hide (fun w => lcache P T a b w)
    have G := hide (fun w => lpage P T k a w)
    have D := hide (fun w => lmap P T k a w)
    have N := hide (fun w => lname P T a w)
    have M := hide (fun w => lmay P T w)
    have X := hide (fun w => lwords P T w)
    have hn : Lay.name P T a = ((0, 0, 0), false) := by unfold Lay.name; rw [Lay.words_out hm]; exact if_neg (by simp [Lay.below])
    rw [show Lay.head P T a f b = (0, false) from by unfold Lay.head; rw [hm]; rfl] at H
    rw [show Lay.cache P T a b = (0, false) from by unfold Lay.cache; rw [hm]; rfl] at C
    rw [show Lay.page P T k a = (0, false) from by unfold Lay.page; rw [hm]; rfl] at G
    rw [show Lay.map P T k a = (0, false) from by unfold Lay.map; rw [hm]; rfl] at D
    rw [hn] at N
    rw [hm] at M
    rw [Lay.words_out hm] at X
    have h := Lay.may_false.1 hm
    by_cases h0 : 1 ≤ P
    · by_cases h1 : P ≤ 4096
      · by_cases h2 : 1 ≤ T
        · exact none3 P T k a b f h0 h1 h2 (decide_eq_false (by omega)) w H C G D N M X
        · exact none2 P T k a b f h0 h1 (decide_eq_false (by omega)) w H C G D N M X
      · exact none1 P T k a b f h0 (decide_eq_false (by omega)) w H C G D N M X
    · exact none0 P T k a b f (decide_eq_false (by omega)) w H C G D N M X
  · obtain ⟨p1, p2, t1, t2⟩ := Lay.may_iff.1 hm
    exact isThere P T k a b f p1 p2 t1 t2 w

set_option maxRecDepth 100000 in
theorem lifted (os : Os) (started : os.Started) (H : Type) (enc : TypeId × Value → H) :
    ReturnsInHanded {} Try.checked os 7 .any (Rows.layoutNoneSpec.pre6 enc Try.prog Try.f7 Rows.layoutNoneRow.domain false) (Rows.layoutNoneSpec.post enc Try.prog Try.f7 false true false false) := by
  refine returnsInHanded_of_change (C := Try.checked) own started (by kernel_rfl) Try.func7
    (ChangeSpec.witness6 (enc := enc) (C := Try.checked) false ⟨#[], #[.agg #[.int .i64 0, .int .i64 0], .int .i64 0, .int .i64 0, .int .i64 0, .bool false], []⟩ 8 (by kernel_rfl) (by kernel_rfl) (by kernel_rfl) (by kernel_rfl)) ?_
  intro W base args ds gs before hval0 hW _ _
  have hval : ∀ (j : Nat) t v, Try.f7.params[j]? = some t → args[j]? = some v → Value.okWide Try.prog W .any base t v := hval0
  have hW' := hW
  obtain ⟨p, q, hA0, hV, rfl, hfz, hnd⟩ := hW
  have hA : DataW.TrodAll enc Try.prog W 0 (fun _ => true) true Try.f7.params.toList args.toList ds p := hA0
  rw [Try.params7] at hA hval
  obtain ⟨v0, vs0, d0, ds0, p0, q0, hargs, rfl, rfl, h0, r0⟩ := trodAll_cons hA
  obtain ⟨v1, vs1, d1, ds1, p1, q1, rfl, rfl, rfl, h1, r1⟩ := trodAll_cons r0
  obtain ⟨v2, vs2, d2, ds2, p2, q2, rfl, rfl, rfl, h2, r2⟩ := trodAll_cons r1
  obtain ⟨v3, vs3, d3, ds3, p3, q3, rfl, rfl, rfl, h3, r3⟩ := trodAll_cons r2
  obtain ⟨v4, vs4, d4, ds4, p4, q4, rfl, rfl, rfl, h4, r4⟩ := trodAll_cons r3
  obtain ⟨rfl, rfl, rfl⟩ := trodAll_nil r4
  obtain rfl : args = #[v0, v1, v2, v3, v4] := by cases args; simp_all
  obtain ⟨rfl, rfl⟩ := trodVars_none hV
  have h0k := h0
  have lt0 : ∀ x ∈ p0, x.block < W.heap.size := fun x hx => hW'.lt x (by simp [hx])
  obtain ⟨l0_0, l0_1, rfl, f0_0, f0_1⟩ := open_layout (hval 0 23 v0 rfl rfl) h0
  obtain ⟨a1, rfl, rfl, rfl, w1⟩ := open_int Try.underlying3 (hval 1 3 v1 rfl rfl) h1
  obtain ⟨a2, rfl, rfl, rfl, w2⟩ := open_int Try.underlying3 (hval 2 3 v2 rfl rfl) h2
  obtain ⟨a3, rfl, rfl, rfl, w3⟩ := open_int Try.underlying3 (hval 3 3 v3 rfl rfl) h3
  obtain ⟨a4, rfl, rfl, rfl⟩ := open_bool Try.underlying4 (hval 4 4 v4 rfl rfl) h4
  clear hA0 hval0
  have hx1 := i64_bd w1
  have hx2 := i64_bd w2
  have hx3 := i64_bd w3
  refine (walk l0_0 l0_1 f0_0 f0_1 a1 hx1 a2 hx2 a3 hx3 a4 W).mono fun e W' ⟨he, bel⟩ => ?_
  subst he
  exact ⟨_, rfl, _, _, _, [], _, [], hW', trodAll_mk1 (shut_bool Try.underlying4 _), (trodAll_cons_mk (Below.trod laidOut (by kernel_rfl) (of_decide_eq_true (by kernel_rfl)) h0k bel lt0) (trodAll_cons_mk (shut_int Try.underlying3 w1) (trodAll_cons_mk (shut_int Try.underlying3 w2) (trodAll_cons_mk (shut_int Try.underlying3 w3) (trodAll_cons_mk (shut_bool Try.underlying4 _) trodAll_mk0))))), rfl, bel.frame _, fun h => by cases h⟩

end Go.Proofs.Ytcjfnlijkkefaaa.layoutNone
namespace Go.Proofs.Ytcjfnlijkkefaaa

theorem layoutNone_holds : Rows.LayoutNoneSaid :=
  OpenClaim.holds_of_wide 7 Try.f7 rfl rfl rfl rfl rfl rfl rfl ⟨rfl, rfl, rfl, rfl, rfl⟩ rfl rfl rfl rfl rfl (by kernel_rfl) Try.func7 (by kernel_rfl)
    (of_decide_eq_true (by kernel_rfl)) (by unfold Func.isWrapper; first | (rw [if_pos (by decide +kernel)]; kernel_rfl) | (rw [if_neg (by decide +kernel)]; exact ⟨rfl, rfl⟩))
    (fun os started H enc _ => layoutNone.lifted os started H enc)
end Go.Proofs.Ytcjfnlijkkefaaa
