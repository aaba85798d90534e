/- Two things have two words: the law LayoutOne answers true at every input, and its arguments read behind the call as they read before. -/
import Derived.Test.YtcjfnlijkkefaaaLayOpen
import Derived.Test.YtcjfnlijkkefaaaLayMath
namespace Go.Proofs.Ytcjfnlijkkefaaa.layoutOne
open Go.ChangeShapes Go.WideShapes Go.ChangeAt Go.RowKit

set_option maxHeartbeats 2000000 in
theorem bad0 (x y : Nat) (P T K J A B C D : Int) (w : World)
    (f0 : decide (K < 7) = true)
    (Y : Hid (∀ w, Calls Try.prog 23 #[.int .u16 (x : Int), .int .u8 (y : Int)] w fun e w' => e = .returned (.agg #[.int .i64 P, .int .i64 T]) ∧ Below w.heap.size w w'))
    : Calls Try.prog 6 #[.int .u16 (x : Int), .int .u8 (y : Int), .agg #[.int .i64 K, .int .i64 A, .int .i64 B], .agg #[.int .i64 J, .int .i64 C, .int .i64 D]] w fun e w' => e = .returned (.bool true) ∧ Below w.heap.size w w' := by
  have Z := hide (fun w => awake8 w)
  go_enter Try.func6, Try.ntmps6
  have S := SBox.first w K A B J C D
  have U := SBox.second w K A B J C D
  go_wp2_with fail
  refine (Y.out _).mono ?_
  rintro e wl ⟨rfl, hb⟩
  have hsz : w.heap.size + 1 + 1 ≤ wl.heap.size := by simpa using hb.size
  replace S := S.grow hb
  replace U := U.grow hb
  have L := LBox.behind (((grown1 w (.cells #[.int .i64 K, .int .i64 A, .int .i64 B] 30)).alloc (by simp) (.cells #[.int .i64 J, .int .i64 C, .int .i64 D] 30)).trans (hb.mono (by simp; omega))) P T 23
  replace S := S.grow (grown1 _ (.cells #[.int .i64 P, .int .i64 T] 23))
  replace U := U.grow (grown1 _ (.cells #[.int .i64 P, .int .i64 T] 23))
  have Lc0 := L.c0
  have Lc1 := L.c1
  have Sc0 := S.c0
  have Sc1 := S.c1
  have Sc2 := S.c2
  have Uc0 := U.c0
  have Uc1 := U.c1
  have Uc2 := U.c2
  go_wp2_with fail
  refine (Z.out _).mono ?_
  rintro e v1 ⟨rfl, hb⟩
  replace L := L.grow hb
  have Lc0 := L.c0
  have Lc1 := L.c1
  go_wp2
  go_ret
  exact ⟨rfl, L.below⟩

set_option maxHeartbeats 2000000 in
theorem bad1 (x y : Nat) (P T K J A B C D : Int) (w : World)
    (f0 : decide (K < 7) = false) (f1 : decide (16 < K) = true)
    (Y : Hid (∀ w, Calls Try.prog 23 #[.int .u16 (x : Int), .int .u8 (y : Int)] w fun e w' => e = .returned (.agg #[.int .i64 P, .int .i64 T]) ∧ Below w.heap.size w w'))
    : Calls Try.prog 6 #[.int .u16 (x : Int), .int .u8 (y : Int), .agg #[.int .i64 K, .int .i64 A, .int .i64 B], .agg #[.int .i64 J, .int .i64 C, .int .i64 D]] w fun e w' => e = .returned (.bool true) ∧ Below w.heap.size w w' := by
  have Z := hide (fun w => awake8 w)
  go_enter Try.func6, Try.ntmps6
  have S := SBox.first w K A B J C D
  have U := SBox.second w K A B J C D
  go_wp2_with fail
  refine (Y.out _).mono ?_
  rintro e wl ⟨rfl, hb⟩
  have hsz : w.heap.size + 1 + 1 ≤ wl.heap.size := by simpa using hb.size
  replace S := S.grow hb
  replace U := U.grow hb
  have L := LBox.behind (((grown1 w (.cells #[.int .i64 K, .int .i64 A, .int .i64 B] 30)).alloc (by simp) (.cells #[.int .i64 J, .int .i64 C, .int .i64 D] 30)).trans (hb.mono (by simp; omega))) P T 23
  replace S := S.grow (grown1 _ (.cells #[.int .i64 P, .int .i64 T] 23))
  replace U := U.grow (grown1 _ (.cells #[.int .i64 P, .int .i64 T] 23))
  have Lc0 := L.c0
  have Lc1 := L.c1
  have Sc0 := S.c0
  have Sc1 := S.c1
  have Sc2 := S.c2
  have Uc0 := U.c0
  have Uc1 := U.c1
  have Uc2 := U.c2
  go_wp2_with fail
  refine (Z.out _).mono ?_
  rintro e v1 ⟨rfl, hb⟩
  replace L := L.grow hb
  have Lc0 := L.c0
  have Lc1 := L.c1
  go_wp2
  go_ret
  exact ⟨rfl, L.below⟩

set_option maxHeartbeats 2000000 in
theorem bad2 (x y : Nat) (P T K J A B C D : Int) (w : World)
    (f0 : decide (K < 7) = false) (f1 : decide (16 < K) = false) (f2 : decide (J < 7) = true)
    (Y : Hid (∀ w, Calls Try.prog 23 #[.int .u16 (x : Int), .int .u8 (y : Int)] w fun e w' => e = .returned (.agg #[.int .i64 P, .int .i64 T]) ∧ Below w.heap.size w w'))
    : Calls Try.prog 6 #[.int .u16 (x : Int), .int .u8 (y : Int), .agg #[.int .i64 K, .int .i64 A, .int .i64 B], .agg #[.int .i64 J, .int .i64 C, .int .i64 D]] w fun e w' => e = .returned (.bool true) ∧ Below w.heap.size w w' := by
  have Z := hide (fun w => awake8 w)
  go_enter Try.func6, Try.ntmps6
  have S := SBox.first w K A B J C D
  have U := SBox.second w K A B J C D
  go_wp2_with fail
  refine (Y.out _).mono ?_
  rintro e wl ⟨rfl, hb⟩
  have hsz : w.heap.size + 1 + 1 ≤ wl.heap.size := by simpa using hb.size
  replace S := S.grow hb
  replace U := U.grow hb
  have L := LBox.behind (((grown1 w (.cells #[.int .i64 K, .int .i64 A, .int .i64 B] 30)).alloc (by simp) (.cells #[.int .i64 J, .int .i64 C, .int .i64 D] 30)).trans (hb.mono (by simp; omega))) P T 23
  replace S := S.grow (grown1 _ (.cells #[.int .i64 P, .int .i64 T] 23))
  replace U := U.grow (grown1 _ (.cells #[.int .i64 P, .int .i64 T] 23))
  have Lc0 := L.c0
  have Lc1 := L.c1
  have Sc0 := S.c0
  have Sc1 := S.c1
  have Sc2 := S.c2
  have Uc0 := U.c0
  have Uc1 := U.c1
  have Uc2 := U.c2
  go_wp2_with fail
  refine (Z.out _).mono ?_
  rintro e v1 ⟨rfl, hb⟩
  replace L := L.grow hb
  have Lc0 := L.c0
  have Lc1 := L.c1
  go_wp2
  go_ret
  exact ⟨rfl, L.below⟩

set_option maxHeartbeats 2000000 in
theorem bad3 (x y : Nat) (P T K J A B C D : Int) (w : World)
    (f0 : decide (K < 7) = false) (f1 : decide (16 < K) = false) (f2 : decide (J < 7) = false) (f3 : decide (16 < J) = true)
    (Y : Hid (∀ w, Calls Try.prog 23 #[.int .u16 (x : Int), .int .u8 (y : Int)] w fun e w' => e = .returned (.agg #[.int .i64 P, .int .i64 T]) ∧ Below w.heap.size w w'))
    : Calls Try.prog 6 #[.int .u16 (x : Int), .int .u8 (y : Int), .agg #[.int .i64 K, .int .i64 A, .int .i64 B], .agg #[.int .i64 J, .int .i64 C, .int .i64 D]] w fun e w' => e = .returned (.bool true) ∧ Below w.heap.size w w' := by
  have Z := hide (fun w => awake8 w)
  go_enter Try.func6, Try.ntmps6
  have S := SBox.first w K A B J C D
  have U := SBox.second w K A B J C D
  go_wp2_with fail
  refine (Y.out _).mono ?_
  rintro e wl ⟨rfl, hb⟩
  have hsz : w.heap.size + 1 + 1 ≤ wl.heap.size := by simpa using hb.size
  replace S := S.grow hb
  replace U := U.grow hb
  have L := LBox.behind (((grown1 w (.cells #[.int .i64 K, .int .i64 A, .int .i64 B] 30)).alloc (by simp) (.cells #[.int .i64 J, .int .i64 C, .int .i64 D] 30)).trans (hb.mono (by simp; omega))) P T 23
  replace S := S.grow (grown1 _ (.cells #[.int .i64 P, .int .i64 T] 23))
  replace U := U.grow (grown1 _ (.cells #[.int .i64 P, .int .i64 T] 23))
  have Lc0 := L.c0
  have Lc1 := L.c1
  have Sc0 := S.c0
  have Sc1 := S.c1
  have Sc2 := S.c2
  have Uc0 := U.c0
  have Uc1 := U.c1
  have Uc2 := U.c2
  go_wp2_with fail
  refine (Z.out _).mono ?_
  rintro e v1 ⟨rfl, hb⟩
  replace L := L.grow hb
  have Lc0 := L.c0
  have Lc1 := L.c1
  go_wp2
  go_ret
  exact ⟨rfl, L.below⟩

set_option maxHeartbeats 2000000 in
theorem bad4 (x y : Nat) (P T K J A B C D : Int) (w : World)
    (f0 : decide (K < 7) = false) (f1 : decide (16 < K) = false) (f2 : decide (J < 7) = false) (f3 : decide (16 < J) = false) (f4 : decide (B < 0) = true)
    (Y : Hid (∀ w, Calls Try.prog 23 #[.int .u16 (x : Int), .int .u8 (y : Int)] w fun e w' => e = .returned (.agg #[.int .i64 P, .int .i64 T]) ∧ Below w.heap.size w w'))
    : Calls Try.prog 6 #[.int .u16 (x : Int), .int .u8 (y : Int), .agg #[.int .i64 K, .int .i64 A, .int .i64 B], .agg #[.int .i64 J, .int .i64 C, .int .i64 D]] w fun e w' => e = .returned (.bool true) ∧ Below w.heap.size w w' := by
  have Z := hide (fun w => awake8 w)
  go_enter Try.func6, Try.ntmps6
  have S := SBox.first w K A B J C D
  have U := SBox.second w K A B J C D
  go_wp2_with fail
  refine (Y.out _).mono ?_
  rintro e wl ⟨rfl, hb⟩
  have hsz : w.heap.size + 1 + 1 ≤ wl.heap.size := by simpa using hb.size
  replace S := S.grow hb
  replace U := U.grow hb
  have L := LBox.behind (((grown1 w (.cells #[.int .i64 K, .int .i64 A, .int .i64 B] 30)).alloc (by simp) (.cells #[.int .i64 J, .int .i64 C, .int .i64 D] 30)).trans (hb.mono (by simp; omega))) P T 23
  replace S := S.grow (grown1 _ (.cells #[.int .i64 P, .int .i64 T] 23))
  replace U := U.grow (grown1 _ (.cells #[.int .i64 P, .int .i64 T] 23))
  have Lc0 := L.c0
  have Lc1 := L.c1
  have Sc0 := S.c0
  have Sc1 := S.c1
  have Sc2 := S.c2
  have Uc0 := U.c0
  have Uc1 := U.c1
  have Uc2 := U.c2
  go_wp2_with fail
  refine (Z.out _).mono ?_
  rintro e v1 ⟨rfl, hb⟩
  replace L := L.grow hb
  have Lc0 := L.c0
  have Lc1 := L.c1
  go_wp2
  go_ret
  exact ⟨rfl, L.below⟩

set_option maxHeartbeats 2000000 in
theorem bad5 (x y : Nat) (P T K J A B C D : Int) (w : World)
    (f0 : decide (K < 7) = false) (f1 : decide (16 < K) = false) (f2 : decide (J < 7) = false) (f3 : decide (16 < J) = false) (f4 : decide (B < 0) = false) (f5 : decide (D < 0) = true)
    (Y : Hid (∀ w, Calls Try.prog 23 #[.int .u16 (x : Int), .int .u8 (y : Int)] w fun e w' => e = .returned (.agg #[.int .i64 P, .int .i64 T]) ∧ Below w.heap.size w w'))
    : Calls Try.prog 6 #[.int .u16 (x : Int), .int .u8 (y : Int), .agg #[.int .i64 K, .int .i64 A, .int .i64 B], .agg #[.int .i64 J, .int .i64 C, .int .i64 D]] w fun e w' => e = .returned (.bool true) ∧ Below w.heap.size w w' := by
  have Z := hide (fun w => awake8 w)
  go_enter Try.func6, Try.ntmps6
  have S := SBox.first w K A B J C D
  have U := SBox.second w K A B J C D
  go_wp2_with fail
  refine (Y.out _).mono ?_
  rintro e wl ⟨rfl, hb⟩
  have hsz : w.heap.size + 1 + 1 ≤ wl.heap.size := by simpa using hb.size
  replace S := S.grow hb
  replace U := U.grow hb
  have L := LBox.behind (((grown1 w (.cells #[.int .i64 K, .int .i64 A, .int .i64 B] 30)).alloc (by simp) (.cells #[.int .i64 J, .int .i64 C, .int .i64 D] 30)).trans (hb.mono (by simp; omega))) P T 23
  replace S := S.grow (grown1 _ (.cells #[.int .i64 P, .int .i64 T] 23))
  replace U := U.grow (grown1 _ (.cells #[.int .i64 P, .int .i64 T] 23))
  have Lc0 := L.c0
  have Lc1 := L.c1
  have Sc0 := S.c0
  have Sc1 := S.c1
  have Sc2 := S.c2
  have Uc0 := U.c0
  have Uc1 := U.c1
  have Uc2 := U.c2
  go_wp2_with fail
  refine (Z.out _).mono ?_
  rintro e v1 ⟨rfl, hb⟩
  replace L := L.grow hb
  have Lc0 := L.c0
  have Lc1 := L.c1
  go_wp2
  go_ret
  exact ⟨rfl, L.below⟩

set_option maxHeartbeats 2000000 in
theorem badx (x y : Nat) (P T J A B C D : Int) (w : World)
    (f2 : decide (J < 7) = false) (f3 : decide (16 < J) = false) (f4 : decide (B < 0) = false) (f5 : decide (D < 0) = false) (f7 : decide (3 < B) = true)
    (Y : Hid (∀ w, Calls Try.prog 23 #[.int .u16 (x : Int), .int .u8 (y : Int)] w fun e w' => e = .returned (.agg #[.int .i64 P, .int .i64 T]) ∧ Below w.heap.size w w'))
    : Calls Try.prog 6 #[.int .u16 (x : Int), .int .u8 (y : Int), .agg #[.int .i64 7, .int .i64 A, .int .i64 B], .agg #[.int .i64 J, .int .i64 C, .int .i64 D]] w fun e w' => e = .returned (.bool true) ∧ Below w.heap.size w w' := by
  have Z := hide (fun w => awake8 w)
  go_enter Try.func6, Try.ntmps6
  have S := SBox.first w 7 A B J C D
  have U := SBox.second w 7 A B J C D
  go_wp2_with fail
  refine (Y.out _).mono ?_
  rintro e wl ⟨rfl, hb⟩
  have hsz : w.heap.size + 1 + 1 ≤ wl.heap.size := by simpa using hb.size
  replace S := S.grow hb
  replace U := U.grow hb
  have L := LBox.behind (((grown1 w (.cells #[.int .i64 7, .int .i64 A, .int .i64 B] 30)).alloc (by simp) (.cells #[.int .i64 J, .int .i64 C, .int .i64 D] 30)).trans (hb.mono (by simp; omega))) P T 23
  replace S := S.grow (grown1 _ (.cells #[.int .i64 P, .int .i64 T] 23))
  replace U := U.grow (grown1 _ (.cells #[.int .i64 P, .int .i64 T] 23))
  have Lc0 := L.c0
  have Lc1 := L.c1
  have Sc0 := S.c0
  have Sc1 := S.c1
  have Sc2 := S.c2
  have Uc0 := U.c0
  have Uc1 := U.c1
  have Uc2 := U.c2
  go_wp2_with fail
  refine (Z.out _).mono ?_
  rintro e v1 ⟨rfl, hb⟩
  replace L := L.grow hb
  have Lc0 := L.c0
  have Lc1 := L.c1
  go_wp2
  go_ret
  exact ⟨rfl, L.below⟩

set_option maxHeartbeats 2000000 in
theorem bady7 (x y : Nat) (P T  A B C D : Int) (w : World)
    (f4 : decide (B < 0) = false) (f5 : decide (D < 0) = false) (f7 : decide (3 < B) = false) (f9 : decide (3 < D) = true)
    (Y : Hid (∀ w, Calls Try.prog 23 #[.int .u16 (x : Int), .int .u8 (y : Int)] w fun e w' => e = .returned (.agg #[.int .i64 P, .int .i64 T]) ∧ Below w.heap.size w w'))
    : Calls Try.prog 6 #[.int .u16 (x : Int), .int .u8 (y : Int), .agg #[.int .i64 7, .int .i64 A, .int .i64 B], .agg #[.int .i64 7, .int .i64 C, .int .i64 D]] w fun e w' => e = .returned (.bool true) ∧ Below w.heap.size w w' := by
  have Z := hide (fun w => awake8 w)
  go_enter Try.func6, Try.ntmps6
  have S := SBox.first w 7 A B 7 C D
  have U := SBox.second w 7 A B 7 C D
  go_wp2_with fail
  refine (Y.out _).mono ?_
  rintro e wl ⟨rfl, hb⟩
  have hsz : w.heap.size + 1 + 1 ≤ wl.heap.size := by simpa using hb.size
  replace S := S.grow hb
  replace U := U.grow hb
  have L := LBox.behind (((grown1 w (.cells #[.int .i64 7, .int .i64 A, .int .i64 B] 30)).alloc (by simp) (.cells #[.int .i64 7, .int .i64 C, .int .i64 D] 30)).trans (hb.mono (by simp; omega))) P T 23
  replace S := S.grow (grown1 _ (.cells #[.int .i64 P, .int .i64 T] 23))
  replace U := U.grow (grown1 _ (.cells #[.int .i64 P, .int .i64 T] 23))
  have Lc0 := L.c0
  have Lc1 := L.c1
  have Sc0 := S.c0
  have Sc1 := S.c1
  have Sc2 := S.c2
  have Uc0 := U.c0
  have Uc1 := U.c1
  have Uc2 := U.c2
  go_wp2_with fail
  refine (Z.out _).mono ?_
  rintro e v1 ⟨rfl, hb⟩
  replace L := L.grow hb
  have Lc0 := L.c0
  have Lc1 := L.c1
  go_wp2
  go_ret
  exact ⟨rfl, L.below⟩

set_option maxHeartbeats 2000000 in
theorem badyo (x y : Nat) (P T K A B C D : Int) (w : World)
    (f0 : decide (K < 7) = false) (f1 : decide (16 < K) = false) (f6 : (K == 7) = false) (f4 : decide (B < 0) = false) (f5 : decide (D < 0) = false) (f9 : decide (3 < D) = true)
    (Y : Hid (∀ w, Calls Try.prog 23 #[.int .u16 (x : Int), .int .u8 (y : Int)] w fun e w' => e = .returned (.agg #[.int .i64 P, .int .i64 T]) ∧ Below w.heap.size w w'))
    : Calls Try.prog 6 #[.int .u16 (x : Int), .int .u8 (y : Int), .agg #[.int .i64 K, .int .i64 A, .int .i64 B], .agg #[.int .i64 7, .int .i64 C, .int .i64 D]] w fun e w' => e = .returned (.bool true) ∧ Below w.heap.size w w' := by
  have Z := hide (fun w => awake8 w)
  go_enter Try.func6, Try.ntmps6
  have S := SBox.first w K A B 7 C D
  have U := SBox.second w K A B 7 C D
  go_wp2_with fail
  refine (Y.out _).mono ?_
  rintro e wl ⟨rfl, hb⟩
  have hsz : w.heap.size + 1 + 1 ≤ wl.heap.size := by simpa using hb.size
  replace S := S.grow hb
  replace U := U.grow hb
  have L := LBox.behind (((grown1 w (.cells #[.int .i64 K, .int .i64 A, .int .i64 B] 30)).alloc (by simp) (.cells #[.int .i64 7, .int .i64 C, .int .i64 D] 30)).trans (hb.mono (by simp; omega))) P T 23
  replace S := S.grow (grown1 _ (.cells #[.int .i64 P, .int .i64 T] 23))
  replace U := U.grow (grown1 _ (.cells #[.int .i64 P, .int .i64 T] 23))
  have Lc0 := L.c0
  have Lc1 := L.c1
  have Sc0 := S.c0
  have Sc1 := S.c1
  have Sc2 := S.c2
  have Uc0 := U.c0
  have Uc1 := U.c1
  have Uc2 := U.c2
  go_wp2_with fail
  refine (Z.out _).mono ?_
  rintro e v1 ⟨rfl, hb⟩
  replace L := L.grow hb
  have Lc0 := L.c0
  have Lc1 := L.c1
  go_wp2
  go_ret
  exact ⟨rfl, L.below⟩

set_option maxHeartbeats 2000000 in
theorem lost770 (x y : Nat) (P T  A B C D G H : Int) (w : World)
    (f4 : decide (B < 0) = false) (f5 : decide (D < 0) = false) (f7 : decide (3 < B) = false) (f9 : decide (3 < D) = false)
    (Y : Hid (∀ w, Calls Try.prog 23 #[.int .u16 (x : Int), .int .u8 (y : Int)] w fun e w' => e = .returned (.agg #[.int .i64 P, .int .i64 T]) ∧ Below w.heap.size w w'))
    (Q : Hid (∀ w, Calls Try.prog 24 #[.agg #[.int .i64 P, .int .i64 T], .agg #[.int .i64 7, .int .i64 A, .int .i64 B]] w fun e w' => e = .returned (.tuple #[.int .i64 G, .bool false]) ∧ Below w.heap.size w w'))
    (q : Bool) (R : Hid (∀ w, Calls Try.prog 24 #[.agg #[.int .i64 P, .int .i64 T], .agg #[.int .i64 7, .int .i64 C, .int .i64 D]] w fun e w' => e = .returned (.tuple #[.int .i64 H, .bool q]) ∧ Below w.heap.size w w'))
    : Calls Try.prog 6 #[.int .u16 (x : Int), .int .u8 (y : Int), .agg #[.int .i64 7, .int .i64 A, .int .i64 B], .agg #[.int .i64 7, .int .i64 C, .int .i64 D]] w fun e w' => e = .returned (.bool true) ∧ Below w.heap.size w w' := by
  have Z := hide (fun w => awake8 w)
  go_enter Try.func6, Try.ntmps6
  have S := SBox.first w 7 A B 7 C D
  have U := SBox.second w 7 A B 7 C D
  go_wp2_with fail
  refine (Y.out _).mono ?_
  rintro e wl ⟨rfl, hb⟩
  have hsz : w.heap.size + 1 + 1 ≤ wl.heap.size := by simpa using hb.size
  replace S := S.grow hb
  replace U := U.grow hb
  have L := LBox.behind (((grown1 w (.cells #[.int .i64 7, .int .i64 A, .int .i64 B] 30)).alloc (by simp) (.cells #[.int .i64 7, .int .i64 C, .int .i64 D] 30)).trans (hb.mono (by simp; omega))) P T 23
  replace S := S.grow (grown1 _ (.cells #[.int .i64 P, .int .i64 T] 23))
  replace U := U.grow (grown1 _ (.cells #[.int .i64 P, .int .i64 T] 23))
  have Lc0 := L.c0
  have Lc1 := L.c1
  have Sc0 := S.c0
  have Sc1 := S.c1
  have Sc2 := S.c2
  have Uc0 := U.c0
  have Uc1 := U.c1
  have Uc2 := U.c2
  go_wp2_with fail
  refine (Q.out _).mono ?_
  rintro e v1 ⟨rfl, hb⟩
  replace L := L.grow hb
  replace S := S.grow hb
  replace U := U.grow hb
  have Lc0 := L.c0
  have Lc1 := L.c1
  have Sc0 := S.c0
  have Sc1 := S.c1
  have Sc2 := S.c2
  have Uc0 := U.c0
  have Uc1 := U.c1
  have Uc2 := U.c2
  go_wp2_with fail
  refine (R.out _).mono ?_
  rintro e v2 ⟨rfl, hb⟩
  replace L := L.grow hb
  replace S := S.grow hb
  replace U := U.grow hb
  have Lc0 := L.c0
  have Lc1 := L.c1
  have Sc0 := S.c0
  have Sc1 := S.c1
  have Sc2 := S.c2
  have Uc0 := U.c0
  have Uc1 := U.c1
  have Uc2 := U.c2
  go_wp2_with fail
  refine (Z.out _).mono ?_
  rintro e v3 ⟨rfl, hb⟩
  replace L := L.grow hb
  have Lc0 := L.c0
  have Lc1 := L.c1
  go_wp2
  go_ret
  exact ⟨rfl, L.below⟩

set_option maxHeartbeats 2000000 in
theorem lost771 (x y : Nat) (P T  A B C D G H : Int) (w : World)
    (f4 : decide (B < 0) = false) (f5 : decide (D < 0) = false) (f7 : decide (3 < B) = false) (f9 : decide (3 < D) = false)
    (Y : Hid (∀ w, Calls Try.prog 23 #[.int .u16 (x : Int), .int .u8 (y : Int)] w fun e w' => e = .returned (.agg #[.int .i64 P, .int .i64 T]) ∧ Below w.heap.size w w'))
    (Q : Hid (∀ w, Calls Try.prog 24 #[.agg #[.int .i64 P, .int .i64 T], .agg #[.int .i64 7, .int .i64 A, .int .i64 B]] w fun e w' => e = .returned (.tuple #[.int .i64 G, .bool true]) ∧ Below w.heap.size w w'))
    (R : Hid (∀ w, Calls Try.prog 24 #[.agg #[.int .i64 P, .int .i64 T], .agg #[.int .i64 7, .int .i64 C, .int .i64 D]] w fun e w' => e = .returned (.tuple #[.int .i64 H, .bool false]) ∧ Below w.heap.size w w'))
    : Calls Try.prog 6 #[.int .u16 (x : Int), .int .u8 (y : Int), .agg #[.int .i64 7, .int .i64 A, .int .i64 B], .agg #[.int .i64 7, .int .i64 C, .int .i64 D]] w fun e w' => e = .returned (.bool true) ∧ Below w.heap.size w w' := by
  have Z := hide (fun w => awake8 w)
  go_enter Try.func6, Try.ntmps6
  have S := SBox.first w 7 A B 7 C D
  have U := SBox.second w 7 A B 7 C D
  go_wp2_with fail
  refine (Y.out _).mono ?_
  rintro e wl ⟨rfl, hb⟩
  have hsz : w.heap.size + 1 + 1 ≤ wl.heap.size := by simpa using hb.size
  replace S := S.grow hb
  replace U := U.grow hb
  have L := LBox.behind (((grown1 w (.cells #[.int .i64 7, .int .i64 A, .int .i64 B] 30)).alloc (by simp) (.cells #[.int .i64 7, .int .i64 C, .int .i64 D] 30)).trans (hb.mono (by simp; omega))) P T 23
  replace S := S.grow (grown1 _ (.cells #[.int .i64 P, .int .i64 T] 23))
  replace U := U.grow (grown1 _ (.cells #[.int .i64 P, .int .i64 T] 23))
  have Lc0 := L.c0
  have Lc1 := L.c1
  have Sc0 := S.c0
  have Sc1 := S.c1
  have Sc2 := S.c2
  have Uc0 := U.c0
  have Uc1 := U.c1
  have Uc2 := U.c2
  go_wp2_with fail
  refine (Q.out _).mono ?_
  rintro e v1 ⟨rfl, hb⟩
  replace L := L.grow hb
  replace S := S.grow hb
  replace U := U.grow hb
  have Lc0 := L.c0
  have Lc1 := L.c1
  have Sc0 := S.c0
  have Sc1 := S.c1
  have Sc2 := S.c2
  have Uc0 := U.c0
  have Uc1 := U.c1
  have Uc2 := U.c2
  go_wp2_with fail
  refine (R.out _).mono ?_
  rintro e v2 ⟨rfl, hb⟩
  replace L := L.grow hb
  replace S := S.grow hb
  replace U := U.grow hb
  have Lc0 := L.c0
  have Lc1 := L.c1
  have Sc0 := S.c0
  have Sc1 := S.c1
  have Sc2 := S.c2
  have Uc0 := U.c0
  have Uc1 := U.c1
  have Uc2 := U.c2
  go_wp2_with fail
  refine (Z.out _).mono ?_
  rintro e v3 ⟨rfl, hb⟩
  replace L := L.grow hb
  have Lc0 := L.c0
  have Lc1 := L.c1
  go_wp2
  go_ret
  exact ⟨rfl, L.below⟩

set_option maxHeartbeats 2000000 in
theorem lost7o0 (x y : Nat) (P T J A B C D G H : Int) (w : World)
    (f2 : decide (J < 7) = false) (f3 : decide (16 < J) = false) (f8 : (J == 7) = false) (f4 : decide (B < 0) = false) (f5 : decide (D < 0) = false) (f7 : decide (3 < B) = false)
    (Y : Hid (∀ w, Calls Try.prog 23 #[.int .u16 (x : Int), .int .u8 (y : Int)] w fun e w' => e = .returned (.agg #[.int .i64 P, .int .i64 T]) ∧ Below w.heap.size w w'))
    (Q : Hid (∀ w, Calls Try.prog 24 #[.agg #[.int .i64 P, .int .i64 T], .agg #[.int .i64 7, .int .i64 A, .int .i64 B]] w fun e w' => e = .returned (.tuple #[.int .i64 G, .bool false]) ∧ Below w.heap.size w w'))
    (q : Bool) (R : Hid (∀ w, Calls Try.prog 24 #[.agg #[.int .i64 P, .int .i64 T], .agg #[.int .i64 J, .int .i64 C, .int .i64 D]] w fun e w' => e = .returned (.tuple #[.int .i64 H, .bool q]) ∧ Below w.heap.size w w'))
    : Calls Try.prog 6 #[.int .u16 (x : Int), .int .u8 (y : Int), .agg #[.int .i64 7, .int .i64 A, .int .i64 B], .agg #[.int .i64 J, .int .i64 C, .int .i64 D]] w fun e w' => e = .returned (.bool true) ∧ Below w.heap.size w w' := by
  have Z := hide (fun w => awake8 w)
  go_enter Try.func6, Try.ntmps6
  have S := SBox.first w 7 A B J C D
  have U := SBox.second w 7 A B J C D
  go_wp2_with fail
  refine (Y.out _).mono ?_
  rintro e wl ⟨rfl, hb⟩
  have hsz : w.heap.size + 1 + 1 ≤ wl.heap.size := by simpa using hb.size
  replace S := S.grow hb
  replace U := U.grow hb
  have L := LBox.behind (((grown1 w (.cells #[.int .i64 7, .int .i64 A, .int .i64 B] 30)).alloc (by simp) (.cells #[.int .i64 J, .int .i64 C, .int .i64 D] 30)).trans (hb.mono (by simp; omega))) P T 23
  replace S := S.grow (grown1 _ (.cells #[.int .i64 P, .int .i64 T] 23))
  replace U := U.grow (grown1 _ (.cells #[.int .i64 P, .int .i64 T] 23))
  have Lc0 := L.c0
  have Lc1 := L.c1
  have Sc0 := S.c0
  have Sc1 := S.c1
  have Sc2 := S.c2
  have Uc0 := U.c0
  have Uc1 := U.c1
  have Uc2 := U.c2
  go_wp2_with fail
  refine (Q.out _).mono ?_
  rintro e v1 ⟨rfl, hb⟩
  replace L := L.grow hb
  replace S := S.grow hb
  replace U := U.grow hb
  have Lc0 := L.c0
  have Lc1 := L.c1
  have Sc0 := S.c0
  have Sc1 := S.c1
  have Sc2 := S.c2
  have Uc0 := U.c0
  have Uc1 := U.c1
  have Uc2 := U.c2
  go_wp2_with fail
  refine (R.out _).mono ?_
  rintro e v2 ⟨rfl, hb⟩
  replace L := L.grow hb
  replace S := S.grow hb
  replace U := U.grow hb
  have Lc0 := L.c0
  have Lc1 := L.c1
  have Sc0 := S.c0
  have Sc1 := S.c1
  have Sc2 := S.c2
  have Uc0 := U.c0
  have Uc1 := U.c1
  have Uc2 := U.c2
  go_wp2_with fail
  refine (Z.out _).mono ?_
  rintro e v3 ⟨rfl, hb⟩
  replace L := L.grow hb
  have Lc0 := L.c0
  have Lc1 := L.c1
  go_wp2
  go_ret
  exact ⟨rfl, L.below⟩

set_option maxHeartbeats 2000000 in
theorem lost7o1 (x y : Nat) (P T J A B C D G H : Int) (w : World)
    (f2 : decide (J < 7) = false) (f3 : decide (16 < J) = false) (f8 : (J == 7) = false) (f4 : decide (B < 0) = false) (f5 : decide (D < 0) = false) (f7 : decide (3 < B) = false)
    (Y : Hid (∀ w, Calls Try.prog 23 #[.int .u16 (x : Int), .int .u8 (y : Int)] w fun e w' => e = .returned (.agg #[.int .i64 P, .int .i64 T]) ∧ Below w.heap.size w w'))
    (Q : Hid (∀ w, Calls Try.prog 24 #[.agg #[.int .i64 P, .int .i64 T], .agg #[.int .i64 7, .int .i64 A, .int .i64 B]] w fun e w' => e = .returned (.tuple #[.int .i64 G, .bool true]) ∧ Below w.heap.size w w'))
    (R : Hid (∀ w, Calls Try.prog 24 #[.agg #[.int .i64 P, .int .i64 T], .agg #[.int .i64 J, .int .i64 C, .int .i64 D]] w fun e w' => e = .returned (.tuple #[.int .i64 H, .bool false]) ∧ Below w.heap.size w w'))
    : Calls Try.prog 6 #[.int .u16 (x : Int), .int .u8 (y : Int), .agg #[.int .i64 7, .int .i64 A, .int .i64 B], .agg #[.int .i64 J, .int .i64 C, .int .i64 D]] w fun e w' => e = .returned (.bool true) ∧ Below w.heap.size w w' := by
  have Z := hide (fun w => awake8 w)
  go_enter Try.func6, Try.ntmps6
  have S := SBox.first w 7 A B J C D
  have U := SBox.second w 7 A B J C D
  go_wp2_with fail
  refine (Y.out _).mono ?_
  rintro e wl ⟨rfl, hb⟩
  have hsz : w.heap.size + 1 + 1 ≤ wl.heap.size := by simpa using hb.size
  replace S := S.grow hb
  replace U := U.grow hb
  have L := LBox.behind (((grown1 w (.cells #[.int .i64 7, .int .i64 A, .int .i64 B] 30)).alloc (by simp) (.cells #[.int .i64 J, .int .i64 C, .int .i64 D] 30)).trans (hb.mono (by simp; omega))) P T 23
  replace S := S.grow (grown1 _ (.cells #[.int .i64 P, .int .i64 T] 23))
  replace U := U.grow (grown1 _ (.cells #[.int .i64 P, .int .i64 T] 23))
  have Lc0 := L.c0
  have Lc1 := L.c1
  have Sc0 := S.c0
  have Sc1 := S.c1
  have Sc2 := S.c2
  have Uc0 := U.c0
  have Uc1 := U.c1
  have Uc2 := U.c2
  go_wp2_with fail
  refine (Q.out _).mono ?_
  rintro e v1 ⟨rfl, hb⟩
  replace L := L.grow hb
  replace S := S.grow hb
  replace U := U.grow hb
  have Lc0 := L.c0
  have Lc1 := L.c1
  have Sc0 := S.c0
  have Sc1 := S.c1
  have Sc2 := S.c2
  have Uc0 := U.c0
  have Uc1 := U.c1
  have Uc2 := U.c2
  go_wp2_with fail
  refine (R.out _).mono ?_
  rintro e v2 ⟨rfl, hb⟩
  replace L := L.grow hb
  replace S := S.grow hb
  replace U := U.grow hb
  have Lc0 := L.c0
  have Lc1 := L.c1
  have Sc0 := S.c0
  have Sc1 := S.c1
  have Sc2 := S.c2
  have Uc0 := U.c0
  have Uc1 := U.c1
  have Uc2 := U.c2
  go_wp2_with fail
  refine (Z.out _).mono ?_
  rintro e v3 ⟨rfl, hb⟩
  replace L := L.grow hb
  have Lc0 := L.c0
  have Lc1 := L.c1
  go_wp2
  go_ret
  exact ⟨rfl, L.below⟩

set_option maxHeartbeats 2000000 in
theorem losto70 (x y : Nat) (P T K A B C D G H : Int) (w : World)
    (f0 : decide (K < 7) = false) (f1 : decide (16 < K) = false) (f6 : (K == 7) = false) (f4 : decide (B < 0) = false) (f5 : decide (D < 0) = false) (f9 : decide (3 < D) = false)
    (Y : Hid (∀ w, Calls Try.prog 23 #[.int .u16 (x : Int), .int .u8 (y : Int)] w fun e w' => e = .returned (.agg #[.int .i64 P, .int .i64 T]) ∧ Below w.heap.size w w'))
    (Q : Hid (∀ w, Calls Try.prog 24 #[.agg #[.int .i64 P, .int .i64 T], .agg #[.int .i64 K, .int .i64 A, .int .i64 B]] w fun e w' => e = .returned (.tuple #[.int .i64 G, .bool false]) ∧ Below w.heap.size w w'))
    (q : Bool) (R : Hid (∀ w, Calls Try.prog 24 #[.agg #[.int .i64 P, .int .i64 T], .agg #[.int .i64 7, .int .i64 C, .int .i64 D]] w fun e w' => e = .returned (.tuple #[.int .i64 H, .bool q]) ∧ Below w.heap.size w w'))
    : Calls Try.prog 6 #[.int .u16 (x : Int), .int .u8 (y : Int), .agg #[.int .i64 K, .int .i64 A, .int .i64 B], .agg #[.int .i64 7, .int .i64 C, .int .i64 D]] w fun e w' => e = .returned (.bool true) ∧ Below w.heap.size w w' := by
  have Z := hide (fun w => awake8 w)
  go_enter Try.func6, Try.ntmps6
  have S := SBox.first w K A B 7 C D
  have U := SBox.second w K A B 7 C D
  go_wp2_with fail
  refine (Y.out _).mono ?_
  rintro e wl ⟨rfl, hb⟩
  have hsz : w.heap.size + 1 + 1 ≤ wl.heap.size := by simpa using hb.size
  replace S := S.grow hb
  replace U := U.grow hb
  have L := LBox.behind (((grown1 w (.cells #[.int .i64 K, .int .i64 A, .int .i64 B] 30)).alloc (by simp) (.cells #[.int .i64 7, .int .i64 C, .int .i64 D] 30)).trans (hb.mono (by simp; omega))) P T 23
  replace S := S.grow (grown1 _ (.cells #[.int .i64 P, .int .i64 T] 23))
  replace U := U.grow (grown1 _ (.cells #[.int .i64 P, .int .i64 T] 23))
  have Lc0 := L.c0
  have Lc1 := L.c1
  have Sc0 := S.c0
  have Sc1 := S.c1
  have Sc2 := S.c2
  have Uc0 := U.c0
  have Uc1 := U.c1
  have Uc2 := U.c2
  go_wp2_with fail
  refine (Q.out _).mono ?_
  rintro e v1 ⟨rfl, hb⟩
  replace L := L.grow hb
  replace S := S.grow hb
  replace U := U.grow hb
  have Lc0 := L.c0
  have Lc1 := L.c1
  have Sc0 := S.c0
  have Sc1 := S.c1
  have Sc2 := S.c2
  have Uc0 := U.c0
  have Uc1 := U.c1
  have Uc2 := U.c2
  go_wp2_with fail
  refine (R.out _).mono ?_
  rintro e v2 ⟨rfl, hb⟩
  replace L := L.grow hb
  replace S := S.grow hb
  replace U := U.grow hb
  have Lc0 := L.c0
  have Lc1 := L.c1
  have Sc0 := S.c0
  have Sc1 := S.c1
  have Sc2 := S.c2
  have Uc0 := U.c0
  have Uc1 := U.c1
  have Uc2 := U.c2
  go_wp2_with fail
  refine (Z.out _).mono ?_
  rintro e v3 ⟨rfl, hb⟩
  replace L := L.grow hb
  have Lc0 := L.c0
  have Lc1 := L.c1
  go_wp2
  go_ret
  exact ⟨rfl, L.below⟩

set_option maxHeartbeats 2000000 in
theorem losto71 (x y : Nat) (P T K A B C D G H : Int) (w : World)
    (f0 : decide (K < 7) = false) (f1 : decide (16 < K) = false) (f6 : (K == 7) = false) (f4 : decide (B < 0) = false) (f5 : decide (D < 0) = false) (f9 : decide (3 < D) = false)
    (Y : Hid (∀ w, Calls Try.prog 23 #[.int .u16 (x : Int), .int .u8 (y : Int)] w fun e w' => e = .returned (.agg #[.int .i64 P, .int .i64 T]) ∧ Below w.heap.size w w'))
    (Q : Hid (∀ w, Calls Try.prog 24 #[.agg #[.int .i64 P, .int .i64 T], .agg #[.int .i64 K, .int .i64 A, .int .i64 B]] w fun e w' => e = .returned (.tuple #[.int .i64 G, .bool true]) ∧ Below w.heap.size w w'))
    (R : Hid (∀ w, Calls Try.prog 24 #[.agg #[.int .i64 P, .int .i64 T], .agg #[.int .i64 7, .int .i64 C, .int .i64 D]] w fun e w' => e = .returned (.tuple #[.int .i64 H, .bool false]) ∧ Below w.heap.size w w'))
    : Calls Try.prog 6 #[.int .u16 (x : Int), .int .u8 (y : Int), .agg #[.int .i64 K, .int .i64 A, .int .i64 B], .agg #[.int .i64 7, .int .i64 C, .int .i64 D]] w fun e w' => e = .returned (.bool true) ∧ Below w.heap.size w w' := by
  have Z := hide (fun w => awake8 w)
  go_enter Try.func6, Try.ntmps6
  have S := SBox.first w K A B 7 C D
  have U := SBox.second w K A B 7 C D
  go_wp2_with fail
  refine (Y.out _).mono ?_
  rintro e wl ⟨rfl, hb⟩
  have hsz : w.heap.size + 1 + 1 ≤ wl.heap.size := by simpa using hb.size
  replace S := S.grow hb
  replace U := U.grow hb
  have L := LBox.behind (((grown1 w (.cells #[.int .i64 K, .int .i64 A, .int .i64 B] 30)).alloc (by simp) (.cells #[.int .i64 7, .int .i64 C, .int .i64 D] 30)).trans (hb.mono (by simp; omega))) P T 23
  replace S := S.grow (grown1 _ (.cells #[.int .i64 P, .int .i64 T] 23))
  replace U := U.grow (grown1 _ (.cells #[.int .i64 P, .int .i64 T] 23))
  have Lc0 := L.c0
  have Lc1 := L.c1
  have Sc0 := S.c0
  have Sc1 := S.c1
  have Sc2 := S.c2
  have Uc0 := U.c0
  have Uc1 := U.c1
  have Uc2 := U.c2
  go_wp2_with fail
  refine (Q.out _).mono ?_
  rintro e v1 ⟨rfl, hb⟩
  replace L := L.grow hb
  replace S := S.grow hb
  replace U := U.grow hb
  have Lc0 := L.c0
  have Lc1 := L.c1
  have Sc0 := S.c0
  have Sc1 := S.c1
  have Sc2 := S.c2
  have Uc0 := U.c0
  have Uc1 := U.c1
  have Uc2 := U.c2
  go_wp2_with fail
  refine (R.out _).mono ?_
  rintro e v2 ⟨rfl, hb⟩
  replace L := L.grow hb
  replace S := S.grow hb
  replace U := U.grow hb
  have Lc0 := L.c0
  have Lc1 := L.c1
  have Sc0 := S.c0
  have Sc1 := S.c1
  have Sc2 := S.c2
  have Uc0 := U.c0
  have Uc1 := U.c1
  have Uc2 := U.c2
  go_wp2_with fail
  refine (Z.out _).mono ?_
  rintro e v3 ⟨rfl, hb⟩
  replace L := L.grow hb
  have Lc0 := L.c0
  have Lc1 := L.c1
  go_wp2
  go_ret
  exact ⟨rfl, L.below⟩

set_option maxHeartbeats 2000000 in
theorem lostoo0 (x y : Nat) (P T K J A B C D G H : Int) (w : World)
    (f0 : decide (K < 7) = false) (f1 : decide (16 < K) = false) (f6 : (K == 7) = false) (f2 : decide (J < 7) = false) (f3 : decide (16 < J) = false) (f8 : (J == 7) = false) (f4 : decide (B < 0) = false) (f5 : decide (D < 0) = false)
    (Y : Hid (∀ w, Calls Try.prog 23 #[.int .u16 (x : Int), .int .u8 (y : Int)] w fun e w' => e = .returned (.agg #[.int .i64 P, .int .i64 T]) ∧ Below w.heap.size w w'))
    (Q : Hid (∀ w, Calls Try.prog 24 #[.agg #[.int .i64 P, .int .i64 T], .agg #[.int .i64 K, .int .i64 A, .int .i64 B]] w fun e w' => e = .returned (.tuple #[.int .i64 G, .bool false]) ∧ Below w.heap.size w w'))
    (q : Bool) (R : Hid (∀ w, Calls Try.prog 24 #[.agg #[.int .i64 P, .int .i64 T], .agg #[.int .i64 J, .int .i64 C, .int .i64 D]] w fun e w' => e = .returned (.tuple #[.int .i64 H, .bool q]) ∧ Below w.heap.size w w'))
    : Calls Try.prog 6 #[.int .u16 (x : Int), .int .u8 (y : Int), .agg #[.int .i64 K, .int .i64 A, .int .i64 B], .agg #[.int .i64 J, .int .i64 C, .int .i64 D]] w fun e w' => e = .returned (.bool true) ∧ Below w.heap.size w w' := by
  have Z := hide (fun w => awake8 w)
  go_enter Try.func6, Try.ntmps6
  have S := SBox.first w K A B J C D
  have U := SBox.second w K A B J C D
  go_wp2_with fail
  refine (Y.out _).mono ?_
  rintro e wl ⟨rfl, hb⟩
  have hsz : w.heap.size + 1 + 1 ≤ wl.heap.size := by simpa using hb.size
  replace S := S.grow hb
  replace U := U.grow hb
  have L := LBox.behind (((grown1 w (.cells #[.int .i64 K, .int .i64 A, .int .i64 B] 30)).alloc (by simp) (.cells #[.int .i64 J, .int .i64 C, .int .i64 D] 30)).trans (hb.mono (by simp; omega))) P T 23
  replace S := S.grow (grown1 _ (.cells #[.int .i64 P, .int .i64 T] 23))
  replace U := U.grow (grown1 _ (.cells #[.int .i64 P, .int .i64 T] 23))
  have Lc0 := L.c0
  have Lc1 := L.c1
  have Sc0 := S.c0
  have Sc1 := S.c1
  have Sc2 := S.c2
  have Uc0 := U.c0
  have Uc1 := U.c1
  have Uc2 := U.c2
  go_wp2_with fail
  refine (Q.out _).mono ?_
  rintro e v1 ⟨rfl, hb⟩
  replace L := L.grow hb
  replace S := S.grow hb
  replace U := U.grow hb
  have Lc0 := L.c0
  have Lc1 := L.c1
  have Sc0 := S.c0
  have Sc1 := S.c1
  have Sc2 := S.c2
  have Uc0 := U.c0
  have Uc1 := U.c1
  have Uc2 := U.c2
  go_wp2_with fail
  refine (R.out _).mono ?_
  rintro e v2 ⟨rfl, hb⟩
  replace L := L.grow hb
  replace S := S.grow hb
  replace U := U.grow hb
  have Lc0 := L.c0
  have Lc1 := L.c1
  have Sc0 := S.c0
  have Sc1 := S.c1
  have Sc2 := S.c2
  have Uc0 := U.c0
  have Uc1 := U.c1
  have Uc2 := U.c2
  go_wp2_with fail
  refine (Z.out _).mono ?_
  rintro e v3 ⟨rfl, hb⟩
  replace L := L.grow hb
  have Lc0 := L.c0
  have Lc1 := L.c1
  go_wp2
  go_ret
  exact ⟨rfl, L.below⟩

set_option maxHeartbeats 2000000 in
theorem lostoo1 (x y : Nat) (P T K J A B C D G H : Int) (w : World)
    (f0 : decide (K < 7) = false) (f1 : decide (16 < K) = false) (f6 : (K == 7) = false) (f2 : decide (J < 7) = false) (f3 : decide (16 < J) = false) (f8 : (J == 7) = false) (f4 : decide (B < 0) = false) (f5 : decide (D < 0) = false)
    (Y : Hid (∀ w, Calls Try.prog 23 #[.int .u16 (x : Int), .int .u8 (y : Int)] w fun e w' => e = .returned (.agg #[.int .i64 P, .int .i64 T]) ∧ Below w.heap.size w w'))
    (Q : Hid (∀ w, Calls Try.prog 24 #[.agg #[.int .i64 P, .int .i64 T], .agg #[.int .i64 K, .int .i64 A, .int .i64 B]] w fun e w' => e = .returned (.tuple #[.int .i64 G, .bool true]) ∧ Below w.heap.size w w'))
    (R : Hid (∀ w, Calls Try.prog 24 #[.agg #[.int .i64 P, .int .i64 T], .agg #[.int .i64 J, .int .i64 C, .int .i64 D]] w fun e w' => e = .returned (.tuple #[.int .i64 H, .bool false]) ∧ Below w.heap.size w w'))
    : Calls Try.prog 6 #[.int .u16 (x : Int), .int .u8 (y : Int), .agg #[.int .i64 K, .int .i64 A, .int .i64 B], .agg #[.int .i64 J, .int .i64 C, .int .i64 D]] w fun e w' => e = .returned (.bool true) ∧ Below w.heap.size w w' := by
  have Z := hide (fun w => awake8 w)
  go_enter Try.func6, Try.ntmps6
  have S := SBox.first w K A B J C D
  have U := SBox.second w K A B J C D
  go_wp2_with fail
  refine (Y.out _).mono ?_
  rintro e wl ⟨rfl, hb⟩
  have hsz : w.heap.size + 1 + 1 ≤ wl.heap.size := by simpa using hb.size
  replace S := S.grow hb
  replace U := U.grow hb
  have L := LBox.behind (((grown1 w (.cells #[.int .i64 K, .int .i64 A, .int .i64 B] 30)).alloc (by simp) (.cells #[.int .i64 J, .int .i64 C, .int .i64 D] 30)).trans (hb.mono (by simp; omega))) P T 23
  replace S := S.grow (grown1 _ (.cells #[.int .i64 P, .int .i64 T] 23))
  replace U := U.grow (grown1 _ (.cells #[.int .i64 P, .int .i64 T] 23))
  have Lc0 := L.c0
  have Lc1 := L.c1
  have Sc0 := S.c0
  have Sc1 := S.c1
  have Sc2 := S.c2
  have Uc0 := U.c0
  have Uc1 := U.c1
  have Uc2 := U.c2
  go_wp2_with fail
  refine (Q.out _).mono ?_
  rintro e v1 ⟨rfl, hb⟩
  replace L := L.grow hb
  replace S := S.grow hb
  replace U := U.grow hb
  have Lc0 := L.c0
  have Lc1 := L.c1
  have Sc0 := S.c0
  have Sc1 := S.c1
  have Sc2 := S.c2
  have Uc0 := U.c0
  have Uc1 := U.c1
  have Uc2 := U.c2
  go_wp2_with fail
  refine (R.out _).mono ?_
  rintro e v2 ⟨rfl, hb⟩
  replace L := L.grow hb
  replace S := S.grow hb
  replace U := U.grow hb
  have Lc0 := L.c0
  have Lc1 := L.c1
  have Sc0 := S.c0
  have Sc1 := S.c1
  have Sc2 := S.c2
  have Uc0 := U.c0
  have Uc1 := U.c1
  have Uc2 := U.c2
  go_wp2_with fail
  refine (Z.out _).mono ?_
  rintro e v3 ⟨rfl, hb⟩
  replace L := L.grow hb
  have Lc0 := L.c0
  have Lc1 := L.c1
  go_wp2
  go_ret
  exact ⟨rfl, L.below⟩

set_option maxHeartbeats 2000000 in
theorem found78 (x y : Nat) (P T  A B C D G H W : Int) (w : World)
    (f7 : decide (3 < B) = false) (f4 : decide (B < 0) = false) (f5 : decide (D < 0) = false) (g1 : decide (8 ≤ G) = true) (g2 : decide (G < W) = true) (gh : (G == H) = false)
    (Y : Hid (∀ w, Calls Try.prog 23 #[.int .u16 (x : Int), .int .u8 (y : Int)] w fun e w' => e = .returned (.agg #[.int .i64 P, .int .i64 T]) ∧ Below w.heap.size w w'))
    (Q : Hid (∀ w, Calls Try.prog 24 #[.agg #[.int .i64 P, .int .i64 T], .agg #[.int .i64 7, .int .i64 A, .int .i64 B]] w fun e w' => e = .returned (.tuple #[.int .i64 G, .bool true]) ∧ Below w.heap.size w w'))
    (R : Hid (∀ w, Calls Try.prog 24 #[.agg #[.int .i64 P, .int .i64 T], .agg #[.int .i64 8, .int .i64 C, .int .i64 D]] w fun e w' => e = .returned (.tuple #[.int .i64 H, .bool true]) ∧ Below w.heap.size w w'))
    (N : Hid (∀ w, Calls Try.prog 10 #[.agg #[.int .i64 P, .int .i64 T]] w fun e w' => e = .returned (.int .i64 W) ∧ Below w.heap.size w w'))
    : Calls Try.prog 6 #[.int .u16 (x : Int), .int .u8 (y : Int), .agg #[.int .i64 7, .int .i64 A, .int .i64 B], .agg #[.int .i64 8, .int .i64 C, .int .i64 D]] w fun e w' => e = .returned (.bool true) ∧ Below w.heap.size w w' := by
  have Z := hide (fun w => awake8 w)
  go_enter Try.func6, Try.ntmps6
  have S := SBox.first w 7 A B 8 C D
  have U := SBox.second w 7 A B 8 C D
  go_wp2_with fail
  refine (Y.out _).mono ?_
  rintro e wl ⟨rfl, hb⟩
  have hsz : w.heap.size + 1 + 1 ≤ wl.heap.size := by simpa using hb.size
  replace S := S.grow hb
  replace U := U.grow hb
  have L := LBox.behind (((grown1 w (.cells #[.int .i64 7, .int .i64 A, .int .i64 B] 30)).alloc (by simp) (.cells #[.int .i64 8, .int .i64 C, .int .i64 D] 30)).trans (hb.mono (by simp; omega))) P T 23
  replace S := S.grow (grown1 _ (.cells #[.int .i64 P, .int .i64 T] 23))
  replace U := U.grow (grown1 _ (.cells #[.int .i64 P, .int .i64 T] 23))
  have Lc0 := L.c0
  have Lc1 := L.c1
  have Sc0 := S.c0
  have Sc1 := S.c1
  have Sc2 := S.c2
  have Uc0 := U.c0
  have Uc1 := U.c1
  have Uc2 := U.c2
  go_wp2_with fail
  refine (Q.out _).mono ?_
  rintro e v1 ⟨rfl, hb⟩
  replace L := L.grow hb
  replace S := S.grow hb
  replace U := U.grow hb
  have Lc0 := L.c0
  have Lc1 := L.c1
  have Sc0 := S.c0
  have Sc1 := S.c1
  have Sc2 := S.c2
  have Uc0 := U.c0
  have Uc1 := U.c1
  have Uc2 := U.c2
  go_wp2_with fail
  refine (R.out _).mono ?_
  rintro e v2 ⟨rfl, hb⟩
  replace L := L.grow hb
  replace S := S.grow hb
  replace U := U.grow hb
  have Lc0 := L.c0
  have Lc1 := L.c1
  have Sc0 := S.c0
  have Sc1 := S.c1
  have Sc2 := S.c2
  have Uc0 := U.c0
  have Uc1 := U.c1
  have Uc2 := U.c2
  have Sf := S.fr
  have Uf := U.fr
  have Lc0 := L.c0
  have Lc1 := L.c1
  have Sc0 := S.c0
  have Sc1 := S.c1
  have Sc2 := S.c2
  have Uc0 := U.c0
  have Uc1 := U.c1
  have Uc2 := U.c2
  go_wp2_with fail
  refine (N.out _).mono ?_
  rintro e v3 ⟨rfl, hb⟩
  replace L := L.grow hb
  have Lc0 := L.c0
  have Lc1 := L.c1
  go_wp2_with fail
  refine (Z.out _).mono ?_
  rintro e v4 ⟨rfl, hb⟩
  replace L := L.grow hb
  have Lc0 := L.c0
  have Lc1 := L.c1
  go_wp2
  go_ret
  exact ⟨rfl, L.below⟩

set_option maxHeartbeats 2000000 in
theorem found87 (x y : Nat) (P T  A B C D G H W : Int) (w : World)
    (f9 : decide (3 < D) = false) (f4 : decide (B < 0) = false) (f5 : decide (D < 0) = false) (g1 : decide (8 ≤ G) = true) (g2 : decide (G < W) = true) (gh : (G == H) = false)
    (Y : Hid (∀ w, Calls Try.prog 23 #[.int .u16 (x : Int), .int .u8 (y : Int)] w fun e w' => e = .returned (.agg #[.int .i64 P, .int .i64 T]) ∧ Below w.heap.size w w'))
    (Q : Hid (∀ w, Calls Try.prog 24 #[.agg #[.int .i64 P, .int .i64 T], .agg #[.int .i64 8, .int .i64 A, .int .i64 B]] w fun e w' => e = .returned (.tuple #[.int .i64 G, .bool true]) ∧ Below w.heap.size w w'))
    (R : Hid (∀ w, Calls Try.prog 24 #[.agg #[.int .i64 P, .int .i64 T], .agg #[.int .i64 7, .int .i64 C, .int .i64 D]] w fun e w' => e = .returned (.tuple #[.int .i64 H, .bool true]) ∧ Below w.heap.size w w'))
    (N : Hid (∀ w, Calls Try.prog 10 #[.agg #[.int .i64 P, .int .i64 T]] w fun e w' => e = .returned (.int .i64 W) ∧ Below w.heap.size w w'))
    : Calls Try.prog 6 #[.int .u16 (x : Int), .int .u8 (y : Int), .agg #[.int .i64 8, .int .i64 A, .int .i64 B], .agg #[.int .i64 7, .int .i64 C, .int .i64 D]] w fun e w' => e = .returned (.bool true) ∧ Below w.heap.size w w' := by
  have Z := hide (fun w => awake8 w)
  go_enter Try.func6, Try.ntmps6
  have S := SBox.first w 8 A B 7 C D
  have U := SBox.second w 8 A B 7 C D
  go_wp2_with fail
  refine (Y.out _).mono ?_
  rintro e wl ⟨rfl, hb⟩
  have hsz : w.heap.size + 1 + 1 ≤ wl.heap.size := by simpa using hb.size
  replace S := S.grow hb
  replace U := U.grow hb
  have L := LBox.behind (((grown1 w (.cells #[.int .i64 8, .int .i64 A, .int .i64 B] 30)).alloc (by simp) (.cells #[.int .i64 7, .int .i64 C, .int .i64 D] 30)).trans (hb.mono (by simp; omega))) P T 23
  replace S := S.grow (grown1 _ (.cells #[.int .i64 P, .int .i64 T] 23))
  replace U := U.grow (grown1 _ (.cells #[.int .i64 P, .int .i64 T] 23))
  have Lc0 := L.c0
  have Lc1 := L.c1
  have Sc0 := S.c0
  have Sc1 := S.c1
  have Sc2 := S.c2
  have Uc0 := U.c0
  have Uc1 := U.c1
  have Uc2 := U.c2
  go_wp2_with fail
  refine (Q.out _).mono ?_
  rintro e v1 ⟨rfl, hb⟩
  replace L := L.grow hb
  replace S := S.grow hb
  replace U := U.grow hb
  have Lc0 := L.c0
  have Lc1 := L.c1
  have Sc0 := S.c0
  have Sc1 := S.c1
  have Sc2 := S.c2
  have Uc0 := U.c0
  have Uc1 := U.c1
  have Uc2 := U.c2
  go_wp2_with fail
  refine (R.out _).mono ?_
  rintro e v2 ⟨rfl, hb⟩
  replace L := L.grow hb
  replace S := S.grow hb
  replace U := U.grow hb
  have Lc0 := L.c0
  have Lc1 := L.c1
  have Sc0 := S.c0
  have Sc1 := S.c1
  have Sc2 := S.c2
  have Uc0 := U.c0
  have Uc1 := U.c1
  have Uc2 := U.c2
  have Sf := S.fr
  have Uf := U.fr
  have Lc0 := L.c0
  have Lc1 := L.c1
  have Sc0 := S.c0
  have Sc1 := S.c1
  have Sc2 := S.c2
  have Uc0 := U.c0
  have Uc1 := U.c1
  have Uc2 := U.c2
  go_wp2_with fail
  refine (N.out _).mono ?_
  rintro e v3 ⟨rfl, hb⟩
  replace L := L.grow hb
  have Lc0 := L.c0
  have Lc1 := L.c1
  go_wp2_with fail
  refine (Z.out _).mono ?_
  rintro e v4 ⟨rfl, hb⟩
  replace L := L.grow hb
  have Lc0 := L.c0
  have Lc1 := L.c1
  go_wp2
  go_ret
  exact ⟨rfl, L.below⟩

set_option maxHeartbeats 2000000 in
theorem found7h (x y : Nat) (P T J A B C D G H W : Int) (w : World)
    (f7 : decide (3 < B) = false) (f2 : decide (J < 7) = false) (f3 : decide (16 < J) = false) (f8 : (J == 7) = false) (fj : decide (8 < J) = true) (f4 : decide (B < 0) = false) (f5 : decide (D < 0) = false) (g1 : decide (8 ≤ G) = true) (g2 : decide (G < W) = true) (gh : (G == H) = false) (kj : ((7 : Int) == J) = false)
    (Y : Hid (∀ w, Calls Try.prog 23 #[.int .u16 (x : Int), .int .u8 (y : Int)] w fun e w' => e = .returned (.agg #[.int .i64 P, .int .i64 T]) ∧ Below w.heap.size w w'))
    (Q : Hid (∀ w, Calls Try.prog 24 #[.agg #[.int .i64 P, .int .i64 T], .agg #[.int .i64 7, .int .i64 A, .int .i64 B]] w fun e w' => e = .returned (.tuple #[.int .i64 G, .bool true]) ∧ Below w.heap.size w w'))
    (R : Hid (∀ w, Calls Try.prog 24 #[.agg #[.int .i64 P, .int .i64 T], .agg #[.int .i64 J, .int .i64 C, .int .i64 D]] w fun e w' => e = .returned (.tuple #[.int .i64 H, .bool true]) ∧ Below w.heap.size w w'))
    (N : Hid (∀ w, Calls Try.prog 10 #[.agg #[.int .i64 P, .int .i64 T]] w fun e w' => e = .returned (.int .i64 W) ∧ Below w.heap.size w w'))
    : Calls Try.prog 6 #[.int .u16 (x : Int), .int .u8 (y : Int), .agg #[.int .i64 7, .int .i64 A, .int .i64 B], .agg #[.int .i64 J, .int .i64 C, .int .i64 D]] w fun e w' => e = .returned (.bool true) ∧ Below w.heap.size w w' := by
  have Z := hide (fun w => awake8 w)
  go_enter Try.func6, Try.ntmps6
  have S := SBox.first w 7 A B J C D
  have U := SBox.second w 7 A B J C D
  go_wp2_with fail
  refine (Y.out _).mono ?_
  rintro e wl ⟨rfl, hb⟩
  have hsz : w.heap.size + 1 + 1 ≤ wl.heap.size := by simpa using hb.size
  replace S := S.grow hb
  replace U := U.grow hb
  have L := LBox.behind (((grown1 w (.cells #[.int .i64 7, .int .i64 A, .int .i64 B] 30)).alloc (by simp) (.cells #[.int .i64 J, .int .i64 C, .int .i64 D] 30)).trans (hb.mono (by simp; omega))) P T 23
  replace S := S.grow (grown1 _ (.cells #[.int .i64 P, .int .i64 T] 23))
  replace U := U.grow (grown1 _ (.cells #[.int .i64 P, .int .i64 T] 23))
  have Lc0 := L.c0
  have Lc1 := L.c1
  have Sc0 := S.c0
  have Sc1 := S.c1
  have Sc2 := S.c2
  have Uc0 := U.c0
  have Uc1 := U.c1
  have Uc2 := U.c2
  go_wp2_with fail
  refine (Q.out _).mono ?_
  rintro e v1 ⟨rfl, hb⟩
  replace L := L.grow hb
  replace S := S.grow hb
  replace U := U.grow hb
  have Lc0 := L.c0
  have Lc1 := L.c1
  have Sc0 := S.c0
  have Sc1 := S.c1
  have Sc2 := S.c2
  have Uc0 := U.c0
  have Uc1 := U.c1
  have Uc2 := U.c2
  go_wp2_with fail
  refine (R.out _).mono ?_
  rintro e v2 ⟨rfl, hb⟩
  replace L := L.grow hb
  replace S := S.grow hb
  replace U := U.grow hb
  have Lc0 := L.c0
  have Lc1 := L.c1
  have Sc0 := S.c0
  have Sc1 := S.c1
  have Sc2 := S.c2
  have Uc0 := U.c0
  have Uc1 := U.c1
  have Uc2 := U.c2
  have Sf := S.fr
  have Uf := U.fr
  have Uf2 := U.fr
  have Ud0 := U.c0
  have Ud1 := U.c1
  have Ud2 := U.c2
  replace L := L.other (j := 2) (v := .int .i64 0) (s := w.heap.size + 1) (by omega) (by omega)
  replace S := S.other (j := 2) (v := .int .i64 0) (s := w.heap.size + 1) (by omega)
  replace U := U.set2 0
  have Lc0 := L.c0
  have Lc1 := L.c1
  have Sc0 := S.c0
  have Sc1 := S.c1
  have Sc2 := S.c2
  have Uc0 := U.c0
  have Uc1 := U.c1
  have Uc2 := U.c2
  go_wp2_with fail
  refine (N.out _).mono ?_
  rintro e v3 ⟨rfl, hb⟩
  replace L := L.grow hb
  have Lc0 := L.c0
  have Lc1 := L.c1
  go_wp2_with fail
  refine (Z.out _).mono ?_
  rintro e v4 ⟨rfl, hb⟩
  replace L := L.grow hb
  have Lc0 := L.c0
  have Lc1 := L.c1
  go_wp2
  go_ret
  exact ⟨rfl, L.below⟩

set_option maxHeartbeats 2000000 in
theorem found8h (x y : Nat) (P T J A B C D G H W : Int) (w : World)
    (f2 : decide (J < 7) = false) (f3 : decide (16 < J) = false) (f8 : (J == 7) = false) (fj : decide (8 < J) = true) (f4 : decide (B < 0) = false) (f5 : decide (D < 0) = false) (g1 : decide (8 ≤ G) = true) (g2 : decide (G < W) = true) (gh : (G == H) = false) (kj : ((8 : Int) == J) = false)
    (Y : Hid (∀ w, Calls Try.prog 23 #[.int .u16 (x : Int), .int .u8 (y : Int)] w fun e w' => e = .returned (.agg #[.int .i64 P, .int .i64 T]) ∧ Below w.heap.size w w'))
    (Q : Hid (∀ w, Calls Try.prog 24 #[.agg #[.int .i64 P, .int .i64 T], .agg #[.int .i64 8, .int .i64 A, .int .i64 B]] w fun e w' => e = .returned (.tuple #[.int .i64 G, .bool true]) ∧ Below w.heap.size w w'))
    (R : Hid (∀ w, Calls Try.prog 24 #[.agg #[.int .i64 P, .int .i64 T], .agg #[.int .i64 J, .int .i64 C, .int .i64 D]] w fun e w' => e = .returned (.tuple #[.int .i64 H, .bool true]) ∧ Below w.heap.size w w'))
    (N : Hid (∀ w, Calls Try.prog 10 #[.agg #[.int .i64 P, .int .i64 T]] w fun e w' => e = .returned (.int .i64 W) ∧ Below w.heap.size w w'))
    : Calls Try.prog 6 #[.int .u16 (x : Int), .int .u8 (y : Int), .agg #[.int .i64 8, .int .i64 A, .int .i64 B], .agg #[.int .i64 J, .int .i64 C, .int .i64 D]] w fun e w' => e = .returned (.bool true) ∧ Below w.heap.size w w' := by
  have Z := hide (fun w => awake8 w)
  go_enter Try.func6, Try.ntmps6
  have S := SBox.first w 8 A B J C D
  have U := SBox.second w 8 A B J C D
  go_wp2_with fail
  refine (Y.out _).mono ?_
  rintro e wl ⟨rfl, hb⟩
  have hsz : w.heap.size + 1 + 1 ≤ wl.heap.size := by simpa using hb.size
  replace S := S.grow hb
  replace U := U.grow hb
  have L := LBox.behind (((grown1 w (.cells #[.int .i64 8, .int .i64 A, .int .i64 B] 30)).alloc (by simp) (.cells #[.int .i64 J, .int .i64 C, .int .i64 D] 30)).trans (hb.mono (by simp; omega))) P T 23
  replace S := S.grow (grown1 _ (.cells #[.int .i64 P, .int .i64 T] 23))
  replace U := U.grow (grown1 _ (.cells #[.int .i64 P, .int .i64 T] 23))
  have Lc0 := L.c0
  have Lc1 := L.c1
  have Sc0 := S.c0
  have Sc1 := S.c1
  have Sc2 := S.c2
  have Uc0 := U.c0
  have Uc1 := U.c1
  have Uc2 := U.c2
  go_wp2_with fail
  refine (Q.out _).mono ?_
  rintro e v1 ⟨rfl, hb⟩
  replace L := L.grow hb
  replace S := S.grow hb
  replace U := U.grow hb
  have Lc0 := L.c0
  have Lc1 := L.c1
  have Sc0 := S.c0
  have Sc1 := S.c1
  have Sc2 := S.c2
  have Uc0 := U.c0
  have Uc1 := U.c1
  have Uc2 := U.c2
  go_wp2_with fail
  refine (R.out _).mono ?_
  rintro e v2 ⟨rfl, hb⟩
  replace L := L.grow hb
  replace S := S.grow hb
  replace U := U.grow hb
  have Lc0 := L.c0
  have Lc1 := L.c1
  have Sc0 := S.c0
  have Sc1 := S.c1
  have Sc2 := S.c2
  have Uc0 := U.c0
  have Uc1 := U.c1
  have Uc2 := U.c2
  have Sf := S.fr
  have Uf := U.fr
  have Uf2 := U.fr
  have Ud0 := U.c0
  have Ud1 := U.c1
  have Ud2 := U.c2
  replace L := L.other (j := 2) (v := .int .i64 0) (s := w.heap.size + 1) (by omega) (by omega)
  replace S := S.other (j := 2) (v := .int .i64 0) (s := w.heap.size + 1) (by omega)
  replace U := U.set2 0
  have Lc0 := L.c0
  have Lc1 := L.c1
  have Sc0 := S.c0
  have Sc1 := S.c1
  have Sc2 := S.c2
  have Uc0 := U.c0
  have Uc1 := U.c1
  have Uc2 := U.c2
  go_wp2_with fail
  refine (N.out _).mono ?_
  rintro e v3 ⟨rfl, hb⟩
  replace L := L.grow hb
  have Lc0 := L.c0
  have Lc1 := L.c1
  go_wp2_with fail
  refine (Z.out _).mono ?_
  rintro e v4 ⟨rfl, hb⟩
  replace L := L.grow hb
  have Lc0 := L.c0
  have Lc1 := L.c1
  go_wp2
  go_ret
  exact ⟨rfl, L.below⟩

set_option maxHeartbeats 2000000 in
theorem foundh7 (x y : Nat) (P T K A B C D G H W : Int) (w : World)
    (f0 : decide (K < 7) = false) (f1 : decide (16 < K) = false) (f6 : (K == 7) = false) (fk : decide (8 < K) = true) (f9 : decide (3 < D) = false) (f4 : decide (B < 0) = false) (f5 : decide (D < 0) = false) (g1 : decide (8 ≤ G) = true) (g2 : decide (G < W) = true) (gh : (G == H) = false)
    (Y : Hid (∀ w, Calls Try.prog 23 #[.int .u16 (x : Int), .int .u8 (y : Int)] w fun e w' => e = .returned (.agg #[.int .i64 P, .int .i64 T]) ∧ Below w.heap.size w w'))
    (Q : Hid (∀ w, Calls Try.prog 24 #[.agg #[.int .i64 P, .int .i64 T], .agg #[.int .i64 K, .int .i64 A, .int .i64 B]] w fun e w' => e = .returned (.tuple #[.int .i64 G, .bool true]) ∧ Below w.heap.size w w'))
    (R : Hid (∀ w, Calls Try.prog 24 #[.agg #[.int .i64 P, .int .i64 T], .agg #[.int .i64 7, .int .i64 C, .int .i64 D]] w fun e w' => e = .returned (.tuple #[.int .i64 H, .bool true]) ∧ Below w.heap.size w w'))
    (N : Hid (∀ w, Calls Try.prog 10 #[.agg #[.int .i64 P, .int .i64 T]] w fun e w' => e = .returned (.int .i64 W) ∧ Below w.heap.size w w'))
    : Calls Try.prog 6 #[.int .u16 (x : Int), .int .u8 (y : Int), .agg #[.int .i64 K, .int .i64 A, .int .i64 B], .agg #[.int .i64 7, .int .i64 C, .int .i64 D]] w fun e w' => e = .returned (.bool true) ∧ Below w.heap.size w w' := by
  have Z := hide (fun w => awake8 w)
  go_enter Try.func6, Try.ntmps6
  have S := SBox.first w K A B 7 C D
  have U := SBox.second w K A B 7 C D
  go_wp2_with fail
  refine (Y.out _).mono ?_
  rintro e wl ⟨rfl, hb⟩
  have hsz : w.heap.size + 1 + 1 ≤ wl.heap.size := by simpa using hb.size
  replace S := S.grow hb
  replace U := U.grow hb
  have L := LBox.behind (((grown1 w (.cells #[.int .i64 K, .int .i64 A, .int .i64 B] 30)).alloc (by simp) (.cells #[.int .i64 7, .int .i64 C, .int .i64 D] 30)).trans (hb.mono (by simp; omega))) P T 23
  replace S := S.grow (grown1 _ (.cells #[.int .i64 P, .int .i64 T] 23))
  replace U := U.grow (grown1 _ (.cells #[.int .i64 P, .int .i64 T] 23))
  have Lc0 := L.c0
  have Lc1 := L.c1
  have Sc0 := S.c0
  have Sc1 := S.c1
  have Sc2 := S.c2
  have Uc0 := U.c0
  have Uc1 := U.c1
  have Uc2 := U.c2
  go_wp2_with fail
  refine (Q.out _).mono ?_
  rintro e v1 ⟨rfl, hb⟩
  replace L := L.grow hb
  replace S := S.grow hb
  replace U := U.grow hb
  have Lc0 := L.c0
  have Lc1 := L.c1
  have Sc0 := S.c0
  have Sc1 := S.c1
  have Sc2 := S.c2
  have Uc0 := U.c0
  have Uc1 := U.c1
  have Uc2 := U.c2
  go_wp2_with fail
  refine (R.out _).mono ?_
  rintro e v2 ⟨rfl, hb⟩
  replace L := L.grow hb
  replace S := S.grow hb
  replace U := U.grow hb
  have Lc0 := L.c0
  have Lc1 := L.c1
  have Sc0 := S.c0
  have Sc1 := S.c1
  have Sc2 := S.c2
  have Uc0 := U.c0
  have Uc1 := U.c1
  have Uc2 := U.c2
  have Sf := S.fr
  have Uf := U.fr
  replace L := L.other (j := 2) (v := .int .i64 0) (s := w.heap.size) (by omega) (by omega)
  replace U := U.other (j := 2) (v := .int .i64 0) (s := w.heap.size) (by omega)
  replace S := S.set2 0
  have Lc0 := L.c0
  have Lc1 := L.c1
  have Sc0 := S.c0
  have Sc1 := S.c1
  have Sc2 := S.c2
  have Uc0 := U.c0
  have Uc1 := U.c1
  have Uc2 := U.c2
  go_wp2_with fail
  refine (N.out _).mono ?_
  rintro e v3 ⟨rfl, hb⟩
  replace L := L.grow hb
  have Lc0 := L.c0
  have Lc1 := L.c1
  go_wp2_with fail
  refine (Z.out _).mono ?_
  rintro e v4 ⟨rfl, hb⟩
  replace L := L.grow hb
  have Lc0 := L.c0
  have Lc1 := L.c1
  go_wp2
  go_ret
  exact ⟨rfl, L.below⟩

set_option maxHeartbeats 2000000 in
theorem foundh8 (x y : Nat) (P T K A B C D G H W : Int) (w : World)
    (f0 : decide (K < 7) = false) (f1 : decide (16 < K) = false) (f6 : (K == 7) = false) (fk : decide (8 < K) = true) (f4 : decide (B < 0) = false) (f5 : decide (D < 0) = false) (g1 : decide (8 ≤ G) = true) (g2 : decide (G < W) = true) (gh : (G == H) = false) (kj : (K == 8) = false)
    (Y : Hid (∀ w, Calls Try.prog 23 #[.int .u16 (x : Int), .int .u8 (y : Int)] w fun e w' => e = .returned (.agg #[.int .i64 P, .int .i64 T]) ∧ Below w.heap.size w w'))
    (Q : Hid (∀ w, Calls Try.prog 24 #[.agg #[.int .i64 P, .int .i64 T], .agg #[.int .i64 K, .int .i64 A, .int .i64 B]] w fun e w' => e = .returned (.tuple #[.int .i64 G, .bool true]) ∧ Below w.heap.size w w'))
    (R : Hid (∀ w, Calls Try.prog 24 #[.agg #[.int .i64 P, .int .i64 T], .agg #[.int .i64 8, .int .i64 C, .int .i64 D]] w fun e w' => e = .returned (.tuple #[.int .i64 H, .bool true]) ∧ Below w.heap.size w w'))
    (N : Hid (∀ w, Calls Try.prog 10 #[.agg #[.int .i64 P, .int .i64 T]] w fun e w' => e = .returned (.int .i64 W) ∧ Below w.heap.size w w'))
    : Calls Try.prog 6 #[.int .u16 (x : Int), .int .u8 (y : Int), .agg #[.int .i64 K, .int .i64 A, .int .i64 B], .agg #[.int .i64 8, .int .i64 C, .int .i64 D]] w fun e w' => e = .returned (.bool true) ∧ Below w.heap.size w w' := by
  have Z := hide (fun w => awake8 w)
  go_enter Try.func6, Try.ntmps6
  have S := SBox.first w K A B 8 C D
  have U := SBox.second w K A B 8 C D
  go_wp2_with fail
  refine (Y.out _).mono ?_
  rintro e wl ⟨rfl, hb⟩
  have hsz : w.heap.size + 1 + 1 ≤ wl.heap.size := by simpa using hb.size
  replace S := S.grow hb
  replace U := U.grow hb
  have L := LBox.behind (((grown1 w (.cells #[.int .i64 K, .int .i64 A, .int .i64 B] 30)).alloc (by simp) (.cells #[.int .i64 8, .int .i64 C, .int .i64 D] 30)).trans (hb.mono (by simp; omega))) P T 23
  replace S := S.grow (grown1 _ (.cells #[.int .i64 P, .int .i64 T] 23))
  replace U := U.grow (grown1 _ (.cells #[.int .i64 P, .int .i64 T] 23))
  have Lc0 := L.c0
  have Lc1 := L.c1
  have Sc0 := S.c0
  have Sc1 := S.c1
  have Sc2 := S.c2
  have Uc0 := U.c0
  have Uc1 := U.c1
  have Uc2 := U.c2
  go_wp2_with fail
  refine (Q.out _).mono ?_
  rintro e v1 ⟨rfl, hb⟩
  replace L := L.grow hb
  replace S := S.grow hb
  replace U := U.grow hb
  have Lc0 := L.c0
  have Lc1 := L.c1
  have Sc0 := S.c0
  have Sc1 := S.c1
  have Sc2 := S.c2
  have Uc0 := U.c0
  have Uc1 := U.c1
  have Uc2 := U.c2
  go_wp2_with fail
  refine (R.out _).mono ?_
  rintro e v2 ⟨rfl, hb⟩
  replace L := L.grow hb
  replace S := S.grow hb
  replace U := U.grow hb
  have Lc0 := L.c0
  have Lc1 := L.c1
  have Sc0 := S.c0
  have Sc1 := S.c1
  have Sc2 := S.c2
  have Uc0 := U.c0
  have Uc1 := U.c1
  have Uc2 := U.c2
  have Sf := S.fr
  have Uf := U.fr
  replace L := L.other (j := 2) (v := .int .i64 0) (s := w.heap.size) (by omega) (by omega)
  replace U := U.other (j := 2) (v := .int .i64 0) (s := w.heap.size) (by omega)
  replace S := S.set2 0
  have Lc0 := L.c0
  have Lc1 := L.c1
  have Sc0 := S.c0
  have Sc1 := S.c1
  have Sc2 := S.c2
  have Uc0 := U.c0
  have Uc1 := U.c1
  have Uc2 := U.c2
  go_wp2_with fail
  refine (N.out _).mono ?_
  rintro e v3 ⟨rfl, hb⟩
  replace L := L.grow hb
  have Lc0 := L.c0
  have Lc1 := L.c1
  go_wp2_with fail
  refine (Z.out _).mono ?_
  rintro e v4 ⟨rfl, hb⟩
  replace L := L.grow hb
  have Lc0 := L.c0
  have Lc1 := L.c1
  go_wp2
  go_ret
  exact ⟨rfl, L.below⟩

set_option maxHeartbeats 2000000 in
theorem found77s (x y : Nat) (P T  A B G  W : Int) (w : World)
    (f7 : decide (3 < B) = false) (f4 : decide (B < 0) = false) (g1 : decide (8 ≤ G) = true) (g2 : decide (G < W) = true)
    (Y : Hid (∀ w, Calls Try.prog 23 #[.int .u16 (x : Int), .int .u8 (y : Int)] w fun e w' => e = .returned (.agg #[.int .i64 P, .int .i64 T]) ∧ Below w.heap.size w w'))
    (Q : Hid (∀ w, Calls Try.prog 24 #[.agg #[.int .i64 P, .int .i64 T], .agg #[.int .i64 7, .int .i64 A, .int .i64 B]] w fun e w' => e = .returned (.tuple #[.int .i64 G, .bool true]) ∧ Below w.heap.size w w'))
    (R : Hid (∀ w, Calls Try.prog 24 #[.agg #[.int .i64 P, .int .i64 T], .agg #[.int .i64 7, .int .i64 A, .int .i64 B]] w fun e w' => e = .returned (.tuple #[.int .i64 G, .bool true]) ∧ Below w.heap.size w w'))
    (N : Hid (∀ w, Calls Try.prog 10 #[.agg #[.int .i64 P, .int .i64 T]] w fun e w' => e = .returned (.int .i64 W) ∧ Below w.heap.size w w'))
    : Calls Try.prog 6 #[.int .u16 (x : Int), .int .u8 (y : Int), .agg #[.int .i64 7, .int .i64 A, .int .i64 B], .agg #[.int .i64 7, .int .i64 A, .int .i64 B]] w fun e w' => e = .returned (.bool true) ∧ Below w.heap.size w w' := by
  have Z := hide (fun w => awake8 w)
  go_enter Try.func6, Try.ntmps6
  have S := SBox.first w 7 A B 7 A B
  have U := SBox.second w 7 A B 7 A B
  go_wp2_with fail
  refine (Y.out _).mono ?_
  rintro e wl ⟨rfl, hb⟩
  have hsz : w.heap.size + 1 + 1 ≤ wl.heap.size := by simpa using hb.size
  replace S := S.grow hb
  replace U := U.grow hb
  have L := LBox.behind (((grown1 w (.cells #[.int .i64 7, .int .i64 A, .int .i64 B] 30)).alloc (by simp) (.cells #[.int .i64 7, .int .i64 A, .int .i64 B] 30)).trans (hb.mono (by simp; omega))) P T 23
  replace S := S.grow (grown1 _ (.cells #[.int .i64 P, .int .i64 T] 23))
  replace U := U.grow (grown1 _ (.cells #[.int .i64 P, .int .i64 T] 23))
  have Lc0 := L.c0
  have Lc1 := L.c1
  have Sc0 := S.c0
  have Sc1 := S.c1
  have Sc2 := S.c2
  have Uc0 := U.c0
  have Uc1 := U.c1
  have Uc2 := U.c2
  go_wp2_with fail
  refine (Q.out _).mono ?_
  rintro e v1 ⟨rfl, hb⟩
  replace L := L.grow hb
  replace S := S.grow hb
  replace U := U.grow hb
  have Lc0 := L.c0
  have Lc1 := L.c1
  have Sc0 := S.c0
  have Sc1 := S.c1
  have Sc2 := S.c2
  have Uc0 := U.c0
  have Uc1 := U.c1
  have Uc2 := U.c2
  go_wp2_with fail
  refine (R.out _).mono ?_
  rintro e v2 ⟨rfl, hb⟩
  replace L := L.grow hb
  replace S := S.grow hb
  replace U := U.grow hb
  have Lc0 := L.c0
  have Lc1 := L.c1
  have Sc0 := S.c0
  have Sc1 := S.c1
  have Sc2 := S.c2
  have Uc0 := U.c0
  have Uc1 := U.c1
  have Uc2 := U.c2
  have Sf := S.fr
  have Uf := U.fr
  have Lc0 := L.c0
  have Lc1 := L.c1
  have Sc0 := S.c0
  have Sc1 := S.c1
  have Sc2 := S.c2
  have Uc0 := U.c0
  have Uc1 := U.c1
  have Uc2 := U.c2
  go_wp2_with fail
  refine (N.out _).mono ?_
  rintro e v3 ⟨rfl, hb⟩
  replace L := L.grow hb
  have Lc0 := L.c0
  have Lc1 := L.c1
  go_wp2_with fail
  refine (Z.out _).mono ?_
  rintro e v4 ⟨rfl, hb⟩
  replace L := L.grow hb
  have Lc0 := L.c0
  have Lc1 := L.c1
  go_wp2
  go_ret
  exact ⟨rfl, L.below⟩

set_option maxHeartbeats 2000000 in
theorem found77a (x y : Nat) (P T  A B C D G H W : Int) (w : World)
    (f7 : decide (3 < B) = false) (f9 : decide (3 < D) = false) (f4 : decide (B < 0) = false) (f5 : decide (D < 0) = false) (g1 : decide (8 ≤ G) = true) (g2 : decide (G < W) = true) (gh : (G == H) = false) (ac : (A == C) = false)
    (Y : Hid (∀ w, Calls Try.prog 23 #[.int .u16 (x : Int), .int .u8 (y : Int)] w fun e w' => e = .returned (.agg #[.int .i64 P, .int .i64 T]) ∧ Below w.heap.size w w'))
    (Q : Hid (∀ w, Calls Try.prog 24 #[.agg #[.int .i64 P, .int .i64 T], .agg #[.int .i64 7, .int .i64 A, .int .i64 B]] w fun e w' => e = .returned (.tuple #[.int .i64 G, .bool true]) ∧ Below w.heap.size w w'))
    (R : Hid (∀ w, Calls Try.prog 24 #[.agg #[.int .i64 P, .int .i64 T], .agg #[.int .i64 7, .int .i64 C, .int .i64 D]] w fun e w' => e = .returned (.tuple #[.int .i64 H, .bool true]) ∧ Below w.heap.size w w'))
    (N : Hid (∀ w, Calls Try.prog 10 #[.agg #[.int .i64 P, .int .i64 T]] w fun e w' => e = .returned (.int .i64 W) ∧ Below w.heap.size w w'))
    : Calls Try.prog 6 #[.int .u16 (x : Int), .int .u8 (y : Int), .agg #[.int .i64 7, .int .i64 A, .int .i64 B], .agg #[.int .i64 7, .int .i64 C, .int .i64 D]] w fun e w' => e = .returned (.bool true) ∧ Below w.heap.size w w' := by
  have Z := hide (fun w => awake8 w)
  go_enter Try.func6, Try.ntmps6
  have S := SBox.first w 7 A B 7 C D
  have U := SBox.second w 7 A B 7 C D
  go_wp2_with fail
  refine (Y.out _).mono ?_
  rintro e wl ⟨rfl, hb⟩
  have hsz : w.heap.size + 1 + 1 ≤ wl.heap.size := by simpa using hb.size
  replace S := S.grow hb
  replace U := U.grow hb
  have L := LBox.behind (((grown1 w (.cells #[.int .i64 7, .int .i64 A, .int .i64 B] 30)).alloc (by simp) (.cells #[.int .i64 7, .int .i64 C, .int .i64 D] 30)).trans (hb.mono (by simp; omega))) P T 23
  replace S := S.grow (grown1 _ (.cells #[.int .i64 P, .int .i64 T] 23))
  replace U := U.grow (grown1 _ (.cells #[.int .i64 P, .int .i64 T] 23))
  have Lc0 := L.c0
  have Lc1 := L.c1
  have Sc0 := S.c0
  have Sc1 := S.c1
  have Sc2 := S.c2
  have Uc0 := U.c0
  have Uc1 := U.c1
  have Uc2 := U.c2
  go_wp2_with fail
  refine (Q.out _).mono ?_
  rintro e v1 ⟨rfl, hb⟩
  replace L := L.grow hb
  replace S := S.grow hb
  replace U := U.grow hb
  have Lc0 := L.c0
  have Lc1 := L.c1
  have Sc0 := S.c0
  have Sc1 := S.c1
  have Sc2 := S.c2
  have Uc0 := U.c0
  have Uc1 := U.c1
  have Uc2 := U.c2
  go_wp2_with fail
  refine (R.out _).mono ?_
  rintro e v2 ⟨rfl, hb⟩
  replace L := L.grow hb
  replace S := S.grow hb
  replace U := U.grow hb
  have Lc0 := L.c0
  have Lc1 := L.c1
  have Sc0 := S.c0
  have Sc1 := S.c1
  have Sc2 := S.c2
  have Uc0 := U.c0
  have Uc1 := U.c1
  have Uc2 := U.c2
  have Sf := S.fr
  have Uf := U.fr
  have Lc0 := L.c0
  have Lc1 := L.c1
  have Sc0 := S.c0
  have Sc1 := S.c1
  have Sc2 := S.c2
  have Uc0 := U.c0
  have Uc1 := U.c1
  have Uc2 := U.c2
  go_wp2_with fail
  refine (N.out _).mono ?_
  rintro e v3 ⟨rfl, hb⟩
  replace L := L.grow hb
  have Lc0 := L.c0
  have Lc1 := L.c1
  go_wp2_with fail
  refine (Z.out _).mono ?_
  rintro e v4 ⟨rfl, hb⟩
  replace L := L.grow hb
  have Lc0 := L.c0
  have Lc1 := L.c1
  go_wp2
  go_ret
  exact ⟨rfl, L.below⟩

set_option maxHeartbeats 2000000 in
theorem found77b (x y : Nat) (P T  A B D G H W : Int) (w : World)
    (f7 : decide (3 < B) = false) (f9 : decide (3 < D) = false) (f4 : decide (B < 0) = false) (f5 : decide (D < 0) = false) (g1 : decide (8 ≤ G) = true) (g2 : decide (G < W) = true) (gh : (G == H) = false) (bd : (B == D) = false)
    (Y : Hid (∀ w, Calls Try.prog 23 #[.int .u16 (x : Int), .int .u8 (y : Int)] w fun e w' => e = .returned (.agg #[.int .i64 P, .int .i64 T]) ∧ Below w.heap.size w w'))
    (Q : Hid (∀ w, Calls Try.prog 24 #[.agg #[.int .i64 P, .int .i64 T], .agg #[.int .i64 7, .int .i64 A, .int .i64 B]] w fun e w' => e = .returned (.tuple #[.int .i64 G, .bool true]) ∧ Below w.heap.size w w'))
    (R : Hid (∀ w, Calls Try.prog 24 #[.agg #[.int .i64 P, .int .i64 T], .agg #[.int .i64 7, .int .i64 A, .int .i64 D]] w fun e w' => e = .returned (.tuple #[.int .i64 H, .bool true]) ∧ Below w.heap.size w w'))
    (N : Hid (∀ w, Calls Try.prog 10 #[.agg #[.int .i64 P, .int .i64 T]] w fun e w' => e = .returned (.int .i64 W) ∧ Below w.heap.size w w'))
    : Calls Try.prog 6 #[.int .u16 (x : Int), .int .u8 (y : Int), .agg #[.int .i64 7, .int .i64 A, .int .i64 B], .agg #[.int .i64 7, .int .i64 A, .int .i64 D]] w fun e w' => e = .returned (.bool true) ∧ Below w.heap.size w w' := by
  have Z := hide (fun w => awake8 w)
  go_enter Try.func6, Try.ntmps6
  have S := SBox.first w 7 A B 7 A D
  have U := SBox.second w 7 A B 7 A D
  go_wp2_with fail
  refine (Y.out _).mono ?_
  rintro e wl ⟨rfl, hb⟩
  have hsz : w.heap.size + 1 + 1 ≤ wl.heap.size := by simpa using hb.size
  replace S := S.grow hb
  replace U := U.grow hb
  have L := LBox.behind (((grown1 w (.cells #[.int .i64 7, .int .i64 A, .int .i64 B] 30)).alloc (by simp) (.cells #[.int .i64 7, .int .i64 A, .int .i64 D] 30)).trans (hb.mono (by simp; omega))) P T 23
  replace S := S.grow (grown1 _ (.cells #[.int .i64 P, .int .i64 T] 23))
  replace U := U.grow (grown1 _ (.cells #[.int .i64 P, .int .i64 T] 23))
  have Lc0 := L.c0
  have Lc1 := L.c1
  have Sc0 := S.c0
  have Sc1 := S.c1
  have Sc2 := S.c2
  have Uc0 := U.c0
  have Uc1 := U.c1
  have Uc2 := U.c2
  go_wp2_with fail
  refine (Q.out _).mono ?_
  rintro e v1 ⟨rfl, hb⟩
  replace L := L.grow hb
  replace S := S.grow hb
  replace U := U.grow hb
  have Lc0 := L.c0
  have Lc1 := L.c1
  have Sc0 := S.c0
  have Sc1 := S.c1
  have Sc2 := S.c2
  have Uc0 := U.c0
  have Uc1 := U.c1
  have Uc2 := U.c2
  go_wp2_with fail
  refine (R.out _).mono ?_
  rintro e v2 ⟨rfl, hb⟩
  replace L := L.grow hb
  replace S := S.grow hb
  replace U := U.grow hb
  have Lc0 := L.c0
  have Lc1 := L.c1
  have Sc0 := S.c0
  have Sc1 := S.c1
  have Sc2 := S.c2
  have Uc0 := U.c0
  have Uc1 := U.c1
  have Uc2 := U.c2
  have Sf := S.fr
  have Uf := U.fr
  have Lc0 := L.c0
  have Lc1 := L.c1
  have Sc0 := S.c0
  have Sc1 := S.c1
  have Sc2 := S.c2
  have Uc0 := U.c0
  have Uc1 := U.c1
  have Uc2 := U.c2
  go_wp2_with fail
  refine (N.out _).mono ?_
  rintro e v3 ⟨rfl, hb⟩
  replace L := L.grow hb
  have Lc0 := L.c0
  have Lc1 := L.c1
  go_wp2_with fail
  refine (Z.out _).mono ?_
  rintro e v4 ⟨rfl, hb⟩
  replace L := L.grow hb
  have Lc0 := L.c0
  have Lc1 := L.c1
  go_wp2
  go_ret
  exact ⟨rfl, L.below⟩

set_option maxHeartbeats 2000000 in
theorem found88s (x y : Nat) (P T  A B G  W : Int) (w : World)
    (f4 : decide (B < 0) = false) (g1 : decide (8 ≤ G) = true) (g2 : decide (G < W) = true)
    (Y : Hid (∀ w, Calls Try.prog 23 #[.int .u16 (x : Int), .int .u8 (y : Int)] w fun e w' => e = .returned (.agg #[.int .i64 P, .int .i64 T]) ∧ Below w.heap.size w w'))
    (Q : Hid (∀ w, Calls Try.prog 24 #[.agg #[.int .i64 P, .int .i64 T], .agg #[.int .i64 8, .int .i64 A, .int .i64 B]] w fun e w' => e = .returned (.tuple #[.int .i64 G, .bool true]) ∧ Below w.heap.size w w'))
    (R : Hid (∀ w, Calls Try.prog 24 #[.agg #[.int .i64 P, .int .i64 T], .agg #[.int .i64 8, .int .i64 A, .int .i64 B]] w fun e w' => e = .returned (.tuple #[.int .i64 G, .bool true]) ∧ Below w.heap.size w w'))
    (N : Hid (∀ w, Calls Try.prog 10 #[.agg #[.int .i64 P, .int .i64 T]] w fun e w' => e = .returned (.int .i64 W) ∧ Below w.heap.size w w'))
    : Calls Try.prog 6 #[.int .u16 (x : Int), .int .u8 (y : Int), .agg #[.int .i64 8, .int .i64 A, .int .i64 B], .agg #[.int .i64 8, .int .i64 A, .int .i64 B]] w fun e w' => e = .returned (.bool true) ∧ Below w.heap.size w w' := by
  have Z := hide (fun w => awake8 w)
  go_enter Try.func6, Try.ntmps6
  have S := SBox.first w 8 A B 8 A B
  have U := SBox.second w 8 A B 8 A B
  go_wp2_with fail
  refine (Y.out _).mono ?_
  rintro e wl ⟨rfl, hb⟩
  have hsz : w.heap.size + 1 + 1 ≤ wl.heap.size := by simpa using hb.size
  replace S := S.grow hb
  replace U := U.grow hb
  have L := LBox.behind (((grown1 w (.cells #[.int .i64 8, .int .i64 A, .int .i64 B] 30)).alloc (by simp) (.cells #[.int .i64 8, .int .i64 A, .int .i64 B] 30)).trans (hb.mono (by simp; omega))) P T 23
  replace S := S.grow (grown1 _ (.cells #[.int .i64 P, .int .i64 T] 23))
  replace U := U.grow (grown1 _ (.cells #[.int .i64 P, .int .i64 T] 23))
  have Lc0 := L.c0
  have Lc1 := L.c1
  have Sc0 := S.c0
  have Sc1 := S.c1
  have Sc2 := S.c2
  have Uc0 := U.c0
  have Uc1 := U.c1
  have Uc2 := U.c2
  go_wp2_with fail
  refine (Q.out _).mono ?_
  rintro e v1 ⟨rfl, hb⟩
  replace L := L.grow hb
  replace S := S.grow hb
  replace U := U.grow hb
  have Lc0 := L.c0
  have Lc1 := L.c1
  have Sc0 := S.c0
  have Sc1 := S.c1
  have Sc2 := S.c2
  have Uc0 := U.c0
  have Uc1 := U.c1
  have Uc2 := U.c2
  go_wp2_with fail
  refine (R.out _).mono ?_
  rintro e v2 ⟨rfl, hb⟩
  replace L := L.grow hb
  replace S := S.grow hb
  replace U := U.grow hb
  have Lc0 := L.c0
  have Lc1 := L.c1
  have Sc0 := S.c0
  have Sc1 := S.c1
  have Sc2 := S.c2
  have Uc0 := U.c0
  have Uc1 := U.c1
  have Uc2 := U.c2
  have Sf := S.fr
  have Uf := U.fr
  have Lc0 := L.c0
  have Lc1 := L.c1
  have Sc0 := S.c0
  have Sc1 := S.c1
  have Sc2 := S.c2
  have Uc0 := U.c0
  have Uc1 := U.c1
  have Uc2 := U.c2
  go_wp2_with fail
  refine (N.out _).mono ?_
  rintro e v3 ⟨rfl, hb⟩
  replace L := L.grow hb
  have Lc0 := L.c0
  have Lc1 := L.c1
  go_wp2_with fail
  refine (Z.out _).mono ?_
  rintro e v4 ⟨rfl, hb⟩
  replace L := L.grow hb
  have Lc0 := L.c0
  have Lc1 := L.c1
  go_wp2
  go_ret
  exact ⟨rfl, L.below⟩

set_option maxHeartbeats 2000000 in
theorem found88a (x y : Nat) (P T  A B C D G H W : Int) (w : World)
    (f4 : decide (B < 0) = false) (f5 : decide (D < 0) = false) (g1 : decide (8 ≤ G) = true) (g2 : decide (G < W) = true) (gh : (G == H) = false) (ac : (A == C) = false)
    (Y : Hid (∀ w, Calls Try.prog 23 #[.int .u16 (x : Int), .int .u8 (y : Int)] w fun e w' => e = .returned (.agg #[.int .i64 P, .int .i64 T]) ∧ Below w.heap.size w w'))
    (Q : Hid (∀ w, Calls Try.prog 24 #[.agg #[.int .i64 P, .int .i64 T], .agg #[.int .i64 8, .int .i64 A, .int .i64 B]] w fun e w' => e = .returned (.tuple #[.int .i64 G, .bool true]) ∧ Below w.heap.size w w'))
    (R : Hid (∀ w, Calls Try.prog 24 #[.agg #[.int .i64 P, .int .i64 T], .agg #[.int .i64 8, .int .i64 C, .int .i64 D]] w fun e w' => e = .returned (.tuple #[.int .i64 H, .bool true]) ∧ Below w.heap.size w w'))
    (N : Hid (∀ w, Calls Try.prog 10 #[.agg #[.int .i64 P, .int .i64 T]] w fun e w' => e = .returned (.int .i64 W) ∧ Below w.heap.size w w'))
    : Calls Try.prog 6 #[.int .u16 (x : Int), .int .u8 (y : Int), .agg #[.int .i64 8, .int .i64 A, .int .i64 B], .agg #[.int .i64 8, .int .i64 C, .int .i64 D]] w fun e w' => e = .returned (.bool true) ∧ Below w.heap.size w w' := by
  have Z := hide (fun w => awake8 w)
  go_enter Try.func6, Try.ntmps6
  have S := SBox.first w 8 A B 8 C D
  have U := SBox.second w 8 A B 8 C D
  go_wp2_with fail
  refine (Y.out _).mono ?_
  rintro e wl ⟨rfl, hb⟩
  have hsz : w.heap.size + 1 + 1 ≤ wl.heap.size := by simpa using hb.size
  replace S := S.grow hb
  replace U := U.grow hb
  have L := LBox.behind (((grown1 w (.cells #[.int .i64 8, .int .i64 A, .int .i64 B] 30)).alloc (by simp) (.cells #[.int .i64 8, .int .i64 C, .int .i64 D] 30)).trans (hb.mono (by simp; omega))) P T 23
  replace S := S.grow (grown1 _ (.cells #[.int .i64 P, .int .i64 T] 23))
  replace U := U.grow (grown1 _ (.cells #[.int .i64 P, .int .i64 T] 23))
  have Lc0 := L.c0
  have Lc1 := L.c1
  have Sc0 := S.c0
  have Sc1 := S.c1
  have Sc2 := S.c2
  have Uc0 := U.c0
  have Uc1 := U.c1
  have Uc2 := U.c2
  go_wp2_with fail
  refine (Q.out _).mono ?_
  rintro e v1 ⟨rfl, hb⟩
  replace L := L.grow hb
  replace S := S.grow hb
  replace U := U.grow hb
  have Lc0 := L.c0
  have Lc1 := L.c1
  have Sc0 := S.c0
  have Sc1 := S.c1
  have Sc2 := S.c2
  have Uc0 := U.c0
  have Uc1 := U.c1
  have Uc2 := U.c2
  go_wp2_with fail
  refine (R.out _).mono ?_
  rintro e v2 ⟨rfl, hb⟩
  replace L := L.grow hb
  replace S := S.grow hb
  replace U := U.grow hb
  have Lc0 := L.c0
  have Lc1 := L.c1
  have Sc0 := S.c0
  have Sc1 := S.c1
  have Sc2 := S.c2
  have Uc0 := U.c0
  have Uc1 := U.c1
  have Uc2 := U.c2
  have Sf := S.fr
  have Uf := U.fr
  have Lc0 := L.c0
  have Lc1 := L.c1
  have Sc0 := S.c0
  have Sc1 := S.c1
  have Sc2 := S.c2
  have Uc0 := U.c0
  have Uc1 := U.c1
  have Uc2 := U.c2
  go_wp2_with fail
  refine (N.out _).mono ?_
  rintro e v3 ⟨rfl, hb⟩
  replace L := L.grow hb
  have Lc0 := L.c0
  have Lc1 := L.c1
  go_wp2_with fail
  refine (Z.out _).mono ?_
  rintro e v4 ⟨rfl, hb⟩
  replace L := L.grow hb
  have Lc0 := L.c0
  have Lc1 := L.c1
  go_wp2
  go_ret
  exact ⟨rfl, L.below⟩

set_option maxHeartbeats 2000000 in
theorem found88b (x y : Nat) (P T  A B D G H W : Int) (w : World)
    (f4 : decide (B < 0) = false) (f5 : decide (D < 0) = false) (g1 : decide (8 ≤ G) = true) (g2 : decide (G < W) = true) (gh : (G == H) = false) (bd : (B == D) = false)
    (Y : Hid (∀ w, Calls Try.prog 23 #[.int .u16 (x : Int), .int .u8 (y : Int)] w fun e w' => e = .returned (.agg #[.int .i64 P, .int .i64 T]) ∧ Below w.heap.size w w'))
    (Q : Hid (∀ w, Calls Try.prog 24 #[.agg #[.int .i64 P, .int .i64 T], .agg #[.int .i64 8, .int .i64 A, .int .i64 B]] w fun e w' => e = .returned (.tuple #[.int .i64 G, .bool true]) ∧ Below w.heap.size w w'))
    (R : Hid (∀ w, Calls Try.prog 24 #[.agg #[.int .i64 P, .int .i64 T], .agg #[.int .i64 8, .int .i64 A, .int .i64 D]] w fun e w' => e = .returned (.tuple #[.int .i64 H, .bool true]) ∧ Below w.heap.size w w'))
    (N : Hid (∀ w, Calls Try.prog 10 #[.agg #[.int .i64 P, .int .i64 T]] w fun e w' => e = .returned (.int .i64 W) ∧ Below w.heap.size w w'))
    : Calls Try.prog 6 #[.int .u16 (x : Int), .int .u8 (y : Int), .agg #[.int .i64 8, .int .i64 A, .int .i64 B], .agg #[.int .i64 8, .int .i64 A, .int .i64 D]] w fun e w' => e = .returned (.bool true) ∧ Below w.heap.size w w' := by
  have Z := hide (fun w => awake8 w)
  go_enter Try.func6, Try.ntmps6
  have S := SBox.first w 8 A B 8 A D
  have U := SBox.second w 8 A B 8 A D
  go_wp2_with fail
  refine (Y.out _).mono ?_
  rintro e wl ⟨rfl, hb⟩
  have hsz : w.heap.size + 1 + 1 ≤ wl.heap.size := by simpa using hb.size
  replace S := S.grow hb
  replace U := U.grow hb
  have L := LBox.behind (((grown1 w (.cells #[.int .i64 8, .int .i64 A, .int .i64 B] 30)).alloc (by simp) (.cells #[.int .i64 8, .int .i64 A, .int .i64 D] 30)).trans (hb.mono (by simp; omega))) P T 23
  replace S := S.grow (grown1 _ (.cells #[.int .i64 P, .int .i64 T] 23))
  replace U := U.grow (grown1 _ (.cells #[.int .i64 P, .int .i64 T] 23))
  have Lc0 := L.c0
  have Lc1 := L.c1
  have Sc0 := S.c0
  have Sc1 := S.c1
  have Sc2 := S.c2
  have Uc0 := U.c0
  have Uc1 := U.c1
  have Uc2 := U.c2
  go_wp2_with fail
  refine (Q.out _).mono ?_
  rintro e v1 ⟨rfl, hb⟩
  replace L := L.grow hb
  replace S := S.grow hb
  replace U := U.grow hb
  have Lc0 := L.c0
  have Lc1 := L.c1
  have Sc0 := S.c0
  have Sc1 := S.c1
  have Sc2 := S.c2
  have Uc0 := U.c0
  have Uc1 := U.c1
  have Uc2 := U.c2
  go_wp2_with fail
  refine (R.out _).mono ?_
  rintro e v2 ⟨rfl, hb⟩
  replace L := L.grow hb
  replace S := S.grow hb
  replace U := U.grow hb
  have Lc0 := L.c0
  have Lc1 := L.c1
  have Sc0 := S.c0
  have Sc1 := S.c1
  have Sc2 := S.c2
  have Uc0 := U.c0
  have Uc1 := U.c1
  have Uc2 := U.c2
  have Sf := S.fr
  have Uf := U.fr
  have Lc0 := L.c0
  have Lc1 := L.c1
  have Sc0 := S.c0
  have Sc1 := S.c1
  have Sc2 := S.c2
  have Uc0 := U.c0
  have Uc1 := U.c1
  have Uc2 := U.c2
  go_wp2_with fail
  refine (N.out _).mono ?_
  rintro e v3 ⟨rfl, hb⟩
  replace L := L.grow hb
  have Lc0 := L.c0
  have Lc1 := L.c1
  go_wp2_with fail
  refine (Z.out _).mono ?_
  rintro e v4 ⟨rfl, hb⟩
  replace L := L.grow hb
  have Lc0 := L.c0
  have Lc1 := L.c1
  go_wp2
  go_ret
  exact ⟨rfl, L.below⟩

set_option maxHeartbeats 2000000 in
theorem foundhhs (x y : Nat) (P T K A B D G  W : Int) (w : World)
    (f0 : decide (K < 7) = false) (f1 : decide (16 < K) = false) (f6 : (K == 7) = false) (fk : decide (8 < K) = true) (f4 : decide (B < 0) = false) (f5 : decide (D < 0) = false) (g1 : decide (8 ≤ G) = true) (g2 : decide (G < W) = true)
    (Y : Hid (∀ w, Calls Try.prog 23 #[.int .u16 (x : Int), .int .u8 (y : Int)] w fun e w' => e = .returned (.agg #[.int .i64 P, .int .i64 T]) ∧ Below w.heap.size w w'))
    (Q : Hid (∀ w, Calls Try.prog 24 #[.agg #[.int .i64 P, .int .i64 T], .agg #[.int .i64 K, .int .i64 A, .int .i64 B]] w fun e w' => e = .returned (.tuple #[.int .i64 G, .bool true]) ∧ Below w.heap.size w w'))
    (R : Hid (∀ w, Calls Try.prog 24 #[.agg #[.int .i64 P, .int .i64 T], .agg #[.int .i64 K, .int .i64 A, .int .i64 D]] w fun e w' => e = .returned (.tuple #[.int .i64 G, .bool true]) ∧ Below w.heap.size w w'))
    (N : Hid (∀ w, Calls Try.prog 10 #[.agg #[.int .i64 P, .int .i64 T]] w fun e w' => e = .returned (.int .i64 W) ∧ Below w.heap.size w w'))
    : Calls Try.prog 6 #[.int .u16 (x : Int), .int .u8 (y : Int), .agg #[.int .i64 K, .int .i64 A, .int .i64 B], .agg #[.int .i64 K, .int .i64 A, .int .i64 D]] w fun e w' => e = .returned (.bool true) ∧ Below w.heap.size w w' := by
  have Z := hide (fun w => awake8 w)
  go_enter Try.func6, Try.ntmps6
  have S := SBox.first w K A B K A D
  have U := SBox.second w K A B K A D
  go_wp2_with fail
  refine (Y.out _).mono ?_
  rintro e wl ⟨rfl, hb⟩
  have hsz : w.heap.size + 1 + 1 ≤ wl.heap.size := by simpa using hb.size
  replace S := S.grow hb
  replace U := U.grow hb
  have L := LBox.behind (((grown1 w (.cells #[.int .i64 K, .int .i64 A, .int .i64 B] 30)).alloc (by simp) (.cells #[.int .i64 K, .int .i64 A, .int .i64 D] 30)).trans (hb.mono (by simp; omega))) P T 23
  replace S := S.grow (grown1 _ (.cells #[.int .i64 P, .int .i64 T] 23))
  replace U := U.grow (grown1 _ (.cells #[.int .i64 P, .int .i64 T] 23))
  have Lc0 := L.c0
  have Lc1 := L.c1
  have Sc0 := S.c0
  have Sc1 := S.c1
  have Sc2 := S.c2
  have Uc0 := U.c0
  have Uc1 := U.c1
  have Uc2 := U.c2
  go_wp2_with fail
  refine (Q.out _).mono ?_
  rintro e v1 ⟨rfl, hb⟩
  replace L := L.grow hb
  replace S := S.grow hb
  replace U := U.grow hb
  have Lc0 := L.c0
  have Lc1 := L.c1
  have Sc0 := S.c0
  have Sc1 := S.c1
  have Sc2 := S.c2
  have Uc0 := U.c0
  have Uc1 := U.c1
  have Uc2 := U.c2
  go_wp2_with fail
  refine (R.out _).mono ?_
  rintro e v2 ⟨rfl, hb⟩
  replace L := L.grow hb
  replace S := S.grow hb
  replace U := U.grow hb
  have Lc0 := L.c0
  have Lc1 := L.c1
  have Sc0 := S.c0
  have Sc1 := S.c1
  have Sc2 := S.c2
  have Uc0 := U.c0
  have Uc1 := U.c1
  have Uc2 := U.c2
  have Sf := S.fr
  have Uf := U.fr
  replace L := L.other (j := 2) (v := .int .i64 0) (s := w.heap.size) (by omega) (by omega)
  replace U := U.other (j := 2) (v := .int .i64 0) (s := w.heap.size) (by omega)
  replace S := S.set2 0
  have Uf2 := U.fr
  have Ud0 := U.c0
  have Ud1 := U.c1
  have Ud2 := U.c2
  replace L := L.other (j := 2) (v := .int .i64 0) (s := w.heap.size + 1) (by omega) (by omega)
  replace S := S.other (j := 2) (v := .int .i64 0) (s := w.heap.size + 1) (by omega)
  replace U := U.set2 0
  have Lc0 := L.c0
  have Lc1 := L.c1
  have Sc0 := S.c0
  have Sc1 := S.c1
  have Sc2 := S.c2
  have Uc0 := U.c0
  have Uc1 := U.c1
  have Uc2 := U.c2
  go_wp2_with fail
  refine (N.out _).mono ?_
  rintro e v3 ⟨rfl, hb⟩
  replace L := L.grow hb
  have Lc0 := L.c0
  have Lc1 := L.c1
  go_wp2_with fail
  refine (Z.out _).mono ?_
  rintro e v4 ⟨rfl, hb⟩
  replace L := L.grow hb
  have Lc0 := L.c0
  have Lc1 := L.c1
  go_wp2
  go_ret
  exact ⟨rfl, L.below⟩

set_option maxHeartbeats 2000000 in
theorem foundhhk (x y : Nat) (P T K J A B C D G H W : Int) (w : World)
    (f0 : decide (K < 7) = false) (f1 : decide (16 < K) = false) (f6 : (K == 7) = false) (fk : decide (8 < K) = true) (f2 : decide (J < 7) = false) (f3 : decide (16 < J) = false) (f8 : (J == 7) = false) (fj : decide (8 < J) = true) (f4 : decide (B < 0) = false) (f5 : decide (D < 0) = false) (g1 : decide (8 ≤ G) = true) (g2 : decide (G < W) = true) (gh : (G == H) = false) (kj : (K == J) = false)
    (Y : Hid (∀ w, Calls Try.prog 23 #[.int .u16 (x : Int), .int .u8 (y : Int)] w fun e w' => e = .returned (.agg #[.int .i64 P, .int .i64 T]) ∧ Below w.heap.size w w'))
    (Q : Hid (∀ w, Calls Try.prog 24 #[.agg #[.int .i64 P, .int .i64 T], .agg #[.int .i64 K, .int .i64 A, .int .i64 B]] w fun e w' => e = .returned (.tuple #[.int .i64 G, .bool true]) ∧ Below w.heap.size w w'))
    (R : Hid (∀ w, Calls Try.prog 24 #[.agg #[.int .i64 P, .int .i64 T], .agg #[.int .i64 J, .int .i64 C, .int .i64 D]] w fun e w' => e = .returned (.tuple #[.int .i64 H, .bool true]) ∧ Below w.heap.size w w'))
    (N : Hid (∀ w, Calls Try.prog 10 #[.agg #[.int .i64 P, .int .i64 T]] w fun e w' => e = .returned (.int .i64 W) ∧ Below w.heap.size w w'))
    : Calls Try.prog 6 #[.int .u16 (x : Int), .int .u8 (y : Int), .agg #[.int .i64 K, .int .i64 A, .int .i64 B], .agg #[.int .i64 J, .int .i64 C, .int .i64 D]] w fun e w' => e = .returned (.bool true) ∧ Below w.heap.size w w' := by
  have Z := hide (fun w => awake8 w)
  go_enter Try.func6, Try.ntmps6
  have S := SBox.first w K A B J C D
  have U := SBox.second w K A B J C D
  go_wp2_with fail
  refine (Y.out _).mono ?_
  rintro e wl ⟨rfl, hb⟩
  have hsz : w.heap.size + 1 + 1 ≤ wl.heap.size := by simpa using hb.size
  replace S := S.grow hb
  replace U := U.grow hb
  have L := LBox.behind (((grown1 w (.cells #[.int .i64 K, .int .i64 A, .int .i64 B] 30)).alloc (by simp) (.cells #[.int .i64 J, .int .i64 C, .int .i64 D] 30)).trans (hb.mono (by simp; omega))) P T 23
  replace S := S.grow (grown1 _ (.cells #[.int .i64 P, .int .i64 T] 23))
  replace U := U.grow (grown1 _ (.cells #[.int .i64 P, .int .i64 T] 23))
  have Lc0 := L.c0
  have Lc1 := L.c1
  have Sc0 := S.c0
  have Sc1 := S.c1
  have Sc2 := S.c2
  have Uc0 := U.c0
  have Uc1 := U.c1
  have Uc2 := U.c2
  go_wp2_with fail
  refine (Q.out _).mono ?_
  rintro e v1 ⟨rfl, hb⟩
  replace L := L.grow hb
  replace S := S.grow hb
  replace U := U.grow hb
  have Lc0 := L.c0
  have Lc1 := L.c1
  have Sc0 := S.c0
  have Sc1 := S.c1
  have Sc2 := S.c2
  have Uc0 := U.c0
  have Uc1 := U.c1
  have Uc2 := U.c2
  go_wp2_with fail
  refine (R.out _).mono ?_
  rintro e v2 ⟨rfl, hb⟩
  replace L := L.grow hb
  replace S := S.grow hb
  replace U := U.grow hb
  have Lc0 := L.c0
  have Lc1 := L.c1
  have Sc0 := S.c0
  have Sc1 := S.c1
  have Sc2 := S.c2
  have Uc0 := U.c0
  have Uc1 := U.c1
  have Uc2 := U.c2
  have Sf := S.fr
  have Uf := U.fr
  replace L := L.other (j := 2) (v := .int .i64 0) (s := w.heap.size) (by omega) (by omega)
  replace U := U.other (j := 2) (v := .int .i64 0) (s := w.heap.size) (by omega)
  replace S := S.set2 0
  have Uf2 := U.fr
  have Ud0 := U.c0
  have Ud1 := U.c1
  have Ud2 := U.c2
  replace L := L.other (j := 2) (v := .int .i64 0) (s := w.heap.size + 1) (by omega) (by omega)
  replace S := S.other (j := 2) (v := .int .i64 0) (s := w.heap.size + 1) (by omega)
  replace U := U.set2 0
  have Lc0 := L.c0
  have Lc1 := L.c1
  have Sc0 := S.c0
  have Sc1 := S.c1
  have Sc2 := S.c2
  have Uc0 := U.c0
  have Uc1 := U.c1
  have Uc2 := U.c2
  go_wp2_with fail
  refine (N.out _).mono ?_
  rintro e v3 ⟨rfl, hb⟩
  replace L := L.grow hb
  have Lc0 := L.c0
  have Lc1 := L.c1
  go_wp2_with fail
  refine (Z.out _).mono ?_
  rintro e v4 ⟨rfl, hb⟩
  replace L := L.grow hb
  have Lc0 := L.c0
  have Lc1 := L.c1
  go_wp2
  go_ret
  exact ⟨rfl, L.below⟩

set_option maxHeartbeats 2000000 in
theorem foundhha (x y : Nat) (P T K A B C D G H W : Int) (w : World)
    (f0 : decide (K < 7) = false) (f1 : decide (16 < K) = false) (f6 : (K == 7) = false) (fk : decide (8 < K) = true) (f4 : decide (B < 0) = false) (f5 : decide (D < 0) = false) (g1 : decide (8 ≤ G) = true) (g2 : decide (G < W) = true) (gh : (G == H) = false) (ac : (A == C) = false)
    (Y : Hid (∀ w, Calls Try.prog 23 #[.int .u16 (x : Int), .int .u8 (y : Int)] w fun e w' => e = .returned (.agg #[.int .i64 P, .int .i64 T]) ∧ Below w.heap.size w w'))
    (Q : Hid (∀ w, Calls Try.prog 24 #[.agg #[.int .i64 P, .int .i64 T], .agg #[.int .i64 K, .int .i64 A, .int .i64 B]] w fun e w' => e = .returned (.tuple #[.int .i64 G, .bool true]) ∧ Below w.heap.size w w'))
    (R : Hid (∀ w, Calls Try.prog 24 #[.agg #[.int .i64 P, .int .i64 T], .agg #[.int .i64 K, .int .i64 C, .int .i64 D]] w fun e w' => e = .returned (.tuple #[.int .i64 H, .bool true]) ∧ Below w.heap.size w w'))
    (N : Hid (∀ w, Calls Try.prog 10 #[.agg #[.int .i64 P, .int .i64 T]] w fun e w' => e = .returned (.int .i64 W) ∧ Below w.heap.size w w'))
    : Calls Try.prog 6 #[.int .u16 (x : Int), .int .u8 (y : Int), .agg #[.int .i64 K, .int .i64 A, .int .i64 B], .agg #[.int .i64 K, .int .i64 C, .int .i64 D]] w fun e w' => e = .returned (.bool true) ∧ Below w.heap.size w w' := by
  have Z := hide (fun w => awake8 w)
  go_enter Try.func6, Try.ntmps6
  have S := SBox.first w K A B K C D
  have U := SBox.second w K A B K C D
  go_wp2_with fail
  refine (Y.out _).mono ?_
  rintro e wl ⟨rfl, hb⟩
  have hsz : w.heap.size + 1 + 1 ≤ wl.heap.size := by simpa using hb.size
  replace S := S.grow hb
  replace U := U.grow hb
  have L := LBox.behind (((grown1 w (.cells #[.int .i64 K, .int .i64 A, .int .i64 B] 30)).alloc (by simp) (.cells #[.int .i64 K, .int .i64 C, .int .i64 D] 30)).trans (hb.mono (by simp; omega))) P T 23
  replace S := S.grow (grown1 _ (.cells #[.int .i64 P, .int .i64 T] 23))
  replace U := U.grow (grown1 _ (.cells #[.int .i64 P, .int .i64 T] 23))
  have Lc0 := L.c0
  have Lc1 := L.c1
  have Sc0 := S.c0
  have Sc1 := S.c1
  have Sc2 := S.c2
  have Uc0 := U.c0
  have Uc1 := U.c1
  have Uc2 := U.c2
  go_wp2_with fail
  refine (Q.out _).mono ?_
  rintro e v1 ⟨rfl, hb⟩
  replace L := L.grow hb
  replace S := S.grow hb
  replace U := U.grow hb
  have Lc0 := L.c0
  have Lc1 := L.c1
  have Sc0 := S.c0
  have Sc1 := S.c1
  have Sc2 := S.c2
  have Uc0 := U.c0
  have Uc1 := U.c1
  have Uc2 := U.c2
  go_wp2_with fail
  refine (R.out _).mono ?_
  rintro e v2 ⟨rfl, hb⟩
  replace L := L.grow hb
  replace S := S.grow hb
  replace U := U.grow hb
  have Lc0 := L.c0
  have Lc1 := L.c1
  have Sc0 := S.c0
  have Sc1 := S.c1
  have Sc2 := S.c2
  have Uc0 := U.c0
  have Uc1 := U.c1
  have Uc2 := U.c2
  have Sf := S.fr
  have Uf := U.fr
  replace L := L.other (j := 2) (v := .int .i64 0) (s := w.heap.size) (by omega) (by omega)
  replace U := U.other (j := 2) (v := .int .i64 0) (s := w.heap.size) (by omega)
  replace S := S.set2 0
  have Uf2 := U.fr
  have Ud0 := U.c0
  have Ud1 := U.c1
  have Ud2 := U.c2
  replace L := L.other (j := 2) (v := .int .i64 0) (s := w.heap.size + 1) (by omega) (by omega)
  replace S := S.other (j := 2) (v := .int .i64 0) (s := w.heap.size + 1) (by omega)
  replace U := U.set2 0
  have Lc0 := L.c0
  have Lc1 := L.c1
  have Sc0 := S.c0
  have Sc1 := S.c1
  have Sc2 := S.c2
  have Uc0 := U.c0
  have Uc1 := U.c1
  have Uc2 := U.c2
  go_wp2_with fail
  refine (N.out _).mono ?_
  rintro e v3 ⟨rfl, hb⟩
  replace L := L.grow hb
  have Lc0 := L.c0
  have Lc1 := L.c1
  go_wp2_with fail
  refine (Z.out _).mono ?_
  rintro e v4 ⟨rfl, hb⟩
  replace L := L.grow hb
  have Lc0 := L.c0
  have Lc1 := L.c1
  go_wp2
  go_ret
  exact ⟨rfl, L.below⟩

theorem walk (x : Nat) (hx : x < 65536) (y : Nat) (hy : y < 256) (K A B : Int) (_hK : -9223372036854775808 ≤ K ∧ K ≤ 9223372036854775807) (_hA : -9223372036854775808 ≤ A ∧ A ≤ 9223372036854775807) (hB : -9223372036854775808 ≤ B ∧ B ≤ 9223372036854775807) (J C D : Int) (_hJ : -9223372036854775808 ≤ J ∧ J ≤ 9223372036854775807) (_hC : -9223372036854775808 ≤ C ∧ C ≤ 9223372036854775807) (hD : -9223372036854775808 ≤ D ∧ D ≤ 9223372036854775807) (w : World) :
    Calls Try.prog 6 #[.int .u16 (x : Int), .int .u8 (y : Int), .agg #[.int .i64 K, .int .i64 A, .int .i64 B], .agg #[.int .i64 J, .int .i64 C, .int .i64 D]] w fun e w' => e = .returned (.bool true) ∧ Below w.heap.size w w' := by
  have Y := hide (fun w => lay8 x y hx hy w)
  obtain ⟨P, eP⟩ : ∃ P : Int, 1 + (x : Int) % 4096 = P := ⟨_, rfl⟩
  obtain ⟨T, eT⟩ : ∃ T : Int, 1 + (y : Int) % 64 = T := ⟨_, rfl⟩
  rw [eP, eT] at Y
  have hm : Lay.may P T = true := Lay.may_iff.2 (by omega)
  have hwt := Lay.words_in hm
  have N := hide (fun w => lwords P T w)
  clear eP eT hx hy
  by_cases f0 : K < 7
  · exact bad0 x y P T K J A B C D w (decide_eq_true f0) Y
  by_cases f1 : 16 < K
  · exact bad1 x y P T K J A B C D w (decide_eq_false f0) (decide_eq_true f1) Y
  by_cases f2 : J < 7
  · exact bad2 x y P T K J A B C D w (decide_eq_false f0) (decide_eq_false f1) (decide_eq_true f2) Y
  by_cases f3 : 16 < J
  · exact bad3 x y P T K J A B C D w (decide_eq_false f0) (decide_eq_false f1) (decide_eq_false f2) (decide_eq_true f3) Y
  by_cases f4 : B < 0
  · exact bad4 x y P T K J A B C D w (decide_eq_false f0) (decide_eq_false f1) (decide_eq_false f2) (decide_eq_false f3) (decide_eq_true f4) Y
  by_cases f5 : D < 0
  · exact bad5 x y P T K J A B C D w (decide_eq_false f0) (decide_eq_false f1) (decide_eq_false f2) (decide_eq_false f3) (decide_eq_false f4) (decide_eq_true f5) Y
  have d0 := decide_eq_false f0
  have d1 := decide_eq_false f1
  have d2 := decide_eq_false f2
  have d3 := decide_eq_false f3
  have d4 := decide_eq_false f4
  have d5 := decide_eq_false f5
  by_cases b7 : K = 7 ∧ 3 < B
  · obtain ⟨k7, h3⟩ := b7
    subst k7
    exact badx x y P T J A B C D w d2 d3 d4 d5 (decide_eq_true h3) Y
  by_cases b9 : J = 7 ∧ 3 < D
  · obtain ⟨j7, h3⟩ := b9
    subst j7
    by_cases k7 : K = 7
    · subst k7
      exact bady7 x y P T A B C D w d4 d5 (decide_eq_false (by omega)) (decide_eq_true h3) Y
    · exact badyo x y P T K A B C D w d0 d1 (by simp [k7]) d4 d5 (decide_eq_true h3) Y
  have Q := hide (fun w => find8 P T K A B (by omega) hB.2 w)
  have R := hide (fun w => find8 P T J C D (by omega) hD.2 w)
  obtain ⟨⟨G, q⟩, eQ⟩ : ∃ r, Lay.find P T K A B = r := ⟨_, rfl⟩
  obtain ⟨⟨H, r⟩, eR⟩ : ∃ r, Lay.find P T J C D = r := ⟨_, rfl⟩
  rw [eQ] at Q
  rw [eR] at R
  cases q
  · by_cases k7 : K = 7
    · subst k7
      by_cases j7 : J = 7
      · subst j7
        exact lost770 x y P T A B C D G H w d4 d5 (decide_eq_false (by omega)) (decide_eq_false (by omega)) Y Q r R
      · exact lost7o0 x y P T J A B C D G H w d2 d3 (by simp [j7]) d4 d5 (decide_eq_false (by omega)) Y Q r R
    · by_cases j7 : J = 7
      · subst j7
        exact losto70 x y P T K A B C D G H w d0 d1 (by simp [k7]) d4 d5 (decide_eq_false (by omega)) Y Q r R
      · exact lostoo0 x y P T K J A B C D G H w d0 d1 (by simp [k7]) d2 d3 (by simp [j7]) d4 d5 Y Q r R
  cases r
  · by_cases k7 : K = 7
    · subst k7
      by_cases j7 : J = 7
      · subst j7
        exact lost771 x y P T A B C D G H w d4 d5 (decide_eq_false (by omega)) (decide_eq_false (by omega)) Y Q R
      · exact lost7o1 x y P T J A B C D G H w d2 d3 (by simp [j7]) d4 d5 (decide_eq_false (by omega)) Y Q R
    · by_cases j7 : J = 7
      · subst j7
        exact losto71 x y P T K A B C D G H w d0 d1 (by simp [k7]) d4 d5 (decide_eq_false (by omega)) Y Q R
      · exact lostoo1 x y P T K J A B C D G H w d0 d1 (by simp [k7]) d2 d3 (by simp [j7]) d4 d5 Y Q R
  obtain ⟨g1, g2, g3⟩ := Lay.find_spot hm (by omega) (by omega) (by omega) (fun h => by omega) eQ
  obtain ⟨j1, j2, j3⟩ := Lay.find_spot hm (by omega) (by omega) (by omega) (fun h => by omega) eR
  have e1 := decide_eq_true g1
  have e2 : decide (G < Lay.words P T) = true := decide_eq_true (by omega)
  -- two words are one just if the names are one
  have far : (K ≠ J ∨ A ≠ C ∨ Lay.norm K B ≠ Lay.norm J D) → (G == H) = false := by
    intro h
    simp only [beq_eq_false_iff_ne, ne_eq]
    rintro rfl
    rw [g3] at j3
    simp only [Prod.mk.injEq] at j3
    obtain ⟨u1, u2, u3⟩ := j3
    rcases h with h | h | h
    · exact h u1
    · exact h u2
    · exact h u3
  have near : K = J → A = C → Lay.norm K B = Lay.norm J D → H = G := by
    intro u1 u2 u3
    have k1 := Lay.find_norm (P := P) (T := T) (K := K) (A := A) (B := B)
    have k2 := Lay.find_norm (P := P) (T := T) (K := J) (A := C) (B := D)
    rw [eQ] at k1
    rw [eR] at k2
    rw [u1, u2] at k1
    rw [u1] at u3
    rw [u3, ← k2] at k1
    simp only [Prod.mk.injEq, and_true] at k1
    exact k1.symm
  have n8 : ∀ X Z : Int, X ≤ 8 → Lay.norm X Z = Z := fun X Z h => if_neg (by omega)
  have n9 : ∀ X Z : Int, 8 < X → Lay.norm X Z = 0 := fun X Z h => if_pos h
  by_cases k7 : K = 7
  · subst k7
    have b3 : decide (3 < B) = false := decide_eq_false (by omega)
    by_cases j7 : J = 7
    · subst j7
      have b4 : decide (3 < D) = false := decide_eq_false (by omega)
      by_cases ac : A = C
      · subst ac
        by_cases bd : B = D
        · subst bd
          obtain rfl := near rfl rfl rfl
          exact found77s x y P T A B H _ w b3 d4 e1 e2 Y Q R N
        · exact found77b x y P T A B D G H _ w b3 b4 d4 d5 e1 e2 (far (.inr (.inr (by rw [n8 7 B (by decide), n8 7 D (by decide)]; exact bd)))) (by simp [bd]) Y Q R N
      · exact found77a x y P T A B C D G H _ w b3 b4 d4 d5 e1 e2 (far (.inr (.inl ac))) (by simp [ac]) Y Q R N
    by_cases j8 : J = 8
    · subst j8
      exact found78 x y P T A B C D G H _ w b3 d4 d5 e1 e2 (far (.inl (by decide))) Y Q R N
    · exact found7h x y P T J A B C D G H _ w b3 d2 d3 (by simp [j7]) (decide_eq_true (by omega)) d4 d5 e1 e2 (far (.inl (by omega))) (by simp; omega) Y Q R N
  by_cases k8 : K = 8
  · subst k8
    by_cases j7 : J = 7
    · subst j7
      exact found87 x y P T A B C D G H _ w (decide_eq_false (by omega)) d4 d5 e1 e2 (far (.inl (by decide))) Y Q R N
    by_cases j8 : J = 8
    · subst j8
      by_cases ac : A = C
      · subst ac
        by_cases bd : B = D
        · subst bd
          obtain rfl := near rfl rfl rfl
          exact found88s x y P T A B H _ w d4 e1 e2 Y Q R N
        · exact found88b x y P T A B D G H _ w d4 d5 e1 e2 (far (.inr (.inr (by rw [n8 8 B (by decide), n8 8 D (by decide)]; exact bd)))) (by simp [bd]) Y Q R N
      · exact found88a x y P T A B C D G H _ w d4 d5 e1 e2 (far (.inr (.inl ac))) (by simp [ac]) Y Q R N
    · exact found8h x y P T J A B C D G H _ w d2 d3 (by simp [j7]) (decide_eq_true (by omega)) d4 d5 e1 e2 (far (.inl (by omega))) (by simp; omega) Y Q R N
  have t7 : (K == 7) = false := by simp [k7]
  have tk : decide (8 < K) = true := decide_eq_true (by omega)
  by_cases j7 : J = 7
  · subst j7
    exact foundh7 x y P T K A B C D G H _ w d0 d1 t7 tk (decide_eq_false (by omega)) d4 d5 e1 e2 (far (.inl k7)) Y Q R N
  by_cases j8 : J = 8
  · subst j8
    exact foundh8 x y P T K A B C D G H _ w d0 d1 t7 tk d4 d5 e1 e2 (far (.inl k8)) (by simp [k8]) Y Q R N
  have t8 : (J == 7) = false := by simp [j7]
  have tj : decide (8 < J) = true := decide_eq_true (by omega)
  by_cases kj : K = J
  · subst kj
    by_cases ac : A = C
    · subst ac
      obtain rfl := near rfl rfl (by rw [n9 K B (by omega), n9 K D (by omega)])
      exact foundhhs x y P T K A B D H _ w d0 d1 t7 tk d4 d5 e1 e2 Y Q R N
    · exact foundhha x y P T K A B C D G H _ w d0 d1 t7 tk d4 d5 e1 e2 (far (.inr (.inl ac))) (by simp [ac]) Y Q R N
  · exact foundhhk x y P T K J A B C D G H _ w d0 d1 t7 tk d2 d3 t8 tj d4 d5 e1 e2 (far (.inl kj)) (by simp [kj]) Y Q R N

set_option maxRecDepth 100000 in
theorem lifted (os : Os) (started : os.Started) (H : Type) (enc : TypeId × Value → H) :
    ReturnsInHanded {} Try.checked os 6 .any (Rows.layoutOneSpec.pre6 enc Try.prog Try.f6 Rows.layoutOneRow.domain false) (Rows.layoutOneSpec.post enc Try.prog Try.f6 false true false false) := by
  refine returnsInHanded_of_change (C := Try.checked) own started (by kernel_rfl) Try.func6
    (ChangeSpec.witness6 (enc := enc) (C := Try.checked) false ⟨#[], #[.int .u16 0, .int .u8 0, .agg #[.int .i64 0, .int .i64 0, .int .i64 0], .agg #[.int .i64 0, .int .i64 0, .int .i64 0]], []⟩ 8 (by kernel_rfl) (by kernel_rfl) (by kernel_rfl) (by kernel_rfl)) ?_
  intro W base args ds gs before hval0 hW _ _
  have hval : ∀ (j : Nat) t v, Try.f6.params[j]? = some t → args[j]? = some v → Value.okWide Try.prog W .any base t v := hval0
  have hW' := hW
  obtain ⟨p, q, hA0, hV, rfl, hfz, hnd⟩ := hW
  have hA : DataW.TrodAll enc Try.prog W 0 (fun _ => true) true Try.f6.params.toList args.toList ds p := hA0
  rw [Try.params6] at hA hval
  obtain ⟨v0, vs0, d0, ds0, p0, q0, hargs, rfl, rfl, h0, r0⟩ := trodAll_cons hA
  obtain ⟨v1, vs1, d1, ds1, p1, q1, rfl, rfl, rfl, h1, r1⟩ := trodAll_cons r0
  obtain ⟨v2, vs2, d2, ds2, p2, q2, rfl, rfl, rfl, h2, r2⟩ := trodAll_cons r1
  obtain ⟨v3, vs3, d3, ds3, p3, q3, rfl, rfl, rfl, h3, r3⟩ := trodAll_cons r2
  obtain ⟨rfl, rfl, rfl⟩ := trodAll_nil r3
  obtain rfl : args = #[v0, v1, v2, v3] := by cases args; simp_all
  obtain ⟨rfl, rfl⟩ := trodVars_none hV
  obtain ⟨a0, rfl, rfl, rfl, w0⟩ := open_int Try.underlying35 (hval 0 35 v0 rfl rfl) h0
  obtain ⟨a1, rfl, rfl, rfl, w1⟩ := open_int Try.underlying5 (hval 1 5 v1 rfl rfl) h1
  have h2k := h2
  have lt2 : ∀ x ∈ p2, x.block < W.heap.size := fun x hx => hW'.lt x (by simp [hx])
  obtain ⟨l2_0, l2_1, l2_2, rfl, f2_0, f2_1, f2_2⟩ := open_spot (hval 2 30 v2 rfl rfl) h2
  have h3k := h3
  have lt3 : ∀ x ∈ p3, x.block < W.heap.size := fun x hx => hW'.lt x (by simp [hx])
  obtain ⟨l3_0, l3_1, l3_2, rfl, f3_0, f3_1, f3_2⟩ := open_spot (hval 3 30 v3 rfl rfl) h3
  clear hA0 hval0
  obtain ⟨x0, hx0, rfl⟩ := u16_nat w0
  obtain ⟨x1, hx1, rfl⟩ := u8_nat w1
  refine (walk x0 hx0 x1 hx1 l2_0 l2_1 l2_2 f2_0 f2_1 f2_2 l3_0 l3_1 l3_2 f3_0 f3_1 f3_2 W).mono fun e W' ⟨he, bel⟩ => ?_
  subst he
  exact ⟨_, rfl, _, _, _, [], _, [], hW', trodAll_mk1 (shut_bool Try.underlying4 _), (trodAll_cons_mk (shut_int Try.underlying35 w0) (trodAll_cons_mk (shut_int Try.underlying5 w1) (trodAll_cons_mk (Below.trod laidOut (by kernel_rfl) (of_decide_eq_true (by kernel_rfl)) h2k bel lt2) (trodAll_cons_mk (Below.trod laidOut (by kernel_rfl) (of_decide_eq_true (by kernel_rfl)) h3k bel lt3) trodAll_mk0)))), rfl, bel.frame _, fun h => by cases h⟩

end Go.Proofs.Ytcjfnlijkkefaaa.layoutOne
namespace Go.Proofs.Ytcjfnlijkkefaaa

theorem layoutOne_holds : Rows.LayoutOneSaid :=
  OpenClaim.holds_of_wide 6 Try.f6 rfl rfl rfl rfl rfl rfl rfl ⟨rfl, rfl, rfl, rfl, rfl⟩ rfl rfl rfl rfl rfl (by kernel_rfl) Try.func6 (by kernel_rfl)
    (of_decide_eq_true (by kernel_rfl)) (by unfold Func.isWrapper; first | (rw [if_pos (by decide +kernel)]; kernel_rfl) | (rw [if_neg (by decide +kernel)]; exact ⟨rfl, rfl⟩))
    (fun os started H enc _ => layoutOne.lifted os started H enc)
end Go.Proofs.Ytcjfnlijkkefaaa
