/- The small calls of the statements on layouts: a layout made of numbers, the word of a thing by its name, the document's example. -/
import Derived.Test.YtcjfnlijkkefaaaLayName
namespace Go.Proofs.Ytcjfnlijkkefaaa
open Go.RowKit

/-- A layout boxed behind a call. -/
theorem LBox.behind {w0 w : World} (hb : Below w0.heap.size w0 w) (P T : Int) (t : TypeId) : LBox w0 (w.alloc (.cells #[.int .i64 P, .int .i64 T] t)) w.heap.size P T :=
  ⟨hb.trans ((grown1 w _).mono hb.size), cell_of_heap (heap_alloc_at _ _), cell_of_heap (heap_alloc_at _ _)⟩

/-- A name lies in block r. -/
def SBox (w : World) (r : Nat) (K A B : Int) : Prop := w.heap[r]? = some (.cells #[.int .i64 K, .int .i64 A, .int .i64 B] 30)

theorem SBox.new (w : World) (K A B : Int) : SBox (w.alloc (.cells #[.int .i64 K, .int .i64 A, .int .i64 B] 30)) w.heap.size K A B := heap_alloc_at _ _
theorem SBox.grow {w w' : World} {r : Nat} {K A B : Int} (h : SBox w r K A B) (hb : Below w.heap.size w w') : SBox w' r K A B := (hb.block _ (lt_of_heap h)).trans h
theorem SBox.c0 {w : World} {r : Nat} {K A B : Int} (h : SBox w r K A B) : w.cell? ⟨r, 0, none⟩ = some (.int .i64 K) := cell_of_heap h
theorem SBox.c1 {w : World} {r : Nat} {K A B : Int} (h : SBox w r K A B) : w.cell? ⟨r, 1, none⟩ = some (.int .i64 A) := cell_of_heap h
theorem SBox.c2 {w : World} {r : Nat} {K A B : Int} (h : SBox w r K A B) : w.cell? ⟨r, 2, none⟩ = some (.int .i64 B) := cell_of_heap h
theorem SBox.fr {w : World} {r : Nat} {K A B : Int} (h : SBox w r K A B) (j : Nat) : w.frozen? ⟨r, j, none⟩ = false := frozen_of_heap h

theorem SBox.first (w : World) (K A B J C D : Int) : SBox ((w.alloc (.cells #[.int .i64 K, .int .i64 A, .int .i64 B] 30)).alloc (.cells #[.int .i64 J, .int .i64 C, .int .i64 D] 30)) w.heap.size K A B := heap_alloc_old (heap_alloc_at _ _)
theorem SBox.second (w : World) (K A B J C D : Int) : SBox ((w.alloc (.cells #[.int .i64 K, .int .i64 A, .int .i64 B] 30)).alloc (.cells #[.int .i64 J, .int .i64 C, .int .i64 D] 30)) (w.heap.size + 1) J C D := by
  have h := heap_alloc_at (w.alloc (.cells #[.int .i64 K, .int .i64 A, .int .i64 B] 30)) (.cells #[.int .i64 J, .int .i64 C, .int .i64 D] 30)
  rw [show (w.alloc (.cells #[.int .i64 K, .int .i64 A, .int .i64 B] 30)).heap.size = w.heap.size + 1 by simp] at h
  exact h
theorem SBox.set2 {w : World} {r : Nat} {K A B : Int} (h : SBox w r K A B) (v : Int) : SBox (w.setCell ⟨r, 2, none⟩ (.int .i64 v)) r K A v := heap_setCell_at h _
theorem SBox.other {w : World} {r s j : Nat} {v : Value} {K A B : Int} (h : SBox w r K A B) (hr : r ≠ s) : SBox (w.setCell ⟨s, j, none⟩ v) r K A B := (heap_setCell_ne hr v).trans h
theorem LBox.other {w0 w : World} {b s j : Nat} {v : Value} {P T : Int} (h : LBox w0 w b P T) (hs : b ≠ s) (hl : w0.heap.size ≤ s) : LBox w0 (w.setCell ⟨s, j, none⟩ v) b P T :=
  ⟨h.below.setCell hl _, (World.cell?_of_block (w := w) (heap_setCell_ne hs v)).trans h.c0, (World.cell?_of_block (w := w) (heap_setCell_ne hs v)).trans h.c1⟩

theorem lay8 (x y : Nat) (hx : x < 65536) (hy : y < 256) (w : World) :
    Calls Try.prog 23 #[.int .u16 (x : Int), .int .u8 (y : Int)] w fun e w' => e = .returned (.agg #[.int .i64 (1 + (x : Int) % 4096), .int .i64 (1 + (y : Int) % 64)]) ∧ Below w.heap.size w w' := by
  go_enter Try.func23, Try.ntmps23
  go_wp2
  go_returns
  exact ⟨rfl, grown1 _ _⟩

theorem awake8 (w : World) : Calls Try.prog 22 #[] w fun e w' => e = .returned (.bool true) ∧ Below w.heap.size w w' := by
  have M := hide (fun w => lpage 1 1 9 0 w)
  have C := hide (fun w => lwords 1 1 w)
  rw [show Lay.page 1 1 9 0 = (82, true) from by decide] at M
  rw [show Lay.words 1 1 = 90 from by decide] at C
  go_enter Try.func22, Try.ntmps22
  have B0 := LBox.new w 1 1 23
  go_wp2_with fail
  refine (M.out _).mono ?_
  rintro e w1 ⟨rfl, hb⟩
  have B1 := LBox.grow (by assumption) hb
  have b0 := B1.c0
  have b1 := B1.c1
  go_wp2_with fail
  refine (C.out _).mono ?_
  rintro e w2 ⟨rfl, hb⟩
  have B2 := LBox.grow (by assumption) hb
  go_wp2
  go_ret
  exact ⟨rfl, B2.below⟩

/-- The word of a thing by its name. -/
def Lay.find (P T K A B : Int) : Int × Bool :=
  if K = 7 then Lay.head P T A (decide (2 ≤ B)) (B % 2) else if K = 8 then Lay.cache P T A B else if K = 15 ∨ K = 16 then Lay.map P T K A else Lay.page P T K A

set_option maxHeartbeats 2000000 in
theorem find8 (P T K A B : Int) (hB : 0 ≤ B) (hB2 : B ≤ 9223372036854775807) (w : World) :
    Calls Try.prog 24 #[.agg #[.int .i64 P, .int .i64 T], .agg #[.int .i64 K, .int .i64 A, .int .i64 B]] w fun e w' => e = .returned (.tuple #[.int .i64 (Lay.find P T K A B).1, .bool (Lay.find P T K A B).2]) ∧ Below w.heap.size w w' := by
  unfold Lay.find
  by_cases k7 : K = 7
  · subst k7
    rw [if_pos rfl]
    have M := hide (fun w => lhead P T A (decide (2 ≤ B)) (B % 2) w)
    generalize Lay.head P T A (decide (2 ≤ B)) (B % 2) = r at *
    go_enter Try.func24, Try.ntmps24
    go_wp2_with fail
    refine (M.out _).mono ?_
    rintro e w1 ⟨rfl, hb⟩
    go_wp2
    go_ret2
    exact ⟨rfl, ((grown1 w _).alloc (by simp) _).trans (hb.mono (by simp; omega))⟩
  rw [if_neg k7]
  have d7 : (K == 7) = false := by simp [k7]
  by_cases k8 : K = 8
  · subst k8
    rw [if_pos rfl]
    have M := hide (fun w => lcache P T A B w)
    generalize Lay.cache P T A B = r at *
    go_enter Try.func24, Try.ntmps24
    go_wp2_with fail
    refine (M.out _).mono ?_
    rintro e w1 ⟨rfl, hb⟩
    go_wp2
    go_ret2
    exact ⟨rfl, ((grown1 w _).alloc (by simp) _).trans (hb.mono (by simp; omega))⟩
  rw [if_neg k8]
  have d8 : (K == 8) = false := by simp [k8]
  by_cases k15 : K = 15
  · subst k15
    rw [if_pos (.inl rfl)]
    have M := hide (fun w => lmap P T 15 A w)
    generalize Lay.map P T 15 A = r at *
    go_enter Try.func24, Try.ntmps24
    go_wp2_with fail
    refine (M.out _).mono ?_
    rintro e w1 ⟨rfl, hb⟩
    go_wp2
    go_ret2
    exact ⟨rfl, ((grown1 w _).alloc (by simp) _).trans (hb.mono (by simp; omega))⟩
  by_cases k16 : K = 16
  · subst k16
    rw [if_pos (.inr rfl)]
    have M := hide (fun w => lmap P T 16 A w)
    generalize Lay.map P T 16 A = r at *
    go_enter Try.func24, Try.ntmps24
    go_wp2_with fail
    refine (M.out _).mono ?_
    rintro e w1 ⟨rfl, hb⟩
    go_wp2
    go_ret2
    exact ⟨rfl, ((grown1 w _).alloc (by simp) _).trans (hb.mono (by simp; omega))⟩
  rw [if_neg (by simp [k15, k16])]
  have d15 : (K == 15) = false := by simp [k15]
  have d16 : (K == 16) = false := by simp [k16]
  clear k7 k8 k15 k16
  have M := hide (fun w => lpage P T K A w)
  generalize Lay.page P T K A = r at *
  go_enter Try.func24, Try.ntmps24
  go_wp2_with fail
  refine (M.out _).mono ?_
  rintro e w1 ⟨rfl, hb⟩
  go_wp2
  go_ret2
  exact ⟨rfl, ((grown1 w _).alloc (by simp) _).trans (hb.mono (by simp; omega))⟩

end Go.Proofs.Ytcjfnlijkkefaaa
