/- The document's sizes: what the reference functions of chapter 4 answer. -/
import Derived.Test.YtgdliebllmgibaaDoorClsOf
namespace Go.Proofs.YtgdliebllmgibaaDoor
open Go.RowKit

theorem rrow_low (c : Int) (h : c < 0) (w : World) :
    Calls Tryd.prog 57 #[.int .i64 c] w fun e w' => e = .returned (.agg #[.int .i64 0, .int .i64 0, .int .i64 0]) ∧ Below w.heap.size w w' := by
  have d2 : decide (c < 0) = true := by simp; omega
  go_enter Tryd.func57, Tryd.ntmps57
  go_wp2
  go_returns
  exact ⟨rfl, ((Below.refl _ _).alloc (Nat.le_refl _) _).alloc (by simp) _⟩

set_option maxHeartbeats 1000000 in
theorem rrow_high (c : Int) (h : 14 < c) (w : World) :
    Calls Tryd.prog 57 #[.int .i64 c] w fun e w' => e = .returned (.agg #[.int .i64 0, .int .i64 0, .int .i64 0]) ∧ Below w.heap.size w w' := by
  have d2 : decide (c < 0) = false := by simp; omega
  have d3 : decide (15 ≤ c) = true := by simp; omega
  go_enter Tryd.func57, Tryd.ntmps57
  go_wp2
  go_returns
  exact ⟨rfl, ((Below.refl _ _).alloc (Nat.le_refl _) _).alloc (by simp) _⟩

theorem rrow_0 (w : World) : Calls Tryd.prog 57 #[.int .i64 0] w fun e w' => e = .returned (.agg #[.int .i64 128, .int .i64 1, .int .i64 64]) ∧ Below w.heap.size w w' := by
  go_enter Tryd.func57, Tryd.ntmps57
  go_wp2
  go_returns
  exact ⟨rfl, ((Below.refl _ _).alloc (Nat.le_refl _) _).alloc (by simp) _⟩

theorem rrow_1 (w : World) : Calls Tryd.prog 57 #[.int .i64 1] w fun e w' => e = .returned (.agg #[.int .i64 192, .int .i64 1, .int .i64 42]) ∧ Below w.heap.size w w' := by
  go_enter Tryd.func57, Tryd.ntmps57
  go_wp2
  go_returns
  exact ⟨rfl, ((Below.refl _ _).alloc (Nat.le_refl _) _).alloc (by simp) _⟩

theorem rrow_2 (w : World) : Calls Tryd.prog 57 #[.int .i64 2] w fun e w' => e = .returned (.agg #[.int .i64 256, .int .i64 1, .int .i64 32]) ∧ Below w.heap.size w w' := by
  go_enter Tryd.func57, Tryd.ntmps57
  go_wp2
  go_returns
  exact ⟨rfl, ((Below.refl _ _).alloc (Nat.le_refl _) _).alloc (by simp) _⟩

theorem rrow_3 (w : World) : Calls Tryd.prog 57 #[.int .i64 3] w fun e w' => e = .returned (.agg #[.int .i64 384, .int .i64 1, .int .i64 21]) ∧ Below w.heap.size w w' := by
  go_enter Tryd.func57, Tryd.ntmps57
  go_wp2
  go_returns
  exact ⟨rfl, ((Below.refl _ _).alloc (Nat.le_refl _) _).alloc (by simp) _⟩

theorem rrow_4 (w : World) : Calls Tryd.prog 57 #[.int .i64 4] w fun e w' => e = .returned (.agg #[.int .i64 512, .int .i64 1, .int .i64 16]) ∧ Below w.heap.size w w' := by
  go_enter Tryd.func57, Tryd.ntmps57
  go_wp2
  go_returns
  exact ⟨rfl, ((Below.refl _ _).alloc (Nat.le_refl _) _).alloc (by simp) _⟩

theorem rrow_5 (w : World) : Calls Tryd.prog 57 #[.int .i64 5] w fun e w' => e = .returned (.agg #[.int .i64 768, .int .i64 1, .int .i64 10]) ∧ Below w.heap.size w w' := by
  go_enter Tryd.func57, Tryd.ntmps57
  go_wp2
  go_returns
  exact ⟨rfl, ((Below.refl _ _).alloc (Nat.le_refl _) _).alloc (by simp) _⟩

theorem rrow_6 (w : World) : Calls Tryd.prog 57 #[.int .i64 6] w fun e w' => e = .returned (.agg #[.int .i64 1024, .int .i64 1, .int .i64 8]) ∧ Below w.heap.size w w' := by
  go_enter Tryd.func57, Tryd.ntmps57
  go_wp2
  go_returns
  exact ⟨rfl, ((Below.refl _ _).alloc (Nat.le_refl _) _).alloc (by simp) _⟩

theorem rrow_7 (w : World) : Calls Tryd.prog 57 #[.int .i64 7] w fun e w' => e = .returned (.agg #[.int .i64 1536, .int .i64 3, .int .i64 16]) ∧ Below w.heap.size w w' := by
  go_enter Tryd.func57, Tryd.ntmps57
  go_wp2
  go_returns
  exact ⟨rfl, ((Below.refl _ _).alloc (Nat.le_refl _) _).alloc (by simp) _⟩

theorem rrow_8 (w : World) : Calls Tryd.prog 57 #[.int .i64 8] w fun e w' => e = .returned (.agg #[.int .i64 2048, .int .i64 1, .int .i64 4]) ∧ Below w.heap.size w w' := by
  go_enter Tryd.func57, Tryd.ntmps57
  go_wp2
  go_returns
  exact ⟨rfl, ((Below.refl _ _).alloc (Nat.le_refl _) _).alloc (by simp) _⟩

theorem rrow_9 (w : World) : Calls Tryd.prog 57 #[.int .i64 9] w fun e w' => e = .returned (.agg #[.int .i64 3072, .int .i64 3, .int .i64 8]) ∧ Below w.heap.size w w' := by
  go_enter Tryd.func57, Tryd.ntmps57
  go_wp2
  go_returns
  exact ⟨rfl, ((Below.refl _ _).alloc (Nat.le_refl _) _).alloc (by simp) _⟩

theorem rrow_10 (w : World) : Calls Tryd.prog 57 #[.int .i64 10] w fun e w' => e = .returned (.agg #[.int .i64 4096, .int .i64 1, .int .i64 2]) ∧ Below w.heap.size w w' := by
  go_enter Tryd.func57, Tryd.ntmps57
  go_wp2
  go_returns
  exact ⟨rfl, ((Below.refl _ _).alloc (Nat.le_refl _) _).alloc (by simp) _⟩

theorem rrow_11 (w : World) : Calls Tryd.prog 57 #[.int .i64 11] w fun e w' => e = .returned (.agg #[.int .i64 6144, .int .i64 3, .int .i64 4]) ∧ Below w.heap.size w w' := by
  go_enter Tryd.func57, Tryd.ntmps57
  go_wp2
  go_returns
  exact ⟨rfl, ((Below.refl _ _).alloc (Nat.le_refl _) _).alloc (by simp) _⟩

theorem rrow_12 (w : World) : Calls Tryd.prog 57 #[.int .i64 12] w fun e w' => e = .returned (.agg #[.int .i64 8192, .int .i64 2, .int .i64 2]) ∧ Below w.heap.size w w' := by
  go_enter Tryd.func57, Tryd.ntmps57
  go_wp2
  go_returns
  exact ⟨rfl, ((Below.refl _ _).alloc (Nat.le_refl _) _).alloc (by simp) _⟩

theorem rrow_13 (w : World) : Calls Tryd.prog 57 #[.int .i64 13] w fun e w' => e = .returned (.agg #[.int .i64 12288, .int .i64 3, .int .i64 2]) ∧ Below w.heap.size w w' := by
  go_enter Tryd.func57, Tryd.ntmps57
  go_wp2
  go_returns
  exact ⟨rfl, ((Below.refl _ _).alloc (Nat.le_refl _) _).alloc (by simp) _⟩

theorem rrow_14 (w : World) : Calls Tryd.prog 57 #[.int .i64 14] w fun e w' => e = .returned (.agg #[.int .i64 0, .int .i64 0, .int .i64 1]) ∧ Below w.heap.size w w' := by
  go_enter Tryd.func57, Tryd.ntmps57
  go_wp2
  go_returns
  exact ⟨rfl, ((Below.refl _ _).alloc (Nat.le_refl _) _).alloc (by simp) _⟩

theorem rrow (c : Int) (w : World) :
    Calls Tryd.prog 57 #[.int .i64 c] w fun e w' => e = .returned (.agg #[.int .i64 (Cls.bytes c : Int), .int .i64 (Cls.pages c : Int), .int .i64 (Cls.slots c : Int)]) ∧ Below w.heap.size w w' := by
  by_cases h1 : c < 0
  · unfold Cls.bytes Cls.pages Cls.slots
    rw [Cls.row_out (Or.inl h1)]
    exact rrow_low c h1 w
  · by_cases h2 : 14 < c
    · unfold Cls.bytes Cls.pages Cls.slots
      rw [Cls.row_out (Or.inr h2)]
      exact rrow_high c h2 w
    · have hc : c = 0 ∨ c = 1 ∨ c = 2 ∨ c = 3 ∨ c = 4 ∨ c = 5 ∨ c = 6 ∨ c = 7 ∨ c = 8 ∨ c = 9 ∨ c = 10 ∨ c = 11 ∨ c = 12 ∨ c = 13 ∨ c = 14 := by omega
      rcases hc with rfl | rfl | rfl | rfl | rfl | rfl | rfl | rfl | rfl | rfl | rfl | rfl | rfl | rfl | rfl
      · exact rrow_0 w
      · exact rrow_1 w
      · exact rrow_2 w
      · exact rrow_3 w
      · exact rrow_4 w
      · exact rrow_5 w
      · exact rrow_6 w
      · exact rrow_7 w
      · exact rrow_8 w
      · exact rrow_9 w
      · exact rrow_10 w
      · exact rrow_11 w
      · exact rrow_12 w
      · exact rrow_13 w
      · exact rrow_14 w

theorem arrAt0 (a b c : Value) (w : World) : (Instr.index 117 (.agg #[a, b, c]) (.int .i64 0)).run Tryd.prog w = .ok a w := by kernel_rfl
theorem arrAt1 (a b c : Value) (w : World) : (Instr.index 117 (.agg #[a, b, c]) (.int .i64 1)).run Tryd.prog w = .ok b w := by kernel_rfl
theorem rpages (c : Int) (w : World) :
    Calls Tryd.prog 31 #[.int .i64 c] w fun e w' => e = .returned (.int .i64 (Cls.pages c : Int)) ∧ Below w.heap.size w w' := by
  have H := hide (rrow c w)
  have hf := arrAt1
  go_enter Tryd.func31, Tryd.ntmps31
  go_wp2_with fail
  refine H.out.mono ?_
  rintro e w1 ⟨rfl, hb⟩
  go_wp2
  go_ret
  exact ⟨rfl, hb⟩

theorem arrAt2 (a b c : Value) (w : World) : (Instr.index 117 (.agg #[a, b, c]) (.int .i64 2)).run Tryd.prog w = .ok c w := by kernel_rfl
theorem rslots (c : Int) (w : World) :
    Calls Tryd.prog 33 #[.int .i64 c] w fun e w' => e = .returned (.int .i64 (Cls.slots c : Int)) ∧ Below w.heap.size w w' := by
  have H := hide (rrow c w)
  have hf := arrAt2
  go_enter Tryd.func33, Tryd.ntmps33
  go_wp2_with fail
  refine H.out.mono ?_
  rintro e w1 ⟨rfl, hb⟩
  go_wp2
  go_ret
  exact ⟨rfl, hb⟩

end Go.Proofs.YtgdliebllmgibaaDoor
