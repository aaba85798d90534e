/- The table of package class in its variable; the small calls of package class. -/
import Derived.Test.YtgdliebllmgibaaDoorCls
import Derived.Test.YtgdliebllmgibaaDoorHeap
import Derived.Handy
namespace Go.Proofs.YtgdliebllmgibaaDoor
open Go.RowKit

/-- The table in its variable. -/
def ClsTab (w : World) : Prop := ∀ j : Nat, j < 14 →
  w.cell? ⟨0, j * 3, none⟩ = some (.int .i64 (Cls.bytes (j : Int) : Int)) ∧
  w.cell? ⟨0, j * 3 + 1, none⟩ = some (.int .i64 (Cls.pages (j : Int) : Int)) ∧
  w.cell? ⟨0, j * 3 + 2, none⟩ = some (.int .i64 (Cls.slots (j : Int) : Int))

theorem ClsTab.lt {w : World} (h : ClsTab w) : 0 < w.heap.size := by
  have h0 := (h 0 (by omega)).1
  by_cases hs : 0 < w.heap.size
  · exact hs
  · exfalso
    have : w.heap[0]? = none := Array.getElem?_eq_none (by omega)
    simp [World.cell?, this] at h0

theorem ClsTab.below {n : Nat} {w w' : World} (h : ClsTab w) (hn : 0 < n) (hb : Below n w w') : ClsTab w' := fun j hj =>
  ⟨(hb.cell (p := ⟨0, j * 3, none⟩) hn).trans (h j hj).1, (hb.cell (p := ⟨0, j * 3 + 1, none⟩) hn).trans (h j hj).2.1, (hb.cell (p := ⟨0, j * 3 + 2, none⟩) hn).trans (h j hj).2.2⟩

theorem ClsTab.grown {w w' : World} (h : ClsTab w) (hb : Below w.heap.size w w') : ClsTab w' := h.below h.lt hb

theorem cell_alloc_old {w : World} {p : Addr} {v : Value} (h : w.cell? p = some v) (o : Obj) : (w.alloc o).cell? p = some v := by
  rw [World.cell?_of_block (w := w) (Below.heap_alloc w o p.block (block_lt_of_cell h))]
  exact h

theorem rowOf_in (k : Nat) (hk : k < 14) (w : World) (hT : ClsTab w) :
    Calls Tryd.prog 84 #[.int .i64 (k : Int)] w fun e w' => e = .returned (.agg #[.int .i64 (Cls.bytes (k : Int) : Int), .int .i64 (Cls.pages (k : Int) : Int), .int .i64 (Cls.slots (k : Int) : Int)]) ∧ Below w.heap.size w w' := by
  obtain ⟨h0, h1, h2⟩ := hT k hk
  have h0 := fun o => cell_alloc_old h0 o
  have h1 := fun o => cell_alloc_old h1 o
  have h2 := fun o => cell_alloc_old h2 o
  generalize (Cls.bytes (k : Int)) = x0 at *
  generalize (Cls.pages (k : Int)) = x1 at *
  generalize (Cls.slots (k : Int)) = x2 at *
  have d1 : ((k : Int) == 14) = false := by simp; omega
  have d2 : decide ((k : Int) < 0) = false := by simp
  have d3 : decide (14 ≤ (k : Int)) = false := by simp; omega
  clear hT
  go_enter Tryd.func84, Tryd.ntmps84
  go_wp2
  go_returns
  exact ⟨rfl, (Below.refl _ _).alloc (Nat.le_refl _) _⟩

theorem rowOf_large (w : World) :
    Calls Tryd.prog 84 #[.int .i64 14] w fun e w' => e = .returned (.agg #[.int .i64 0, .int .i64 0, .int .i64 1]) ∧ Below w.heap.size w w' := by
  go_enter Tryd.func84, Tryd.ntmps84
  go_wp2
  go_returns
  exact ⟨rfl, (Below.refl _ _).alloc (Nat.le_refl _) _⟩

theorem rowOf_out (c : Int) (h : c < 0 ∨ 14 < c) (w : World) :
    Calls Tryd.prog 84 #[.int .i64 c] w fun e w' => e = .returned (.agg #[.int .i64 0, .int .i64 0, .int .i64 0]) ∧ Below w.heap.size w w' := by
  have d1 : (c == 14) = false := by simp; omega
  rcases h with h | h
  · have d2 : decide (c < 0) = true := by simp; omega
    go_enter Tryd.func84, Tryd.ntmps84
    go_wp2
    go_returns
    exact ⟨rfl, (Below.refl _ _).alloc (Nat.le_refl _) _⟩
  · have d2 : decide (c < 0) = false := by simp; omega
    have d3 : decide (14 ≤ c) = true := by simp; omega
    go_enter Tryd.func84, Tryd.ntmps84
    go_wp2
    go_returns
    exact ⟨rfl, (Below.refl _ _).alloc (Nat.le_refl _) _⟩

theorem rowOf (c : Int) (w : World) (hT : ClsTab w) :
    Calls Tryd.prog 84 #[.int .i64 c] w fun e w' => e = .returned (.agg #[.int .i64 (Cls.bytes c : Int), .int .i64 (Cls.pages c : Int), .int .i64 (Cls.slots c : Int)]) ∧ Below w.heap.size w w' := by
  by_cases h : c < 0 ∨ 14 < c
  · have := rowOf_out c h w
    unfold Cls.bytes Cls.pages Cls.slots
    rw [Cls.row_out h]
    exact this
  · by_cases h14 : c = 14
    · subst h14
      exact rowOf_large w
    · obtain ⟨k, rfl⟩ := Int.eq_ofNat_of_zero_le (a := c) (by omega)
      exact rowOf_in k (by omega) w hT

theorem rowField0 (a b c : Value) (w : World) : (Instr.field 143 (.agg #[a, b, c]) 0).run Tryd.prog w = .ok a w := by kernel_rfl
theorem rowField1 (a b c : Value) (w : World) : (Instr.field 143 (.agg #[a, b, c]) 1).run Tryd.prog w = .ok b w := by kernel_rfl
theorem rowField2 (a b c : Value) (w : World) : (Instr.field 143 (.agg #[a, b, c]) 2).run Tryd.prog w = .ok c w := by kernel_rfl

theorem cpages (c : Int) (w : World) (hT : ClsTab w) :
    Calls Tryd.prog 61 #[.int .i64 c] w fun e w' => e = .returned (.int .i64 (Cls.pages c : Int)) ∧ Below w.heap.size w w' := by
  have H := hide (rowOf c w hT)
  clear hT
  have hf := rowField1
  go_enter Tryd.func61, Tryd.ntmps61
  go_wp2_with fail
  refine H.out.mono ?_
  rintro e w1 ⟨rfl, hb⟩
  go_wp2
  go_ret
  exact ⟨rfl, hb⟩

theorem cslots (c : Int) (w : World) (hT : ClsTab w) :
    Calls Tryd.prog 63 #[.int .i64 c] w fun e w' => e = .returned (.int .i64 (Cls.slots c : Int)) ∧ Below w.heap.size w w' := by
  have H := hide (rowOf c w hT)
  clear hT
  have hf := rowField2
  go_enter Tryd.func63, Tryd.ntmps63
  go_wp2_with fail
  refine H.out.mono ?_
  rintro e w1 ⟨rfl, hb⟩
  go_wp2
  go_ret
  exact ⟨rfl, hb⟩

end Go.Proofs.YtgdliebllmgibaaDoor
