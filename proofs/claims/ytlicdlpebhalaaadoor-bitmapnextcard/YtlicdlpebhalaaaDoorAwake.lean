/- The document's examples of chapter 1, as the statements ask them: they answer true. -/
import Derived.Test.YtlicdlpebhalaaaDoorIter
import Derived.WalkSmall
namespace Go.Proofs.YtlicdlpebhalaaaDoor
open Go.RowKit

theorem low_ex (w : World) (hT : Tab w) : Calls Tryd.prog 42 #[.int .u64 11, .int .i64 64] w fun e w' => e = .returned (.tuple #[.int .i64 2, .bool true]) ∧ w' = w := by
  have h := low11 11 (by omega) 64 w hT
  rw [show lowAns 11 64 = (2, true) from by decide +kernel, show (((11 : Nat) : Int)) = 11 from rfl] at h
  exact h

theorem ones_ex (w : World) : Calls Tryd.prog 41 #[.int .i64 3] w fun e w' => e = .returned (.int .u64 7) ∧ w' = w := by
  have h := ones15 3 w
  rw [show Plain.ones (Plain.hold 3) = 7 from by decide +kernel, show (((7 : Nat) : Int)) = 7 from rfl] at h
  exact h

theorem Tab.drewN {w : World} (h : Tab w) (q : Nat) : Tab (w.drewN q) := h.below h.lt (below_drewN (Below.refl w.heap.size w) q)

theorem ones15N (l : Nat) (h : l ≤ 64) (w : World) : Calls Tryd.prog 41 #[.int .i64 (l : Int)] w fun e w' => e = .returned (.int .u64 (Plain.ones l)) ∧ w' = w := by
  have hh := ones15 (l : Int) w
  rw [show Plain.hold (l : Int) = l from by unfold Plain.hold; omega] at hh
  exact hh

theorem fieldI (x : Nat) (hx : x < 18446744073709551616) (a n : Int) (f l : Nat) (ha : a = (f : Int)) (hn : n = (l : Int)) (h : f + l ≤ 64) (w : World) :
    Calls Tryd.prog 32 #[.int .u64 (x : Int), .int .i64 a, .int .i64 n] w fun e w' => e = .returned (.int .u64 (Plain.fld x f l)) ∧ ∃ q, w' = w.drewN q := by
  have hh := field17 x hx a n w (by omega)
  have e : fieldAns x a n = Plain.fld x f l := by
    unfold fieldAns
    rw [if_pos ((isIn_iff a n).2 (by omega))]
    congr 1 <;> omega
  rw [e] at hh
  exact hh

end Go.Proofs.YtlicdlpebhalaaaDoor
