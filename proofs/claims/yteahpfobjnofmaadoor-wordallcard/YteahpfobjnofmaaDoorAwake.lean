/- The document's examples of chapter 1, as the statements ask them: they answer true. -/
import Derived.Test.YteahpfobjnofmaaDoorIter
import Derived.WalkSmall
namespace Go.Proofs.YteahpfobjnofmaaDoor
open Go.RowKit

theorem low_ex (w : World) (hT : Tab w) : Calls Tryd.prog 11 #[.int .u64 11, .int .i64 64] w fun e w' => e = .returned (.tuple #[.int .i64 2, .bool true]) ∧ w' = w := by
  have h := low11 11 (by omega) 64 w hT
  rw [show lowAns 11 64 = (2, true) from by decide +kernel, show (((11 : Nat) : Int)) = 11 from rfl] at h
  exact h

theorem nth_ex (w : World) (hT : Tab w) : Calls Tryd.prog 13 #[.int .u64 10, .int .i64 1] w fun e w' => e = .returned (.tuple #[.int .i64 3, .bool true]) ∧ Below w.heap.size w w' := by
  have h := nth13 10 (by omega) 1 w hT
  rw [show nthAns 10 1 = (3, true) from by decide +kernel, show (((10 : Nat) : Int)) = 10 from rfl] at h
  exact h

theorem with_ex (w : World) : Calls Tryd.prog 9 #[.int .u64 0, .int .i64 8, .int .i64 4, .int .u64 16] w fun e w' => e = .returned (.tuple #[.int .u64 0, .bool false]) ∧ ∃ q, w' = w.drewN q := by
  have h := with9 0 (by omega) 8 4 16 w (by omega)
  rw [show withAns 0 8 4 16 = (0, false) from by decide +kernel, show (((0 : Nat) : Int)) = 0 from rfl, show (((16 : Nat) : Int)) = 16 from rfl] at h
  exact h

theorem ones_ex (w : World) : Calls Tryd.prog 15 #[.int .i64 3] w fun e w' => e = .returned (.int .u64 7) ∧ w' = w := by
  have h := ones15 3 w
  rw [show Plain.ones (Plain.hold 3) = 7 from by decide +kernel, show (((7 : Nat) : Int)) = 7 from rfl] at h
  exact h

theorem awake26 (w : World) (hT : Tab w) : Calls Tryd.prog 26 #[] w fun e w' => e = .returned (.bool true) ∧ Below w.heap.size w w' := by
  have H := hide hT
  clear hT
  go_enter Tryd.func26, Tryd.ntmps26
  go_wp2_with fail
  refine (low_ex _ H.out).mono ?_
  rintro e w' ⟨rfl, rfl⟩
  go_wp2_with fail
  refine (nth_ex _ H.out).mono ?_
  rintro e w1 ⟨rfl, hb⟩
  go_wp2_with fail
  refine (with_ex _).mono ?_
  rintro e w2 ⟨rfl, q, rfl⟩
  go_wp2_with (go_at_call 15; refine (ones_ex _).mono ?_; rintro e w3 ⟨rfl, rfl⟩)
  go_ret
  exact ⟨rfl, below_drewN hb q⟩

theorem Tab.drewN {w : World} (h : Tab w) (q : Nat) : Tab (w.drewN q) := h.below h.lt (below_drewN (Below.refl w.heap.size w) q)

theorem ones15N (l : Nat) (h : l ≤ 64) (w : World) : Calls Tryd.prog 15 #[.int .i64 (l : Int)] w fun e w' => e = .returned (.int .u64 (Plain.ones l)) ∧ w' = w := by
  have hh := ones15 (l : Int) w
  rw [show Plain.hold (l : Int) = l from by unfold Plain.hold; omega] at hh
  exact hh

theorem fieldI (x : Nat) (hx : x < 18446744073709551616) (a n : Int) (f l : Nat) (ha : a = (f : Int)) (hn : n = (l : Int)) (h : f + l ≤ 64) (w : World) :
    Calls Tryd.prog 17 #[.int .u64 (x : Int), .int .i64 a, .int .i64 n] w fun e w' => e = .returned (.int .u64 (Plain.fld x f l)) ∧ ∃ q, w' = w.drewN q := by
  have hh := field17 x hx a n w (by omega)
  have e : fieldAns x a n = Plain.fld x f l := by
    unfold fieldAns
    rw [if_pos ((isIn_iff a n).2 (by omega))]
    congr 1 <;> omega
  rw [e] at hh
  exact hh

theorem withI (x : Nat) (hx : x < 18446744073709551616) (a n : Int) (f l v : Nat) (ha : a = (f : Int)) (hn : n = (l : Int)) (h : f + l ≤ 64) (hv : v ≤ Plain.ones l) (w : World) :
    Calls Tryd.prog 9 #[.int .u64 (x : Int), .int .i64 a, .int .i64 n, .int .u64 (v : Int)] w fun e w' => e = .returned (.tuple #[.int .u64 (Plain.wth x f l v), .bool true]) ∧ ∃ q, w' = w.drewN q := by
  have hh := with9 x hx a n v w (by omega)
  have e : withAns x a n v = (Plain.wth x f l v, true) := by
    unfold withAns
    have h0 : Plain.hold n = l := by unfold Plain.hold; omega
    have h1 : a.toNat = f := by omega
    have h2 : n.toNat = l := by omega
    rw [if_pos ⟨(isIn_iff a n).2 (by omega), by rw [h0]; exact hv⟩, h1, h2]
  rw [e] at hh
  exact hh

end Go.Proofs.YteahpfobjnofmaaDoor
