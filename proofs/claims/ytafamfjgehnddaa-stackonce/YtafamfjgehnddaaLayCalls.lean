/- The small calls of package layout, each at every argument that comes. -/
import Derived.Test.YtafamfjgehnddaaLay
import Derived.Test.YtafamfjgehnddaaHeap
import Derived.Test.YtafamfjgehnddaaBase
import Derived.Test.YtafamfjgehnddaaOver
import Derived.Handy
namespace Go.Proofs.Ytafamfjgehnddaa
open Go.RowKit

/-- The world, grown. -/
theorem grown1 (w : World) (o : Obj) : Below w.heap.size w (w.alloc o) := (Below.refl _ _).alloc (Nat.le_refl _) _

theorem lmay (P T : Int) (w : World) :
    Calls Try.prog 50 #[.agg #[.int .i64 P, .int .i64 T]] w fun e w' => e = .returned (.bool (Lay.may P T)) ∧ Below w.heap.size w w' := by
  unfold Lay.may
  by_cases h1 : 1 ≤ P
  · by_cases h2 : P ≤ 4096
    · by_cases h3 : 1 ≤ T
      · by_cases h4 : T ≤ 64
        · rw [decide_eq_true h1, decide_eq_true h2, decide_eq_true h3, decide_eq_true h4]
          go_enter Try.func50, Try.ntmps50
          go_wp2
          go_ret
          exact ⟨rfl, grown1 _ _⟩
        · rw [decide_eq_true h1, decide_eq_true h2, decide_eq_true h3, decide_eq_false h4]
          have d4 := decide_eq_false h4
          go_enter Try.func50, Try.ntmps50
          go_wp2
          go_ret
          exact ⟨rfl, grown1 _ _⟩
      · rw [decide_eq_true h1, decide_eq_true h2, decide_eq_false h3]
        have d3 := decide_eq_false h3
        go_enter Try.func50, Try.ntmps50
        go_wp2
        go_ret
        exact ⟨rfl, grown1 _ _⟩
    · rw [decide_eq_true h1, decide_eq_false h2]
      have d2 := decide_eq_false h2
      go_enter Try.func50, Try.ntmps50
      go_wp2
      go_ret
      exact ⟨rfl, grown1 _ _⟩
  · rw [decide_eq_false h1]
    have d1 := decide_eq_false h1
    go_enter Try.func50, Try.ntmps50
    go_wp2
    go_ret
    exact ⟨rfl, grown1 _ _⟩

theorem lbelow (i n : Int) (w : World) :
    Calls Try.prog 82 #[.int .i64 i, .int .i64 n] w fun e w' => e = .returned (.bool (Lay.below i n)) ∧ w' = w := by
  unfold Lay.below
  by_cases h1 : 0 ≤ i
  · rw [decide_eq_true h1]
    go_enter Try.func82, Try.ntmps82
    go_wp2
    go_ret
    exact ⟨rfl, rfl⟩
  · rw [decide_eq_false h1]
    have d1 := decide_eq_false h1
    go_enter Try.func82, Try.ntmps82
    go_wp2
    go_ret
    exact ⟨rfl, rfl⟩

theorem lmaps (P T : Int) (h1 : 1 ≤ P) (h2 : P ≤ 4096) (w : World) :
    Calls Try.prog 96 #[.agg #[.int .i64 P, .int .i64 T]] w fun e w' => e = .returned (.int .i64 (Lay.maps P)) ∧ Below w.heap.size w w' := by
  unfold Lay.maps
  go_enter Try.func96, Try.ntmps96
  go_wp2
  go_ret
  refine ⟨ret_int ?_, grown1 _ _⟩
  first | rfl | omega

theorem lstates (P T : Int) (h1 : 1 ≤ T) (h2 : T ≤ 64) (w : World) :
    Calls Try.prog 84 #[.agg #[.int .i64 P, .int .i64 T]] w fun e w' => e = .returned (.int .i64 (Lay.states T)) ∧ Below w.heap.size w w' := by
  unfold Lay.states
  go_enter Try.func84, Try.ntmps84
  go_wp2
  go_ret
  refine ⟨ret_int ?_, grown1 _ _⟩
  first | rfl | omega

end Go.Proofs.Ytafamfjgehnddaa
