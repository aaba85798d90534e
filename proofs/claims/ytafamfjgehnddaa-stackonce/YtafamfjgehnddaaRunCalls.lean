/- The calls of package runs that go through no iterator: keyOf, runOf, fit, lay, Find, Take, Drawn, Shape. -/
import Derived.Test.YtafamfjgehnddaaRunAt
namespace Go.Proofs.Ytafamfjgehnddaa
open Go.RowKit

theorem keyOf36 (a n : Int) (h : 0 ≤ a ∧ a < 8192 ∧ 0 ≤ n ∧ n < 1000000) (w : World) :
    Calls Try.prog 98 #[.agg #[.int .i64 a, .int .i64 n]] w fun e w' => e = .returned (.int .i64 (kOf a n)) ∧ Below w.heap.size w w' := by
  have hB : Below w.heap.size w (w.alloc (.cells #[.int .i64 a, .int .i64 n] 147)) := (Below.refl _ w).alloc (Nat.le_refl _) _
  obtain ⟨h0, h1, h2, h3⟩ := h
  go_enter Try.func98, Try.ntmps98
  go_wp2
  go_ret
  exact ⟨rfl, hB⟩

/-- Two cells of block r are put; what holds of a world in which they lie holds of that one. -/
theorem store2 {w0 w : World} {n r : Nat} {a0 a1 : Value} {t : TypeId} (hs : w.heap[r]? = some (.cells #[a0, a1] t (0, 0))) (hB : Below n w0 w) (hr : n ≤ r) {v0 v1 : Value} {R : World → Prop}
    (k : ∀ W : World, Below n w0 W → W.heap[r]? = some (.cells #[v0, v1] t (0, 0)) → R W) :
    R ((w.setCell ⟨r, 0, none⟩ v0).setCell ⟨r, 1, none⟩ v1) := by
  have e := heap_setCell_at (o := 1) (heap_setCell_at (o := 0) hs v0) v1
  exact k _ ((hB.setCell hr _).setCell hr _) e

end Go.Proofs.Ytafamfjgehnddaa
