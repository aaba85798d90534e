/- Rows of cells that are made. -/
import Derived.Test.YtgenkjmcddjaoaaMany
import Derived.Test.YtgenkjmcddjaoaaBo
namespace Go.Proofs.Ytgenkjmcddjaoaa
open Go.RowKit

theorem made_one {z : Value} (h : z.cells = #[z]) (n : Nat) : (madeCells z.cells (n * 1)).toList = (rowN n (fun _ => z)).toList := by
  rw [h, rowN_const]
  simp only [madeCells, Nat.mul_one, Array.toList_map, Array.toList_range, Array.toList_replicate]
  rw [List.eq_replicate_iff]
  refine ⟨by simp, ?_⟩
  intro b hb
  obtain ⟨j, _, rfl⟩ := List.mem_map.1 hb
  simp [Nat.mod_one]
theorem Own.rowMade {R : Res} {w0 w w1 : World} (lR : Loc R) (h : Own R w0 w) {z : Value} (hz : z.cells = #[z]) {e : TypeId} {n : Nat} (hown : w1.ownsRow w.heap.size e 1 (.slice (some ⟨w.heap.size, 0, none⟩) n n) n (madeCells z.cells (n * 1)).toList) (hgrow : w.grownBy w1 none) :
    Own (Sep (BO w.heap.size (.cells (rowN n (fun _ => z)) e (0, 0))) R) w0 w1 := by
  rw [made_one hz] at hown
  have hr := owned_row hown
  rw [Array.toArray_toList] at hr
  exact Own.boNew lR h hr (Nat.le_refl _) ((Below.refl _ w).grown hgrow (Nat.le_refl _) (by simp))
end Go.Proofs.Ytgenkjmcddjaoaa
