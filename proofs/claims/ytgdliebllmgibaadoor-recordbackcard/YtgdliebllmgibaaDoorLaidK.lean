/- The rows of a seat that list the table of package class alone. -/
import Derived.Test.YtgdliebllmgibaaDoorLaidCls
namespace Go.Proofs.YtgdliebllmgibaaDoor
open Go.ChangeShapes Go.WideShapes Go.ChangeAt Go.RowKit

def laidK : List (String × DataW Unit) := [("dustpan/class.rows", Rows.laid_dustpan_class_rows)]

theorem tab_of_laid {W : World} (h : laidMetH Tryd.prog laidK W) : ClsTab W := by
  rw [MakeChecks.laidMetH_plain _ _ _ (by kernel_rfl)] at h
  exact clsTab_of h (by simp [laidK])

/-- The door's own heap meets the condition. -/
theorem door_met (os : Os) (args : Array Value) : laidMetH Tryd.prog laidK ((World.doorLaid Tryd.prog 400 os).forCall (fun _ _ => 0) ⟨#[], args, []⟩).memory :=
  laidMetH_of_parts3 (fuel := 8) (laidMet_of_run' 8 (by kernel_rfl) (by kernel_rfl)) (by kernel_rfl) (by kernel_rfl)

end Go.Proofs.YtgdliebllmgibaaDoor
