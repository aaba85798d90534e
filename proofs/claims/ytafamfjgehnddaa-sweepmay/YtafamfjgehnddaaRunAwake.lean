/- awake: the document's example. -/
import Derived.Test.YtafamfjgehnddaaRunOwn
namespace Go.Proofs.Ytafamfjgehnddaa
open Go.RowKit

theorem aw1 : takeA 3 [(kOf 0 8, 0, ())] = (0, 0) ∧ takeS [] 3 1 [(kOf 0 8, 0, ())] = (2, [(40963, 0, ())]) := by decide
theorem aw2 : takeA 2 [(40963, 0, ())] = (3, 0) ∧ takeS [] 2 2 [(40963, 0, ())] = (3, [(24581, 0, ())]) := by decide
theorem aw3 : putA 8 0 3 [(24581, 0, ())] = 0 ∧ putS 8 [] 0 3 3 [(24581, 0, ())] = (4, [(24576, 0, ()), (24581, 0, ())]) := by decide
theorem aw4 : takeA 3 [(24576, 0, ()), (24581, 0, ())] = (0, 0) := by decide
theorem aw0 : ([] : List Nat).getD 0 0 = 0 := rfl
theorem awF1 : Fit 1 8 [] 1 [(kOf 0 8, 0, ())] := Fit.new (ds := []) (by decide) (by decide) (by decide)
theorem awF2 : Fit 2 8 [] 2 [(40963, 0, ())] := by have := awF1.take 3; rw [aw1.2] at this; exact this
theorem awF3 : Fit 3 8 [] 3 [(24581, 0, ())] := by have := awF2.take 2; rw [aw2.2] at this; exact this
theorem awF4 : Fit 4 8 [] 4 [(24576, 0, ()), (24581, 0, ())] := by have := awF3.put 0 3; rw [aw3.2] at this; exact this
theorem awR0 : (([(24576, 0, ()), (24581, 0, ())] : RL).map (·.1)).map rOf = [(0, 3), (5, 3)] := by decide
theorem awR : runsOf [(24576, 0, ()), (24581, 0, ())] = [(0, 3), (5, 3)] := (runsOf_is awF4.good (by rw [awR0]) (by decide)).symm

end Go.Proofs.Ytafamfjgehnddaa
