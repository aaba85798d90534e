/- What the iterator over a word's places yields: the places of the set bits, rising, to whatever loop body keeps what lay below a bound. -/
import Derived.Test.YtlicdlpebhalaaaDoorLeaves
import Derived.RangeFuncBox
import Derived.RangeFuncNested
import Derived.RangeFuncLeaves
import Derived.RangeFuncCalls
import Derived.Shelf.Abstract
import Derived.WalkKit
import Derived.OwnWalkIn
import Derived.TacticsInMore
import Derived.LoopNIn
import Derived.LoopIn
import Derived.Maps.AppendAt
namespace Go.Proofs.YtlicdlpebhalaaaDoor
open Go.RowKit Go.Shelf

attribute [local go_sem] Oper.semAt_some

theorem drop_key (y : Nat) (hy : y < 18446744073709551616) (h0 : y ≠ 0) : bits BinOp.and IntKind.u64 (y : Int) ((y : Int) - 1) = (Plain.drop1 y : Int) := by
  have e : ((y : Int) - 1) = ((y - 1 : Nat) : Int) := by omega
  rw [e, bits_and_u64_nat _ _ hy (by omega)]
  rfl

theorem tzIn (x : Nat) (hx : x < 18446744073709551616) (n : Nat) (w : World) (hT : Tab w) :
    CallsIn Fence.wide n Tryd.prog 49 #[.int .u64 x] w fun e w' => e = .returned (.int .i64 (Plain.low x)) ∧ w' = w := callsIn_wide.2 (tz30 x hx w hT)

def nthAns (x : Nat) (k : Int) : Int × Bool := if 0 ≤ k then (match (Plain.pls x)[k.toNat]? with | some i => ((i : Int), true) | none => (0, false)) else (0, false)

theorem nthAns_some {x : Nat} {k : Int} {i : Nat} (h0 : 0 ≤ k) (h : (Plain.pls x)[k.toNat]? = some i) : nthAns x k = ((i : Int), true) := by simp [nthAns, h0, h]
theorem nthAns_none {x : Nat} {k : Int} (h : 0 ≤ k → Plain.cnt x ≤ k.toNat) : nthAns x k = (0, false) := by
  unfold nthAns
  split
  · rename_i h0
    rw [List.getElem?_eq_none (h h0)]
  · rfl

end Go.Proofs.YtlicdlpebhalaaaDoor
