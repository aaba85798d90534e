/- What the reference functions of the statements answer, each at every argument: the same as the functions of package word. -/
import Derived.Test.YtlicdlpebhalaaaDoorPlaces
import Derived.Test.YtlicdlpebhalaaaDoorMk
import Derived.Test.YtlicdlpebhalaaaDoorAwake
namespace Go.Proofs.YtlicdlpebhalaaaDoor
open Go.RowKit

theorem or_key (j y : Nat) (hj : j < 18446744073709551616) (hy : y < 64) : bits BinOp.or IntKind.u64 (j : Int) (IntKind.u64.wrap (2 ^ y)) = ((j ||| 2 ^ y : Nat) : Int) := by
  have h2 : 2 ^ y < 2 ^ 64 := Nat.pow_lt_pow_right (by omega) hy
  have e : IntKind.u64.wrap ((2 : Int) ^ y) = ((2 ^ y : Nat) : Int) := by
    rw [IntKind.wrap_u64, show ((2 : Int) ^ y) = ((2 ^ y : Nat) : Int) from by simp]
    generalize 2 ^ y = z at *
    omega
  rw [e, bits_or_u64_nat j (2 ^ y) hj h2]

theorem bitN (x : Nat) (hx : x < 18446744073709551616) (i : Int) (k : Nat) (hi : i = (k : Int)) (hk : k < 64) (b : Bool) (hb : x.testBit k = b) (w : World) :
    Calls Tryd.prog 33 #[.int .u64 (x : Int), .int .i64 i] w fun e w' => e = .returned (.bool b) ∧ w' = w := by
  have h := bit29 x hx i w
  have e : bitAt x i = b := by
    subst hi
    unfold bitAt
    rw [Int.toNat_natCast, hb]
    have : (0 : Int) ≤ (k : Int) ∧ (k : Int) < 64 := by omega
    simp [this]
  rw [e] at h
  exact h

end Go.Proofs.YtlicdlpebhalaaaDoor
