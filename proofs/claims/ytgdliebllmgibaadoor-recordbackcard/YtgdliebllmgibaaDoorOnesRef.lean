/- The document's lowest bits. -/
import Derived.Test.YtgdliebllmgibaaDoorLeaves
import Derived.Test.YtgdliebllmgibaaDoorMk
namespace Go.Proofs.YtgdliebllmgibaaDoor
open Go.RowKit

theorem or_key14 (j y : Nat) (hj : j < 18446744073709551616) (hy : y < 64) : bits BinOp.or IntKind.u64 (j : Int) (IntKind.u64.wrap (2 ^ y)) = ((j ||| 2 ^ y : Nat) : Int) := by
  have h2 : 2 ^ y < 2 ^ 64 := Nat.pow_lt_pow_right (by omega) hy
  have e : IntKind.u64.wrap ((2 : Int) ^ y) = ((2 ^ y : Nat) : Int) := by
    rw [IntKind.wrap_u64, show ((2 : Int) ^ y) = ((2 ^ y : Nat) : Int) from by simp]
    generalize 2 ^ y = z at *
    omega
  rw [e, bits_or_u64_nat j (2 ^ y) hj h2]

theorem ones16R (n : Int) (w : World) : Calls Tryd.prog 32 #[.int .i64 n] w fun e w' => e = .returned (.int .u64 (Plain.ones (Plain.hold n))) ∧ w' = w := by
  have h32 := hold32 n 64 w
  have e : max 0 (min n 64) = (Plain.hold n : Int) := by rw [Plain.hold_cast]; omega
  rw [e] at h32
  have hm := Plain.hold_le n
  generalize Plain.hold n = m at *
  have H := hide h32
  clear h32 e
  go_enter Tryd.func32, Tryd.ntmps32
  go_wp2
  go_loop [3, 4] (fun a i => ∃ k : Nat, k ≤ m ∧ i = .int .i64 (k : Int) ∧ a = .int .u64 (Plain.mk (fun _ => true) k : Int)) (fun _ i => m - (intOf i).toNat)
  case atStart => exact ⟨0, Nat.zero_le _, rfl, rfl⟩
  case round =>
    obtain ⟨k, hk, rfl, rfl⟩ := hrel
    by_cases hlt : k < m
    · have ho := or_key14 _ k (Plain.mk_lt (fun _ => true) k (by omega)) (by omega)
      rw [Plain.mk_yes _ k rfl] at ho
      generalize Plain.mk (fun _ => true) k = j at *
      go_wp2_with (go_at_call 58; refine H.out.mono ?_; rintro e w1 ⟨rfl, rfl⟩)
      go_round
      case rel => exact ⟨k + 1, by omega, by go_num, rfl⟩
      case measure => simp [intOf]; omega
    · obtain rfl : k = m := by omega
      rw [Plain.mk_ones]
      go_wp2_with (go_at_call 58; refine H.out.mono ?_; rintro e w1 ⟨rfl, rfl⟩)
      go_ret
      exact ⟨rfl, rfl⟩

end Go.Proofs.YtgdliebllmgibaaDoor
