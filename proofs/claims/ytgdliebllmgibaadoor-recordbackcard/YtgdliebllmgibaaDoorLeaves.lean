/- What the small functions of packages word and dustpanref1, and two of math/bits, answer, each at every argument. -/
import Derived.Test.YtgdliebllmgibaaDoorBase
import Derived.Test.YtgdliebllmgibaaDoorBits
import Derived.Laws.Bits64b
namespace Go.Proofs.YtgdliebllmgibaaDoor
open Go.RowKit

theorem held31 (n : Int) (w : World) : Calls Tryd.prog 85 #[.int .i64 n] w fun e w' => e = .returned (.int .i64 (Plain.hold n)) ∧ w' = w := by
  have hc := Plain.hold_cast n
  generalize Plain.hold n = m at *
  have H : Hid ((m : Int) = min (max n 0) 64) := hc
  clear hc
  go_enter Tryd.func85, Tryd.ntmps85
  go_wp2
  all_goals go_ret
  all_goals exact ⟨ret_int (by have := H.out; omega), rfl⟩

theorem hold32 (n t : Int) (w : World) : Calls Tryd.prog 58 #[.int .i64 n, .int .i64 t] w fun e w' => e = .returned (.int .i64 (max 0 (min n t))) ∧ w' = w := by
  go_enter Tryd.func58, Tryd.ntmps58
  go_wp2
  all_goals go_ret
  all_goals exact ⟨ret_int (by omega), rfl⟩

def isIn (a n : Int) : Bool := decide (0 ≤ a ∧ 0 ≤ n ∧ n ≤ 64 - a)
theorem isIn_iff (a n : Int) : isIn a n = true ↔ 0 ≤ a ∧ 0 ≤ n ∧ n ≤ 64 - a := by simp [isIn]

theorem inside27 (a n : Int) (w : World) (ha : a ≤ 9223372036854775807) : Calls Tryd.prog 97 #[.int .i64 a, .int .i64 n] w fun e w' => e = .returned (.bool (isIn a n)) ∧ w' = w := by
  by_cases h1 : 0 ≤ a
  · by_cases h2 : 0 ≤ n
    · go_enter Tryd.func97, Tryd.ntmps97
      go_wp2
      go_ret
      exact ⟨ret_bool (by simp [isIn, h1, h2]), rfl⟩
    · go_enter Tryd.func97, Tryd.ntmps97
      go_wp2
      go_ret
      exact ⟨ret_bool (by simp [isIn]; omega), rfl⟩
  · go_enter Tryd.func97, Tryd.ntmps97
    go_wp2
    go_ret
    exact ⟨ret_bool (by simp [isIn]; omega), rfl⟩

theorem bit_key (x i : Nat) (hx : x < 18446744073709551616) : (bits BinOp.and IntKind.u64 ((x : Int) / 2 ^ i) 1 == 1) = x.testBit i := by
  have e : ((x : Int) / 2 ^ i) = ((x / 2 ^ i : Nat) : Int) := by simp
  have hl : x / 2 ^ i < 18446744073709551616 := Nat.lt_of_le_of_lt (Nat.div_le_self _ _) hx
  rw [e, show (1 : Int) = ((1 : Nat) : Int) from rfl, bits_and_u64_nat _ _ hl (by omega), Nat.and_one_is_mod, Nat.testBit_eq_decide_div_mod_eq, Bool.eq_iff_iff]
  simp
  omega

def bitAt (x : Nat) (i : Int) : Bool := decide (0 ≤ i ∧ i < 64) && x.testBit i.toNat

theorem ones_key (n : Nat) (h : n ≤ 64) : IntKind.u64.wrap (IntKind.u64.wrap (2 ^ (n : Int).toNat) - 1) = (Plain.ones n : Int) := by
  rw [IntKind.wrap_u64, IntKind.wrap_u64, Int.toNat_natCast]
  exact Plain.ones_wrap n h

theorem ones15 (n : Int) (w : World) : Calls Tryd.prog 62 #[.int .i64 n] w fun e w' => e = .returned (.int .u64 (Plain.ones (Plain.hold n))) ∧ w' = w := by
  have hl := Plain.hold_le n
  have hk := ones_key _ hl
  have hh := fun w => held31 n w
  generalize Plain.hold n = m at *
  have H := hide hh
  have K := hide hk
  clear hh hk
  go_enter Tryd.func62, Tryd.ntmps62
  go_wp2_with (go_at_call 85; refine (H.out _).mono ?_; rintro e w' ⟨rfl, rfl⟩)
  go_ret
  exact ⟨ret_int (K.out), rfl⟩

/-! ### math/bits -/

theorem tz_key (x a : Nat) (hx : x < 18446744073709551616) (hx0 : x ≠ 0) (hlow : x &&& (18446744073709551616 - x) = a) :
    IntKind.u64.wrap (bits BinOp.and IntKind.u64 (x : Int) (IntKind.u64.wrap (-(x : Int))) * 285870213051353865) / 288230376151711744 = ((a * 285870213051353865 % 18446744073709551616 / 288230376151711744 : Nat) : Int) := by
  have e1 : IntKind.u64.wrap (-(x : Int)) = ((18446744073709551616 - x : Nat) : Int) := by rw [IntKind.wrap_u64]; omega
  rw [e1, bits_and_u64_nat x _ hx (by omega), hlow, IntKind.wrap_u64]
  omega

theorem and_u64 (a m : Nat) (ha : a < 18446744073709551616) (hm : m < 18446744073709551616) : bits BinOp.and IntKind.u64 (a : Int) (m : Int) = ((a &&& m : Nat) : Int) := bits_and_u64_nat a m ha hm
theorem wrap_nat (a : Nat) (ha : a < 18446744073709551616) : IntKind.u64.wrap (a : Int) = (a : Int) := by rw [IntKind.wrap_u64]; omega
theorem div_nat (a b : Nat) : (a : Int) / (b : Int) = ((a / b : Nat) : Int) := by simp

theorem i64_low7 (x : Nat) (hx : x < 9223372036854775808) : bits BinOp.and IntKind.i64 (wrap64 (x : Int)) 127 = ((x % 128 : Nat) : Int) := by
  have e : wrap64 (x : Int) = (x : Int) := by unfold wrap64; omega
  rw [e]
  have h := bits_mask .i64 63 (by decide) (fun n h0 h1 => by rw [IntKind.wrap_i64]; omega) 7 (by decide) (x : Int) (by omega) (by omega)
  rw [show (127 : Int) = 2 ^ 7 - 1 from rfl, h]
  omega

/-! ### Low, Field, With -/

theorem inv_key (x : Nat) (hx : x < 18446744073709551616) : bits BinOp.xor IntKind.u64 IntKind.u64.max (x : Int) = (Plain.inv x : Int) := by
  rw [show IntKind.u64.max = ((18446744073709551615 : Nat) : Int) from rfl, bits_xor_u64_nat _ _ (by omega) hx]
  congr 1
  apply Nat.eq_of_testBit_eq
  intro i
  rw [Nat.testBit_xor]
  have e : (18446744073709551615 : Nat) = 2 ^ 64 - 1 := rfl
  by_cases hi : i < 64
  · rw [Plain.inv_bit x i hx hi, e, Nat.testBit_two_pow_sub_one]
    simp [hi]
  · rw [Plain.high_bit x i hx (by omega), Plain.high_bit _ i (Plain.inv_lt x) (by omega), e, Nat.testBit_two_pow_sub_one]
    simp [hi]

def lowAns (x : Nat) (n : Int) : Int × Bool := if Plain.low (Plain.inv x) < Plain.hold n then (Plain.low (Plain.inv x), true) else (0, false)

theorem hold_in {a n : Int} (h : isIn a n = true) : Plain.hold n = n.toNat := by
  obtain ⟨h1, h2, h3⟩ := (isIn_iff a n).1 h
  unfold Plain.hold
  congr 1
  omega

theorem fld_key (x : Nat) (a n : Int) (hx : x < 18446744073709551616) (h : isIn a n = true) : bits BinOp.and IntKind.u64 ((x : Int) / 2 ^ a.toNat) (Plain.ones (Plain.hold n) : Int) = (Plain.fld x a.toNat n.toNat : Int) := by
  have e : ((x : Int) / 2 ^ a.toNat) = ((x / 2 ^ a.toNat : Nat) : Int) := by simp
  have hl : x / 2 ^ a.toNat < 18446744073709551616 := Nat.lt_of_le_of_lt (Nat.div_le_self _ _) hx
  rw [e, bits_and_u64_nat _ _ hl (Plain.ones_lt _ (Plain.hold_le n)), hold_in h]
  rfl

theorem bits_andNot_u64 (a b : Nat) (ha : a < 18446744073709551616) (hb : b < 18446744073709551616) :
    bits .andNot .u64 (a : Int) (b : Int) = ((a &&& Plain.inv b : Nat) : Int) := by
  have h1 : (BitVec.ofInt 64 (a : Int)).toNat = a := by
    rw [BitVec.ofInt_natCast, BitVec.toNat_ofNat]; exact Nat.mod_eq_of_lt (by omega)
  have h2 : (BitVec.ofInt 64 (b : Int)).toNat = b := by
    rw [BitVec.ofInt_natCast, BitVec.toNat_ofNat]; exact Nat.mod_eq_of_lt (by omega)
  have hx : a &&& Plain.inv b ≤ a := Nat.and_le_left
  show IntKind.u64.wrap ((BitVec.ofInt 64 (a : Int) &&& ~~~ BitVec.ofInt 64 (b : Int)).toNat : Int) = _
  rw [BitVec.toNat_and, BitVec.toNat_not, h1, h2, IntKind.wrap_u64]
  have e : 2 ^ 64 - 1 - b = Plain.inv b := rfl
  rw [e]
  omega

theorem wth_key (x v : Nat) (a n : Int) (hx : x < 18446744073709551616) (h : isIn a n = true) :
    bits BinOp.or IntKind.u64 (bits BinOp.andNot IntKind.u64 (x : Int) (IntKind.u64.wrap ((Plain.ones (Plain.hold n) : Int) * 2 ^ a.toNat))) (IntKind.u64.wrap ((v : Int) * 2 ^ a.toNat)) = (Plain.wth x a.toNat n.toNat v : Int) := by
  have e1 : IntKind.u64.wrap ((Plain.ones (Plain.hold n) : Int) * 2 ^ a.toNat) = ((Plain.ones (Plain.hold n) * 2 ^ a.toNat % 18446744073709551616 : Nat) : Int) := by
    rw [IntKind.wrap_u64]; simp
  have e2 : IntKind.u64.wrap ((v : Int) * 2 ^ a.toNat) = ((v * 2 ^ a.toNat % 18446744073709551616 : Nat) : Int) := by
    rw [IntKind.wrap_u64]; simp
  rw [e1, e2, bits_andNot_u64 _ _ hx (Nat.mod_lt _ (by omega)), bits_or_u64_nat _ _ (Nat.lt_of_le_of_lt Nat.and_le_left hx) (Nat.mod_lt _ (by omega)), hold_in h]
  rfl

def fieldAns (x : Nat) (a n : Int) : Nat := if isIn a n = true then Plain.fld x a.toNat n.toNat else 0

theorem field17 (x : Nat) (hx : x < 18446744073709551616) (a n : Int) (w : World) (ha : a ≤ 9223372036854775807) :
    Calls Tryd.prog 89 #[.int .u64 x, .int .i64 a, .int .i64 n] w fun e w' => e = .returned (.int .u64 (fieldAns x a n)) ∧ ∃ q, w' = w.drewN q := by
  have h27 := inside27 a n w ha
  unfold fieldAns
  by_cases h : isIn a n = true
  · rw [if_pos h]
    rw [h] at h27
    have HK := hide (fld_key x a n hx h)
    obtain ⟨h1, h2, h3⟩ := (isIn_iff a n).1 h
    clear h
    have H27 := hide h27
    clear h27
    have ha64 : a ≤ 64 := by omega
    go_enter Tryd.func89, Tryd.ntmps89
    go_wp2_with (first | (go_at_call 97; refine H27.out.mono ?_; rintro e w' ⟨rfl, rfl⟩))
    go_quiet ((go_at_call 62; exact Calls.quiet_of_same (ones15 _ _)))
    go_wp2
    go_ret
    exact ⟨ret_int HK.out, _, rfl⟩
  · rw [if_neg h]
    rw [Bool.not_eq_true] at h
    rw [h] at h27
    have H27 := hide h27
    clear h27 h
    go_enter Tryd.func89, Tryd.ntmps89
    go_wp2_with (first | (go_at_call 97; refine H27.out.mono ?_; rintro e w' ⟨rfl, rfl⟩))
    go_ret
    exact ⟨rfl, 0, rfl⟩

def withAns (x : Nat) (a n : Int) (v : Nat) : Nat × Bool := if isIn a n = true ∧ v ≤ Plain.ones (Plain.hold n) then (Plain.wth x a.toNat n.toNat v, true) else (0, false)

end Go.Proofs.YtgdliebllmgibaaDoor
