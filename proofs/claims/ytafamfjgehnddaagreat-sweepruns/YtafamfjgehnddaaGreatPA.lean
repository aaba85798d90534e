/- Plain facts on bits of numbers below 2^64: the places of set bits, how many they are, the lowest one, and the sums that math/bits.OnesCount64 makes. No program is named here. Plain facts on bits of numbers below 2^64: the lowest set bit, and what is left when it is cleared. No program is named here. What the small functions of packages word and dustpanref1, and two of math/bits, answer, each at every argument. A sweep as numbers: which word each step reads or turns, and what comes of it. A block that lies by itself: read, turned, made, left. (Of any program.) Phase's law where two operations that write are ready. (Of any program.) Phase's stretch, with cuts of slices among what is read; 'append' as an operation that writes, of whatever is appended. (Of any program.) As Phase, where the last operation of all (q) turns what the others read. (Of any program.) Package sweep: new machines; what they hold. What lies of an arena, as facts that worlds above keep. Package sweep: what a step is of, its access, Step, Done, Freed (printed by gen/swpstep.py). A word of a page, and what is read of it, as the laws ask for them. One sweep of a page, alone: what is left, what was freed (the law's swept); the document's example. -/
import Derived.Lib.TrailingZeros
import Derived.Test.YtafamfjgehnddaaGreatBase
import Derived.Laws.Bits64b
import Derived.Test.YtafamfjgehnddaaGreatRec
import Derived.Test.YtafamfjgehnddaaGreatPS
import Derived.Test.YtafamfjgehnddaaGreatPhase
import Derived.Test.YtafamfjgehnddaaGreatTreWalk2
import Derived.Laws.OwnMore
import Derived.Maps.AppendAt
import Derived.Test.YtafamfjgehnddaaGreatLayFns
import Derived.Test.YtafamfjgehnddaaGreatOver
import Derived.Test.YtafamfjgehnddaaGreatLayRef
import Derived.OwnWalk
namespace Go.Proofs.YtafamfjgehnddaaGreat.Plain

/-- The places of the set bits below n. -/
def upTo (x n : Nat) : List Nat := (List.range n).filter fun i => x.testBit i
def pls (x : Nat) : List Nat := upTo x 64
def cnt (x : Nat) : Nat := (pls x).length

theorem upTo_zero (x : Nat) : upTo x 0 = [] := rfl
theorem upTo_succ (x n : Nat) : upTo x (n + 1) = if x.testBit n then upTo x n ++ [n] else upTo x n := by
  unfold upTo
  rw [List.range_succ, List.filter_append]
  cases h : x.testBit n <;> simp [h]

theorem cnt_le (x : Nat) : cnt x ≤ 64 := by
  unfold cnt pls upTo
  exact Nat.le_trans (List.length_filter_le _ _) (by simp)

/-! ### the sum of bits -/

def pop : Nat → Nat → Nat
  | 0, _ => 0
  | f + 1, x => x % 2 + pop f (x / 2)

theorem upTo_len (n x : Nat) : (upTo x n).length = pop n x := by
  induction n generalizing x with
  | zero => rfl
  | succ n ih =>
    have e : (upTo x (n + 1)).length = (if x.testBit 0 then 1 else 0) + (upTo (x / 2) n).length := by
      unfold upTo
      rw [List.range_succ_eq_map, List.filter_cons, List.filter_map]
      have h : ((fun i => x.testBit i) ∘ Nat.succ) = fun i => (x / 2).testBit i := by
        funext i; simp [Nat.testBit_succ]
      rw [h]
      cases x.testBit 0 <;> simp [Nat.add_comm]
    rw [e, ih, pop]
    congr 1
    rw [Nat.testBit_zero]
    rcases Nat.mod_two_eq_zero_or_one x with h | h <;> simp [h]

theorem cnt_pop (x : Nat) : cnt x = pop 64 x := upTo_len 64 x

theorem pop_add (k f : Nat) : ∀ x, pop (k + f) x = pop k x + pop f (x / 2 ^ k) := by
  induction k with
  | zero => intro x; simp [pop]
  | succ k ih =>
    intro x
    rw [show k + 1 + f = (k + f) + 1 from by omega, pop, pop, ih, Nat.div_div_eq_div_mul, Nat.pow_succ, Nat.mul_comm 2]
    omega

theorem pop_mod (k : Nat) : ∀ x, pop k (x % 2 ^ k) = pop k x := by
  induction k with
  | zero => intro x; rfl
  | succ k ih =>
    intro x
    have h0 : x % 2 ^ (k + 1) % 2 = x % 2 := Nat.mod_mod_of_dvd _ ⟨2 ^ k, by rw [Nat.pow_succ, Nat.mul_comm]⟩
    have h1 : x % 2 ^ (k + 1) / 2 = x / 2 % 2 ^ k := by
      rw [Nat.pow_succ, Nat.mul_comm, Nat.mod_mul_right_div_self]
    rw [pop, pop, h0, h1, ih]

theorem pop_byte (f x : Nat) : pop (8 + f) x = pop 8 (x % 256) + pop f (x / 256) := by
  rw [pop_add, ← pop_mod 8 x]

theorem byte8_le : ∀ x, x < 256 → pop 8 x ≤ 8 := by decide +kernel

/-! ### and, cut at a byte -/

theorem and_cat (a m y n : Nat) (ha : a < 256) (hm : m < 256) : (a + 256 * y) &&& (m + 256 * n) = (a &&& m) + 256 * (y &&& n) := by
  have h8 : (256 : Nat) = 2 ^ 8 := rfl
  have hlt : a &&& m < 2 ^ 8 := Nat.and_lt_two_pow _ (by omega)
  apply Nat.eq_of_testBit_eq
  intro i
  rw [Nat.testBit_and, Nat.add_comm a, Nat.add_comm m, Nat.add_comm (a &&& m), h8, Nat.testBit_two_pow_mul_add _ (by omega), Nat.testBit_two_pow_mul_add _ (by omega), Nat.testBit_two_pow_mul_add _ hlt]
  split
  · rw [Nat.testBit_and]
  · rw [Nat.testBit_and]

/-- One byte's pairs, and its fours. -/
def s1 (x m : Nat) : Nat := (x / 2 &&& m) + (x &&& m)
def s2 (x m : Nat) : Nat := (x / 4 &&& m) + (x &&& m)
def s3 (x m : Nat) : Nat := (x / 16 + x) &&& m

theorem s1_cut (a y m : Nat) (ha : a < 256) : s1 (a + 256 * y) (85 + 256 * m) = s1 a 85 + 256 * s1 y m := by
  unfold s1
  have e : (a + 256 * y) / 2 = (a / 2 + 128 * (y % 2)) + 256 * (y / 2) := by omega
  have f : ∀ a, a < 256 → ∀ b, b < 2 → (a / 2 + 128 * b) &&& 85 = a / 2 &&& 85 := by decide +kernel
  rw [e, and_cat _ _ _ _ (by omega) (by omega), and_cat _ _ _ _ ha (by omega), f a ha _ (Nat.mod_lt _ (by omega))]
  omega

theorem s2_cut (a y m : Nat) (ha : a < 256) : s2 (a + 256 * y) (51 + 256 * m) = s2 a 51 + 256 * s2 y m := by
  unfold s2
  have e : (a + 256 * y) / 4 = (a / 4 + 64 * (y % 4)) + 256 * (y / 4) := by omega
  have f : ∀ a, a < 256 → ∀ b, b < 4 → (a / 4 + 64 * b) &&& 51 = a / 4 &&& 51 := by decide +kernel
  rw [e, and_cat _ _ _ _ (by omega) (by omega), and_cat _ _ _ _ ha (by omega), f a ha _ (Nat.mod_lt _ (by omega))]
  omega

theorem s3_cut (a y m : Nat) (ha : a < 69) (hy : y % 16 < 5) : s3 (a + 256 * y) (15 + 256 * m) = s3 a 15 + 256 * s3 y m := by
  unfold s3
  have e : (a + 256 * y) / 16 + (a + 256 * y) = (a / 16 + a + 16 * (y % 16)) + 256 * (y / 16 + y) := by omega
  have f : ∀ a, a < 69 → ∀ b, b < 5 → (a / 16 + a + 16 * b) &&& 15 = (a / 16 + a) &&& 15 := by decide +kernel
  rw [e, and_cat _ _ _ _ (by omega) (by omega), f a ha _ hy]

/-- One byte, all three. -/
theorem byte_all : ∀ a, a < 256 → s1 a 85 < 256 ∧ s2 (s1 a 85) 51 < 69 ∧ s2 (s1 a 85) 51 % 16 < 5 ∧ s3 (s2 (s1 a 85) 51) 15 = pop 8 a := by decide +kernel

/-- The three masks, n bytes long. -/
def mask (b : Nat) : Nat → Nat
  | 0 => 0
  | n + 1 => b + 256 * mask b n

theorem swar (n : Nat) : ∀ x, x < 256 ^ n → ∃ q, s3 (s2 (s1 x (mask 85 n)) (mask 51 n)) (mask 15 n) = q ∧ (s2 (s1 x (mask 85 n)) (mask 51 n)) % 16 < 5 := by
  intro x hx
  refine ⟨_, rfl, ?_⟩
  cases n with
  | zero => simp [mask, s1, s2]
  | succ n =>
    obtain ⟨a, y, ha, rfl⟩ : ∃ a y, a < 256 ∧ x = a + 256 * y := ⟨x % 256, x / 256, Nat.mod_lt _ (by omega), by omega⟩
    obtain ⟨h1, h2, h3, _⟩ := byte_all a ha
    simp only [mask]
    rw [s1_cut a y _ ha, s2_cut _ _ _ h1]
    omega

/-- The bytes' numbers of bits, side by side. -/
def bytes : Nat → Nat → Nat
  | 0, _ => 0
  | n + 1, x => pop 8 (x % 256) + 256 * bytes n (x / 256)

theorem swar_bytes (n : Nat) : ∀ x, x < 256 ^ n → s3 (s2 (s1 x (mask 85 n)) (mask 51 n)) (mask 15 n) = bytes n x := by
  induction n with
  | zero => intro x hx; simp [mask, s1, s2, s3, bytes]
  | succ n ih =>
    intro x hx
    have hy : x / 256 < 256 ^ n := by rw [Nat.pow_succ] at hx; omega
    obtain ⟨a, y, ha, hxe⟩ : ∃ a y, a < 256 ∧ x = a + 256 * y := ⟨x % 256, x / 256, Nat.mod_lt _ (by omega), by omega⟩
    have e1 : x % 256 = a := by omega
    have e2 : x / 256 = y := by omega
    rw [e2] at hy
    obtain ⟨h1, h2, h3, h4⟩ := byte_all a ha
    obtain ⟨_, _, h5⟩ := swar n y hy
    simp only [mask, bytes, e1, e2]
    rw [hxe, s1_cut a y _ ha, s2_cut _ _ _ h1, s3_cut _ _ _ h2 h5, h4, ih y hy]

theorem swar64 (x : Nat) (hx : x < 18446744073709551616) :
    s3 (s2 (s1 x 6148914691236517205) 3689348814741910323) 1085102592571150095 = bytes 8 x := swar_bytes 8 x hx

theorem s1_le (x : Nat) : s1 x 6148914691236517205 < 18446744073709551616 := by
  unfold s1
  have h1 : x / 2 &&& 6148914691236517205 ≤ 6148914691236517205 := Nat.and_le_right
  have h2 : x &&& 6148914691236517205 ≤ 6148914691236517205 := Nat.and_le_right
  omega

theorem s2_le (x : Nat) : s2 x 3689348814741910323 < 7378697629483820647 := by
  unfold s2
  have h1 : x / 4 &&& 3689348814741910323 ≤ 3689348814741910323 := Nat.and_le_right
  have h2 : x &&& 3689348814741910323 ≤ 3689348814741910323 := Nat.and_le_right
  omega

theorem div_cut (c a y : Nat) (ha : a < c) : (a + c * y) / c = y := by
  rw [Nat.add_mul_div_left _ _ (by omega), Nat.div_eq_of_lt ha, Nat.zero_add]

theorem add_cut (c a b y z : Nat) : a + c * y + (b + c * z) = (a + b) + c * (y + z) := by
  rw [Nat.mul_add]; omega

theorem low7 (a z : Nat) (h : a ≤ 64) : (a + 256 * z) % 128 = a := by omega

theorem cut1 (A B C D E F G H : Nat) : A + 256 * (B + 256 * (C + 256 * (D + 256 * (E + 256 * (F + 256 * (G + 256 * H)))))) + (B + 256 * (C + 256 * (D + 256 * (E + 256 * (F + 256 * (G + 256 * H))))))
      = (A + B + 256 * (B + C)) + 65536 * (C + D + 256 * (D + E + 256 * (E + F + 256 * (F + G + 256 * (G + H + 256 * H))))) := by omega
theorem cut2 (A B C D E F G H : Nat) : (A + B + 256 * (B + C)) + 65536 * (C + D + 256 * (D + E + 256 * (E + F + 256 * (F + G + 256 * (G + H + 256 * H))))) + (C + D + 256 * (D + E + 256 * (E + F + 256 * (F + G + 256 * (G + H + 256 * H)))))
      = (A + B + C + D + 256 * (B + C + D + E + 256 * (C + D + E + F + 256 * (D + E + F + G)))) + 4294967296 * (E + F + G + H + 256 * (F + G + H + 256 * (G + H + 256 * H))) := by omega
theorem cut3 (A B C D E F G H : Nat) : (A + B + C + D + 256 * (B + C + D + E + 256 * (C + D + E + F + 256 * (D + E + F + G)))) + 4294967296 * (E + F + G + H + 256 * (F + G + H + 256 * (G + H + 256 * H))) + (E + F + G + H + 256 * (F + G + H + 256 * (G + H + 256 * H)))
      = (A + B + C + D + E + F + G + H) + 256 * (B + C + D + E + 256 * (C + D + E + F + 256 * (D + E + F + G)) + 16777216 * (E + F + G + H + 256 * (F + G + H + 256 * (G + H + 256 * H))) + (F + G + H + 256 * (G + H + 256 * H))) := by omega
theorem twice (x c : Nat) : x + x / c ≤ 2 * x := by have := Nat.div_le_self x c; omega

theorem fold8 (p0 p1 p2 p3 p4 p5 p6 p7 : Nat) (h0 : p0 ≤ 8) (h1 : p1 ≤ 8) (h2 : p2 ≤ 8) (h3 : p3 ≤ 8) (h4 : p4 ≤ 8) (h5 : p5 ≤ 8) (h6 : p6 ≤ 8) (h7 : p7 ≤ 8)
    (x3 x4 x5 x6 : Nat) (e3 : x3 = p0 + 256 * (p1 + 256 * (p2 + 256 * (p3 + 256 * (p4 + 256 * (p5 + 256 * (p6 + 256 * p7)))))))
    (e4 : x4 = x3 + x3 / 256) (e5 : x5 = x4 + x4 / 65536) (e6 : x6 = x5 + x5 / 4294967296) :
    x6 < 4900000000000000000 ∧ x3 ≤ x4 ∧ x4 ≤ x5 ∧ x5 ≤ x6 ∧ x6 % 128 = p0 + p1 + p2 + p3 + p4 + p5 + p6 + p7 := by
  have b3 : x3 < 600000000000000000 := by omega
  have b4 := twice x3 256
  have b5 := twice x4 65536
  have b6 := twice x5 4294967296
  have d3 := div_cut 256 p0 (p1 + 256 * (p2 + 256 * (p3 + 256 * (p4 + 256 * (p5 + 256 * (p6 + 256 * p7)))))) (by omega)
  rw [← e3] at d3
  have f4 := e4
  rw [d3, e3, cut1] at f4
  have d4 := div_cut 65536 (p0 + p1 + 256 * (p1 + p2)) (p2 + p3 + 256 * (p3 + p4 + 256 * (p4 + p5 + 256 * (p5 + p6 + 256 * (p6 + p7 + 256 * p7))))) (by clear f4 d3; omega)
  rw [← f4] at d4
  have f5 := e5
  rw [d4, f4, cut2] at f5
  have d5 := div_cut 4294967296 (p0 + p1 + p2 + p3 + 256 * (p1 + p2 + p3 + p4 + 256 * (p2 + p3 + p4 + p5 + 256 * (p3 + p4 + p5 + p6)))) (p4 + p5 + p6 + p7 + 256 * (p5 + p6 + p7 + 256 * (p6 + p7 + 256 * p7))) (by clear f4 d3 f5 d4; omega)
  rw [← f5] at d5
  have f6 := e6
  rw [d5, f5, cut3] at f6
  refine ⟨?_, ?_, ?_, ?_, ?_⟩
  · rw [← e4] at b4; rw [← e5] at b5; rw [← e6] at b6; clear f4 f5 f6 d3 d4 d5 e3 e4 e5 e6; omega
  · rw [e4]; exact Nat.le_add_right _ _
  · rw [e5]; exact Nat.le_add_right _ _
  · rw [e6]; exact Nat.le_add_right _ _
  · rw [f6]; exact low7 _ _ (by clear f4 f5 f6 d3 d4 d5 e3 e4 e5 e6 b3 b4 b5 b6; omega)

/-- What OnesCount64 adds up, at every number below 2^64. -/
theorem swar_cnt (x : Nat) (hx : x < 18446744073709551616) (x1 x2 x3 x4 x5 x6 : Nat) (e1 : x1 = s1 x 6148914691236517205) (e2 : x2 = s2 x1 3689348814741910323) (e3 : x3 = s3 x2 1085102592571150095)
    (e4 : x4 = x3 + x3 / 256) (e5 : x5 = x4 + x4 / 65536) (e6 : x6 = x5 + x5 / 4294967296) : x1 < 18446744073709551616 ∧ x2 < 7378697629483820647 ∧ x6 < 4900000000000000000 ∧ x3 ≤ x4 ∧ x4 ≤ x5 ∧ x5 ≤ x6 ∧ x6 % 128 = cnt x := by
  have e : x3 = bytes 8 x := by rw [e3, e2, e1]; exact swar64 x hx
  simp only [bytes, Nat.mul_zero, Nat.add_zero] at e
  obtain ⟨h6, k3, k4, k5, hc⟩ := fold8 _ _ _ _ _ _ _ _ 
    (byte8_le _ (Nat.mod_lt x (by omega))) (byte8_le _ (Nat.mod_lt (x / 256) (by omega))) (byte8_le _ (Nat.mod_lt (x / 256 / 256) (by omega))) (byte8_le _ (Nat.mod_lt (x / 256 / 256 / 256) (by omega))) (byte8_le _ (Nat.mod_lt (x / 256 / 256 / 256 / 256) (by omega))) (byte8_le _ (Nat.mod_lt (x / 256 / 256 / 256 / 256 / 256) (by omega))) (byte8_le _ (Nat.mod_lt (x / 256 / 256 / 256 / 256 / 256 / 256) (by omega))) (byte8_le _ (Nat.mod_lt (x / 256 / 256 / 256 / 256 / 256 / 256 / 256) (by omega)))
    x3 x4 x5 x6 (by rw [e]) e4 e5 e6
  refine ⟨by rw [e1]; exact s1_le x, by rw [e2]; exact s2_le _, h6, k3, k4, k5, ?_⟩
  have d : ∀ y, x / 256 / 256 / 256 / 256 / 256 / 256 / 256 = y → pop 8 y = pop 8 (y % 256) := fun y _ => (pop_mod 8 y).symm
  have a0 : pop 64 x = pop 8 (x % 256) + pop 56 (x / 256) := pop_byte 56 _
  have a1 : pop 56 (x / 256) = pop 8 (x / 256 % 256) + pop 48 (x / 256 / 256) := pop_byte 48 _
  have a2 : pop 48 (x / 256 / 256) = pop 8 (x / 256 / 256 % 256) + pop 40 (x / 256 / 256 / 256) := pop_byte 40 _
  have a3 : pop 40 (x / 256 / 256 / 256) = pop 8 (x / 256 / 256 / 256 % 256) + pop 32 (x / 256 / 256 / 256 / 256) := pop_byte 32 _
  have a4 : pop 32 (x / 256 / 256 / 256 / 256) = pop 8 (x / 256 / 256 / 256 / 256 % 256) + pop 24 (x / 256 / 256 / 256 / 256 / 256) := pop_byte 24 _
  have a5 : pop 24 (x / 256 / 256 / 256 / 256 / 256) = pop 8 (x / 256 / 256 / 256 / 256 / 256 % 256) + pop 16 (x / 256 / 256 / 256 / 256 / 256 / 256) := pop_byte 16 _
  have a6 : pop 16 (x / 256 / 256 / 256 / 256 / 256 / 256) = pop 8 (x / 256 / 256 / 256 / 256 / 256 / 256 % 256) + pop 8 (x / 256 / 256 / 256 / 256 / 256 / 256 / 256) := pop_byte 8 _
  have a7 := d _ rfl
  rw [hc, cnt_pop, a0, a1, a2, a3, a4, a5, a6, a7]
  simp only [Nat.add_assoc]

end Go.Proofs.YtafamfjgehnddaaGreat.Plain

namespace Go.Proofs.YtafamfjgehnddaaGreat.Plain

def inv (x : Nat) : Nat := 18446744073709551615 - x
theorem inv_lt (x : Nat) : inv x < 18446744073709551616 := by unfold inv; omega
theorem inv_bit (x i : Nat) (hx : x < 18446744073709551616) (hi : i < 64) : (inv x).testBit i = !x.testBit i := by
  have e : inv x = 2 ^ 64 - (x + 1) := by unfold inv; omega
  rw [e, Nat.testBit_two_pow_sub_succ hx]
  simp [hi]

/-- The place of the lowest set bit; 64: there is none. -/
def low (x : Nat) : Nat := Lib.ctz 64 x
theorem low_le (x : Nat) (hx : x < 18446744073709551616) : low x ≤ 64 := by
  unfold low
  by_cases h : x = 0
  · simp [Lib.ctz, h]
  · exact Nat.le_of_lt (Lib.lowest_bit 64 x h hx).2
theorem low_zero : low 0 = 64 := rfl
theorem low_lt (x : Nat) (h : x ≠ 0) (hx : x < 18446744073709551616) : low x < 64 := (Lib.lowest_bit 64 x h hx).2

theorem low_form (x : Nat) (h : x ≠ 0) (hx : x < 18446744073709551616) : ∃ m, x = 2 ^ low x * (2 * m + 1) := by
  obtain ⟨m, hm, _⟩ := Lib.ctzFrom_spec 64 x (by omega) hx
  have e : low x = Lib.ctzFrom 64 x := by simp [low, Lib.ctz, h]
  rw [e]
  exact ⟨m, hm⟩

theorem odd_bit (k m i : Nat) : (2 ^ k * (2 * m + 1)).testBit i = (decide (k ≤ i) && (2 * m + 1).testBit (i - k)) := by
  rw [Nat.mul_comm, Nat.testBit_mul_two_pow]

theorem low_below (x : Nat) (h : x ≠ 0) (hx : x < 18446744073709551616) (i : Nat) (hi : i < low x) : x.testBit i = false := by
  obtain ⟨m, hm⟩ := low_form x h hx
  generalize low x = k at *
  rw [hm, odd_bit]
  simp; omega

theorem low_bit (x : Nat) (h : x ≠ 0) (hx : x < 18446744073709551616) : x.testBit (low x) = true := by
  obtain ⟨m, hm⟩ := low_form x h hx
  generalize low x = k at *
  rw [hm, odd_bit]
  simp

/-- The number without its lowest bit. -/
def drop1 (x : Nat) : Nat := x &&& (x - 1)
theorem drop1_lt (x : Nat) (h : x ≠ 0) : drop1 x < x := by
  unfold drop1
  have : x &&& (x - 1) ≤ x - 1 := Nat.and_le_right
  omega

theorem drop1_bit (x : Nat) (h : x ≠ 0) (hx : x < 18446744073709551616) (i : Nat) : (drop1 x).testBit i = (x.testBit i && decide (i ≠ low x)) := by
  obtain ⟨m, hm⟩ := low_form x h hx
  unfold drop1
  generalize low x = k at *
  have e : x - 1 = 2 ^ k * (2 * m) + (2 ^ k - 1) := by
    have := Nat.two_pow_pos k
    rw [hm, Nat.mul_add]; omega
  have hlt : 2 ^ k - 1 < 2 ^ k := by have := Nat.two_pow_pos k; omega
  rw [Nat.testBit_and, e, Nat.testBit_two_pow_mul_add _ hlt, hm, odd_bit]
  by_cases h1 : i < k
  · have h2 : ¬ k ≤ i := by omega
    simp [h2]
  · have h2 : k ≤ i := by omega
    rw [if_neg h1]
    by_cases h3 : i = k
    · subst h3; simp
    · obtain ⟨j, rfl⟩ : ∃ j, i = k + (j + 1) := ⟨i - k - 1, by omega⟩
      have h4 : k + (j + 1) - k = j + 1 := by omega
      simp only [h4, Nat.testBit_succ]
      have d1 : (2 * m + 1) / 2 = m := by omega
      have d2 : 2 * m / 2 = m := by omega
      rw [d1, d2]
      simp

theorem range_cut (n k : Nat) (h : k < n) : List.range n = List.range k ++ k :: (List.range (n - k - 1)).map (· + (k + 1)) := by
  obtain ⟨d, rfl⟩ : ∃ d, n = k + (1 + d) := ⟨n - k - 1, by omega⟩
  have e : k + (1 + d) - k - 1 = d := by omega
  rw [e, List.range_add, List.range_add]
  simp [Function.comp_def, Nat.add_comm, Nat.add_left_comm]

theorem pls_zero : pls 0 = [] := by simp [pls, upTo]

/-- The places are the lowest one, and those of what is left. -/
theorem pls_cons (x : Nat) (h : x ≠ 0) (hx : x < 18446744073709551616) : pls x = low x :: pls (drop1 x) := by
  have hk := low_lt x h hx
  unfold pls upTo
  rw [range_cut 64 (low x) hk]
  simp only [List.filter_append, List.filter_cons]
  have h1 : (List.range (low x)).filter (fun i => x.testBit i) = [] := by
    rw [List.filter_eq_nil_iff]
    intro i hi
    simp [low_below x h hx i (by simpa using hi)]
  have h2 : (List.range (low x)).filter (fun i => (drop1 x).testBit i) = [] := by
    rw [List.filter_eq_nil_iff]
    intro i hi
    simp [drop1_bit x h hx, low_below x h hx i (by simpa using hi)]
  have h3 : (drop1 x).testBit (low x) = false := by simp [drop1_bit x h hx]
  have h4 : ∀ l : List Nat, (l.map (· + (low x + 1))).filter (fun i => (drop1 x).testBit i) = (l.map (· + (low x + 1))).filter (fun i => x.testBit i) := by
    intro l
    apply List.filter_congr
    intro i hi
    obtain ⟨j, _, rfl⟩ := List.mem_map.1 hi
    rw [drop1_bit x h hx]
    have : j + (low x + 1) ≠ low x := by omega
    simp [this]
  rw [h1, h2, h3, h4, low_bit x h hx]
  simp

theorem pls_ne (x : Nat) (h : x ≠ 0) (hx : x < 18446744073709551616) : pls x ≠ [] := by rw [pls_cons x h hx]; simp

theorem mem_pls (x i : Nat) : i ∈ pls x ↔ i < 64 ∧ x.testBit i = true := by simp [pls, upTo]

/-- n held from 0 to 64. -/
def hold (n : Int) : Nat := (min (max n 0) 64).toNat
theorem hold_le (n : Int) : hold n ≤ 64 := by unfold hold; omega
theorem hold_cast (n : Int) : (hold n : Int) = min (max n 0) 64 := by unfold hold; omega

/-- The n lowest bits. -/
def ones (n : Nat) : Nat := 2 ^ n - 1
theorem ones_lt (n : Nat) (h : n ≤ 64) : ones n < 18446744073709551616 := by
  unfold ones
  have : 2 ^ n ≤ 2 ^ 64 := Nat.pow_le_pow_right (by omega) h
  have := Nat.two_pow_pos n
  omega
theorem ones_bit (n i : Nat) : (ones n).testBit i = decide (i < n) := by unfold ones; exact Nat.testBit_two_pow_sub_one n i
theorem ones_wrap (n : Nat) (h : n ≤ 64) : ((2 : Int) ^ n % 18446744073709551616 - 1) % 18446744073709551616 = (ones n : Int) := by
  have hp := Nat.two_pow_pos n
  have e : ((2 : Int) ^ n) = ((2 ^ n : Nat) : Int) := by simp
  unfold ones
  by_cases h1 : n = 64
  · subst h1; decide
  · have : 2 ^ n ≤ 2 ^ 63 := Nat.pow_le_pow_right (by omega) (by omega)
    rw [e]
    omega

theorem ones_mono (n x : Nat) : x ≤ ones n ↔ x < 2 ^ n := by
  unfold ones
  have := Nat.two_pow_pos n
  omega

theorem high_bit (x i : Nat) (hx : x < 18446744073709551616) (hi : 64 ≤ i) : x.testBit i = false :=
  Nat.testBit_lt_two_pow (Nat.lt_of_lt_of_le (show x < 2 ^ 64 from hx) (Nat.pow_le_pow_right (by omega) hi))

/-- Two numbers below 2^64 with the same 64 bits are one. -/
theorem eq_of_bits (x y : Nat) (hx : x < 18446744073709551616) (hy : y < 18446744073709551616) (h : ∀ i, i < 64 → x.testBit i = y.testBit i) : x = y := by
  apply Nat.eq_of_testBit_eq
  intro i
  by_cases hi : i < 64
  · exact h i hi
  · rw [high_bit x i hx (by omega), high_bit y i hy (by omega)]

/-- The n bits from bit a on. -/
def fld (x a n : Nat) : Nat := x / 2 ^ a &&& ones n
theorem fld_lt (x a n : Nat) (h : n ≤ 64) : fld x a n < 18446744073709551616 := by
  have h1 : fld x a n ≤ ones n := Nat.and_le_right
  have := ones_lt n h
  omega
theorem fld_le (x a n : Nat) : fld x a n ≤ ones n := Nat.and_le_right
theorem fld_bit (x a n i : Nat) : (fld x a n).testBit i = (decide (i < n) && x.testBit (a + i)) := by
  unfold fld
  rw [Nat.testBit_and, ones_bit, Nat.testBit_div_two_pow, Nat.add_comm, Bool.and_comm]

/-- x, but the n bits from bit a on are v's. -/
def wth (x a n v : Nat) : Nat := (x &&& inv (ones n * 2 ^ a % 18446744073709551616)) ||| (v * 2 ^ a % 18446744073709551616)
theorem wth_lt (x a n v : Nat) (hx : x < 18446744073709551616) : wth x a n v < 18446744073709551616 := by
  unfold wth
  have h1 : x &&& inv (ones n * 2 ^ a % 18446744073709551616) < 2 ^ 64 := Nat.lt_of_le_of_lt Nat.and_le_left hx
  have h2 : v * 2 ^ a % 18446744073709551616 < 2 ^ 64 := Nat.mod_lt _ (by omega)
  exact Nat.or_lt_two_pow h1 h2
theorem shl_bit (v a i : Nat) (hi : i < 64) : (v * 2 ^ a % 18446744073709551616).testBit i = (decide (a ≤ i) && v.testBit (i - a)) := by
  rw [show (18446744073709551616 : Nat) = 2 ^ 64 from rfl, Nat.testBit_mod_two_pow, Nat.testBit_mul_two_pow]
  simp [hi]
theorem wth_bit (x a n v i : Nat) (hi : i < 64) (hv : v ≤ ones n) : (wth x a n v).testBit i = if a ≤ i ∧ i < a + n then v.testBit (i - a) else x.testBit i := by
  unfold wth
  rw [Nat.testBit_or, Nat.testBit_and, inv_bit _ _ (Nat.mod_lt _ (by omega)) hi, shl_bit _ _ _ hi, shl_bit _ _ _ hi, ones_bit]
  by_cases h1 : a ≤ i
  · by_cases h2 : i < a + n
    · have h3 : i - a < n := by omega
      simp [h1, h2, h3]
    · have h3 : ¬ i - a < n := by omega
      have h4 : v.testBit (i - a) = false := Nat.testBit_lt_two_pow (Nat.lt_of_lt_of_le ((ones_mono n v).1 hv) (Nat.pow_le_pow_right (by omega) (by omega)))
      simp [h2, h3, h4]
  · simp [h1]

theorem filter_both (p q : Nat → Bool) (l : List Nat) : (l.filter p).length + (l.filter q).length = (l.filter fun i => p i || q i).length + (l.filter fun i => p i && q i).length := by
  induction l with
  | nil => rfl
  | cons a l ih =>
    simp only [List.filter_cons]
    cases p a <;> cases q a <;> simp <;> omega

theorem cnt_both (a b : Nat) : cnt a + cnt b = cnt (a ||| b) + cnt (a &&& b) := by
  unfold cnt pls upTo
  rw [filter_both]
  congr 2
  · apply List.filter_congr; intro i _; rw [Nat.testBit_or]
  · apply List.filter_congr; intro i _; rw [Nat.testBit_and]

theorem filter_not (p : Nat → Bool) (l : List Nat) : (l.filter p).length + (l.filter fun i => !p i).length = l.length := by
  induction l with
  | nil => rfl
  | cons a l ih =>
    simp only [List.filter_cons]
    cases p a <;> simp <;> omega

theorem cnt_inv (a : Nat) (ha : a < 18446744073709551616) : cnt a + cnt (inv a) = 64 := by
  unfold cnt pls upTo
  have e : (List.range 64).filter (fun i => (inv a).testBit i) = (List.range 64).filter (fun i => !a.testBit i) := by
    apply List.filter_congr
    intro i hi
    exact inv_bit a i ha (by simpa using hi)
  rw [e, filter_not]
  simp

/-- All bits below the lowest one that is not set are set. -/
theorem below_low (x k : Nat) (hx : x < 18446744073709551616) (h : k ≤ low (inv x)) : x &&& ones k = ones k := by
  have h64 := low_le (inv x) (inv_lt x)
  apply Nat.eq_of_testBit_eq
  intro i
  rw [Nat.testBit_and, ones_bit]
  by_cases hi : i < k
  · have hb : (inv x).testBit i = false := by
      by_cases h0 : inv x = 0
      · rw [h0]; exact Nat.zero_testBit i
      · exact low_below (inv x) h0 (inv_lt x) i (by omega)
    rw [inv_bit x i hx (by omega)] at hb
    have : x.testBit i = true := by simpa using hb
    simp [hi, this]
  · simp [hi]

theorem low_unset (x : Nat) (hx : x < 18446744073709551616) (h : low (inv x) < 64) : x.testBit (low (inv x)) = false := by
  have h0 : inv x ≠ 0 := by
    intro e
    rw [e, low_zero] at h
    omega
  have hb := low_bit (inv x) h0 (inv_lt x)
  rw [inv_bit x _ hx h] at hb
  simpa using hb

theorem above_bit (n v i : Nat) (hv : v ≤ ones n) (hi : n ≤ i) : v.testBit i = false :=
  Nat.testBit_lt_two_pow (Nat.lt_of_lt_of_le ((ones_mono n v).1 hv) (Nat.pow_le_pow_right (by omega) hi))

theorem fld_wth (x f l v : Nat) (h : f + l ≤ 64) (hv : v ≤ ones l) : fld (wth x f l v) f l = v := by
  apply Nat.eq_of_testBit_eq
  intro i
  rw [fld_bit]
  by_cases hi : i < l
  · rw [wth_bit x f l v _ (by omega) hv, if_pos (by omega), Nat.add_sub_cancel_left]
    simp [hi]
  · rw [above_bit l v i hv (by omega)]
    simp [hi]

theorem fld_beside (x f l v a n : Nat) (h : a + n ≤ 64) (hv : v ≤ ones l) (ho : a + n ≤ f ∨ f + l ≤ a) : fld (wth x f l v) a n = fld x a n := by
  apply Nat.eq_of_testBit_eq
  intro i
  rw [fld_bit, fld_bit]
  by_cases hi : i < n
  · rw [wth_bit x f l v _ (by omega) hv, if_neg (by omega)]
  · simp [hi]

theorem wth_back (x f l v : Nat) (hx : x < 18446744073709551616) (hv : v ≤ ones l) : wth (wth x f l v) f l (fld x f l) = x := by
  apply eq_of_bits _ _ (wth_lt _ _ _ _ (wth_lt _ _ _ _ hx)) hx
  intro i hi
  rw [wth_bit _ _ _ _ _ hi (fld_le _ _ _), wth_bit _ _ _ _ _ hi hv, fld_bit]
  by_cases h1 : f ≤ i ∧ i < f + l
  · rw [if_pos h1]
    have h2 : i - f < l := by omega
    have h3 : f + (i - f) = i := by omega
    simp [h2, h3]
  · rw [if_neg h1, if_neg h1]

end Go.Proofs.YtafamfjgehnddaaGreat.Plain

namespace Go.Proofs.YtafamfjgehnddaaGreat
open Go.RowKit

theorem held31 (n : Int) (w : World) : Calls Tryz.prog 166 #[.int .i64 n] w fun e w' => e = .returned (.int .i64 (Plain.hold n)) ∧ w' = w := by
  have hc := Plain.hold_cast n
  generalize Plain.hold n = m at *
  have H : Hid ((m : Int) = min (max n 0) 64) := hc
  clear hc
  go_enter Tryz.func166, Tryz.ntmps166
  go_wp2
  all_goals go_ret
  all_goals exact ⟨ret_int (by have := H.out; omega), rfl⟩

theorem hold32 (n t : Int) (w : World) : Calls Tryz.prog 188 #[.int .i64 n, .int .i64 t] w fun e w' => e = .returned (.int .i64 (max 0 (min n t))) ∧ w' = w := by
  go_enter Tryz.func188, Tryz.ntmps188
  go_wp2
  all_goals go_ret
  all_goals exact ⟨ret_int (by omega), rfl⟩

def isIn (a n : Int) : Bool := decide (0 ≤ a ∧ 0 ≤ n ∧ n ≤ 64 - a)
theorem isIn_iff (a n : Int) : isIn a n = true ↔ 0 ≤ a ∧ 0 ≤ n ∧ n ≤ 64 - a := by simp [isIn]

theorem inside27 (a n : Int) (w : World) (ha : a ≤ 9223372036854775807) : Calls Tryz.prog 113 #[.int .i64 a, .int .i64 n] w fun e w' => e = .returned (.bool (isIn a n)) ∧ w' = w := by
  by_cases h1 : 0 ≤ a
  · by_cases h2 : 0 ≤ n
    · go_enter Tryz.func113, Tryz.ntmps113
      go_wp2
      go_ret
      exact ⟨ret_bool (by simp [isIn, h1, h2]), rfl⟩
    · go_enter Tryz.func113, Tryz.ntmps113
      go_wp2
      go_ret
      exact ⟨ret_bool (by simp [isIn]; omega), rfl⟩
  · go_enter Tryz.func113, Tryz.ntmps113
    go_wp2
    go_ret
    exact ⟨ret_bool (by simp [isIn]; omega), rfl⟩

theorem bit_key (x i : Nat) (hx : x < 18446744073709551616) : (bits BinOp.and IntKind.u64 ((x : Int) / 2 ^ i) 1 == 1) = x.testBit i := by
  have e : ((x : Int) / 2 ^ i) = ((x / 2 ^ i : Nat) : Int) := by simp
  have hl : x / 2 ^ i < 18446744073709551616 := Nat.lt_of_le_of_lt (Nat.div_le_self _ _) hx
  rw [e, show (1 : Int) = ((1 : Nat) : Int) from rfl, bits_and_u64_nat _ _ hl (by omega), Nat.and_one_is_mod, Nat.testBit_eq_decide_div_mod_eq, Bool.eq_iff_iff]
  simp
  omega

def bitAt (x : Nat) (i : Int) : Bool := decide (0 ≤ i ∧ i < 64) && x.testBit i.toNat

theorem bit29 (x : Nat) (hx : x < 18446744073709551616) (i : Int) (w : World) : Calls Tryz.prog 189 #[.int .u64 x, .int .i64 i] w fun e w' => e = .returned (.bool (bitAt x i)) ∧ w' = w := by
  by_cases h1 : 0 ≤ i
  · by_cases h2 : i < 64
    · go_enter Tryz.func189, Tryz.ntmps189
      go_wp2
      go_ret
      exact ⟨ret_bool (by rw [bit_key x i.toNat hx]; simp [bitAt, h1, h2]), rfl⟩
    · go_enter Tryz.func189, Tryz.ntmps189
      go_wp2
      go_ret
      exact ⟨ret_bool (by simp [bitAt]; omega), rfl⟩
  · go_enter Tryz.func189, Tryz.ntmps189
    go_wp2
    go_ret
    exact ⟨ret_bool (by simp [bitAt]; omega), rfl⟩

theorem ones_key (n : Nat) (h : n ≤ 64) : IntKind.u64.wrap (IntKind.u64.wrap (2 ^ (n : Int).toNat) - 1) = (Plain.ones n : Int) := by
  rw [IntKind.wrap_u64, IntKind.wrap_u64, Int.toNat_natCast]
  exact Plain.ones_wrap n h

theorem ones15 (n : Int) (w : World) : Calls Tryz.prog 114 #[.int .i64 n] w fun e w' => e = .returned (.int .u64 (Plain.ones (Plain.hold n))) ∧ w' = w := by
  have hl := Plain.hold_le n
  have hk := ones_key _ hl
  have hh := fun w => held31 n w
  generalize Plain.hold n = m at *
  have H := hide hh
  have K := hide hk
  clear hh hk
  go_enter Tryz.func114, Tryz.ntmps114
  go_wp2_with (go_at_call 166; refine (H.out _).mono ?_; rintro e w' ⟨rfl, rfl⟩)
  go_ret
  exact ⟨ret_int (K.out), rfl⟩

/-! ### math/bits -/

theorem tz_key (x a : Nat) (hx : x < 18446744073709551616) (hx0 : x ≠ 0) (hlow : x &&& (18446744073709551616 - x) = a) :
    IntKind.u64.wrap (bits BinOp.and IntKind.u64 (x : Int) (IntKind.u64.wrap (-(x : Int))) * 285870213051353865) / 288230376151711744 = ((a * 285870213051353865 % 18446744073709551616 / 288230376151711744 : Nat) : Int) := by
  have e1 : IntKind.u64.wrap (-(x : Int)) = ((18446744073709551616 - x : Nat) : Int) := by rw [IntKind.wrap_u64]; omega
  rw [e1, bits_and_u64_nat x _ hx (by omega), hlow, IntKind.wrap_u64]
  omega

theorem and_u64 (a m : Nat) (ha : a < 18446744073709551616) (hm : m < 18446744073709551616) : bits BinOp.and IntKind.u64 (a : Int) (m : Int) = ((a &&& m : Nat) : Int) := bits_and_u64_nat a m ha hm
theorem wrap_nat (a : Nat) (ha : a < 18446744073709551616) : IntKind.u64.wrap (a : Int) = (a : Int) := by rw [IntKind.wrap_u64]; omega
theorem div_nat (a b : Nat) : (a : Int) / (b : Int) = ((a / b : Nat) : Int) := by simp

theorem i64_low7 (x : Nat) (hx : x < 9223372036854775808) : bits BinOp.and IntKind.i64 (wrap64 (x : Int)) 127 = ((x % 128 : Nat) : Int) := by
  have e : wrap64 (x : Int) = (x : Int) := by unfold wrap64; omega
  rw [e]
  have h := bits_mask .i64 63 (by decide) (fun n h0 h1 => by rw [IntKind.wrap_i64]; omega) 7 (by decide) (x : Int) (by omega) (by omega)
  rw [show (127 : Int) = 2 ^ 7 - 1 from rfl, h]
  omega

/-! ### Low, Field, With -/

theorem inv_key (x : Nat) (hx : x < 18446744073709551616) : bits BinOp.xor IntKind.u64 IntKind.u64.max (x : Int) = (Plain.inv x : Int) := by
  rw [show IntKind.u64.max = ((18446744073709551615 : Nat) : Int) from rfl, bits_xor_u64_nat _ _ (by omega) hx]
  congr 1
  apply Nat.eq_of_testBit_eq
  intro i
  rw [Nat.testBit_xor]
  have e : (18446744073709551615 : Nat) = 2 ^ 64 - 1 := rfl
  by_cases hi : i < 64
  · rw [Plain.inv_bit x i hx hi, e, Nat.testBit_two_pow_sub_one]
    simp [hi]
  · rw [Plain.high_bit x i hx (by omega), Plain.high_bit _ i (Plain.inv_lt x) (by omega), e, Nat.testBit_two_pow_sub_one]
    simp [hi]

def lowAns (x : Nat) (n : Int) : Int × Bool := if Plain.low (Plain.inv x) < Plain.hold n then (Plain.low (Plain.inv x), true) else (0, false)

theorem hold_in {a n : Int} (h : isIn a n = true) : Plain.hold n = n.toNat := by
  obtain ⟨h1, h2, h3⟩ := (isIn_iff a n).1 h
  unfold Plain.hold
  congr 1
  omega

theorem fld_key (x : Nat) (a n : Int) (hx : x < 18446744073709551616) (h : isIn a n = true) : bits BinOp.and IntKind.u64 ((x : Int) / 2 ^ a.toNat) (Plain.ones (Plain.hold n) : Int) = (Plain.fld x a.toNat n.toNat : Int) := by
  have e : ((x : Int) / 2 ^ a.toNat) = ((x / 2 ^ a.toNat : Nat) : Int) := by simp
  have hl : x / 2 ^ a.toNat < 18446744073709551616 := Nat.lt_of_le_of_lt (Nat.div_le_self _ _) hx
  rw [e, bits_and_u64_nat _ _ hl (Plain.ones_lt _ (Plain.hold_le n)), hold_in h]
  rfl

theorem bits_andNot_u64 (a b : Nat) (ha : a < 18446744073709551616) (hb : b < 18446744073709551616) :
    bits .andNot .u64 (a : Int) (b : Int) = ((a &&& Plain.inv b : Nat) : Int) := by
  have h1 : (BitVec.ofInt 64 (a : Int)).toNat = a := by
    rw [BitVec.ofInt_natCast, BitVec.toNat_ofNat]; exact Nat.mod_eq_of_lt (by omega)
  have h2 : (BitVec.ofInt 64 (b : Int)).toNat = b := by
    rw [BitVec.ofInt_natCast, BitVec.toNat_ofNat]; exact Nat.mod_eq_of_lt (by omega)
  have hx : a &&& Plain.inv b ≤ a := Nat.and_le_left
  show IntKind.u64.wrap ((BitVec.ofInt 64 (a : Int) &&& ~~~ BitVec.ofInt 64 (b : Int)).toNat : Int) = _
  rw [BitVec.toNat_and, BitVec.toNat_not, h1, h2, IntKind.wrap_u64]
  have e : 2 ^ 64 - 1 - b = Plain.inv b := rfl
  rw [e]
  omega

theorem wth_key (x v : Nat) (a n : Int) (hx : x < 18446744073709551616) (h : isIn a n = true) :
    bits BinOp.or IntKind.u64 (bits BinOp.andNot IntKind.u64 (x : Int) (IntKind.u64.wrap ((Plain.ones (Plain.hold n) : Int) * 2 ^ a.toNat))) (IntKind.u64.wrap ((v : Int) * 2 ^ a.toNat)) = (Plain.wth x a.toNat n.toNat v : Int) := by
  have e1 : IntKind.u64.wrap ((Plain.ones (Plain.hold n) : Int) * 2 ^ a.toNat) = ((Plain.ones (Plain.hold n) * 2 ^ a.toNat % 18446744073709551616 : Nat) : Int) := by
    rw [IntKind.wrap_u64]; simp
  have e2 : IntKind.u64.wrap ((v : Int) * 2 ^ a.toNat) = ((v * 2 ^ a.toNat % 18446744073709551616 : Nat) : Int) := by
    rw [IntKind.wrap_u64]; simp
  rw [e1, e2, bits_andNot_u64 _ _ hx (Nat.mod_lt _ (by omega)), bits_or_u64_nat _ _ (Nat.lt_of_le_of_lt Nat.and_le_left hx) (Nat.mod_lt _ (by omega)), hold_in h]
  rfl

def fieldAns (x : Nat) (a n : Int) : Nat := if isIn a n = true then Plain.fld x a.toNat n.toNat else 0

theorem field17 (x : Nat) (hx : x < 18446744073709551616) (a n : Int) (w : World) (ha : a ≤ 9223372036854775807) :
    Calls Tryz.prog 65 #[.int .u64 x, .int .i64 a, .int .i64 n] w fun e w' => e = .returned (.int .u64 (fieldAns x a n)) ∧ ∃ q, w' = w.drewN q := by
  have h27 := inside27 a n w ha
  unfold fieldAns
  by_cases h : isIn a n = true
  · rw [if_pos h]
    rw [h] at h27
    have HK := hide (fld_key x a n hx h)
    obtain ⟨h1, h2, h3⟩ := (isIn_iff a n).1 h
    clear h
    have H27 := hide h27
    clear h27
    have ha64 : a ≤ 64 := by omega
    go_enter Tryz.func65, Tryz.ntmps65
    go_wp2_with (first | (go_at_call 113; refine H27.out.mono ?_; rintro e w' ⟨rfl, rfl⟩))
    go_quiet ((go_at_call 114; exact Calls.quiet_of_same (ones15 _ _)))
    go_wp2
    go_ret
    exact ⟨ret_int HK.out, _, rfl⟩
  · rw [if_neg h]
    rw [Bool.not_eq_true] at h
    rw [h] at h27
    have H27 := hide h27
    clear h27 h
    go_enter Tryz.func65, Tryz.ntmps65
    go_wp2_with (first | (go_at_call 113; refine H27.out.mono ?_; rintro e w' ⟨rfl, rfl⟩))
    go_ret
    exact ⟨rfl, 0, rfl⟩

def withAns (x : Nat) (a n : Int) (v : Nat) : Nat × Bool := if isIn a n = true ∧ v ≤ Plain.ones (Plain.hold n) then (Plain.wth x a.toNat n.toNat v, true) else (0, false)

end Go.Proofs.YtafamfjgehnddaaGreat

namespace Go.Proofs.YtafamfjgehnddaaGreat
open Go

/-- The words of page p that a sweep reads and turns: KAlloc, KMark. -/
def swA (T : Int) (p : Nat) : Nat := Rec.at5 T p + 3
def swM (T : Int) (p : Nat) : Nat := Rec.at5 T p + 4
/-- What a sweep holds behind its step d: what it loaded; the store; what it freed. -/
def swMk (T : Int) (p d mk : Nat) (ws : List Nat) : Nat := if d = 0 then ws.getD (swM T p) 0 else mk
def swAl (T : Int) (p d al : Nat) (ws : List Nat) : Nat := if d = 1 then ws.getD (swA T p) 0 else al
def swS (T : Int) (p d mk al : Nat) (s : St) : St :=
  if d = 0 then s.load (swM T p) else if d = 1 then s.load (swA T p) else if d = 2 then s.put (swA T p) (al &&& mk) else s.put (swM T p) 0
def swFreed (d mk al : Nat) : Nat := if d ≤ 2 then 0 else al &&& Plain.inv mk

theorem page_swA {P T : Int} (hm : Lay.may P T = true) (p : Nat) (hp : (p : Int) < P) : Lay.page P T 12 (p : Int) = ((swA T p : Int), true) := by
  obtain ⟨m1, m2, m3, m4⟩ := Lay.may_iff.1 hm
  rw [Rec.page_in (k := 12) (p := (p : Int)) hm (by omega) hp (by omega) (by omega), if_neg (show ¬ (12 : Int) = 14 by omega)]
  refine Prod.ext ?_ rfl
  show 68 + 14 * T + 5 * (p : Int) + (12 - 9) = ((Rec.at5 T p + 3 : Nat) : Int)
  unfold Rec.at5
  omega
theorem page_swM {P T : Int} (hm : Lay.may P T = true) (p : Nat) (hp : (p : Int) < P) : Lay.page P T 13 (p : Int) = ((swM T p : Int), true) := by
  obtain ⟨m1, m2, m3, m4⟩ := Lay.may_iff.1 hm
  rw [Rec.page_in (k := 13) (p := (p : Int)) hm (by omega) hp (by omega) (by omega), if_neg (show ¬ (13 : Int) = 14 by omega)]
  refine Prod.ext ?_ rfl
  show 68 + 14 * T + 5 * (p : Int) + (13 - 9) = ((Rec.at5 T p + 4 : Nat) : Int)
  unfold Rec.at5
  omega
theorem swA_lt {P T : Int} (hm : Lay.may P T = true) (p : Nat) (hp : (p : Int) < P) : swA T p < (Lay.words P T).toNat := by
  have h := (Rec.page_lt (P := P) (T := T) (k := 12) (p := (p : Int)) (by rw [page_swA hm p hp])).1
  rw [page_swA hm p hp] at h
  simpa using h
theorem swM_lt {P T : Int} (hm : Lay.may P T = true) (p : Nat) (hp : (p : Int) < P) : swM T p < (Lay.words P T).toNat := by
  have h := (Rec.page_lt (P := P) (T := T) (k := 13) (p := (p : Int)) (by rw [page_swM hm p hp])).1
  rw [page_swM hm p hp] at h
  simpa using h
theorem sw_ne (T : Int) (p : Nat) : swA T p ≠ swM T p := by unfold swA swM; omega

theorem sw_load_len (s : St) (i : Nat) : (s.load i).words.length = s.words.length := by rw [load_words]
theorem sw_put_len (s : St) (i v : Nat) : (s.put i v).words.length = s.words.length := List.length_set
theorem swS_len (T : Int) (p d mk al : Nat) (s : St) : (swS T p d mk al s).words.length = s.words.length := by
  unfold swS
  split
  · exact sw_load_len _ _
  · split
    · exact sw_load_len _ _
    · split <;> exact sw_put_len _ _ _
theorem getD_put (s : St) (i v j : Nat) (hi : i < s.words.length) : (s.put i v).words.getD j 0 = if j = i then v else s.words.getD j 0 := by
  show (s.words.set i v).getD j 0 = _
  rw [List.getD_eq_getElem?_getD, List.getD_eq_getElem?_getD]
  by_cases e : j = i
  · subst e; simp [hi]
  · rw [if_neg e, List.getElem?_set_ne (Ne.symm e)]

/-- So many steps of a sweep that is alone. -/
def swN (T : Int) (p : Nat) (s : St) : Nat → Nat × Nat × St
  | 0 => (0, 0, s)
  | d + 1 => (swMk T p d (swN T p s d).1 (swN T p s d).2.2.words, swAl T p d (swN T p s d).2.1 (swN T p s d).2.2.words, swS T p d (swN T p s d).1 (swN T p s d).2.1 (swN T p s d).2.2)
theorem swN_len (T : Int) (p : Nat) (s : St) : ∀ d, (swN T p s d).2.2.words.length = s.words.length
  | 0 => rfl
  | d + 1 => (swS_len _ _ _ _ _ _).trans (swN_len T p s d)
theorem swN_bd (T : Int) (p : Nat) (s : St) (hA : s.words.getD (swA T p) 0 < 18446744073709551616) (hM : s.words.getD (swM T p) 0 < 18446744073709551616) : ∀ d, d ≤ 4 → (swN T p s d).1 < 18446744073709551616 ∧ (swN T p s d).2.1 < 18446744073709551616 ∧ (d ≤ 2 → (swN T p s d).2.2.words = s.words)
  | 0, _ => ⟨by show 0 < _; omega, by show 0 < _; omega, fun _ => rfl⟩
  | d + 1, h => by
    obtain ⟨h1, h2, h3⟩ := swN_bd T p s hA hM d (by omega)
    refine ⟨?_, ?_, fun h9 => ?_⟩
    · show swMk T p d _ _ < _
      unfold swMk
      split
      · rw [h3 (by omega)]; exact hM
      · exact h1
    · show swAl T p d _ _ < _
      unfold swAl
      split
      · rw [h3 (by omega)]; exact hA
      · exact h2
    · show (swS T p d _ _ _).words = _
      rw [← h3 (by omega)]
      unfold swS
      rcases (show d = 0 ∨ d = 1 by omega) with rfl | rfl
      · rw [if_pos rfl]; exact load_words _ _
      · rw [if_neg (by omega), if_pos rfl]; exact load_words _ _
/-- What a sweep that is alone leaves. -/
theorem swN_four (T : Int) (p : Nat) (s : St) (hA : swA T p < s.words.length) (hM : swM T p < s.words.length) (a m : Nat) (ha : s.words.getD (swA T p) 0 = a) (hm : s.words.getD (swM T p) 0 = m) :
    (swN T p s 4).1 = m ∧ (swN T p s 4).2.1 = a ∧ (swN T p s 4).2.2.words.getD (swA T p) 0 = a &&& m ∧ (swN T p s 4).2.2.words.getD (swM T p) 0 = 0 := by
  have e1 : swN T p s 1 = (m, 0, s.load (swM T p)) := by
    show (swMk T p 0 0 s.words, swAl T p 0 0 s.words, swS T p 0 0 0 s) = _
    unfold swMk swAl swS
    rw [if_pos rfl, if_neg (by omega), if_pos rfl, hm]
  have e2 : swN T p s 2 = (m, a, (s.load (swM T p)).load (swA T p)) := by
    show (swMk T p 1 (swN T p s 1).1 _, swAl T p 1 (swN T p s 1).2.1 (swN T p s 1).2.2.words, swS T p 1 (swN T p s 1).1 (swN T p s 1).2.1 (swN T p s 1).2.2) = _
    rw [e1]
    unfold swMk swAl swS
    simp only [load_words, ha]
    rfl
  have e3 : swN T p s 3 = (m, a, ((s.load (swM T p)).load (swA T p)).put (swA T p) (a &&& m)) := by
    show (swMk T p 2 (swN T p s 2).1 _, swAl T p 2 (swN T p s 2).2.1 (swN T p s 2).2.2.words, swS T p 2 (swN T p s 2).1 (swN T p s 2).2.1 (swN T p s 2).2.2) = _
    rw [e2]
    rfl
  have e4 : swN T p s 4 = (m, a, (((s.load (swM T p)).load (swA T p)).put (swA T p) (a &&& m)).put (swM T p) 0) := by
    show (swMk T p 3 (swN T p s 3).1 _, swAl T p 3 (swN T p s 3).2.1 (swN T p s 3).2.2.words, swS T p 3 (swN T p s 3).1 (swN T p s 3).2.1 (swN T p s 3).2.2) = _
    rw [e3]
    rfl
  have hl1 : swA T p < ((s.load (swM T p)).load (swA T p)).words.length := by rw [sw_load_len, sw_load_len]; exact hA
  have hl2 : swM T p < (((s.load (swM T p)).load (swA T p)).put (swA T p) (a &&& m)).words.length := by rw [sw_put_len, sw_load_len, sw_load_len]; exact hM
  rw [e4]
  refine ⟨rfl, rfl, ?_, ?_⟩
  · rw [getD_put _ _ _ _ hl2, if_neg (sw_ne T p), getD_put _ _ _ _ hl1, if_pos rfl]
  · rw [getD_put _ _ _ _ hl2, if_pos rfl]

theorem and_inv (a m : Nat) (ha : a < 18446744073709551616) (hm : m < 18446744073709551616) : (a &&& m) ||| (a &&& Plain.inv m) = a ∧ (a &&& m) &&& (a &&& Plain.inv m) = 0 := by
  have hb : ∀ i, 64 ≤ i → a.testBit i = false := fun i hi => Nat.testBit_lt_two_pow (Nat.lt_of_lt_of_le ha (Nat.pow_le_pow_right (by omega : 0 < 2) hi))
  constructor
  · apply Nat.eq_of_testBit_eq
    intro i
    rw [Nat.testBit_or, Nat.testBit_and, Nat.testBit_and]
    by_cases hi : i < 64
    · rw [Plain.inv_bit m i hm hi]
      cases a.testBit i <;> cases m.testBit i <;> rfl
    · rw [hb i (by omega)]; simp
  · apply Nat.eq_of_testBit_eq
    intro i
    rw [Nat.testBit_and, Nat.testBit_and, Nat.testBit_and, Nat.zero_testBit]
    by_cases hi : i < 64
    · rw [Plain.inv_bit m i hm hi]
      cases a.testBit i <;> cases m.testBit i <;> rfl
    · rw [hb i (by omega)]; simp
theorem and_inv_zero (x : Nat) (hx : x < 18446744073709551616) : x &&& Plain.inv 0 = x := by
  have hb : ∀ i, 64 ≤ i → x.testBit i = false := fun i hi => Nat.testBit_lt_two_pow (Nat.lt_of_lt_of_le hx (Nat.pow_le_pow_right (by omega : 0 < 2) hi))
  apply Nat.eq_of_testBit_eq
  intro i
  rw [Nat.testBit_and]
  by_cases hi : i < 64
  · rw [Plain.inv_bit 0 i (by omega) hi]; simp
  · rw [hb i (by omega)]; simp
end Go.Proofs.YtafamfjgehnddaaGreat

namespace Go.Proofs.YtafamfjgehnddaaGreat
open Go.RowKit

theorem Own.boSet {R : Res} {w0 w : World} {m : Nat} {c : Array Value} {ty : TypeId} (l : Loc R) (h : Own (Sep (BO m (.cells c ty (0, 0))) R) w0 w) (k : Nat) (v : Value) :
    Own (Sep (BO m (.cells (c.setIfInBounds k v) ty (0, 0))) R) w0 (w.setCell ⟨m, k, none⟩ v) := by
  obtain ⟨G, ⟨G1, G2, ⟨h1, e⟩, r, cc, d⟩, h2, h3⟩ := h
  exact Own.step (G1 := G1) (G1' := G1) (G2 := G2) l h3 (fun x hx => h2 x ((d x).2 hx)) r cc ⟨heap_setCell_at h1 v, e⟩ ((Only.refl _ w).setCell (.inl ((e m).2 rfl)) v) (fun x hx => .inl hx)
theorem Own.boNew {R : Res} {w0 w w' : World} {m : Nat} {o : Obj} (l : Loc R) (h : Own R w0 w) (h1 : w'.heap[m]? = some o) (hm : w.heap.size ≤ m) (b : Below w.heap.size w w') : Own (Sep (BO m o) R) w0 w' :=
  Own.fresh (R1 := BO m o) l h (G := fun x => x = m) ⟨h1, fun _ => Iff.rfl⟩ (fun x hx => by rw [hx]; exact hm) b
theorem Own.boAt {R : Res} {w0 w : World} {m : Nat} {o : Obj} (h : Own (Sep (BO m o) R) w0 w) : w.heap[m]? = some o := by
  obtain ⟨_, ⟨_, _, a, _⟩, _⟩ := h
  exact a.1
theorem BO.swap {m : Nat} {o : Obj} {A R : Res} : Sep (BO m o) (Sep A R) = Sep A (Sep (BO m o) R) := by ac_rfl
theorem Own.drop {A R : Res} {w0 w : World} (h : Own (Sep A R) w0 w) : Own R w0 w := by
  obtain ⟨G, ⟨G1, G2, _, b, _, d⟩, h2, h3⟩ := h
  exact ⟨G2, b, fun x hx => h2 x ((d x).2 (.inr hx)), h3⟩
/-- What lies beside. -/
theorem Own.has {R R' : Res} {w0 w : World} {m : Nat} {o : Obj} (h : Own R' w0 w) (e : R' = Sep (BO m o) R) : w.heap[m]? = some o := Own.boAt (h.cast e)
theorem Own.putDid {A : Res} {w0 w : World} {rb : Nat} {u0 u1 u2 u3 : Value} (l : Loc A) (h : Own (Sep (BO rb (.cells #[u0, u1, u2, u3] 27 (0, 0))) A) w0 w) {v0 v1 v2 v3 : Value} {Q : World → Prop}
    (k : ∀ W : World, Own A w0 W → W.cell? ⟨rb, 0, none⟩ = some v0 → W.cell? ⟨rb, 1, none⟩ = some v1 → W.cell? ⟨rb, 2, none⟩ = some v2 → W.cell? ⟨rb, 3, none⟩ = some v3 → Q W) :
    Q ((((w.setCell ⟨rb, 0, none⟩ v0).setCell ⟨rb, 1, none⟩ v1).setCell ⟨rb, 2, none⟩ v2).setCell ⟨rb, 3, none⟩ v3) := by
  have h4 := Own.boSet l (Own.boSet l (Own.boSet l (Own.boSet l h 0 v0) 1 v1) 2 v2) 3 v3
  have e := Own.boAt h4
  exact k _ h4.drop (cell_of_heap e) (cell_of_heap e) (cell_of_heap e) (cell_of_heap e)
/-- A cell of block m holds v. -/
def Cel (m k : Nat) (v : Value) (w : World) : Prop := w.cell? ⟨m, k, none⟩ = some v
end Go.Proofs.YtafamfjgehnddaaGreat

namespace Go.Proofs.YtafamfjgehnddaaGreat
open Go Go.RowKit
section
variable {P : Program} {ops : Array Oper} {Q : Exit → Act → World → Prop} {md : Region.Mode}

theorem wpAnyJ_one {J : World → Prop} {i fuel : Nat} {o : Oper} {listed : Array Bool} {a : Act} {w : World} (ho : ops[i]? = some o)
    (h : ∀ K : Act → World → Prop, (∀ a' w', J w' → wpAnyJ P md ops Q J fuel (listed.setIfInBounds i true) a' w' → K a' w') → if Region.wanted o (yielded ops a.tmps) = true then Oper.wp P o a w K Q else K (a.put o.dst undef) w) :
    wpOp P ops Q i (fun a' w' => J w' ∧ wpAnyJ P md ops Q J fuel (listed.setIfInBounds i true) a' w') a w := by
  unfold wpOp
  simp only [ho]
  have h1 := h (fun a' w' => J w' ∧ wpAnyJ P md ops Q J fuel (listed.setIfInBounds i true) a' w') (fun _ _ h1 h2 => ⟨h1, h2⟩)
  by_cases hw : Region.wanted o (yielded ops a.tmps) = true
  · rw [if_pos hw] at h1 ⊢; exact .inl h1
  · rw [if_neg hw] at h1 ⊢; exact h1

/-- Two operations that write are ready: either may come first. -/
theorem wpAnyJ_two {J : World → Prop} {i j fuel : Nat} {o o' : Oper} {listed : Array Bool} {a : Act} {w : World} (ho : ops[i]? = some o) (ho' : ops[j]? = some o') (hr : Region.ready md ops listed = [i, j])
    (h : ∀ K : Act → World → Prop, (∀ a' w', J w' → wpAnyJ P md ops Q J fuel (listed.setIfInBounds i true) a' w' → K a' w') → if Region.wanted o (yielded ops a.tmps) = true then Oper.wp P o a w K Q else K (a.put o.dst undef) w)
    (h' : ∀ K : Act → World → Prop, (∀ a' w', J w' → wpAnyJ P md ops Q J fuel (listed.setIfInBounds j true) a' w' → K a' w') → if Region.wanted o' (yielded ops a.tmps) = true then Oper.wp P o' a w K Q else K (a.put o'.dst undef) w) :
    wpAnyJ P md ops Q J (fuel + 1) listed a w := by
  refine ⟨fun h0 => (by rw [hr] at h0; cases h0), fun k hk => ?_⟩
  rw [hr] at hk
  simp only [List.mem_cons, List.not_mem_nil, or_false] at hk
  rcases hk with rfl | rfl
  · exact wpAnyJ_one ho h
  · exact wpAnyJ_one ho' h'
end
end Go.Proofs.YtafamfjgehnddaaGreat

namespace Go.Proofs.YtafamfjgehnddaaGreat
open Go Go.RowKit
section
variable {P : Program} {ops : Array Oper} {Q : Exit → Act → World → Prop} {md : Region.Mode}

def plainOp2 : Op → Bool
  | .slice .. => true
  | o => plainOp o
theorem plain_value2 {o : Oper} (hp : plainOp2 o.op = true) {ρ : Operand → Value} {w w' : World} {n : Next} (h : (execOp ρ o).run P w = .ok n w') : ∃ u, n = .value u := by
  cases hop : o.op
  case slice =>
    unfold execOp at h
    rw [hop] at h
    exact bind_value h
  all_goals exact plain_value (by rw [hop] at hp ⊢; exact hp) h
def takeable2 (md : Region.Mode) (ops : Array Oper) : List Nat → Array Bool → Bool
  | [], _ => true
  | i :: is, listed => (Region.ready md ops listed).contains i && Region.free md ops listed i && (match ops[i]? with | some o => plainOp2 o.op | none => false) && takeable2 md ops is (listed.setIfInBounds i true)
theorem steady_of_quiet2 {J : World → Prop} {o : Oper} {a : Act} {K : Act → Prop} (hp : plainOp2 o.op = true) (h : if Region.wanted o (yielded ops a.tmps) then o.quiet P a J K else K (a.put o.dst undef)) : ∃ v, Steady P ops J o v a ∧ K (a.put o.dst v) := by
  by_cases hw : Region.wanted o (yielded ops a.tmps) = true
  · rw [if_pos hw] at h
    obtain ⟨v, h1, h2⟩ := h
    refine ⟨v, .inl ⟨hw, fun w hJ => ?_⟩, h2⟩
    have h3 := h1 w hJ
    unfold Oper.quietAt at h3
    cases hr : (execOp a.eval o).run P w with
    | ok n w' =>
      obtain ⟨u, rfl⟩ := plain_value2 hp hr
      rw [hr] at h3
      obtain ⟨rfl, rfl⟩ := h3
      rfl
    | halt x w' => rw [hr] at h3; exact absurd h3 (by simp [Oper.quietUpon])
  · rw [if_neg hw] at h
    exact ⟨undef, .inr ⟨by simpa using hw, rfl⟩, h⟩
theorem wpAnyJ_stretch2 {I : World → Prop} (hs : Region.noSelect ops = true) (hQ : ∀ c (a : Act) d v w, Q (.panic c) (a.put (some d) v) w → Q (.panic c) a w) {fuel : Nat} {w : World} (hI : I w) :
    ∀ (is : List Nat) (listed : Array Bool) (a : Act), takeable2 md ops is listed = true →
      wpQuiet P ops I (fun a' => wpAnyJ P md ops Q I fuel (listedBehind is listed) a' w) (is.filterMap fun i => ops[i]?) a → wpAnyJ P md ops Q I (is.length + fuel) listed a w
  | [], listed, a, _, h => by simpa [wpQuiet, listedBehind] using h
  | i :: is, listed, a, ht, h => by
    simp only [takeable2, Bool.and_eq_true] at ht
    obtain ⟨⟨⟨hr, hf⟩, hp⟩, ht'⟩ := ht
    cases ho : ops[i]? with
    | none => rw [ho] at hp; cases hp
    | some o =>
      rw [ho] at hp
      rw [List.filterMap_cons, ho] at h
      obtain ⟨v, hv, hK⟩ := steady_of_quiet2 hp h
      have := wpAnyJ_first ho (Region.noSelect_spec hs) (fun c a w h => by cases hd : o.dst with | none => rw [hd] at h; exact h | some d => rw [hd] at h; exact hQ c a d v w h) (is.length + fuel) listed a w (Region.free_spec ho hf) (by simpa using hr) hI hv (wpAnyJ_stretch2 hs hQ hI is _ _ ht' hK)
      rw [List.length_cons, Nat.add_right_comm]
      exact this
theorem stretch2 {I : World → Prop} (hs : Region.noSelect ops = true) (hQ : ∀ c (a : Act) d v w, Q (.panic c) (a.put (some d) v) w → Q (.panic c) a w) {fuel : Nat} {w : World} (hI : I w)
    (is : List Nat) {listed : Array Bool} {a : Act} (ht : takeable2 md ops is listed = true)
    (h : wpQuiet P ops (fun x => ∃ u : Mem I, x = u.w') (fun a' => wpAnyJ P md ops Q I fuel (listedBehind is listed) a' w) (is.filterMap fun i => ops[i]?) a) : wpAnyJ P md ops Q I (is.length + fuel) listed a w := by
  have e : (fun x => ∃ u : Mem I, x = u.w') = I := funext fun x => propext ⟨fun ⟨u, hu⟩ => hu ▸ u.h, fun hx => ⟨⟨x, hx⟩, rfl⟩⟩
  rw [e] at h
  exact wpAnyJ_stretch2 hs hQ hI is listed a ht h
end

/-- What is appended: nothing at all, or m elements that lie somewhere. -/
def Src (w : World) (x : Value) (m : Nat) (news : List Value) : Prop := (x = .slice none 0 0 ∧ m = 0 ∧ news = []) ∨ ∃ ad c, x = .slice (some ad) m c ∧ ∀ j u, news[j]? = some u → w.cell? (ad.add j) = some u
theorem oper_append {P : Program} (w : World) {o : Oper} {a : Act} {Q : Exit → Act → World → Prop} {K : Act → World → Prop}
    (s x : Operand) (t : TypeId) (hop : o.op = Op.call { callee := Callee.builtin Builtin.append, args := #[s, x], argTypes := #[t, t] })
    (base : Nat) (e : TypeId) (i : TypeInfo) (z : Value) (size bytes : Nat) (h1 : P.underlying t = some (.slice e)) (h2 : P.info? e = some i) (h3 : i.zero = some z) (h4 : i.size = size) (h5 : i.bytes = bytes) (h6 : z.cells.size = size) (h7 : 0 < size)
    (v : Value) (k : Nat) (xs : List Value) (hs : a.eval s = v) (hown : w.ownsRow base e size v k xs) (m : Nat) (news : List Value) (hx : Src w (a.eval x) m news) (hn : news.length = m * size)
    (h1c : ∀ u ∈ news, u.oneCell' = true) (b1 : k + m ≤ maxLen) (b2 : (k + m) * bytes ≤ 140737488355328) (b3 : base ≤ w.heap.size)
    (hK : ∀ v' w', w'.ownsRow base e size v' (k + m) (xs ++ news) → w.grownBy w' v.ownBlock → (v'.ownBlock = v.ownBlock ∨ v'.ownBlock = some w.heap.size) → K (a.put o.dst v') w') :
    Oper.wp P o a w K Q := by
  rcases hx with ⟨hx, rfl, rfl⟩ | ⟨ad, c, hx, hc⟩
  · have hrun := run_append_owned_none (P := P) w base t o.type e i size h1 h2 v k xs hown
    unfold Oper.wp
    simp [execOp, hop, resolve, invoke, builtin, hs, hx, hrun, Result.andThen]
    exact hK _ _ (by simpa using hown) ⟨rfl, rfl, rfl, Nat.le_refl _, fun _ _ _ => rfl⟩ (.inl rfl)
  · obtain ⟨v', w', hrun, r1, r2, _, r4⟩ := run_append_own_at (P := P) w base t o.type e i z size bytes h1 h2 h3 h4 h5 h6 h7 v k xs hown ad m c news hn hc h1c b1 b2 b3
    unfold Oper.wp
    simp [execOp, hop, resolve, invoke, builtin, hs, hx, hrun, Result.andThen]
    exact hK _ _ r1 r2 r4
theorem cells_at {w : World} {b : Nat} {cs : List Value} {t : TypeId} (h : w.heap[b]? = some (.cells cs.toArray t (0, 0))) : ∀ j u, cs[j]? = some u → w.cell? ((⟨b, 0, none⟩ : Addr).add j) = some u := fun j u hj => by
  have ea : (⟨b, 0, none⟩ : Addr).add j = ⟨b, j, none⟩ := by unfold Addr.add; split <;> simp_all
  rw [ea, cell_of_heap h]
  simpa using hj
theorem cells_new (w : World) (cs : List Value) (t : TypeId) : ∀ j u, cs[j]? = some u → (w.alloc (.cells cs.toArray t)).cell? ((⟨w.heap.size, 0, none⟩ : Addr).add j) = some u := cells_at (heap_alloc_at w _)
end Go.Proofs.YtafamfjgehnddaaGreat

namespace Go.Proofs.YtafamfjgehnddaaGreat
open Go Go.RowKit
section
variable {P : Program} {ops : Array Oper} {Q : Exit → Act → World → Prop} {md : Region.Mode}

/-- Whatever order is picked from here on, every world on the way, but behind q, being of the class J. -/
def wpAnyL (P : Program) (md : Region.Mode) (ops : Array Oper) (Q : Exit → Act → World → Prop) (q : Nat) (J : World → Prop) : Nat → Array Bool → Act → World → Prop
  | 0, listed, a, w => Region.ready md ops listed = [] ∧ Q .normal a w
  | fuel + 1, listed, a, w => (Region.ready md ops listed = [] → Q .normal a w) ∧
    ∀ i ∈ Region.ready md ops listed, wpOp P ops Q i (fun a' w' => (i ≠ q → J w') ∧ wpAnyL P md ops Q q J fuel (listed.setIfInBounds i true) a' w') a w
theorem wpAnyL.any {q : Nat} {J : World → Prop} : ∀ (fuel : Nat) (listed : Array Bool) (a : Act) (w : World), wpAnyL P md ops Q q J fuel listed a w → wpAny P md ops Q fuel listed a w
  | 0, _, _, _, h => h
  | fuel + 1, _, _, _, h => ⟨h.1, fun i hi => wpOp_mono (fun a' w' h' => wpAnyL.any fuel _ a' w' h'.2) (h.2 i hi)⟩

/-- What is steady in the class, and ready, may be taken first, if whatever is done keeps to the class. -/
theorem wpAnyL_first {q : Nat} {J : World → Prop} {i : Nat} {oi : Oper} {v : Value} (hi : ops[i]? = some oi) (hiq : i ≠ q) (hbq : ∀ oq, ops[q]? = some oq → ∃ e ∈ oq.after, Region.binds md e = true ∧ e.on = i) (hsel : ∀ (j : Nat) (o : Oper) cs b, ops[j]? = some o → o.op ≠ .select cs b)
    (hQ : ∀ c a w, Q (.panic c) (a.put oi.dst v) w → Q (.panic c) a w) :
    ∀ (fuel : Nat) (listed : Array Bool) (a : Act) (w : World),
      (∀ j oj, ops[j]? = some oj → j ≠ i → listed.getD j true = false → (∀ e ∈ oj.after, Region.binds md e = true → e.on ≠ i) → oi.apart ops oj = true) →
      i ∈ Region.ready md ops listed → J w → Steady P ops J oi v a →
      wpAnyL P md ops Q q J fuel (listed.setIfInBounds i true) (a.put oi.dst v) w → wpAnyL P md ops Q q J (fuel + 1) listed a w := by
  intro fuel
  induction fuel with
  | zero =>
    intro listed a w _ hr hJ hy H
    refine ⟨fun h => (by rw [h] at hr; cases hr), fun j hj => ?_⟩
    by_cases hji : j = i
    · subst hji; exact hy.wpOp hi hJ ⟨fun _ => hJ, H⟩
    · have := ready_mono hj hji
      rw [H.1] at this
      cases this
  | succ fuel ih =>
    intro listed a w hfree hr hJ hy H
    refine ⟨fun h => (by rw [h] at hr; cases hr), fun j hj => ?_⟩
    by_cases hji : j = i
    · subst hji; exact hy.wpOp hi hJ ⟨fun _ => hJ, H⟩
    · have h1 := H.2 j (ready_mono hj hji)
      obtain ⟨hjun, oj, hoj, hall⟩ := mem_ready.1 hj
      have hnot : ∀ e ∈ oj.after, Region.binds md e = true → e.on ≠ i := fun e he hb heq => by
        have h1 := hall e he hb
        have h0 := (mem_ready.1 hr).1
        rw [heq] at h1
        rcases Nat.lt_or_ge i listed.size with h' | h'
        · simp [h'] at h0 h1; rw [h0] at h1; cases h1
        · simp [Array.getElem?_eq_none h'] at h1
      have hjq : j ≠ q := fun e => by obtain ⟨e', he', hb', ho'⟩ := hbq oj (by rw [← e]; exact hoj); exact hnot e' he' hb' ho'
      have hap := hfree j oj hoj hji hjun hnot
      have h3 := (Oper.apart_spec hap).2.2
      have h2 := wpOp_ahead (Y := Steady P ops J oi v) hoj hap (fun cs b => hsel j oj cs b hoj) hQ
        (fun b u hb => hb.of_same (execOp_put oi (fun cs b => hsel i oi cs b hi) b oj.dst u h3) (wanted_put oi b oj.dst u h3)) (fun b d hb => hb.of_same rfl rfl) hy h1
      have hfree' : ∀ k ok, ops[k]? = some ok → k ≠ i → (listed.setIfInBounds j true).getD k true = false →
          (∀ e ∈ ok.after, Region.binds md e = true → e.on ≠ i) → oi.apart ops ok = true := fun k ok hk hki hun hno => by
        refine hfree k ok hk hki ?_ hno
        by_cases hjk : j = k
        · subst hjk; exact hjun
        · rw [getD_set_ne true hjk] at hun; exact hun
      refine wpOp_mono (fun a' w' h4 => ⟨h4.2.1, ih (listed.setIfInBounds j true) a' w' hfree' (ready_mono hr (Ne.symm hji)) (h4.2.1 hjq) h4.1 ?_⟩) h2
      rw [Array.setIfInBounds_comm _ _ hji]
      exact h4.2.2


def takeableL (md : Region.Mode) (ops : Array Oper) (q : Nat) : List Nat → Array Bool → Bool
  | [], _ => true
  | i :: is, listed => (Region.ready md ops listed).contains i && Region.free md ops listed i && (match ops[i]? with | some o => plainOp2 o.op | none => false) && (i != q && match ops[q]? with | some oq => oq.after.any (fun e => Region.binds md e && e.on == i) | none => false) && takeableL md ops q is (listed.setIfInBounds i true)
theorem wpAnyL_stretch {q : Nat} {I : World → Prop} (hs : Region.noSelect ops = true) (hQ : ∀ c (a : Act) d v w, Q (.panic c) (a.put (some d) v) w → Q (.panic c) a w) {fuel : Nat} {w : World} (hI : I w) :
    ∀ (is : List Nat) (listed : Array Bool) (a : Act), takeableL md ops q is listed = true →
      wpQuiet P ops I (fun a' => wpAnyL P md ops Q q I fuel (listedBehind is listed) a' w) (is.filterMap fun i => ops[i]?) a → wpAnyL P md ops Q q I (is.length + fuel) listed a w
  | [], listed, a, _, h => by simpa [wpQuiet, listedBehind] using h
  | i :: is, listed, a, ht, h => by
    simp only [takeableL, Bool.and_eq_true] at ht
    obtain ⟨⟨⟨⟨hr, hf⟩, hp⟩, hiq, hbq⟩, ht'⟩ := ht
    cases ho : ops[i]? with
    | none => rw [ho] at hp; cases hp
    | some o =>
      rw [ho] at hp
      rw [List.filterMap_cons, ho] at h
      obtain ⟨v, hv, hK⟩ := steady_of_quiet2 hp h
      have := wpAnyL_first (q := q) ho (by simpa using hiq) (fun oq hoq => by
          rw [hoq] at hbq
          obtain ⟨e, he, hb⟩ := Array.any_eq_true'.1 hbq
          simp only [Bool.and_eq_true, beq_iff_eq] at hb
          exact ⟨e, he, hb.1, hb.2⟩) (Region.noSelect_spec hs) (fun c a w h => by cases hd : o.dst with | none => rw [hd] at h; exact h | some d => rw [hd] at h; exact hQ c a d v w h) (is.length + fuel) listed a w (Region.free_spec ho hf) (by simpa using hr) hI hv (wpAnyL_stretch hs hQ hI is _ _ ht' hK)
      rw [List.length_cons, Nat.add_right_comm]
      exact this
theorem stretchL {q : Nat} {I : World → Prop} (hs : Region.noSelect ops = true) (hQ : ∀ c (a : Act) d v w, Q (.panic c) (a.put (some d) v) w → Q (.panic c) a w) {fuel : Nat} {w : World} (hI : I w)
    (is : List Nat) {listed : Array Bool} {a : Act} (ht : takeableL md ops q is listed = true)
    (h : wpQuiet P ops (fun x => ∃ u : Mem I, x = u.w') (fun a' => wpAnyL P md ops Q q I fuel (listedBehind is listed) a' w) (is.filterMap fun i => ops[i]?) a) : wpAnyL P md ops Q q I (is.length + fuel) listed a w := by
  have e : (fun x => ∃ u : Mem I, x = u.w') = I := funext fun x => propext ⟨fun ⟨u, hu⟩ => hu ▸ u.h, fun hx => ⟨⟨x, hx⟩, rfl⟩⟩
  rw [e] at h
  exact wpAnyL_stretch hs hQ hI is listed a ht h
theorem wpAnyL_one {q : Nat} {J : World → Prop} {i fuel : Nat} {o : Oper} {listed : Array Bool} {a : Act} {w : World} (ho : ops[i]? = some o) (hw : Region.wanted o (yielded ops a.tmps) = true)
    (h : ∀ K : Act → World → Prop, (∀ a' w', (i ≠ q → J w') → wpAnyL P md ops Q q J fuel (listed.setIfInBounds i true) a' w' → K a' w') → Oper.wp P o a w K Q) :
    wpOp P ops Q i (fun a' w' => (i ≠ q → J w') ∧ wpAnyL P md ops Q q J fuel (listed.setIfInBounds i true) a' w') a w := by
  unfold wpOp
  simp only [ho]
  rw [if_pos hw]
  exact .inl (h _ (fun _ _ h1 h2 => ⟨h1, h2⟩))
theorem writerL {q : Nat} {J : World → Prop} {i fuel : Nat} {o : Oper} {listed : Array Bool} {a : Act} {w : World} (ho : ops[i]? = some o) (hr : Region.ready md ops listed = [i]) (hw : Region.wanted o (yielded ops a.tmps) = true)
    (h : ∀ K : Act → World → Prop, (∀ a' w', (i ≠ q → J w') → wpAnyL P md ops Q q J fuel (listed.setIfInBounds i true) a' w' → K a' w') → Oper.wp P o a w K Q) : wpAnyL P md ops Q q J (fuel + 1) listed a w := by
  refine ⟨fun h0 => (by rw [hr] at h0; cases h0), fun j hj => ?_⟩
  rw [hr, List.mem_singleton] at hj
  subst hj
  exact wpAnyL_one ho hw h
theorem twoL {q : Nat} {J : World → Prop} {i j fuel : Nat} {o o' : Oper} {listed : Array Bool} {a : Act} {w : World} (ho : ops[i]? = some o) (ho' : ops[j]? = some o') (hr : Region.ready md ops listed = [i, j]) (hw : Region.wanted o (yielded ops a.tmps) = true) (hw' : Region.wanted o' (yielded ops a.tmps) = true)
    (h : ∀ K : Act → World → Prop, (∀ a' w', (i ≠ q → J w') → wpAnyL P md ops Q q J fuel (listed.setIfInBounds i true) a' w' → K a' w') → Oper.wp P o a w K Q)
    (h' : ∀ K : Act → World → Prop, (∀ a' w', (j ≠ q → J w') → wpAnyL P md ops Q q J fuel (listed.setIfInBounds j true) a' w' → K a' w') → Oper.wp P o' a w K Q) :
    wpAnyL P md ops Q q J (fuel + 1) listed a w := by
  refine ⟨fun h0 => (by rw [hr] at h0; cases h0), fun k hk => ?_⟩
  rw [hr] at hk
  simp only [List.mem_cons, List.not_mem_nil, or_false] at hk
  rcases hk with rfl | rfl
  · exact wpAnyL_one ho hw h
  · exact wpAnyL_one ho' hw' h'
theorem doneL {q : Nat} {J : World → Prop} {fuel : Nat} {listed : Array Bool} {a : Act} {w : World} (hr : Region.ready md ops listed = []) (h : Q .normal a w) : wpAnyL P md ops Q q J fuel listed a w := by
  cases fuel with
  | zero => exact ⟨hr, h⟩
  | succ n => exact ⟨fun _ => h, by rw [hr]; simp⟩
theorem startL (q : Nat) {id : Nat} {J : World → Prop} {a : Act} {w : World} (hm : P.follows .mixedOrders = true) (h : wpAnyL P .any ops Q q J ops.size (Array.replicate ops.size false) a w.drew) : (Code.region id ops true).wp P Q a w :=
  wp_region_any hm (wpAnyL.any _ _ _ _ h)
end
end Go.Proofs.YtafamfjgehnddaaGreat

namespace Go.Proofs.YtafamfjgehnddaaGreat
open Go.RowKit

def swpO (P T pg d : Int) (mk al : Nat) : Obj := .cells #[.int .i64 P, .int .i64 T, .int .i64 pg, .int .i64 d, .int .u64 (mk : Int), .int .u64 (al : Int)] 112 (0, 0)
/-- May a page be swept? -/
def maySwp (P T pg : Int) : Bool := Lay.may P T && (decide (0 ≤ pg) && decide (pg < P))
theorem maySwp_iff {P T pg : Int} : maySwp P T pg = true ↔ Lay.may P T = true ∧ 0 ≤ pg ∧ pg < P := by
  unfold maySwp
  simp only [Bool.and_eq_true, decide_eq_true_eq]

theorem newSwpNo (P T t : Int) (h : maySwp P T t = false) (w : World) :
    Calls Tryz.prog 17 #[.agg #[.int .i64 P, .int .i64 T], .int .i64 t] w fun e w' => e = .returned (.pointer none) ∧ Below w.heap.size w w' := by
  have M := hide (fun w => lmay P T w)
  unfold maySwp at h
  cases hm : Lay.may P T
  · rw [hm] at M
    clear h hm
    go_enter Tryz.func17, Tryz.ntmps17
    have B0 := LBox.new w P T 61
    have c0 := B0.c0
    have c1 := B0.c1
    go_wp2_with fail
    refine (M.out _).mono ?_
    rintro e w1 ⟨rfl, hb⟩
    have B1 := LBox.grow (by assumption) hb
    have c0 := B1.c0
    have c1 := B1.c1
    go_wp2
    go_ret
    exact ⟨rfl, B1.below⟩
  · rw [hm] at M h
    by_cases h0 : t < 0
    · have d0 : decide (t < 0) = true := by simp; omega
      clear h hm h0
      go_enter Tryz.func17, Tryz.ntmps17
      have B0 := LBox.new w P T 61
      have c0 := B0.c0
      have c1 := B0.c1
      go_wp2_with fail
      refine (M.out _).mono ?_
      rintro e w1 ⟨rfl, hb⟩
      have B1 := LBox.grow (by assumption) hb
      have c0 := B1.c0
      have c1 := B1.c1
      go_wp2
      go_ret
      exact ⟨rfl, B1.below⟩
    · have d0 : decide (t < 0) = false := by simp; omega
      have h1 : ¬ t < P := fun q => by
        rw [decide_eq_true (show 0 ≤ t by omega), decide_eq_true q] at h
        exact absurd h (by decide)
      have d1 : decide (t ≥ P) = true := by simp; omega
      have d1' : decide (P ≤ t) = true := by simp; omega
      clear h hm h0 h1
      go_enter Tryz.func17, Tryz.ntmps17
      have B0 := LBox.new w P T 61
      have c0 := B0.c0
      have c1 := B0.c1
      go_wp2_with fail
      refine (M.out _).mono ?_
      rintro e w1 ⟨rfl, hb⟩
      have B1 := LBox.grow (by assumption) hb
      have c0 := B1.c0
      have c1 := B1.c1
      go_wp2
      go_ret
      exact ⟨rfl, B1.below⟩
theorem newSwpYes (P T t : Int) (h : maySwp P T t = true) (w : World) :
    Calls Tryz.prog 17 #[.agg #[.int .i64 P, .int .i64 T], .int .i64 t] w fun e w' => ∃ m, e = .returned (.pointer (some ⟨m, 0, none⟩)) ∧ w'.heap[m]? = some (swpO P T t 0 0 0) ∧ w.heap.size ≤ m ∧ Below w.heap.size w w' := by
  have M := hide (fun w => lmay P T w)
  obtain ⟨hm, h0, h1⟩ := maySwp_iff.1 h
  rw [hm] at M
  have d0 : decide (t < 0) = false := by simp; omega
  have d1 : decide (t ≥ P) = false := by simp; omega
  have d1' : decide (P ≤ t) = false := by simp; omega
  clear h hm h0 h1
  go_enter Tryz.func17, Tryz.ntmps17
  have B0 := LBox.new w P T 61
  have c0 := B0.c0
  have c1 := B0.c1
  go_wp2_with fail
  refine (M.out _).mono ?_
  rintro e w1 ⟨rfl, hb⟩
  have B1 := LBox.grow (by assumption) hb
  have c0 := B1.c0
  have c1 := B1.c1
  go_wp2
  go_ret
  exact ⟨_, rfl, heap_alloc_at _ _, B1.below.size, B1.below.alloc B1.below.size _⟩
end Go.Proofs.YtafamfjgehnddaaGreat

namespace Go.Proofs.YtafamfjgehnddaaGreat
open Go.RowKit

/-- What lies of an arena, as facts that worlds above keep. -/
structure ArAt (q : Nat) (P T : Int) (p r n : Nat) (w : World) : Prop where
  hd : w.heap[q]? = some (.cells #[.int .i64 P, .int .i64 T, .pointer (some ⟨p, 0, none⟩), .pointer (some ⟨r, 0, none⟩)] 122 (0, 0))
  st : ∃ b s, StoreAt 84 w p b s ∧ s.words.length = n
theorem ArAt.below {q : Nat} {P T : Int} {p r n : Nat} {w w' : World} (k : ArAt q P T p r n w) (b : Below w.heap.size w w') : ArAt q P T p r n w' := by
  obtain ⟨c, s, h, e⟩ := k.st
  exact ⟨(b.block _ (lt_of_heap k.hd)).trans k.hd, c, s, h.below b, e⟩
theorem ArAt.of {R : Res} {w0 w : World} {q : Nat} {P T : Int} {p r : Nat} {s : St} {pg : Nat} {ds : List Nat} {dn : Nat} {L : RL} (h : Own (Sep (AX q P T p r s pg ds dn L) R) w0 w) : ArAt q P T p r s.words.length w := by
  obtain ⟨b, hS⟩ := AX.st h
  exact ⟨AX.head h, b, s, hS, rfl⟩
theorem ArAt.layout {q : Nat} {P T : Int} {p r n : Nat} {w : World} (k : ArAt q P T p r n w) :
    Calls Tryz.prog 27 #[.pointer (some ⟨q, 0, none⟩)] w fun e w' => e = .returned (.agg #[.int .i64 P, .int .i64 T]) ∧ Below w.heap.size w w' := by
  have c0 : w.cell? ⟨q, 0, none⟩ = some (.int .i64 P) := cell_of_heap k.hd
  have c1 : w.cell? ⟨q, 1, none⟩ = some (.int .i64 T) := cell_of_heap k.hd
  have d0 : ∀ o, (w.alloc o).cell? ⟨q, 0, none⟩ = some (.int .i64 P) := fun o => cell_of_heap (heap_alloc_old k.hd)
  have d1 : ∀ o, (w.alloc o).cell? ⟨q, 1, none⟩ = some (.int .i64 T) := fun o => cell_of_heap (heap_alloc_old k.hd)
  clear k
  go_enter Tryz.func27, Tryz.ntmps27
  go_wp2
  go_returns
  exact ⟨rfl, grown1 _ _⟩
theorem ArAt.store {q : Nat} {P T : Int} {p r n : Nat} {w : World} (k : ArAt q P T p r n w) :
    Calls Tryz.prog 29 #[.pointer (some ⟨q, 0, none⟩)] w fun e w' => e = .returned (.pointer (some ⟨p, 0, none⟩)) ∧ Below w.heap.size w w' := by
  have c2 : w.cell? ⟨q, 2, none⟩ = some (.pointer (some ⟨p, 0, none⟩)) := cell_of_heap k.hd
  clear k
  go_enter Tryz.func29, Tryz.ntmps29
  go_wp2
  go_ret
  exact ⟨rfl, Below.refl _ _⟩
theorem ArAt.len {q : Nat} {P T : Int} {p r n : Nat} {w : World} (k : ArAt q P T p r n w) :
    Calls Tryz.prog 125 #[.pointer (some ⟨p, 0, none⟩)] w fun e w' => e = .returned (.int .i64 (n : Int)) ∧ Below w.heap.size w w' := by
  obtain ⟨b, s, h, e⟩ := k.st
  rw [← e]
  exact (len_of w p b s h).mono fun _ _ ⟨h1, h2⟩ => ⟨h1, by rw [h2]; exact Below.refl _ _⟩
end Go.Proofs.YtafamfjgehnddaaGreat

namespace Go.Proofs.YtafamfjgehnddaaGreat
open Go Go.RowKit

def CelTwo5 (m i : Nat) (v : Value) (j : Nat) (u : Value) (w : World) : Prop := w.cell? ⟨m, i, none⟩ = some v ∧ w.cell? ⟨m, j, none⟩ = some u

theorem swpDone (w : World) (m : Nat) (P T pg : Int) (d mk al : Nat) (k : w.heap[m]? = some (swpO P T pg (d : Int) mk al)) (ok : Bool) (hok : decide (d = 4) = ok) :
    Calls Tryz.prog 21 #[.pointer (some ⟨m, 0, none⟩)] w fun e w' => e = .returned (.bool ok) ∧ w' = w := by
  have c3 : w.cell? ⟨m, 3, none⟩ = some (.int .i64 (d : Int)) := cell_of_heap k
  have e : ok = ((d : Int) == 4) := by
    rw [← hok]
    by_cases h : d = 4
    · rw [decide_eq_true h, h]; rfl
    · rw [decide_eq_false h]; symm; rw [beq_eq_false_iff_ne]; omega
  rw [e]
  clear k e hok
  go_enter Tryz.func21, Tryz.ntmps21
  go_wp2
  go_ret
  exact ⟨rfl, rfl⟩
theorem swpDoneNil (w : World) :
    Calls Tryz.prog 21 #[.pointer none] w fun e w' => e = .returned (.bool false) ∧ w' = w := by
  go_enter Tryz.func21, Tryz.ntmps21
  go_wp2
  go_ret
  exact ⟨rfl, rfl⟩
theorem swpFreed (w : World) (m : Nat) (P T pg : Int) (d mk al : Nat) (hmk : mk < 18446744073709551616) (hal : al < 18446744073709551616) (k : w.heap[m]? = some (swpO P T pg (d : Int) mk al)) (fr : Nat) (hfr : swFreed d mk al = fr) :
    Calls Tryz.prog 22 #[.pointer (some ⟨m, 0, none⟩)] w fun e w' => e = .returned (.int .u64 (fr : Int)) ∧ Below w.heap.size w w' := by
  have c3 : w.cell? ⟨m, 3, none⟩ = some (.int .i64 (d : Int)) := cell_of_heap k
  have c4 : w.cell? ⟨m, 4, none⟩ = some (.int .u64 (mk : Int)) := cell_of_heap k
  have c5 : w.cell? ⟨m, 5, none⟩ = some (.int .u64 (al : Int)) := cell_of_heap k
  unfold swFreed at hfr
  by_cases h : d ≤ 2
  · rw [if_pos h] at hfr
    subst hfr
    have dd : decide ((d : Int) ≤ 2) = true := by simp; omega
    have dd' : decide (d ≤ 2) = true := by simp; omega
    clear h k
    go_enter Tryz.func22, Tryz.ntmps22
    go_wp2
    go_ret
    exact ⟨rfl, Below.refl _ _⟩
  · rw [if_neg h] at hfr
    have hand : bits BinOp.andNot IntKind.u64 (al : Int) (mk : Int) = (fr : Int) := by rw [bits_andNot_u64 al mk hal hmk, hfr]
    have dd : decide ((d : Int) ≤ 2) = false := by simp; omega
    have dd' : decide (d ≤ 2) = false := by simp; omega
    clear h k hfr
    go_enter Tryz.func22, Tryz.ntmps22
    go_wp2
    go_quiet (fail)
    go_wp2
    go_ret
    exact ⟨rfl, (Alike.drewN w _).below _⟩
theorem swpFreedNil (w : World) :
    Calls Tryz.prog 22 #[.pointer none] w fun e w' => e = .returned (.int .u64 0) ∧ w' = w := by
  go_enter Tryz.func22, Tryz.ntmps22
  go_wp2
  go_ret
  exact ⟨rfl, rfl⟩
theorem swKind0 (w : World) (m : Nat) (P T pg : Int) (mk al : Nat) (k : w.heap[m]? = some (swpO P T pg 0 mk al)) :
    Calls Tryz.prog 53 #[.pointer (some ⟨m, 0, none⟩)] w fun e w' => e = .returned (.int .i64 13) ∧ w' = w := by
  have c3 : w.cell? ⟨m, 3, none⟩ = some (.int .i64 0) := cell_of_heap k
  clear k
  go_enter Tryz.func53, Tryz.ntmps53
  go_wp2
  go_ret
  exact ⟨rfl, rfl⟩
theorem swKind1 (w : World) (m : Nat) (P T pg : Int) (mk al : Nat) (k : w.heap[m]? = some (swpO P T pg 1 mk al)) :
    Calls Tryz.prog 53 #[.pointer (some ⟨m, 0, none⟩)] w fun e w' => e = .returned (.int .i64 12) ∧ w' = w := by
  have c3 : w.cell? ⟨m, 3, none⟩ = some (.int .i64 1) := cell_of_heap k
  clear k
  go_enter Tryz.func53, Tryz.ntmps53
  go_wp2
  go_ret
  exact ⟨rfl, rfl⟩
theorem swKind2 (w : World) (m : Nat) (P T pg : Int) (mk al : Nat) (k : w.heap[m]? = some (swpO P T pg 2 mk al)) :
    Calls Tryz.prog 53 #[.pointer (some ⟨m, 0, none⟩)] w fun e w' => e = .returned (.int .i64 12) ∧ w' = w := by
  have c3 : w.cell? ⟨m, 3, none⟩ = some (.int .i64 2) := cell_of_heap k
  clear k
  go_enter Tryz.func53, Tryz.ntmps53
  go_wp2
  go_ret
  exact ⟨rfl, rfl⟩
theorem swKind3 (w : World) (m : Nat) (P T pg : Int) (mk al : Nat) (k : w.heap[m]? = some (swpO P T pg 3 mk al)) :
    Calls Tryz.prog 53 #[.pointer (some ⟨m, 0, none⟩)] w fun e w' => e = .returned (.int .i64 13) ∧ w' = w := by
  have c3 : w.cell? ⟨m, 3, none⟩ = some (.int .i64 3) := cell_of_heap k
  clear k
  go_enter Tryz.func53, Tryz.ntmps53
  go_wp2
  go_ret
  exact ⟨rfl, rfl⟩

section
variable {R : Res} {w0 w : World} {m : Nat} {q : Nat} {P T pg : Int} {p r : Nat} {s : St} {pgs : Nat} {ds : List Nat} {dn : Nat} {L : RL} {mk al : Nat}
theorem lastX5 (l : Loc R) (h : Own (Sep (AX q P T p r s pgs ds dn L) R) w0 w) :
    Calls Tryz.prog 55 #[.pointer (some ⟨p, 0, none⟩)] w fun e w' => e = .returned s.did ∧ Own (Sep (AX q P T p r s pgs ds dn L) R) w0 w' := by
  obtain ⟨b, hS⟩ := AX.st h
  exact (last_of w p b s hS).mono fun _ _ ⟨e, h1⟩ => ⟨e, h.below (Loc.ax.sep l) h1⟩

set_option maxHeartbeats 2000000 in
theorem swAcc0 (l : Loc R) (h : Own (Sep (BO m (swpO P T pg 0 mk al)) (Sep (AX q P T p r s pgs ds dn L) R)) w0 w) (i : Nat) (hi : i < s.words.length) (x : Nat) (hx : s.words.getD i 0 = x) (s' : St) (hs : s.load i = s') :
    Calls Tryz.prog 54 #[.pointer (some ⟨m, 0, none⟩), .pointer (some ⟨q, 0, none⟩), .int .i64 (i : Int)] w fun e w' => e = .returned (.int .i64 0) ∧ Own (Sep (BO m (swpO P T pg 0 x al)) (Sep (AX q P T p r s' pgs ds dn L) R)) w0 w' := by
  have c3 : w.cell? ⟨m, 3, none⟩ = some (.int .i64 0) := cell_of_heap (Own.boAt h)
  have O1 := hide h
  have HI := hide hi
  have HX := hide hx
  have HS := hide hs
  clear h hi hx hs
  go_enter Tryz.func54, Tryz.ntmps54
  go_wp2_with fail
  refine (storeX (O1.out.cast BO.swap)).mono ?_
  rintro e w1 ⟨rfl, rfl⟩
  go_wp2_with fail
  refine (loadX (Loc.bo.sep l) (O1.out.cast BO.swap) i HI.out).mono ?_
  rintro e w2 ⟨rfl, o2⟩
  rw [HX.out]
  rw [HS.out] at o2
  have O2 := hide (o2.cast BO.swap.symm)
  clear o2 O1 c3
  have y : w2.cell? ⟨m, 4, none⟩ = some (.int .u64 (mk : Int)) := cell_of_heap (Own.boAt O2.out)
  have f : ∀ o, w2.frozen? ⟨m, o, none⟩ = false := fun o => frozen_of_heap (Own.boAt O2.out)
  have O3 : Hid (Own (Sep (BO m (swpO P T pg 0 x al)) (Sep (AX q P T p r s' pgs ds dn L) R)) w0 (w2.setCell ⟨m, 4, none⟩ (.int .u64 (x : Int)))) := hide (Own.boSet (Loc.ax.sep l) O2.out 4 (.int .u64 (x : Int)))
  go_wp2
  go_ret
  exact ⟨rfl, O3.out⟩

set_option maxHeartbeats 2000000 in
theorem swAcc1 (l : Loc R) (h : Own (Sep (BO m (swpO P T pg 1 mk al)) (Sep (AX q P T p r s pgs ds dn L) R)) w0 w) (i : Nat) (hi : i < s.words.length) (x : Nat) (hx : s.words.getD i 0 = x) (s' : St) (hs : s.load i = s') :
    Calls Tryz.prog 54 #[.pointer (some ⟨m, 0, none⟩), .pointer (some ⟨q, 0, none⟩), .int .i64 (i : Int)] w fun e w' => e = .returned (.int .i64 0) ∧ Own (Sep (BO m (swpO P T pg 1 mk x)) (Sep (AX q P T p r s' pgs ds dn L) R)) w0 w' := by
  have c3 : w.cell? ⟨m, 3, none⟩ = some (.int .i64 1) := cell_of_heap (Own.boAt h)
  have O1 := hide h
  have HI := hide hi
  have HX := hide hx
  have HS := hide hs
  clear h hi hx hs
  go_enter Tryz.func54, Tryz.ntmps54
  go_wp2_with fail
  refine (storeX (O1.out.cast BO.swap)).mono ?_
  rintro e w1 ⟨rfl, rfl⟩
  go_wp2_with fail
  refine (loadX (Loc.bo.sep l) (O1.out.cast BO.swap) i HI.out).mono ?_
  rintro e w2 ⟨rfl, o2⟩
  rw [HX.out]
  rw [HS.out] at o2
  have O2 := hide (o2.cast BO.swap.symm)
  clear o2 O1 c3
  have y : w2.cell? ⟨m, 5, none⟩ = some (.int .u64 (al : Int)) := cell_of_heap (Own.boAt O2.out)
  have f : ∀ o, w2.frozen? ⟨m, o, none⟩ = false := fun o => frozen_of_heap (Own.boAt O2.out)
  have O3 : Hid (Own (Sep (BO m (swpO P T pg 1 mk x)) (Sep (AX q P T p r s' pgs ds dn L) R)) w0 (w2.setCell ⟨m, 5, none⟩ (.int .u64 (x : Int)))) := hide (Own.boSet (Loc.ax.sep l) O2.out 5 (.int .u64 (x : Int)))
  go_wp2
  go_ret
  exact ⟨rfl, O3.out⟩

set_option maxHeartbeats 4000000 in
theorem swAcc2 (l : Loc R) (h : Own (Sep (BO m (swpO P T pg 2 mk al)) (Sep (AX q P T p r s pgs ds dn L) R)) w0 w) (i : Nat) (hi : i < s.words.length) (hmk : mk < 18446744073709551616) (hal : al < 18446744073709551616) (x : Nat) (hx : al &&& mk = x) (s' : St) (hs : s.put i x = s') :
    Calls Tryz.prog 54 #[.pointer (some ⟨m, 0, none⟩), .pointer (some ⟨q, 0, none⟩), .int .i64 (i : Int)] w fun e w' => e = .returned (.int .i64 0) ∧ Own (Sep (BO m (swpO P T pg 2 mk al)) (Sep (AX q P T p r s' pgs ds dn L) R)) w0 w' := by
  have c3 : w.cell? ⟨m, 3, none⟩ = some (.int .i64 2) := cell_of_heap (Own.boAt h)
  have hand : bits BinOp.and IntKind.u64 (al : Int) (mk : Int) = (x : Int) := by rw [bits_and_u64_nat al mk hal hmk, hx]
  have HXB := hide (show x < 18446744073709551616 by rw [← hx]; exact Nat.lt_of_le_of_lt Nat.and_le_left hal)
  have O1 := hide (h.below (Loc.bo.sep (Loc.ax.sep l)) ((Alike.drewN w 1).below _))
  have HI := hide hi
  have HS := hide hs
  clear h hi hx hs hmk hal
  go_enter Tryz.func54, Tryz.ntmps54
  go_wp2
  have J1 : Hid (CelTwo5 m 4 (.int .u64 (mk : Int)) 5 (.int .u64 (al : Int)) w.drew) := hide ⟨cell_of_heap (Own.boAt O1.out), cell_of_heap (Own.boAt O1.out)⟩
  have O2 : Hid (Own (Sep (BO m (swpO P T pg 2 mk al)) (Sep (AX q P T p r s pgs ds dn L) R)) w0 w.drew) := hide O1.out
  have hne : Nonempty (Mem (CelTwo5 m 4 (.int .u64 (mk : Int)) 5 (.int .u64 (al : Int)))) := ⟨⟨_, J1.out⟩⟩
  have u4 : ∀ u : Mem (CelTwo5 m 4 (.int .u64 (mk : Int)) 5 (.int .u64 (al : Int))), u.w'.cell? ⟨m, 4, none⟩ = some (.int .u64 (mk : Int)) := fun u => u.h.1
  have u5 : ∀ u : Mem (CelTwo5 m 4 (.int .u64 (mk : Int)) 5 (.int .u64 (al : Int))), u.w'.cell? ⟨m, 5, none⟩ = some (.int .u64 (al : Int)) := fun u => u.h.2
  clear O1 c3
  refine region_start (J := CelTwo5 m 4 (.int .u64 (mk : Int)) 5 (.int .u64 (al : Int))) (by kernel_rfl) ?_
  refine stretch (fuel := 3) (by kernel_rfl) (fun _ _ _ _ _ h => h) J1.out [0, 2, 3, 4, 5, 6, 7, 8, 9, 10, 11] (by kernel_rfl) ?_
  simp only [List.filterMap_cons, List.filterMap_nil, List.getElem?_toArray, List.getElem?_cons_zero, List.getElem?_cons_succ]
  show wpQuiet _ _ _ _ [_, _, _, _, _, _, _, _, _, _, _] _
  repeat (go_big_quiet_step (fail))
  refine wpQuiet_nil ?_
  refine wpAnyJ_writer (i := 1) rfl (by kernel_rfl) (fun K' hK => ?_)
  go_simp
  refine (storeX (O2.out.cast BO.swap)).mono ?_
  rintro e w3 ⟨rfl, rfl⟩
  refine hK _ _ J1.out ?_
  clear hK K'
  refine wpAnyJ_writer (i := 12) rfl (by kernel_rfl) (fun K' hK => ?_)
  go_simp
  refine (putX (Loc.bo.sep l) (O2.out.cast BO.swap) i HI.out x HXB.out).mono ?_
  rintro e w4 ⟨rfl, o4⟩
  rw [HS.out] at o4
  have O4 := hide (o4.cast BO.swap.symm)
  have J4 : Hid (CelTwo5 m 4 (.int .u64 (mk : Int)) 5 (.int .u64 (al : Int)) w4) := hide ⟨cell_of_heap (Own.boAt O4.out), cell_of_heap (Own.boAt O4.out)⟩
  refine hK _ _ J4.out ?_
  clear hK K' o4 O2 J1
  refine stretch (fuel := 0) (by kernel_rfl) (fun _ _ _ _ _ h => h) J4.out [13] (by kernel_rfl) ?_
  simp only [List.filterMap_cons, List.filterMap_nil, List.getElem?_toArray, List.getElem?_cons_zero, List.getElem?_cons_succ]
  show wpQuiet _ _ _ _ [_] _
  repeat (go_big_quiet_step (fail))
  refine wpQuiet_nil ?_
  refine wpAnyJ_done (by kernel_rfl) ?_
  clear u4 u5 hne J4 hand
  go_wp2
  go_ret
  exact ⟨rfl, O4.out⟩

set_option maxHeartbeats 2000000 in
theorem swAcc3 (l : Loc R) (h : Own (Sep (BO m (swpO P T pg 3 mk al)) (Sep (AX q P T p r s pgs ds dn L) R)) w0 w) (i : Nat) (hi : i < s.words.length) (s' : St) (hs : s.put i 0 = s') :
    Calls Tryz.prog 54 #[.pointer (some ⟨m, 0, none⟩), .pointer (some ⟨q, 0, none⟩), .int .i64 (i : Int)] w fun e w' => e = .returned (.int .i64 0) ∧ Own (Sep (BO m (swpO P T pg 3 mk al)) (Sep (AX q P T p r s' pgs ds dn L) R)) w0 w' := by
  have c3 : w.cell? ⟨m, 3, none⟩ = some (.int .i64 3) := cell_of_heap (Own.boAt h)
  have O1 := hide h
  have HP := hide (fun (u : World) (o : Own (Sep (AX q P T p r s pgs ds dn L) (Sep (BO m (swpO P T pg 3 mk al)) R)) w0 u) => by
    have := putX (Loc.bo.sep l) o i hi 0 (by omega)
    rw [hs] at this
    exact this)
  clear h hi hs
  go_enter Tryz.func54, Tryz.ntmps54
  go_wp2_with fail
  refine (storeX (O1.out.cast BO.swap)).mono ?_
  rintro e w1 ⟨rfl, rfl⟩
  go_wp2_with fail
  refine (HP.out _ (O1.out.cast BO.swap)).mono ?_
  rintro e w2 ⟨rfl, o2⟩
  have O2 := hide (o2.cast BO.swap.symm)
  clear o2 O1 c3 HP
  go_wp2
  go_ret
  exact ⟨rfl, O2.out⟩

set_option maxRecDepth 100000 in
set_option maxHeartbeats 4000000 in
/-- A step, whatever its access is. -/
theorem swStepG (l : Loc R) (d : Nat) (hd : d < 4) (h : Own (Sep (BO m (swpO P T pg (d : Int) mk al)) (Sep (AX q P T p r s pgs ds dn L) R)) w0 w) (kd : Int) (i : Nat) (hp : Lay.page P T kd pg = ((i : Int), true)) (mk' al' : Nat) (s' : St)
    (hK : ∀ u : World, u.heap[m]? = some (swpO P T pg (d : Int) mk al) → Calls Tryz.prog 53 #[.pointer (some ⟨m, 0, none⟩)] u fun e u' => e = .returned (.int .i64 kd) ∧ u' = u)
    (hA : ∀ u : World, Own (Sep (BO m (swpO P T pg (d : Int) mk al)) (Sep (AX q P T p r s pgs ds dn L) (Sep (BO w.heap.size (.cells #[.int .i64 0, .int .i64 0, .int .u64 0, .int .u64 0] 27 (0, 0))) R))) w0 u → Calls Tryz.prog 54 #[.pointer (some ⟨m, 0, none⟩), .pointer (some ⟨q, 0, none⟩), .int .i64 (i : Int)] u fun e u' => e = .returned (.int .i64 0) ∧ Own (Sep (BO m (swpO P T pg (d : Int) mk' al')) (Sep (AX q P T p r s' pgs ds dn L) (Sep (BO w.heap.size (.cells #[.int .i64 0, .int .i64 0, .int .u64 0, .int .u64 0] 27 (0, 0))) R))) w0 u') :
    Calls Tryz.prog 19 #[.pointer (some ⟨m, 0, none⟩), .pointer (some ⟨q, 0, none⟩)] w fun e w' => e = .returned s'.did ∧ Own (Sep (BO m (swpO P T pg ((d + 1 : Nat) : Int) mk' al')) (Sep (AX q P T p r s' pgs ds dn L) R)) w0 w' := by
  have lR : Loc (Sep (BO w.heap.size (.cells #[.int .i64 0, .int .i64 0, .int .u64 0, .int .u64 0] 27 (0, 0))) R) := Loc.bo.sep l
  have O1 := hide ((Own.boNew (m := w.heap.size) (o := (.cells #[.int .i64 0, .int .i64 0, .int .u64 0, .int .u64 0] 27 (0, 0))) (Loc.bo.sep (Loc.ax.sep l)) h (heap_alloc_at w (.cells #[.int .i64 0, .int .i64 0, .int .u64 0, .int .u64 0] 27)) (Nat.le_refl _) (grown1 w _)).cast (R' := Sep (BO m (swpO P T pg (d : Int) mk al)) (Sep (AX q P T p r s pgs ds dn L) (Sep (BO w.heap.size (.cells #[.int .i64 0, .int .i64 0, .int .u64 0, .int .u64 0] 27 (0, 0))) R))) (by ac_rfl))
  have HPG := hide (fun w => lpage P T kd pg w)
  rw [hp] at HPG
  have HKD := hide hK
  have HAC := hide hA
  have HD := hide hd
  clear h hp hK hA hd
  go_enter Tryz.func19, Tryz.ntmps19
  go_upto_region 1 with fail
  generalize w.alloc (.cells #[.int .i64 0, .int .i64 0, .int .u64 0, .int .u64 0] 27) = w1 at *
  generalize w.heap.size = rb at *
  have hb := Own.boAt O1.out
  have hne : Nonempty (Over w1) := ⟨⟨_, Below.refl _ _⟩⟩
  have v0 := fun u => over_cell (show w1.cell? ⟨m, 0, none⟩ = some (.int .i64 P) from cell_of_heap hb) u
  have v1 := fun u => over_cell (show w1.cell? ⟨m, 1, none⟩ = some (.int .i64 T) from cell_of_heap hb) u
  have VL := fun u : Over w1 => hide ((ArAt.of (O1.out.cast BO.swap)).below u.h).layout
  have VD := fun u : Over w1 => hide (show Calls Tryz.prog 21 #[.pointer (some ⟨m, 0, none⟩)] u.w' fun e w' => e = .returned (.bool false) ∧ Below u.w'.heap.size u.w' w' from (swpDone u.w' m P T pg d mk al ((u.h.block _ (lt_of_heap hb)).trans hb) false (decide_eq_false (by have := HD.out; omega))).mono fun _ _ ⟨h1, h2⟩ => ⟨h1, by rw [h2]; exact Below.refl _ _⟩)
  clear hb
  refine over_region (by kernel_rfl) (by kernel_rfl) ?_
  repeat (go_big_quiet_step (first | (go_at_call 21; exact over_call _ (VD _).out) | (go_at_call 27; exact over_call _ (VL _).out)))
  refine wpQuiet_nil ?_
  rintro _ ⟨u, rfl⟩
  have O2 := hide (O1.out.below (Loc.bo.sep (Loc.ax.sep lR)) u.h)
  clear hne v0 v1 VL VD O1
  generalize u.w' = w2 at *
  clear u
  go_upto_region 3 with fail
  have hb := Own.boAt O2.out
  have hne : Nonempty (Over w2) := ⟨⟨_, Below.refl _ _⟩⟩
  have v0 := fun u => over_cell (show w2.cell? ⟨m, 0, none⟩ = some (.int .i64 P) from cell_of_heap hb) u
  have v1 := fun u => over_cell (show w2.cell? ⟨m, 1, none⟩ = some (.int .i64 T) from cell_of_heap hb) u
  have v2 := fun u => over_cell (show w2.cell? ⟨m, 2, none⟩ = some (.int .i64 pg) from cell_of_heap hb) u
  have VK := fun u : Over w2 => hide (show Calls Tryz.prog 53 #[.pointer (some ⟨m, 0, none⟩)] u.w' fun e w' => e = .returned (.int .i64 kd) ∧ Below u.w'.heap.size u.w' w' from (HKD.out u.w' ((u.h.block _ (lt_of_heap hb)).trans hb)).mono fun _ _ ⟨h1, h2⟩ => ⟨h1, by rw [h2]; exact Below.refl _ _⟩)
  clear hb
  refine over_region (by kernel_rfl) (by kernel_rfl) ?_
  repeat (go_big_quiet_step (first | (go_at_call 53; exact over_call _ (VK _).out) | (go_at_call 52; exact over_call _ (HPG.out _))))
  refine wpQuiet_nil ?_
  rintro _ ⟨u, rfl⟩
  have O3 := hide (O2.out.below (Loc.bo.sep (Loc.ax.sep lR)) u.h)
  clear hne v0 v1 v2 VK O2 HPG HKD
  generalize u.w' = w3 at *
  clear u
  go_wp2_with fail
  refine (HAC.out _ O3.out).mono ?_
  rintro e w4 ⟨rfl, o4⟩
  have O4 := hide o4
  clear o4 O3 HAC
  have y3 : w4.cell? ⟨m, 3, none⟩ = some (.int .i64 (d : Int)) := cell_of_heap (Own.boAt O4.out)
  have f3 : ∀ o, w4.frozen? ⟨m, o, none⟩ = false := fun o => frozen_of_heap (Own.boAt O4.out)
  have O5 : Hid (Own (Sep (BO m (swpO P T pg ((d : Int) + 1) mk' al')) (Sep (AX q P T p r s' pgs ds dn L) (Sep (BO rb (.cells #[.int .i64 0, .int .i64 0, .int .u64 0, .int .u64 0] 27 (0, 0))) R))) w0 (w4.setCell ⟨m, 3, none⟩ (.int .i64 ((d : Int) + 1)))) := hide (Own.boSet (Loc.ax.sep lR) O4.out 3 (.int .i64 ((d : Int) + 1)))
  have hd := HD.out
  clear O4
  go_wp2_with fail
  clear y3 f3 hd
  generalize w4.setCell ⟨m, 3, none⟩ (.int .i64 ((d : Int) + 1)) = w5 at *
  refine (storeX (O5.out.cast BO.swap)).mono ?_
  rintro e w6 ⟨rfl, rfl⟩
  go_wp2_with fail
  refine (lastX5 (Loc.bo.sep lR) (O5.out.cast BO.swap)).mono ?_
  rintro e w7 ⟨rfl, o7⟩
  have O7 := hide (o7.cast (R' := Sep (BO rb (.cells #[.int .i64 0, .int .i64 0, .int .u64 0, .int .u64 0] 27 (0, 0))) (Sep (BO m (swpO P T pg ((d + 1 : Nat) : Int) mk' al')) (Sep (AX q P T p r s' pgs ds dn L) R))) (by rw [show ((d + 1 : Nat) : Int) = (d : Int) + 1 from by omega]; ac_rfl))
  clear o7 O5
  have r0 : w7.cell? ⟨rb, 0, none⟩ = some (.int .i64 0) := cell_of_heap (Own.boAt O7.out)
  have r1 : w7.cell? ⟨rb, 1, none⟩ = some (.int .i64 0) := cell_of_heap (Own.boAt O7.out)
  have r2 : w7.cell? ⟨rb, 2, none⟩ = some (.int .u64 0) := cell_of_heap (Own.boAt O7.out)
  have r3 : w7.cell? ⟨rb, 3, none⟩ = some (.int .u64 0) := cell_of_heap (Own.boAt O7.out)
  have fr : ∀ o, w7.frozen? ⟨rb, o, none⟩ = false := fun o => frozen_of_heap (Own.boAt O7.out)
  unfold St.did
  go_wp2
  refine Own.putDid (Q := bodyPost _ _ _ _ _) (Loc.bo.sep (Loc.ax.sep l)) O7.out ?_
  intro W hW z0 z1 z2 z3
  refine bodyPost_ret (by simp [results, Tryz.results19, z0, z1, z2, z3, go_sem]; try rfl) rfl ?_
  exact ⟨rfl, hW⟩
/-- A step. -/
theorem swStep (l : Loc R) (hm : Lay.may P T = true) (p9 : Nat) (hp : (p9 : Int) < P) (d : Nat) (hd : d < 4) (hmk : mk < 18446744073709551616) (hal : al < 18446744073709551616) (hw : s.words.length = (Lay.words P T).toNat) (h : Own (Sep (BO m (swpO P T (p9 : Int) (d : Int) mk al)) (Sep (AX q P T p r s pgs ds dn L) R)) w0 w) :
    Calls Tryz.prog 19 #[.pointer (some ⟨m, 0, none⟩), .pointer (some ⟨q, 0, none⟩)] w fun e w' => e = .returned (swS T p9 d mk al s).did ∧ Own (Sep (BO m (swpO P T (p9 : Int) ((d + 1 : Nat) : Int) (swMk T p9 d mk s.words) (swAl T p9 d al s.words))) (Sep (AX q P T p r (swS T p9 d mk al s) pgs ds dn L) R)) w0 w' := by
  have hA := swA_lt hm p9 hp
  have hM := swM_lt hm p9 hp
  rw [← hw] at hA hM
  have lB : Loc (Sep (BO w.heap.size (.cells #[.int .i64 0, .int .i64 0, .int .u64 0, .int .u64 0] 27 (0, 0))) R) := Loc.bo.sep l
  rcases (show d = 0 ∨ d = 1 ∨ d = 2 ∨ d = 3 by omega) with rfl | rfl | rfl | rfl
  · exact swStepG l 0 hd h 13 (swM T p9) (page_swM hm p9 hp) _ _ _ (fun u hu => swKind0 u m P T p9 mk al hu) (fun u hu => swAcc0 lB hu (swM T p9) hM _ rfl _ rfl)
  · exact swStepG l 1 hd h 12 (swA T p9) (page_swA hm p9 hp) _ _ _ (fun u hu => swKind1 u m P T p9 mk al hu) (fun u hu => swAcc1 lB hu (swA T p9) hA _ rfl _ rfl)
  · exact swStepG l 2 hd h 12 (swA T p9) (page_swA hm p9 hp) _ _ _ (fun u hu => swKind2 u m P T p9 mk al hu) (fun u hu => swAcc2 lB hu (swA T p9) hA hmk hal _ rfl _ rfl)
  · exact swStepG l 3 hd h 13 (swM T p9) (page_swM hm p9 hp) _ _ _ (fun u hu => swKind3 u m P T p9 mk al hu) (fun u hu => swAcc3 lB hu (swM T p9) hM _ rfl)
end
end Go.Proofs.YtafamfjgehnddaaGreat

namespace Go.Proofs.YtafamfjgehnddaaGreat
open Go Go.RowKit

theorem plWordC (P T k p : Int) (w : World) :
    Calls Tryz.prog 16 #[.agg #[.int .i64 P, .int .i64 T], .int .i64 k, .int .i64 p] w fun e w' => e = .returned (.int .i64 (Lay.page P T k p).1) ∧ Below w.heap.size w w' := by
  have HK := hide (fun w => rlpage P T k p w)
  go_enter Tryz.func16, Tryz.ntmps16
  have B0 := LBox.new w P T 61
  have c0 := B0.c0
  have c1 := B0.c1
  go_wp2_with fail
  refine (HK.out _).mono ?_
  rintro e w1 ⟨rfl, hb⟩
  have B1 := LBox.grow (by assumption) hb
  go_wp2
  go_ret
  exact ⟨rfl, B1.below⟩
section
variable {R : Res} {w0 w : World} {q : Nat} {p r : Nat} {s : St} {pgs : Nat} {ds : List Nat} {dn : Nat} {L : RL}
set_option maxRecDepth 100000 in
/-- Read of a word that is there. -/
theorem plReadC {P T : Int} (h : Own (Sep (AX q P T p r s pgs ds dn L) R) w0 w) (i : Nat) (hi : i < s.words.length) (x : Nat) (hx : s.words.getD i 0 = x) :
    Calls Tryz.prog 106 #[.pointer (some ⟨q, 0, none⟩), .int .i64 (i : Int)] w fun e w' => e = .returned (.int .u64 (x : Int)) ∧ Below w.heap.size w w' := by
  obtain ⟨b, hS⟩ := AX.st h
  have H1 := hide (storeX h)
  have H2 := hide (words_of w p b s hS)
  have HI := hide hi
  have HX := hide hx
  obtain ⟨len, hlen⟩ : ∃ len, s.words.length = len := ⟨_, rfl⟩
  have HLN := hide hlen
  rw [hlen] at hi
  clear h hS hlen hx
  go_enter Tryz.func106, Tryz.ntmps106
  go_wp2_with fail
  refine H1.out.mono ?_
  rintro e w1 ⟨rfl, rfl⟩
  go_wp2_with fail
  refine H2.out.mono ?_
  rintro e w2 ⟨g, rfl, hw, hge, hb⟩
  rw [HLN.out]
  have z : w2.cell? ⟨g, i, none⟩ = some (.int .u64 (x : Int)) := by
    rw [← HX.out]
    exact (cell_of_heap hw.row).trans (wordVals_get _ _ HI.out)
  have HB := hide hb
  clear hw hge hb H1 H2
  go_wp2_with fail
  go_ret
  exact ⟨rfl, HB.out⟩
end
end Go.Proofs.YtafamfjgehnddaaGreat

namespace Go.Proofs.YtafamfjgehnddaaGreat
open Go Go.RowKit

theorem results_tmp4 {fn : Func} {t u v x : Tmp} (h : fn.results = #[.tmp t, .tmp u, .tmp v, .tmp x]) (tmps : Array Value) (P : Program) (w : World) :
    (results fn tmps).run P w = .ok (.tuple #[tmps.getD t undef, tmps.getD u undef, tmps.getD v undef, tmps.getD x undef]) w := by
  simp [results, h]

set_option maxRecDepth 100000 in
set_option maxHeartbeats 8000000 in
theorem swept15 (al mk : Nat) (ha : al < 18446744073709551616) (hk : mk < 18446744073709551616) (p : Nat) (hp : p < 6) (X F : Nat) (hX : al &&& mk = X) (hF : al &&& Plain.inv mk = F) (w : World) :
    Calls Tryz.prog 57 #[.int .u64 (al : Int), .int .u64 (mk : Int), .int .i64 (p : Int)] w fun e w' => e = .returned (.tuple #[.int .u64 (X : Int), .int .u64 0, .int .u64 (F : Int), .bool true]) ∧ Below w.heap.size w w' := by
  have hm : Lay.may (6 : Int) 1 = true := by decide
  have HM := hide hm
  have HP := hide (show (p : Int) < 6 by omega)
  have A1 := fun (R : Res) (w0 u : World) (l : Loc R) (ho : Own R w0 u) => @anew R w0 u l ho 6 1 (by decide) [] (by simp) none 0 (fun _ => ⟨rfl, rfl⟩) (fun h => absurd rfl h)
  have hl0 : (St.first (Lay.words ((6 : Nat) : Int) 1).toNat).words.length = (Lay.words 6 1).toNat := St.first_len _
  generalize St.first (Lay.words ((6 : Nat) : Int) 1).toNat = s0 at *
  rw [show ((6 : Nat) : Int) = 6 from rfl, List.length_nil] at A1
  generalize ([(kOf 0 (6 : Nat), ([] : List Nat).getD 0 0, ())] : RL) = rl at *
  have HA1 := hide A1
  have HNS := hide (fun (u : World) => newSwpYes 6 1 (p : Int) (maySwp_iff.2 ⟨by decide, by omega, by omega⟩) u)
  have W12 := fun (u : World) => plWordC 6 1 12 (p : Int) u
  have W13 := fun (u : World) => plWordC 6 1 13 (p : Int) u
  rw [page_swA hm p HP.out] at W12
  rw [page_swM hm p HP.out] at W13
  have hiA := swA_lt hm p HP.out
  have hiM := swM_lt hm p HP.out
  rw [← hl0] at hiA hiM
  have HW12 := hide W12
  have HW13 := hide W13
  obtain ⟨s1, hs1⟩ : ∃ s1, s0.put (swA 1 p) al = s1 := ⟨_, rfl⟩
  obtain ⟨s2, hs2⟩ : ∃ s2, s1.put (swM 1 p) mk = s2 := ⟨_, rfl⟩
  have hl1 : s1.words.length = s0.words.length := by rw [← hs1]; exact sw_put_len _ _ _
  have hl2 : s2.words.length = s0.words.length := by rw [← hs2, sw_put_len]; exact hl1
  have gA : s2.words.getD (swA 1 p) 0 = al := by
    rw [← hs2, getD_put _ _ _ _ (by rw [hl1]; exact hiM), if_neg (sw_ne 1 p), ← hs1, getD_put _ _ _ _ hiA, if_pos rfl]
  have gM : s2.words.getD (swM 1 p) 0 = mk := by
    rw [← hs2, getD_put _ _ _ _ (by rw [hl1]; exact hiM), if_pos rfl]
  have HF4 := hide (swN_four 1 p s2 (by rw [hl2]; exact hiA) (by rw [hl2]; exact hiM) al mk gA gM)
  have HBD := hide (swN_bd 1 p s2 (by rw [gA]; exact ha) (by rw [gM]; exact hk))
  have HL2 := hide (hl2.trans hl0)
  have HIA := hide (show swA 1 p < s0.words.length from hiA)
  have HIM := hide (show swM 1 p < s1.words.length by rw [hl1]; exact hiM)
  have HIA2 := hide (show swA 1 p < s2.words.length by rw [hl2]; exact hiA)
  have HIM2 := hide (show swM 1 p < s2.words.length by rw [hl2]; exact hiM)
  have HS1 := hide hs1
  have HS2 := hide hs2
  have HX := hide hX
  have HFF := hide hF
  have b1 := heap_alloc_at w (.cells #[.int .i64 6, .int .i64 1] 61)
  have HB1 := hide (grown1 w (.cells #[.int .i64 6, .int .i64 1] 61))
  have HBX := hide b1
  clear hm A1 W12 W13 hl0 hl1 hl2 hiA hiM gA gM hs1 hs2 hX hF b1
  go_enter Tryz.func57, Tryz.ntmps57
  go_wp2
  have O1 := hide (Own.boNew (m := w.heap.size) (o := .cells #[.int .i64 6, .int .i64 1] 61 (0, 0)) Loc.nought (Own.start w) HBX.out (Nat.le_refl _) HB1.out)
  clear HBX HB1
  generalize w.alloc (.cells #[.int .i64 6, .int .i64 1] 61) = w1 at *
  obtain ⟨b, hbl⟩ : ∃ b, w.heap.size = b := ⟨_, rfl⟩
  have HBL := hide hbl
  rw [hbl] at O1
  rw [hbl]
  clear hbl
  obtain ⟨LO, hLO⟩ : ∃ LO : Obj, LO = .cells #[.int .i64 6, .int .i64 1] 61 (0, 0) := ⟨_, rfl⟩
  rw [← hLO] at O1
  have HLO := hide hLO
  clear hLO
  have lb : Loc (Sep (BO b LO) Nought) := Loc.bo.sep Loc.nought
  have O2 := hide (O1.out.below lb ((Alike.drewN w1 1).below _))
  have J2 : Hid (BkAt b LO w1.drew) := hide (Own.boAt O2.out)
  have hne : Nonempty (Mem (BkAt b LO)) := ⟨⟨_, J2.out⟩⟩
  have U0 : ∀ u : Mem (BkAt b LO), u.w'.cell? ⟨b, 0, none⟩ = some (.int .i64 6) := fun u => cell_of_heap (by rw [← HLO.out]; exact u.h)
  have U1 : ∀ u : Mem (BkAt b LO), u.w'.cell? ⟨b, 1, none⟩ = some (.int .i64 1) := fun u => cell_of_heap (by rw [← HLO.out]; exact u.h)
  refine region_start (J := BkAt b LO) (by kernel_rfl) ?_
  refine stretch (fuel := 4) (by kernel_rfl) (fun _ _ _ _ _ h => h) J2.out [0, 2, 3] (by kernel_rfl) ?_
  simp only [List.filterMap_cons, List.filterMap_nil, List.getElem?_toArray, List.getElem?_cons_zero, List.getElem?_cons_succ]
  show wpQuiet _ _ _ _ [_, _, _] _
  repeat (go_big_quiet_step (fail))
  refine wpQuiet_nil ?_
  refine wpAnyJ_writer (i := 1) rfl (by kernel_rfl) (fun K' hK => ?_)
  go_simp
  refine (HA1.out _ _ _ lb O2.out).mono ?_
  rintro e w2 ⟨q, pp, r, rfl, o2⟩
  have O3 := hide o2
  refine hK _ _ (o2.has (R := Sep (AX q 6 1 pp r s0 6 [] 1 rl) Nought) (by ac_rfl)) ?_
  clear hK K' o2 O1 O2 HA1
  refine wpAnyJ_writer (i := 4) rfl (by kernel_rfl) (fun K' hK => ?_)
  go_simp
  refine (HNS.out _).mono ?_
  rintro e w3 ⟨m, rfl, h1, h2, h3⟩
  have O4 := hide (Own.boNew (Loc.ax.sep lb) O3.out h1 h2 h3)
  have J4 : Hid (BkAt b LO w3) := hide (O4.out.has (R := Sep (BO m (swpO 6 1 (p : Int) 0 0 0)) (Sep (AX q 6 1 pp r s0 6 [] 1 rl) Nought)) (by ac_rfl))
  refine hK _ _ J4.out ?_
  clear hK K' O3 HNS h1 h2 h3
  refine stretch (fuel := 0) (by kernel_rfl) (fun _ _ _ _ _ h => h) J4.out [5, 6] (by kernel_rfl) ?_
  simp only [List.filterMap_cons, List.filterMap_nil, List.getElem?_toArray, List.getElem?_cons_zero, List.getElem?_cons_succ]
  show wpQuiet _ _ _ _ [_, _] _
  repeat (go_big_quiet_step (fail))
  refine wpQuiet_nil ?_
  refine wpAnyJ_done (by kernel_rfl) ?_
  clear U0 U1 hne J2 J4
  go_wp2
  have lM : Loc (Sep (BO m (swpO 6 1 (p : Int) 0 0 0)) (Sep (BO b LO) Nought)) := Loc.bo.sep lb
  have O5 : Hid (Own (Sep (AX q 6 1 pp r s0 6 [] 1 rl) (Sep (BO m (swpO 6 1 (p : Int) 0 0 0)) (Sep (BO b LO) Nought))) w w3.drew) := hide ((O4.out.below (Loc.bo.sep (Loc.ax.sep lb)) ((Alike.drewN w3 1).below _)).cast (by ac_rfl))
  have HBJ : Hid (∀ (u : World) (s : St), Own (Sep (AX q 6 1 pp r s 6 [] 1 rl) (Sep (BO m (swpO 6 1 (p : Int) 0 0 0)) (Sep (BO b LO) Nought))) w u → BkAt b LO u) := hide (fun u s h => h.has (R := Sep (AX q 6 1 pp r s 6 [] 1 rl) (Sep (BO m (swpO 6 1 (p : Int) 0 0 0)) Nought)) (by ac_rfl))
  have J5 : Hid (BkAt b LO w3.drew) := hide (HBJ.out _ _ O5.out)
  have hne : Nonempty (Mem (BkAt b LO)) := ⟨⟨_, J5.out⟩⟩
  have U0 : ∀ u : Mem (BkAt b LO), u.w'.cell? ⟨b, 0, none⟩ = some (.int .i64 6) := fun u => cell_of_heap (by rw [← HLO.out]; exact u.h)
  have U1 : ∀ u : Mem (BkAt b LO), u.w'.cell? ⟨b, 1, none⟩ = some (.int .i64 1) := fun u => cell_of_heap (by rw [← HLO.out]; exact u.h)
  clear O4
  refine region_start (J := BkAt b LO) (by kernel_rfl) ?_
  refine stretch (fuel := 15) (by kernel_rfl) (fun _ _ _ _ _ h => h) J5.out [0, 1, 2, 3, 4, 5, 6, 7, 9, 10, 12] (by kernel_rfl) ?_
  simp only [List.filterMap_cons, List.filterMap_nil, List.getElem?_toArray, List.getElem?_cons_zero, List.getElem?_cons_succ]
  show wpQuiet _ _ _ _ [_, _, _, _, _, _, _, _, _, _, _] _
  repeat (go_big_quiet_step (fail))
  refine wpQuiet_nil ?_
  refine wpAnyJ_writer (i := 8) rfl (by kernel_rfl) (fun K' hK => ?_)
  go_simp
  refine (storeX O5.out).mono ?_
  rintro e w4 ⟨rfl, rfl⟩
  refine hK _ _ J5.out ?_
  clear hK K'
  refine wpAnyJ_writer (i := 11) rfl (by kernel_rfl) (fun K' hK => ?_)
  go_simp
  refine (HW12.out _).mono ?_
  rintro e w4 ⟨rfl, b4⟩
  have O6 := hide (O5.out.below (Loc.ax.sep lM) b4)
  refine hK _ _ (HBJ.out _ _ O6.out) ?_
  clear hK K' O5 J5 b4
  refine wpAnyJ_writer (i := 13) rfl (by kernel_rfl) (fun K' hK => ?_)
  go_simp
  refine (putX lM O6.out (swA 1 p) HIA.out al ha).mono ?_
  rintro e w5 ⟨rfl, o5⟩
  rw [HS1.out] at o5
  have O7 := hide o5
  have J7 : Hid (BkAt b LO w5) := hide (HBJ.out _ _ O7.out)
  refine hK _ _ J7.out ?_
  clear hK K' o5 O6
  refine stretch (fuel := 5) (by kernel_rfl) (fun _ _ _ _ _ h => h) J7.out [14, 15, 16, 17, 19, 20, 22] (by kernel_rfl) ?_
  simp only [List.filterMap_cons, List.filterMap_nil, List.getElem?_toArray, List.getElem?_cons_zero, List.getElem?_cons_succ]
  show wpQuiet _ _ _ _ [_, _, _, _, _, _, _] _
  repeat (go_big_quiet_step (fail))
  refine wpQuiet_nil ?_
  refine wpAnyJ_writer (i := 18) rfl (by kernel_rfl) (fun K' hK => ?_)
  go_simp
  refine (storeX O7.out).mono ?_
  rintro e w6 ⟨rfl, rfl⟩
  refine hK _ _ J7.out ?_
  clear hK K'
  refine wpAnyJ_writer (i := 21) rfl (by kernel_rfl) (fun K' hK => ?_)
  go_simp
  refine (HW13.out _).mono ?_
  rintro e w6 ⟨rfl, b6⟩
  have O8 := hide (O7.out.below (Loc.ax.sep lM) b6)
  refine hK _ _ (HBJ.out _ _ O8.out) ?_
  clear hK K' O7 J7 b6
  refine wpAnyJ_writer (i := 23) rfl (by kernel_rfl) (fun K' hK => ?_)
  go_simp
  refine (putX lM O8.out (swM 1 p) HIM.out mk hk).mono ?_
  rintro e w7 ⟨rfl, o7⟩
  rw [HS2.out] at o7
  have O9 := hide o7
  have J9 : Hid (BkAt b LO w7) := hide (HBJ.out _ _ O9.out)
  refine hK _ _ J9.out ?_
  clear hK K' o7 O8
  refine stretch (fuel := 0) (by kernel_rfl) (fun _ _ _ _ _ h => h) J9.out [24, 25] (by kernel_rfl) ?_
  simp only [List.filterMap_cons, List.filterMap_nil, List.getElem?_toArray, List.getElem?_cons_zero, List.getElem?_cons_succ]
  show wpQuiet _ _ _ _ [_, _] _
  repeat (go_big_quiet_step (fail))
  refine wpQuiet_nil ?_
  refine wpAnyJ_done (by kernel_rfl) ?_
  clear U0 U1 hne J9 HBJ HW12 HW13 HIA HIM HS1 HS2
  go_wp2
  have OS : Hid (Own (Sep (BO m (swpO 6 1 (p : Int) ((0 : Nat) : Int) (swN 1 p s2 0).1 (swN 1 p s2 0).2.1)) (Sep (AX q 6 1 pp r (swN 1 p s2 0).2.2 6 [] 1 rl) (Sep (BO b LO) Nought))) w w7) := hide (O9.out.cast (by show _ = Sep (BO m (swpO 6 1 (p : Int) 0 0 0)) (Sep (AX q 6 1 pp r s2 6 [] 1 rl) (Sep (BO b LO) Nought)); ac_rfl))
  clear O9
  go_loopw [13] (fun i wr => ∃ k : Nat, k ≤ 4 ∧ i = .int .i64 (k : Int) ∧ Hid (Own (Sep (BO m (swpO 6 1 (p : Int) (k : Int) (swN 1 p s2 k).1 (swN 1 p s2 k).2.1)) (Sep (AX q 6 1 pp r (swN 1 p s2 k).2.2 6 [] 1 rl) (Sep (BO b LO) Nought))) w wr)) (fun i _ => 4 - (intOf i).toNat)
  case atStart => exact ⟨0, Nat.zero_le _, rfl, OS⟩
  case round =>
    obtain ⟨k, hk9, rfl, hO⟩ := hrel
    clear OS
    obtain ⟨hb1, hb2, _⟩ := HBD.out k hk9
    by_cases hlt : k < 4
    · have d1 : decide ((k : Int) < 4) = true := by simp; omega
      have HD := hide (swpDone wr m 6 1 (p : Int) k _ _ (Own.boAt hO.out) false (decide_eq_false (by omega)))
      have HG := hide (swStep lb HM.out p HP.out k hlt hb1 hb2 (by rw [swN_len]; exact HL2.out) hO.out)
      clear hb1 hb2 hO
      go_wp2_with fail
      refine HD.out.mono ?_
      rintro e w5 ⟨rfl, rfl⟩
      clear HD
      go_wp2_with fail
      refine HG.out.mono ?_
      rintro e w6 ⟨rfl, o6⟩
      have O6 := hide o6
      clear HG o6
      go_wp2
      go_roundw
      case rel => exact ⟨k + 1, by omega, by go_num, O6⟩
      case measure => simp [intOf]; omega
    · obtain rfl : k = 4 := by omega
      have d1 : decide (((4 : Nat) : Int) < 4) = false := by decide
      obtain ⟨e1, e2, e3, e4⟩ := HF4.out
      have hln : (swN 1 p s2 4).2.2.words.length = s2.words.length := swN_len 1 p s2 4
      rw [e1, e2] at hO
      generalize (swN 1 p s2 4).2.2 = s4 at *
      clear e1 e2 hb1 hb2 hlt
      go_upto_region 11 with fail
      have HWW := hide (fun (u : World) (k : Int) (y : Nat) (h : (k = 12 ∧ y = swA 1 p) ∨ (k = 13 ∧ y = swM 1 p)) => show Calls Tryz.prog 16 #[.agg #[.int .i64 6, .int .i64 1], .int .i64 k, .int .i64 (p : Int)] u fun e w' => e = .returned (.int .i64 (y : Int)) ∧ Below u.heap.size u w' from by
        have := plWordC 6 1 k (p : Int) u
        rcases h with ⟨rfl, rfl⟩ | ⟨rfl, rfl⟩
        · rw [page_swA HM.out p HP.out] at this; exact this
        · rw [page_swM HM.out p HP.out] at this; exact this)
      have hOA := hO.out.cast (R' := Sep (AX q 6 1 pp r s4 6 [] 1 rl) (Sep (BO m (swpO 6 1 (p : Int) ((4 : Nat) : Int) mk al)) (Sep (BO b LO) Nought))) (by ac_rfl)
      have HRR := hide (fun (u : Over wr) (i x : Nat) (h : (i = swA 1 p ∧ x = X) ∨ (i = swM 1 p ∧ x = 0)) => show Calls Tryz.prog 106 #[.pointer (some ⟨q, 0, none⟩), .int .i64 (i : Int)] u.w' fun e w' => e = .returned (.int .u64 (x : Int)) ∧ Below u.w'.heap.size u.w' w' from by
        rcases h with ⟨rfl, rfl⟩ | ⟨rfl, rfl⟩
        · exact plReadC (hOA.below (Loc.ax.sep (Loc.bo.sep lb)) u.h) (swA 1 p) (by rw [hln]; exact HIA2.out) x (by rw [e3]; exact HX.out)
        · exact plReadC (hOA.below (Loc.ax.sep (Loc.bo.sep lb)) u.h) (swM 1 p) (by rw [hln]; exact HIM2.out) 0 e4)
      have HFR := fun u : Over wr => hide (swpFreed u.w' m 6 1 (p : Int) 4 mk al hk ha ((u.h.block _ (lt_of_heap (Own.boAt hO.out))).trans (Own.boAt hO.out)) F (by unfold swFreed; rw [if_neg (by omega)]; exact HFF.out))
      have HDN := fun u : Over wr => hide (show Calls Tryz.prog 21 #[.pointer (some ⟨m, 0, none⟩)] u.w' fun e w' => e = .returned (.bool true) ∧ Below u.w'.heap.size u.w' w' from (swpDone u.w' m 6 1 (p : Int) 4 mk al ((u.h.block _ (lt_of_heap (Own.boAt hO.out))).trans (Own.boAt hO.out)) true (by decide)).mono fun _ _ ⟨h1, h2⟩ => ⟨h1, by rw [h2]; exact Below.refl _ _⟩)
      have hlay : wr.heap[b]? = some (.cells #[.int .i64 6, .int .i64 1] 61 (0, 0)) := by
        rw [← HLO.out]
        exact hO.out.has (R := Sep (BO m (swpO 6 1 (p : Int) ((4 : Nat) : Int) mk al)) (Sep (AX q 6 1 pp r s4 6 [] 1 rl) Nought)) (by ac_rfl)
      have hne : Nonempty (Over wr) := ⟨⟨_, Below.refl _ _⟩⟩
      have v0 := fun u => over_cell (show wr.cell? ⟨b, 0, none⟩ = some (.int .i64 6) from cell_of_heap hlay) u
      have v1 := fun u => over_cell (show wr.cell? ⟨b, 1, none⟩ = some (.int .i64 1) from cell_of_heap hlay) u
      have HB := hide hO.out.back
      clear hlay hOA hO e3 e4 d1
      refine over_region (by kernel_rfl) (by kernel_rfl) ?_
      repeat (go_big_quiet_step (first | (go_at_call 16; exact over_call _ (HWW.out _ _ _ (by first | exact .inl ⟨rfl, rfl⟩ | exact .inr ⟨rfl, rfl⟩))) | (go_at_call 106; exact over_call _ (HRR.out _ _ _ (by first | exact .inl ⟨rfl, rfl⟩ | exact .inr ⟨rfl, rfl⟩))) | (go_at_call 22; exact over_call _ (HFR _).out) | (go_at_call 21; exact over_call _ (HDN _).out)))
      refine wpQuiet_nil ?_
      rintro _ ⟨u, rfl⟩
      have HB2 := hide (HB.out.trans (u.h.mono HB.out.size))
      clear HWW HRR HFR HDN v0 v1 hne
      generalize u.w' = w9 at *
      clear u
      go_wp2
      (try simp only [Exit.inBlock, Exit.then])
      refine bodyPost_ret (results_tmp4 rfl _ _ _) rfl ?_
      exact ⟨rfl, HB2.out⟩

theorem swept752 (w : World) :
    Calls Tryz.prog 57 #[.int .u64 7, .int .u64 5, .int .i64 2] w fun e w' => e = .returned (.tuple #[.int .u64 5, .int .u64 0, .int .u64 2, .bool true]) ∧ Below w.heap.size w w' :=
  swept15 7 5 (by omega) (by omega) 2 (by omega) 5 2 (by decide) (by decide) w
theorem awakeSw (w : World) : Calls Tryz.prog 23 #[] w fun e w' => e = .returned (.bool true) ∧ Below w.heap.size w w' := by
  go_enter Tryz.func23, Tryz.ntmps23
  go_wp2_with fail
  refine (swept752 _).mono ?_
  rintro e w1 ⟨rfl, b1⟩
  have HB := hide b1
  clear b1
  go_wp2
  go_ret
  exact ⟨rfl, HB.out⟩
end Go.Proofs.YtafamfjgehnddaaGreat
