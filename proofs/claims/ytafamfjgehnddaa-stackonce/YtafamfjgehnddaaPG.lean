/- Numbers of package tag: a head, its page, its tag, the head that follows. No program is named here. Plain facts on bits of numbers below 2^64: the places of set bits, how many they are, the lowest one, and the sums that math/bits.OnesCount64 makes. No program is named here. Plain facts on bits of numbers below 2^64: the lowest set bit, and what is left when it is cleared. No program is named here. What the small functions of packages word and dustpanref1, and two of math/bits, answer, each at every argument. What the functions of packages tag and dustpanref6 answer, each at every argument. -/
import Derived.Lib.TrailingZeros
import Derived.Test.YtafamfjgehnddaaBase
import Derived.Laws.Bits64b
namespace Go.Proofs.Ytafamfjgehnddaa.Tg

/-- The head of tag t and page p. -/
def head (t : Nat) (p : Int) : Nat := t * 4294967296 + (p + 1).toNat
def make (t : Nat) (p : Int) : Nat × Bool := if -1 ≤ p ∧ p < 4096 then (head t p, true) else (0, false)
def low (x : Nat) : Nat := x % 4294967296
def page (x : Nat) : Int := if low x ≤ 4096 then (low x : Int) - 1 else -1
def tag (x : Nat) : Nat := x / 4294967296
def succ (t : Nat) : Nat := (t + 1) % 4294967296
def next (x : Nat) (p : Int) : Nat × Bool := make (succ (tag x)) p

theorem tag_lt (x : Nat) (h : x < 18446744073709551616) : tag x < 4294967296 := by unfold tag; omega
theorem low_lt (x : Nat) : low x < 4294967296 := by unfold low; omega
theorem succ_lt (t : Nat) : succ t < 4294967296 := by unfold succ; omega
theorem head_lt (t : Nat) (p : Int) (ht : t < 4294967296) (h1 : -1 ≤ p) (h2 : p < 4096) : head t p < 18446744073709551616 := by unfold head; omega
theorem tag_head (t : Nat) (p : Int) (h1 : -1 ≤ p) (h2 : p < 4096) : tag (head t p) = t := by unfold tag head; omega
theorem page_head (t : Nat) (p : Int) (h1 : -1 ≤ p) (h2 : p < 4096) : page (head t p) = p := by
  have e : low (head t p) = (p + 1).toNat := by unfold low head; omega
  unfold page
  rw [e, if_pos (by omega)]
  omega
theorem page_may (x : Nat) : -1 ≤ page x ∧ page x < 4096 := by
  unfold page
  split <;> omega
theorem page_low (x : Nat) (h : page x ≠ -1) : (low x : Int) = page x + 1 := by
  unfold page at h ⊢
  split at h
  · rename_i h1
    rw [if_pos h1]
    omega
  · exact absurd rfl h
theorem make_in (t : Nat) (p : Int) (h1 : -1 ≤ p) (h2 : p < 4096) : make t p = (head t p, true) := by unfold make; rw [if_pos ⟨h1, h2⟩]
theorem make_out (t : Nat) (p : Int) (h : ¬ (-1 ≤ p ∧ p < 4096)) : make t p = (0, false) := by unfold make; rw [if_neg h]
theorem make_may (t : Nat) (p : Int) : (make t p).2 = decide (-1 ≤ p ∧ p < 4096) := by
  unfold make
  split <;> simp_all
theorem or_head (t k : Nat) (hk : k < 4294967296) : t * 4294967296 ||| k = t * 4294967296 + k := by
  have h := Nat.shiftLeft_add_eq_or_of_lt (i := 32) (b := k) (by omega) t
  rw [Nat.shiftLeft_eq] at h
  exact h.symm

end Go.Proofs.Ytafamfjgehnddaa.Tg

namespace Go.Proofs.Ytafamfjgehnddaa.Plain

/-- The places of the set bits below n. -/
def upTo (x n : Nat) : List Nat := (List.range n).filter fun i => x.testBit i
def pls (x : Nat) : List Nat := upTo x 64
def cnt (x : Nat) : Nat := (pls x).length

theorem upTo_zero (x : Nat) : upTo x 0 = [] := rfl
theorem upTo_succ (x n : Nat) : upTo x (n + 1) = if x.testBit n then upTo x n ++ [n] else upTo x n := by
  unfold upTo
  rw [List.range_succ, List.filter_append]
  cases h : x.testBit n <;> simp [h]

theorem cnt_le (x : Nat) : cnt x ≤ 64 := by
  unfold cnt pls upTo
  exact Nat.le_trans (List.length_filter_le _ _) (by simp)

/-! ### the sum of bits -/

def pop : Nat → Nat → Nat
  | 0, _ => 0
  | f + 1, x => x % 2 + pop f (x / 2)

theorem upTo_len (n x : Nat) : (upTo x n).length = pop n x := by
  induction n generalizing x with
  | zero => rfl
  | succ n ih =>
    have e : (upTo x (n + 1)).length = (if x.testBit 0 then 1 else 0) + (upTo (x / 2) n).length := by
      unfold upTo
      rw [List.range_succ_eq_map, List.filter_cons, List.filter_map]
      have h : ((fun i => x.testBit i) ∘ Nat.succ) = fun i => (x / 2).testBit i := by
        funext i; simp [Nat.testBit_succ]
      rw [h]
      cases x.testBit 0 <;> simp [Nat.add_comm]
    rw [e, ih, pop]
    congr 1
    rw [Nat.testBit_zero]
    rcases Nat.mod_two_eq_zero_or_one x with h | h <;> simp [h]

theorem cnt_pop (x : Nat) : cnt x = pop 64 x := upTo_len 64 x

theorem pop_add (k f : Nat) : ∀ x, pop (k + f) x = pop k x + pop f (x / 2 ^ k) := by
  induction k with
  | zero => intro x; simp [pop]
  | succ k ih =>
    intro x
    rw [show k + 1 + f = (k + f) + 1 from by omega, pop, pop, ih, Nat.div_div_eq_div_mul, Nat.pow_succ, Nat.mul_comm 2]
    omega

theorem pop_mod (k : Nat) : ∀ x, pop k (x % 2 ^ k) = pop k x := by
  induction k with
  | zero => intro x; rfl
  | succ k ih =>
    intro x
    have h0 : x % 2 ^ (k + 1) % 2 = x % 2 := Nat.mod_mod_of_dvd _ ⟨2 ^ k, by rw [Nat.pow_succ, Nat.mul_comm]⟩
    have h1 : x % 2 ^ (k + 1) / 2 = x / 2 % 2 ^ k := by
      rw [Nat.pow_succ, Nat.mul_comm, Nat.mod_mul_right_div_self]
    rw [pop, pop, h0, h1, ih]

theorem pop_byte (f x : Nat) : pop (8 + f) x = pop 8 (x % 256) + pop f (x / 256) := by
  rw [pop_add, ← pop_mod 8 x]

theorem byte8_le : ∀ x, x < 256 → pop 8 x ≤ 8 := by decide +kernel

/-! ### and, cut at a byte -/

theorem and_cat (a m y n : Nat) (ha : a < 256) (hm : m < 256) : (a + 256 * y) &&& (m + 256 * n) = (a &&& m) + 256 * (y &&& n) := by
  have h8 : (256 : Nat) = 2 ^ 8 := rfl
  have hlt : a &&& m < 2 ^ 8 := Nat.and_lt_two_pow _ (by omega)
  apply Nat.eq_of_testBit_eq
  intro i
  rw [Nat.testBit_and, Nat.add_comm a, Nat.add_comm m, Nat.add_comm (a &&& m), h8, Nat.testBit_two_pow_mul_add _ (by omega), Nat.testBit_two_pow_mul_add _ (by omega), Nat.testBit_two_pow_mul_add _ hlt]
  split
  · rw [Nat.testBit_and]
  · rw [Nat.testBit_and]

/-- One byte's pairs, and its fours. -/
def s1 (x m : Nat) : Nat := (x / 2 &&& m) + (x &&& m)
def s2 (x m : Nat) : Nat := (x / 4 &&& m) + (x &&& m)
def s3 (x m : Nat) : Nat := (x / 16 + x) &&& m

theorem s1_cut (a y m : Nat) (ha : a < 256) : s1 (a + 256 * y) (85 + 256 * m) = s1 a 85 + 256 * s1 y m := by
  unfold s1
  have e : (a + 256 * y) / 2 = (a / 2 + 128 * (y % 2)) + 256 * (y / 2) := by omega
  have f : ∀ a, a < 256 → ∀ b, b < 2 → (a / 2 + 128 * b) &&& 85 = a / 2 &&& 85 := by decide +kernel
  rw [e, and_cat _ _ _ _ (by omega) (by omega), and_cat _ _ _ _ ha (by omega), f a ha _ (Nat.mod_lt _ (by omega))]
  omega

theorem s2_cut (a y m : Nat) (ha : a < 256) : s2 (a + 256 * y) (51 + 256 * m) = s2 a 51 + 256 * s2 y m := by
  unfold s2
  have e : (a + 256 * y) / 4 = (a / 4 + 64 * (y % 4)) + 256 * (y / 4) := by omega
  have f : ∀ a, a < 256 → ∀ b, b < 4 → (a / 4 + 64 * b) &&& 51 = a / 4 &&& 51 := by decide +kernel
  rw [e, and_cat _ _ _ _ (by omega) (by omega), and_cat _ _ _ _ ha (by omega), f a ha _ (Nat.mod_lt _ (by omega))]
  omega

theorem s3_cut (a y m : Nat) (ha : a < 69) (hy : y % 16 < 5) : s3 (a + 256 * y) (15 + 256 * m) = s3 a 15 + 256 * s3 y m := by
  unfold s3
  have e : (a + 256 * y) / 16 + (a + 256 * y) = (a / 16 + a + 16 * (y % 16)) + 256 * (y / 16 + y) := by omega
  have f : ∀ a, a < 69 → ∀ b, b < 5 → (a / 16 + a + 16 * b) &&& 15 = (a / 16 + a) &&& 15 := by decide +kernel
  rw [e, and_cat _ _ _ _ (by omega) (by omega), f a ha _ hy]

/-- One byte, all three. -/
theorem byte_all : ∀ a, a < 256 → s1 a 85 < 256 ∧ s2 (s1 a 85) 51 < 69 ∧ s2 (s1 a 85) 51 % 16 < 5 ∧ s3 (s2 (s1 a 85) 51) 15 = pop 8 a := by decide +kernel

/-- The three masks, n bytes long. -/
def mask (b : Nat) : Nat → Nat
  | 0 => 0
  | n + 1 => b + 256 * mask b n

theorem swar (n : Nat) : ∀ x, x < 256 ^ n → ∃ q, s3 (s2 (s1 x (mask 85 n)) (mask 51 n)) (mask 15 n) = q ∧ (s2 (s1 x (mask 85 n)) (mask 51 n)) % 16 < 5 := by
  intro x hx
  refine ⟨_, rfl, ?_⟩
  cases n with
  | zero => simp [mask, s1, s2]
  | succ n =>
    obtain ⟨a, y, ha, rfl⟩ : ∃ a y, a < 256 ∧ x = a + 256 * y := ⟨x % 256, x / 256, Nat.mod_lt _ (by omega), by omega⟩
    obtain ⟨h1, h2, h3, _⟩ := byte_all a ha
    simp only [mask]
    rw [s1_cut a y _ ha, s2_cut _ _ _ h1]
    omega

/-- The bytes' numbers of bits, side by side. -/
def bytes : Nat → Nat → Nat
  | 0, _ => 0
  | n + 1, x => pop 8 (x % 256) + 256 * bytes n (x / 256)

theorem swar_bytes (n : Nat) : ∀ x, x < 256 ^ n → s3 (s2 (s1 x (mask 85 n)) (mask 51 n)) (mask 15 n) = bytes n x := by
  induction n with
  | zero => intro x hx; simp [mask, s1, s2, s3, bytes]
  | succ n ih =>
    intro x hx
    have hy : x / 256 < 256 ^ n := by rw [Nat.pow_succ] at hx; omega
    obtain ⟨a, y, ha, hxe⟩ : ∃ a y, a < 256 ∧ x = a + 256 * y := ⟨x % 256, x / 256, Nat.mod_lt _ (by omega), by omega⟩
    have e1 : x % 256 = a := by omega
    have e2 : x / 256 = y := by omega
    rw [e2] at hy
    obtain ⟨h1, h2, h3, h4⟩ := byte_all a ha
    obtain ⟨_, _, h5⟩ := swar n y hy
    simp only [mask, bytes, e1, e2]
    rw [hxe, s1_cut a y _ ha, s2_cut _ _ _ h1, s3_cut _ _ _ h2 h5, h4, ih y hy]

theorem swar64 (x : Nat) (hx : x < 18446744073709551616) :
    s3 (s2 (s1 x 6148914691236517205) 3689348814741910323) 1085102592571150095 = bytes 8 x := swar_bytes 8 x hx

theorem s1_le (x : Nat) : s1 x 6148914691236517205 < 18446744073709551616 := by
  unfold s1
  have h1 : x / 2 &&& 6148914691236517205 ≤ 6148914691236517205 := Nat.and_le_right
  have h2 : x &&& 6148914691236517205 ≤ 6148914691236517205 := Nat.and_le_right
  omega

theorem s2_le (x : Nat) : s2 x 3689348814741910323 < 7378697629483820647 := by
  unfold s2
  have h1 : x / 4 &&& 3689348814741910323 ≤ 3689348814741910323 := Nat.and_le_right
  have h2 : x &&& 3689348814741910323 ≤ 3689348814741910323 := Nat.and_le_right
  omega

theorem div_cut (c a y : Nat) (ha : a < c) : (a + c * y) / c = y := by
  rw [Nat.add_mul_div_left _ _ (by omega), Nat.div_eq_of_lt ha, Nat.zero_add]

theorem add_cut (c a b y z : Nat) : a + c * y + (b + c * z) = (a + b) + c * (y + z) := by
  rw [Nat.mul_add]; omega

theorem low7 (a z : Nat) (h : a ≤ 64) : (a + 256 * z) % 128 = a := by omega

theorem cut1 (A B C D E F G H : Nat) : A + 256 * (B + 256 * (C + 256 * (D + 256 * (E + 256 * (F + 256 * (G + 256 * H)))))) + (B + 256 * (C + 256 * (D + 256 * (E + 256 * (F + 256 * (G + 256 * H))))))
      = (A + B + 256 * (B + C)) + 65536 * (C + D + 256 * (D + E + 256 * (E + F + 256 * (F + G + 256 * (G + H + 256 * H))))) := by omega
theorem cut2 (A B C D E F G H : Nat) : (A + B + 256 * (B + C)) + 65536 * (C + D + 256 * (D + E + 256 * (E + F + 256 * (F + G + 256 * (G + H + 256 * H))))) + (C + D + 256 * (D + E + 256 * (E + F + 256 * (F + G + 256 * (G + H + 256 * H)))))
      = (A + B + C + D + 256 * (B + C + D + E + 256 * (C + D + E + F + 256 * (D + E + F + G)))) + 4294967296 * (E + F + G + H + 256 * (F + G + H + 256 * (G + H + 256 * H))) := by omega
theorem cut3 (A B C D E F G H : Nat) : (A + B + C + D + 256 * (B + C + D + E + 256 * (C + D + E + F + 256 * (D + E + F + G)))) + 4294967296 * (E + F + G + H + 256 * (F + G + H + 256 * (G + H + 256 * H))) + (E + F + G + H + 256 * (F + G + H + 256 * (G + H + 256 * H)))
      = (A + B + C + D + E + F + G + H) + 256 * (B + C + D + E + 256 * (C + D + E + F + 256 * (D + E + F + G)) + 16777216 * (E + F + G + H + 256 * (F + G + H + 256 * (G + H + 256 * H))) + (F + G + H + 256 * (G + H + 256 * H))) := by omega
theorem twice (x c : Nat) : x + x / c ≤ 2 * x := by have := Nat.div_le_self x c; omega

theorem fold8 (p0 p1 p2 p3 p4 p5 p6 p7 : Nat) (h0 : p0 ≤ 8) (h1 : p1 ≤ 8) (h2 : p2 ≤ 8) (h3 : p3 ≤ 8) (h4 : p4 ≤ 8) (h5 : p5 ≤ 8) (h6 : p6 ≤ 8) (h7 : p7 ≤ 8)
    (x3 x4 x5 x6 : Nat) (e3 : x3 = p0 + 256 * (p1 + 256 * (p2 + 256 * (p3 + 256 * (p4 + 256 * (p5 + 256 * (p6 + 256 * p7)))))))
    (e4 : x4 = x3 + x3 / 256) (e5 : x5 = x4 + x4 / 65536) (e6 : x6 = x5 + x5 / 4294967296) :
    x6 < 4900000000000000000 ∧ x3 ≤ x4 ∧ x4 ≤ x5 ∧ x5 ≤ x6 ∧ x6 % 128 = p0 + p1 + p2 + p3 + p4 + p5 + p6 + p7 := by
  have b3 : x3 < 600000000000000000 := by omega
  have b4 := twice x3 256
  have b5 := twice x4 65536
  have b6 := twice x5 4294967296
  have d3 := div_cut 256 p0 (p1 + 256 * (p2 + 256 * (p3 + 256 * (p4 + 256 * (p5 + 256 * (p6 + 256 * p7)))))) (by omega)
  rw [← e3] at d3
  have f4 := e4
  rw [d3, e3, cut1] at f4
  have d4 := div_cut 65536 (p0 + p1 + 256 * (p1 + p2)) (p2 + p3 + 256 * (p3 + p4 + 256 * (p4 + p5 + 256 * (p5 + p6 + 256 * (p6 + p7 + 256 * p7))))) (by clear f4 d3; omega)
  rw [← f4] at d4
  have f5 := e5
  rw [d4, f4, cut2] at f5
  have d5 := div_cut 4294967296 (p0 + p1 + p2 + p3 + 256 * (p1 + p2 + p3 + p4 + 256 * (p2 + p3 + p4 + p5 + 256 * (p3 + p4 + p5 + p6)))) (p4 + p5 + p6 + p7 + 256 * (p5 + p6 + p7 + 256 * (p6 + p7 + 256 * p7))) (by clear f4 d3 f5 d4; omega)
  rw [← f5] at d5
  have f6 := e6
  rw [d5, f5, cut3] at f6
  refine ⟨?_, ?_, ?_, ?_, ?_⟩
  · rw [← e4] at b4; rw [← e5] at b5; rw [← e6] at b6; clear f4 f5 f6 d3 d4 d5 e3 e4 e5 e6; omega
  · rw [e4]; exact Nat.le_add_right _ _
  · rw [e5]; exact Nat.le_add_right _ _
  · rw [e6]; exact Nat.le_add_right _ _
  · rw [f6]; exact low7 _ _ (by clear f4 f5 f6 d3 d4 d5 e3 e4 e5 e6 b3 b4 b5 b6; omega)

/-- What OnesCount64 adds up, at every number below 2^64. -/
theorem swar_cnt (x : Nat) (hx : x < 18446744073709551616) (x1 x2 x3 x4 x5 x6 : Nat) (e1 : x1 = s1 x 6148914691236517205) (e2 : x2 = s2 x1 3689348814741910323) (e3 : x3 = s3 x2 1085102592571150095)
    (e4 : x4 = x3 + x3 / 256) (e5 : x5 = x4 + x4 / 65536) (e6 : x6 = x5 + x5 / 4294967296) : x1 < 18446744073709551616 ∧ x2 < 7378697629483820647 ∧ x6 < 4900000000000000000 ∧ x3 ≤ x4 ∧ x4 ≤ x5 ∧ x5 ≤ x6 ∧ x6 % 128 = cnt x := by
  have e : x3 = bytes 8 x := by rw [e3, e2, e1]; exact swar64 x hx
  simp only [bytes, Nat.mul_zero, Nat.add_zero] at e
  obtain ⟨h6, k3, k4, k5, hc⟩ := fold8 _ _ _ _ _ _ _ _ 
    (byte8_le _ (Nat.mod_lt x (by omega))) (byte8_le _ (Nat.mod_lt (x / 256) (by omega))) (byte8_le _ (Nat.mod_lt (x / 256 / 256) (by omega))) (byte8_le _ (Nat.mod_lt (x / 256 / 256 / 256) (by omega))) (byte8_le _ (Nat.mod_lt (x / 256 / 256 / 256 / 256) (by omega))) (byte8_le _ (Nat.mod_lt (x / 256 / 256 / 256 / 256 / 256) (by omega))) (byte8_le _ (Nat.mod_lt (x / 256 / 256 / 256 / 256 / 256 / 256) (by omega))) (byte8_le _ (Nat.mod_lt (x / 256 / 256 / 256 / 256 / 256 / 256 / 256) (by omega)))
    x3 x4 x5 x6 (by rw [e]) e4 e5 e6
  refine ⟨by rw [e1]; exact s1_le x, by rw [e2]; exact s2_le _, h6, k3, k4, k5, ?_⟩
  have d : ∀ y, x / 256 / 256 / 256 / 256 / 256 / 256 / 256 = y → pop 8 y = pop 8 (y % 256) := fun y _ => (pop_mod 8 y).symm
  have a0 : pop 64 x = pop 8 (x % 256) + pop 56 (x / 256) := pop_byte 56 _
  have a1 : pop 56 (x / 256) = pop 8 (x / 256 % 256) + pop 48 (x / 256 / 256) := pop_byte 48 _
  have a2 : pop 48 (x / 256 / 256) = pop 8 (x / 256 / 256 % 256) + pop 40 (x / 256 / 256 / 256) := pop_byte 40 _
  have a3 : pop 40 (x / 256 / 256 / 256) = pop 8 (x / 256 / 256 / 256 % 256) + pop 32 (x / 256 / 256 / 256 / 256) := pop_byte 32 _
  have a4 : pop 32 (x / 256 / 256 / 256 / 256) = pop 8 (x / 256 / 256 / 256 / 256 % 256) + pop 24 (x / 256 / 256 / 256 / 256 / 256) := pop_byte 24 _
  have a5 : pop 24 (x / 256 / 256 / 256 / 256 / 256) = pop 8 (x / 256 / 256 / 256 / 256 / 256 % 256) + pop 16 (x / 256 / 256 / 256 / 256 / 256 / 256) := pop_byte 16 _
  have a6 : pop 16 (x / 256 / 256 / 256 / 256 / 256 / 256) = pop 8 (x / 256 / 256 / 256 / 256 / 256 / 256 % 256) + pop 8 (x / 256 / 256 / 256 / 256 / 256 / 256 / 256) := pop_byte 8 _
  have a7 := d _ rfl
  rw [hc, cnt_pop, a0, a1, a2, a3, a4, a5, a6, a7]
  simp only [Nat.add_assoc]

end Go.Proofs.Ytafamfjgehnddaa.Plain

namespace Go.Proofs.Ytafamfjgehnddaa.Plain

def inv (x : Nat) : Nat := 18446744073709551615 - x
theorem inv_lt (x : Nat) : inv x < 18446744073709551616 := by unfold inv; omega
theorem inv_bit (x i : Nat) (hx : x < 18446744073709551616) (hi : i < 64) : (inv x).testBit i = !x.testBit i := by
  have e : inv x = 2 ^ 64 - (x + 1) := by unfold inv; omega
  rw [e, Nat.testBit_two_pow_sub_succ hx]
  simp [hi]

/-- The place of the lowest set bit; 64: there is none. -/
def low (x : Nat) : Nat := Lib.ctz 64 x
theorem low_le (x : Nat) (hx : x < 18446744073709551616) : low x ≤ 64 := by
  unfold low
  by_cases h : x = 0
  · simp [Lib.ctz, h]
  · exact Nat.le_of_lt (Lib.lowest_bit 64 x h hx).2
theorem low_zero : low 0 = 64 := rfl
theorem low_lt (x : Nat) (h : x ≠ 0) (hx : x < 18446744073709551616) : low x < 64 := (Lib.lowest_bit 64 x h hx).2

theorem low_form (x : Nat) (h : x ≠ 0) (hx : x < 18446744073709551616) : ∃ m, x = 2 ^ low x * (2 * m + 1) := by
  obtain ⟨m, hm, _⟩ := Lib.ctzFrom_spec 64 x (by omega) hx
  have e : low x = Lib.ctzFrom 64 x := by simp [low, Lib.ctz, h]
  rw [e]
  exact ⟨m, hm⟩

theorem odd_bit (k m i : Nat) : (2 ^ k * (2 * m + 1)).testBit i = (decide (k ≤ i) && (2 * m + 1).testBit (i - k)) := by
  rw [Nat.mul_comm, Nat.testBit_mul_two_pow]

theorem low_below (x : Nat) (h : x ≠ 0) (hx : x < 18446744073709551616) (i : Nat) (hi : i < low x) : x.testBit i = false := by
  obtain ⟨m, hm⟩ := low_form x h hx
  generalize low x = k at *
  rw [hm, odd_bit]
  simp; omega

theorem low_bit (x : Nat) (h : x ≠ 0) (hx : x < 18446744073709551616) : x.testBit (low x) = true := by
  obtain ⟨m, hm⟩ := low_form x h hx
  generalize low x = k at *
  rw [hm, odd_bit]
  simp

/-- The number without its lowest bit. -/
def drop1 (x : Nat) : Nat := x &&& (x - 1)
theorem drop1_lt (x : Nat) (h : x ≠ 0) : drop1 x < x := by
  unfold drop1
  have : x &&& (x - 1) ≤ x - 1 := Nat.and_le_right
  omega

theorem drop1_bit (x : Nat) (h : x ≠ 0) (hx : x < 18446744073709551616) (i : Nat) : (drop1 x).testBit i = (x.testBit i && decide (i ≠ low x)) := by
  obtain ⟨m, hm⟩ := low_form x h hx
  unfold drop1
  generalize low x = k at *
  have e : x - 1 = 2 ^ k * (2 * m) + (2 ^ k - 1) := by
    have := Nat.two_pow_pos k
    rw [hm, Nat.mul_add]; omega
  have hlt : 2 ^ k - 1 < 2 ^ k := by have := Nat.two_pow_pos k; omega
  rw [Nat.testBit_and, e, Nat.testBit_two_pow_mul_add _ hlt, hm, odd_bit]
  by_cases h1 : i < k
  · have h2 : ¬ k ≤ i := by omega
    simp [h2]
  · have h2 : k ≤ i := by omega
    rw [if_neg h1]
    by_cases h3 : i = k
    · subst h3; simp
    · obtain ⟨j, rfl⟩ : ∃ j, i = k + (j + 1) := ⟨i - k - 1, by omega⟩
      have h4 : k + (j + 1) - k = j + 1 := by omega
      simp only [h4, Nat.testBit_succ]
      have d1 : (2 * m + 1) / 2 = m := by omega
      have d2 : 2 * m / 2 = m := by omega
      rw [d1, d2]
      simp

theorem range_cut (n k : Nat) (h : k < n) : List.range n = List.range k ++ k :: (List.range (n - k - 1)).map (· + (k + 1)) := by
  obtain ⟨d, rfl⟩ : ∃ d, n = k + (1 + d) := ⟨n - k - 1, by omega⟩
  have e : k + (1 + d) - k - 1 = d := by omega
  rw [e, List.range_add, List.range_add]
  simp [Function.comp_def, Nat.add_comm, Nat.add_left_comm]

theorem pls_zero : pls 0 = [] := by simp [pls, upTo]

/-- The places are the lowest one, and those of what is left. -/
theorem pls_cons (x : Nat) (h : x ≠ 0) (hx : x < 18446744073709551616) : pls x = low x :: pls (drop1 x) := by
  have hk := low_lt x h hx
  unfold pls upTo
  rw [range_cut 64 (low x) hk]
  simp only [List.filter_append, List.filter_cons]
  have h1 : (List.range (low x)).filter (fun i => x.testBit i) = [] := by
    rw [List.filter_eq_nil_iff]
    intro i hi
    simp [low_below x h hx i (by simpa using hi)]
  have h2 : (List.range (low x)).filter (fun i => (drop1 x).testBit i) = [] := by
    rw [List.filter_eq_nil_iff]
    intro i hi
    simp [drop1_bit x h hx, low_below x h hx i (by simpa using hi)]
  have h3 : (drop1 x).testBit (low x) = false := by simp [drop1_bit x h hx]
  have h4 : ∀ l : List Nat, (l.map (· + (low x + 1))).filter (fun i => (drop1 x).testBit i) = (l.map (· + (low x + 1))).filter (fun i => x.testBit i) := by
    intro l
    apply List.filter_congr
    intro i hi
    obtain ⟨j, _, rfl⟩ := List.mem_map.1 hi
    rw [drop1_bit x h hx]
    have : j + (low x + 1) ≠ low x := by omega
    simp [this]
  rw [h1, h2, h3, h4, low_bit x h hx]
  simp

theorem pls_ne (x : Nat) (h : x ≠ 0) (hx : x < 18446744073709551616) : pls x ≠ [] := by rw [pls_cons x h hx]; simp

theorem mem_pls (x i : Nat) : i ∈ pls x ↔ i < 64 ∧ x.testBit i = true := by simp [pls, upTo]

/-- n held from 0 to 64. -/
def hold (n : Int) : Nat := (min (max n 0) 64).toNat
theorem hold_le (n : Int) : hold n ≤ 64 := by unfold hold; omega
theorem hold_cast (n : Int) : (hold n : Int) = min (max n 0) 64 := by unfold hold; omega

/-- The n lowest bits. -/
def ones (n : Nat) : Nat := 2 ^ n - 1
theorem ones_lt (n : Nat) (h : n ≤ 64) : ones n < 18446744073709551616 := by
  unfold ones
  have : 2 ^ n ≤ 2 ^ 64 := Nat.pow_le_pow_right (by omega) h
  have := Nat.two_pow_pos n
  omega
theorem ones_bit (n i : Nat) : (ones n).testBit i = decide (i < n) := by unfold ones; exact Nat.testBit_two_pow_sub_one n i
theorem ones_wrap (n : Nat) (h : n ≤ 64) : ((2 : Int) ^ n % 18446744073709551616 - 1) % 18446744073709551616 = (ones n : Int) := by
  have hp := Nat.two_pow_pos n
  have e : ((2 : Int) ^ n) = ((2 ^ n : Nat) : Int) := by simp
  unfold ones
  by_cases h1 : n = 64
  · subst h1; decide
  · have : 2 ^ n ≤ 2 ^ 63 := Nat.pow_le_pow_right (by omega) (by omega)
    rw [e]
    omega

theorem ones_mono (n x : Nat) : x ≤ ones n ↔ x < 2 ^ n := by
  unfold ones
  have := Nat.two_pow_pos n
  omega

theorem high_bit (x i : Nat) (hx : x < 18446744073709551616) (hi : 64 ≤ i) : x.testBit i = false :=
  Nat.testBit_lt_two_pow (Nat.lt_of_lt_of_le (show x < 2 ^ 64 from hx) (Nat.pow_le_pow_right (by omega) hi))

/-- Two numbers below 2^64 with the same 64 bits are one. -/
theorem eq_of_bits (x y : Nat) (hx : x < 18446744073709551616) (hy : y < 18446744073709551616) (h : ∀ i, i < 64 → x.testBit i = y.testBit i) : x = y := by
  apply Nat.eq_of_testBit_eq
  intro i
  by_cases hi : i < 64
  · exact h i hi
  · rw [high_bit x i hx (by omega), high_bit y i hy (by omega)]

/-- The n bits from bit a on. -/
def fld (x a n : Nat) : Nat := x / 2 ^ a &&& ones n
theorem fld_lt (x a n : Nat) (h : n ≤ 64) : fld x a n < 18446744073709551616 := by
  have h1 : fld x a n ≤ ones n := Nat.and_le_right
  have := ones_lt n h
  omega
theorem fld_le (x a n : Nat) : fld x a n ≤ ones n := Nat.and_le_right
theorem fld_bit (x a n i : Nat) : (fld x a n).testBit i = (decide (i < n) && x.testBit (a + i)) := by
  unfold fld
  rw [Nat.testBit_and, ones_bit, Nat.testBit_div_two_pow, Nat.add_comm, Bool.and_comm]

/-- x, but the n bits from bit a on are v's. -/
def wth (x a n v : Nat) : Nat := (x &&& inv (ones n * 2 ^ a % 18446744073709551616)) ||| (v * 2 ^ a % 18446744073709551616)
theorem wth_lt (x a n v : Nat) (hx : x < 18446744073709551616) : wth x a n v < 18446744073709551616 := by
  unfold wth
  have h1 : x &&& inv (ones n * 2 ^ a % 18446744073709551616) < 2 ^ 64 := Nat.lt_of_le_of_lt Nat.and_le_left hx
  have h2 : v * 2 ^ a % 18446744073709551616 < 2 ^ 64 := Nat.mod_lt _ (by omega)
  exact Nat.or_lt_two_pow h1 h2
theorem shl_bit (v a i : Nat) (hi : i < 64) : (v * 2 ^ a % 18446744073709551616).testBit i = (decide (a ≤ i) && v.testBit (i - a)) := by
  rw [show (18446744073709551616 : Nat) = 2 ^ 64 from rfl, Nat.testBit_mod_two_pow, Nat.testBit_mul_two_pow]
  simp [hi]
theorem wth_bit (x a n v i : Nat) (hi : i < 64) (hv : v ≤ ones n) : (wth x a n v).testBit i = if a ≤ i ∧ i < a + n then v.testBit (i - a) else x.testBit i := by
  unfold wth
  rw [Nat.testBit_or, Nat.testBit_and, inv_bit _ _ (Nat.mod_lt _ (by omega)) hi, shl_bit _ _ _ hi, shl_bit _ _ _ hi, ones_bit]
  by_cases h1 : a ≤ i
  · by_cases h2 : i < a + n
    · have h3 : i - a < n := by omega
      simp [h1, h2, h3]
    · have h3 : ¬ i - a < n := by omega
      have h4 : v.testBit (i - a) = false := Nat.testBit_lt_two_pow (Nat.lt_of_lt_of_le ((ones_mono n v).1 hv) (Nat.pow_le_pow_right (by omega) (by omega)))
      simp [h2, h3, h4]
  · simp [h1]

theorem filter_both (p q : Nat → Bool) (l : List Nat) : (l.filter p).length + (l.filter q).length = (l.filter fun i => p i || q i).length + (l.filter fun i => p i && q i).length := by
  induction l with
  | nil => rfl
  | cons a l ih =>
    simp only [List.filter_cons]
    cases p a <;> cases q a <;> simp <;> omega

theorem cnt_both (a b : Nat) : cnt a + cnt b = cnt (a ||| b) + cnt (a &&& b) := by
  unfold cnt pls upTo
  rw [filter_both]
  congr 2
  · apply List.filter_congr; intro i _; rw [Nat.testBit_or]
  · apply List.filter_congr; intro i _; rw [Nat.testBit_and]

theorem filter_not (p : Nat → Bool) (l : List Nat) : (l.filter p).length + (l.filter fun i => !p i).length = l.length := by
  induction l with
  | nil => rfl
  | cons a l ih =>
    simp only [List.filter_cons]
    cases p a <;> simp <;> omega

theorem cnt_inv (a : Nat) (ha : a < 18446744073709551616) : cnt a + cnt (inv a) = 64 := by
  unfold cnt pls upTo
  have e : (List.range 64).filter (fun i => (inv a).testBit i) = (List.range 64).filter (fun i => !a.testBit i) := by
    apply List.filter_congr
    intro i hi
    exact inv_bit a i ha (by simpa using hi)
  rw [e, filter_not]
  simp

/-- All bits below the lowest one that is not set are set. -/
theorem below_low (x k : Nat) (hx : x < 18446744073709551616) (h : k ≤ low (inv x)) : x &&& ones k = ones k := by
  have h64 := low_le (inv x) (inv_lt x)
  apply Nat.eq_of_testBit_eq
  intro i
  rw [Nat.testBit_and, ones_bit]
  by_cases hi : i < k
  · have hb : (inv x).testBit i = false := by
      by_cases h0 : inv x = 0
      · rw [h0]; exact Nat.zero_testBit i
      · exact low_below (inv x) h0 (inv_lt x) i (by omega)
    rw [inv_bit x i hx (by omega)] at hb
    have : x.testBit i = true := by simpa using hb
    simp [hi, this]
  · simp [hi]

theorem low_unset (x : Nat) (hx : x < 18446744073709551616) (h : low (inv x) < 64) : x.testBit (low (inv x)) = false := by
  have h0 : inv x ≠ 0 := by
    intro e
    rw [e, low_zero] at h
    omega
  have hb := low_bit (inv x) h0 (inv_lt x)
  rw [inv_bit x _ hx h] at hb
  simpa using hb

theorem above_bit (n v i : Nat) (hv : v ≤ ones n) (hi : n ≤ i) : v.testBit i = false :=
  Nat.testBit_lt_two_pow (Nat.lt_of_lt_of_le ((ones_mono n v).1 hv) (Nat.pow_le_pow_right (by omega) hi))

theorem fld_wth (x f l v : Nat) (h : f + l ≤ 64) (hv : v ≤ ones l) : fld (wth x f l v) f l = v := by
  apply Nat.eq_of_testBit_eq
  intro i
  rw [fld_bit]
  by_cases hi : i < l
  · rw [wth_bit x f l v _ (by omega) hv, if_pos (by omega), Nat.add_sub_cancel_left]
    simp [hi]
  · rw [above_bit l v i hv (by omega)]
    simp [hi]

theorem fld_beside (x f l v a n : Nat) (h : a + n ≤ 64) (hv : v ≤ ones l) (ho : a + n ≤ f ∨ f + l ≤ a) : fld (wth x f l v) a n = fld x a n := by
  apply Nat.eq_of_testBit_eq
  intro i
  rw [fld_bit, fld_bit]
  by_cases hi : i < n
  · rw [wth_bit x f l v _ (by omega) hv, if_neg (by omega)]
  · simp [hi]

theorem wth_back (x f l v : Nat) (hx : x < 18446744073709551616) (hv : v ≤ ones l) : wth (wth x f l v) f l (fld x f l) = x := by
  apply eq_of_bits _ _ (wth_lt _ _ _ _ (wth_lt _ _ _ _ hx)) hx
  intro i hi
  rw [wth_bit _ _ _ _ _ hi (fld_le _ _ _), wth_bit _ _ _ _ _ hi hv, fld_bit]
  by_cases h1 : f ≤ i ∧ i < f + l
  · rw [if_pos h1]
    have h2 : i - f < l := by omega
    have h3 : f + (i - f) = i := by omega
    simp [h2, h3]
  · rw [if_neg h1, if_neg h1]

end Go.Proofs.Ytafamfjgehnddaa.Plain

namespace Go.Proofs.Ytafamfjgehnddaa
open Go.RowKit

theorem held31 (n : Int) (w : World) : Calls Try.prog 94 #[.int .i64 n] w fun e w' => e = .returned (.int .i64 (Plain.hold n)) ∧ w' = w := by
  have hc := Plain.hold_cast n
  generalize Plain.hold n = m at *
  have H : Hid ((m : Int) = min (max n 0) 64) := hc
  clear hc
  go_enter Try.func94, Try.ntmps94
  go_wp2
  all_goals go_ret
  all_goals exact ⟨ret_int (by have := H.out; omega), rfl⟩

theorem hold32 (n t : Int) (w : World) : Calls Try.prog 76 #[.int .i64 n, .int .i64 t] w fun e w' => e = .returned (.int .i64 (max 0 (min n t))) ∧ w' = w := by
  go_enter Try.func76, Try.ntmps76
  go_wp2
  all_goals go_ret
  all_goals exact ⟨ret_int (by omega), rfl⟩

def isIn (a n : Int) : Bool := decide (0 ≤ a ∧ 0 ≤ n ∧ n ≤ 64 - a)
theorem isIn_iff (a n : Int) : isIn a n = true ↔ 0 ≤ a ∧ 0 ≤ n ∧ n ≤ 64 - a := by simp [isIn]

theorem inside27 (a n : Int) (w : World) (ha : a ≤ 9223372036854775807) : Calls Try.prog 71 #[.int .i64 a, .int .i64 n] w fun e w' => e = .returned (.bool (isIn a n)) ∧ w' = w := by
  by_cases h1 : 0 ≤ a
  · by_cases h2 : 0 ≤ n
    · go_enter Try.func71, Try.ntmps71
      go_wp2
      go_ret
      exact ⟨ret_bool (by simp [isIn, h1, h2]), rfl⟩
    · go_enter Try.func71, Try.ntmps71
      go_wp2
      go_ret
      exact ⟨ret_bool (by simp [isIn]; omega), rfl⟩
  · go_enter Try.func71, Try.ntmps71
    go_wp2
    go_ret
    exact ⟨ret_bool (by simp [isIn]; omega), rfl⟩

theorem bit_key (x i : Nat) (hx : x < 18446744073709551616) : (bits BinOp.and IntKind.u64 ((x : Int) / 2 ^ i) 1 == 1) = x.testBit i := by
  have e : ((x : Int) / 2 ^ i) = ((x / 2 ^ i : Nat) : Int) := by simp
  have hl : x / 2 ^ i < 18446744073709551616 := Nat.lt_of_le_of_lt (Nat.div_le_self _ _) hx
  rw [e, show (1 : Int) = ((1 : Nat) : Int) from rfl, bits_and_u64_nat _ _ hl (by omega), Nat.and_one_is_mod, Nat.testBit_eq_decide_div_mod_eq, Bool.eq_iff_iff]
  simp
  omega

def bitAt (x : Nat) (i : Int) : Bool := decide (0 ≤ i ∧ i < 64) && x.testBit i.toNat

theorem ones_key (n : Nat) (h : n ≤ 64) : IntKind.u64.wrap (IntKind.u64.wrap (2 ^ (n : Int).toNat) - 1) = (Plain.ones n : Int) := by
  rw [IntKind.wrap_u64, IntKind.wrap_u64, Int.toNat_natCast]
  exact Plain.ones_wrap n h

theorem ones15 (n : Int) (w : World) : Calls Try.prog 72 #[.int .i64 n] w fun e w' => e = .returned (.int .u64 (Plain.ones (Plain.hold n))) ∧ w' = w := by
  have hl := Plain.hold_le n
  have hk := ones_key _ hl
  have hh := fun w => held31 n w
  generalize Plain.hold n = m at *
  have H := hide hh
  have K := hide hk
  clear hh hk
  go_enter Try.func72, Try.ntmps72
  go_wp2_with (go_at_call 94; refine (H.out _).mono ?_; rintro e w' ⟨rfl, rfl⟩)
  go_ret
  exact ⟨ret_int (K.out), rfl⟩

/-! ### math/bits -/

theorem tz_key (x a : Nat) (hx : x < 18446744073709551616) (hx0 : x ≠ 0) (hlow : x &&& (18446744073709551616 - x) = a) :
    IntKind.u64.wrap (bits BinOp.and IntKind.u64 (x : Int) (IntKind.u64.wrap (-(x : Int))) * 285870213051353865) / 288230376151711744 = ((a * 285870213051353865 % 18446744073709551616 / 288230376151711744 : Nat) : Int) := by
  have e1 : IntKind.u64.wrap (-(x : Int)) = ((18446744073709551616 - x : Nat) : Int) := by rw [IntKind.wrap_u64]; omega
  rw [e1, bits_and_u64_nat x _ hx (by omega), hlow, IntKind.wrap_u64]
  omega

theorem and_u64 (a m : Nat) (ha : a < 18446744073709551616) (hm : m < 18446744073709551616) : bits BinOp.and IntKind.u64 (a : Int) (m : Int) = ((a &&& m : Nat) : Int) := bits_and_u64_nat a m ha hm
theorem wrap_nat (a : Nat) (ha : a < 18446744073709551616) : IntKind.u64.wrap (a : Int) = (a : Int) := by rw [IntKind.wrap_u64]; omega
theorem div_nat (a b : Nat) : (a : Int) / (b : Int) = ((a / b : Nat) : Int) := by simp

theorem i64_low7 (x : Nat) (hx : x < 9223372036854775808) : bits BinOp.and IntKind.i64 (wrap64 (x : Int)) 127 = ((x % 128 : Nat) : Int) := by
  have e : wrap64 (x : Int) = (x : Int) := by unfold wrap64; omega
  rw [e]
  have h := bits_mask .i64 63 (by decide) (fun n h0 h1 => by rw [IntKind.wrap_i64]; omega) 7 (by decide) (x : Int) (by omega) (by omega)
  rw [show (127 : Int) = 2 ^ 7 - 1 from rfl, h]
  omega

/-! ### Low, Field, With -/

theorem inv_key (x : Nat) (hx : x < 18446744073709551616) : bits BinOp.xor IntKind.u64 IntKind.u64.max (x : Int) = (Plain.inv x : Int) := by
  rw [show IntKind.u64.max = ((18446744073709551615 : Nat) : Int) from rfl, bits_xor_u64_nat _ _ (by omega) hx]
  congr 1
  apply Nat.eq_of_testBit_eq
  intro i
  rw [Nat.testBit_xor]
  have e : (18446744073709551615 : Nat) = 2 ^ 64 - 1 := rfl
  by_cases hi : i < 64
  · rw [Plain.inv_bit x i hx hi, e, Nat.testBit_two_pow_sub_one]
    simp [hi]
  · rw [Plain.high_bit x i hx (by omega), Plain.high_bit _ i (Plain.inv_lt x) (by omega), e, Nat.testBit_two_pow_sub_one]
    simp [hi]

def lowAns (x : Nat) (n : Int) : Int × Bool := if Plain.low (Plain.inv x) < Plain.hold n then (Plain.low (Plain.inv x), true) else (0, false)

theorem hold_in {a n : Int} (h : isIn a n = true) : Plain.hold n = n.toNat := by
  obtain ⟨h1, h2, h3⟩ := (isIn_iff a n).1 h
  unfold Plain.hold
  congr 1
  omega

theorem fld_key (x : Nat) (a n : Int) (hx : x < 18446744073709551616) (h : isIn a n = true) : bits BinOp.and IntKind.u64 ((x : Int) / 2 ^ a.toNat) (Plain.ones (Plain.hold n) : Int) = (Plain.fld x a.toNat n.toNat : Int) := by
  have e : ((x : Int) / 2 ^ a.toNat) = ((x / 2 ^ a.toNat : Nat) : Int) := by simp
  have hl : x / 2 ^ a.toNat < 18446744073709551616 := Nat.lt_of_le_of_lt (Nat.div_le_self _ _) hx
  rw [e, bits_and_u64_nat _ _ hl (Plain.ones_lt _ (Plain.hold_le n)), hold_in h]
  rfl

theorem bits_andNot_u64 (a b : Nat) (ha : a < 18446744073709551616) (hb : b < 18446744073709551616) :
    bits .andNot .u64 (a : Int) (b : Int) = ((a &&& Plain.inv b : Nat) : Int) := by
  have h1 : (BitVec.ofInt 64 (a : Int)).toNat = a := by
    rw [BitVec.ofInt_natCast, BitVec.toNat_ofNat]; exact Nat.mod_eq_of_lt (by omega)
  have h2 : (BitVec.ofInt 64 (b : Int)).toNat = b := by
    rw [BitVec.ofInt_natCast, BitVec.toNat_ofNat]; exact Nat.mod_eq_of_lt (by omega)
  have hx : a &&& Plain.inv b ≤ a := Nat.and_le_left
  show IntKind.u64.wrap ((BitVec.ofInt 64 (a : Int) &&& ~~~ BitVec.ofInt 64 (b : Int)).toNat : Int) = _
  rw [BitVec.toNat_and, BitVec.toNat_not, h1, h2, IntKind.wrap_u64]
  have e : 2 ^ 64 - 1 - b = Plain.inv b := rfl
  rw [e]
  omega

theorem wth_key (x v : Nat) (a n : Int) (hx : x < 18446744073709551616) (h : isIn a n = true) :
    bits BinOp.or IntKind.u64 (bits BinOp.andNot IntKind.u64 (x : Int) (IntKind.u64.wrap ((Plain.ones (Plain.hold n) : Int) * 2 ^ a.toNat))) (IntKind.u64.wrap ((v : Int) * 2 ^ a.toNat)) = (Plain.wth x a.toNat n.toNat v : Int) := by
  have e1 : IntKind.u64.wrap ((Plain.ones (Plain.hold n) : Int) * 2 ^ a.toNat) = ((Plain.ones (Plain.hold n) * 2 ^ a.toNat % 18446744073709551616 : Nat) : Int) := by
    rw [IntKind.wrap_u64]; simp
  have e2 : IntKind.u64.wrap ((v : Int) * 2 ^ a.toNat) = ((v * 2 ^ a.toNat % 18446744073709551616 : Nat) : Int) := by
    rw [IntKind.wrap_u64]; simp
  rw [e1, e2, bits_andNot_u64 _ _ hx (Nat.mod_lt _ (by omega)), bits_or_u64_nat _ _ (Nat.lt_of_le_of_lt Nat.and_le_left hx) (Nat.mod_lt _ (by omega)), hold_in h]
  rfl

def fieldAns (x : Nat) (a n : Int) : Nat := if isIn a n = true then Plain.fld x a.toNat n.toNat else 0

theorem field17 (x : Nat) (hx : x < 18446744073709551616) (a n : Int) (w : World) (ha : a ≤ 9223372036854775807) :
    Calls Try.prog 45 #[.int .u64 x, .int .i64 a, .int .i64 n] w fun e w' => e = .returned (.int .u64 (fieldAns x a n)) ∧ ∃ q, w' = w.drewN q := by
  have h27 := inside27 a n w ha
  unfold fieldAns
  by_cases h : isIn a n = true
  · rw [if_pos h]
    rw [h] at h27
    have HK := hide (fld_key x a n hx h)
    obtain ⟨h1, h2, h3⟩ := (isIn_iff a n).1 h
    clear h
    have H27 := hide h27
    clear h27
    have ha64 : a ≤ 64 := by omega
    go_enter Try.func45, Try.ntmps45
    go_wp2_with (first | (go_at_call 71; refine H27.out.mono ?_; rintro e w' ⟨rfl, rfl⟩))
    go_quiet ((go_at_call 72; exact Calls.quiet_of_same (ones15 _ _)))
    go_wp2
    go_ret
    exact ⟨ret_int HK.out, _, rfl⟩
  · rw [if_neg h]
    rw [Bool.not_eq_true] at h
    rw [h] at h27
    have H27 := hide h27
    clear h27 h
    go_enter Try.func45, Try.ntmps45
    go_wp2_with (first | (go_at_call 71; refine H27.out.mono ?_; rintro e w' ⟨rfl, rfl⟩))
    go_ret
    exact ⟨rfl, 0, rfl⟩

def withAns (x : Nat) (a n : Int) (v : Nat) : Nat × Bool := if isIn a n = true ∧ v ≤ Plain.ones (Plain.hold n) then (Plain.wth x a.toNat n.toNat v, true) else (0, false)

end Go.Proofs.Ytafamfjgehnddaa

namespace Go.Proofs.Ytafamfjgehnddaa
open Go.RowKit

theorem or_key (t : Nat) (p : Int) (ht : t < 4294967296) (h1 : -1 ≤ p) (h2 : p < 4096) :
    bits BinOp.or IntKind.u64 ((t : Int) * 4294967296) (p + 1) = (Tg.head t p : Int) := by
  obtain ⟨k, hk⟩ : ∃ k : Nat, p + 1 = (k : Int) := ⟨(p + 1).toNat, by omega⟩
  have e : (t : Int) * 4294967296 = ((t * 4294967296 : Nat) : Int) := by simp
  rw [hk, e, bits_or_u64_nat _ _ (by omega) (by omega), Tg.or_head t k (by omega)]
  unfold Tg.head
  omega

theorem make7 (t : Nat) (p : Int) (ht : t < 4294967296) (w : World) :
    Calls Try.prog 89 #[.int .u32 t, .int .i64 p] w fun e w' => e = .returned (.tuple #[.int .u64 (Tg.make t p).1, .bool (Tg.make t p).2]) ∧ w' = w := by
  by_cases h1 : -1 ≤ p
  · by_cases h2 : p < 4096
    · have HK := hide (or_key t p ht h1 h2)
      rw [Tg.make_in t p h1 h2]
      go_enter Try.func89, Try.ntmps89
      go_wp2
      go_ret2
      refine ⟨?_, rfl⟩
      rw [← HK.out]
      rfl
    · rw [Tg.make_out t p (by omega)]
      go_enter Try.func89, Try.ntmps89
      go_wp2
      go_ret2
      exact ⟨rfl, rfl⟩
  · rw [Tg.make_out t p (by omega)]
    go_enter Try.func89, Try.ntmps89
    go_wp2
    go_ret2
    exact ⟨rfl, rfl⟩

/-! ### Page, Tag -/

theorem field_low (x : Nat) (hx : x < 18446744073709551616) (w : World) :
    Calls Try.prog 45 #[.int .u64 x, .int .i64 0, .int .i64 32] w fun e w' => e = .returned (.int .u64 (Tg.low x)) ∧ ∃ q, w' = w.drewN q := by
  have h := field17 x hx 0 32 w (by omega)
  have e : fieldAns x 0 32 = Tg.low x := by
    unfold fieldAns
    rw [if_pos (by decide)]
    show x / 2 ^ 0 &&& (2 ^ 32 - 1) = _
    rw [Nat.and_two_pow_sub_one_eq_mod, Nat.pow_zero, Nat.div_one]
    rfl
  rw [e] at h
  exact h

theorem field_tag (x : Nat) (hx : x < 18446744073709551616) (w : World) :
    Calls Try.prog 45 #[.int .u64 x, .int .i64 32, .int .i64 32] w fun e w' => e = .returned (.int .u64 (Tg.tag x)) ∧ ∃ q, w' = w.drewN q := by
  have h := field17 x hx 32 32 w (by omega)
  have e : fieldAns x 32 32 = Tg.tag x := by
    unfold fieldAns
    rw [if_pos (by decide)]
    show x / 2 ^ 32 &&& (2 ^ 32 - 1) = _
    rw [Nat.and_two_pow_sub_one_eq_mod]
    have := Tg.tag_lt x hx
    unfold Tg.tag at *
    omega
  rw [e] at h
  exact h

theorem page11 (x : Nat) (hx : x < 18446744073709551616) (w : World) :
    Calls Try.prog 39 #[.int .u64 x] w fun e w' => e = .returned (.int .i64 (Tg.page x)) ∧ ∃ q, w' = w.drewN q := by
  have H := hide (fun w => field_low x hx w)
  have hl := Tg.low_lt x
  unfold Tg.page
  generalize Tg.low x = y at *
  by_cases h : y ≤ 4096
  · rw [if_pos h]
    go_enter Try.func39, Try.ntmps39
    go_wp2_with (go_at_call 45; refine (H.out _).mono ?_; rintro e w' ⟨rfl, q, rfl⟩)
    go_ret
    exact ⟨rfl, _, rfl⟩
  · rw [if_neg h]
    go_enter Try.func39, Try.ntmps39
    go_wp2_with (go_at_call 45; refine (H.out _).mono ?_; rintro e w' ⟨rfl, q, rfl⟩)
    go_ret
    exact ⟨rfl, _, rfl⟩

theorem tag13 (x : Nat) (hx : x < 18446744073709551616) (w : World) :
    Calls Try.prog 18 #[.int .u64 x] w fun e w' => e = .returned (.int .u32 (Tg.tag x)) ∧ ∃ q, w' = w.drewN q := by
  have H := hide (fun w => field_tag x hx w)
  have hl := Tg.tag_lt x hx
  generalize Tg.tag x = y at *
  go_enter Try.func18, Try.ntmps18
  go_wp2_with (go_at_call 45; refine (H.out _).mono ?_; rintro e w' ⟨rfl, q, rfl⟩)
  go_ret
  exact ⟨ret_int (by first | rfl | omega), _, rfl⟩

theorem next9 (x : Nat) (hx : x < 18446744073709551616) (p : Int) (w : World) :
    Calls Try.prog 68 #[.int .u64 x, .int .i64 p] w fun e w' => e = .returned (.tuple #[.int .u64 (Tg.next x p).1, .bool (Tg.next x p).2]) ∧ ∃ q, w' = w.drewN q := by
  have H := hide (fun w => tag13 x hx w)
  have hl := Tg.tag_lt x hx
  have M := hide (fun w => make7 (Tg.succ (Tg.tag x)) p (Tg.succ_lt _) w)
  have hs : ((Tg.succ (Tg.tag x) : Nat) : Int) = ((Tg.tag x : Int) + 1) % 4294967296 := by unfold Tg.succ; omega
  unfold Tg.next
  rw [hs] at M
  clear hs
  generalize Tg.make (Tg.succ (Tg.tag x)) p = a at *
  obtain ⟨a1, a2⟩ := a
  generalize Tg.tag x = y at *
  go_enter Try.func68, Try.ntmps68
  go_wp2_with (first | (go_at_call 18; refine (H.out _).mono ?_; rintro e w' ⟨rfl, q, rfl⟩) | (go_at_call 89; refine (M.out _).mono ?_; rintro e w' ⟨rfl, rfl⟩))
  go_ret2
  exact ⟨rfl, _, rfl⟩

/-! ### the document's -/

/-! ### awake -/

end Go.Proofs.Ytafamfjgehnddaa
