/- Plain facts on bits of numbers below 2^64: the places of set bits, how many they are, the lowest one, and the sums that math/bits.OnesCount64 makes. No program is named here. -/
namespace Go.Proofs.YtgdliebllmgibaaDoor.Plain

/-- The places of the set bits below n. -/
def upTo (x n : Nat) : List Nat := (List.range n).filter fun i => x.testBit i
def pls (x : Nat) : List Nat := upTo x 64
def cnt (x : Nat) : Nat := (pls x).length

theorem upTo_zero (x : Nat) : upTo x 0 = [] := rfl
theorem upTo_succ (x n : Nat) : upTo x (n + 1) = if x.testBit n then upTo x n ++ [n] else upTo x n := by
  unfold upTo
  rw [List.range_succ, List.filter_append]
  cases h : x.testBit n <;> simp [h]

theorem cnt_le (x : Nat) : cnt x ≤ 64 := by
  unfold cnt pls upTo
  exact Nat.le_trans (List.length_filter_le _ _) (by simp)

/-! ### the sum of bits -/

def pop : Nat → Nat → Nat
  | 0, _ => 0
  | f + 1, x => x % 2 + pop f (x / 2)

theorem upTo_len (n x : Nat) : (upTo x n).length = pop n x := by
  induction n generalizing x with
  | zero => rfl
  | succ n ih =>
    have e : (upTo x (n + 1)).length = (if x.testBit 0 then 1 else 0) + (upTo (x / 2) n).length := by
      unfold upTo
      rw [List.range_succ_eq_map, List.filter_cons, List.filter_map]
      have h : ((fun i => x.testBit i) ∘ Nat.succ) = fun i => (x / 2).testBit i := by
        funext i; simp [Nat.testBit_succ]
      rw [h]
      cases x.testBit 0 <;> simp [Nat.add_comm]
    rw [e, ih, pop]
    congr 1
    rw [Nat.testBit_zero]
    rcases Nat.mod_two_eq_zero_or_one x with h | h <;> simp [h]

theorem cnt_pop (x : Nat) : cnt x = pop 64 x := upTo_len 64 x

theorem pop_add (k f : Nat) : ∀ x, pop (k + f) x = pop k x + pop f (x / 2 ^ k) := by
  induction k with
  | zero => intro x; simp [pop]
  | succ k ih =>
    intro x
    rw [show k + 1 + f = (k + f) + 1 from by omega, pop, pop, ih, Nat.div_div_eq_div_mul, Nat.pow_succ, Nat.mul_comm 2]
    omega

theorem pop_mod (k : Nat) : ∀ x, pop k (x % 2 ^ k) = pop k x := by
  induction k with
  | zero => intro x; rfl
  | succ k ih =>
    intro x
    have h0 : x % 2 ^ (k + 1) % 2 = x % 2 := Nat.mod_mod_of_dvd _ ⟨2 ^ k, by rw [Nat.pow_succ, Nat.mul_comm]⟩
    have h1 : x % 2 ^ (k + 1) / 2 = x / 2 % 2 ^ k := by
      rw [Nat.pow_succ, Nat.mul_comm, Nat.mod_mul_right_div_self]
    rw [pop, pop, h0, h1, ih]

theorem pop_byte (f x : Nat) : pop (8 + f) x = pop 8 (x % 256) + pop f (x / 256) := by
  rw [pop_add, ← pop_mod 8 x]

theorem byte8_le : ∀ x, x < 256 → pop 8 x ≤ 8 := by decide +kernel

/-! ### and, cut at a byte -/

theorem and_cat (a m y n : Nat) (ha : a < 256) (hm : m < 256) : (a + 256 * y) &&& (m + 256 * n) = (a &&& m) + 256 * (y &&& n) := by
  have h8 : (256 : Nat) = 2 ^ 8 := rfl
  have hlt : a &&& m < 2 ^ 8 := Nat.and_lt_two_pow _ (by omega)
  apply Nat.eq_of_testBit_eq
  intro i
  rw [Nat.testBit_and, Nat.add_comm a, Nat.add_comm m, Nat.add_comm (a &&& m), h8, Nat.testBit_two_pow_mul_add _ (by omega), Nat.testBit_two_pow_mul_add _ (by omega), Nat.testBit_two_pow_mul_add _ hlt]
  split
  · rw [Nat.testBit_and]
  · rw [Nat.testBit_and]

/-- One byte's pairs, and its fours. -/
def s1 (x m : Nat) : Nat := (x / 2 &&& m) + (x &&& m)
def s2 (x m : Nat) : Nat := (x / 4 &&& m) + (x &&& m)
def s3 (x m : Nat) : Nat := (x / 16 + x) &&& m

theorem s1_cut (a y m : Nat) (ha : a < 256) : s1 (a + 256 * y) (85 + 256 * m) = s1 a 85 + 256 * s1 y m := by
  unfold s1
  have e : (a + 256 * y) / 2 = (a / 2 + 128 * (y % 2)) + 256 * (y / 2) := by omega
  have f : ∀ a, a < 256 → ∀ b, b < 2 → (a / 2 + 128 * b) &&& 85 = a / 2 &&& 85 := by decide +kernel
  rw [e, and_cat _ _ _ _ (by omega) (by omega), and_cat _ _ _ _ ha (by omega), f a ha _ (Nat.mod_lt _ (by omega))]
  omega

theorem s2_cut (a y m : Nat) (ha : a < 256) : s2 (a + 256 * y) (51 + 256 * m) = s2 a 51 + 256 * s2 y m := by
  unfold s2
  have e : (a + 256 * y) / 4 = (a / 4 + 64 * (y % 4)) + 256 * (y / 4) := by omega
  have f : ∀ a, a < 256 → ∀ b, b < 4 → (a / 4 + 64 * b) &&& 51 = a / 4 &&& 51 := by decide +kernel
  rw [e, and_cat _ _ _ _ (by omega) (by omega), and_cat _ _ _ _ ha (by omega), f a ha _ (Nat.mod_lt _ (by omega))]
  omega

theorem s3_cut (a y m : Nat) (ha : a < 69) (hy : y % 16 < 5) : s3 (a + 256 * y) (15 + 256 * m) = s3 a 15 + 256 * s3 y m := by
  unfold s3
  have e : (a + 256 * y) / 16 + (a + 256 * y) = (a / 16 + a + 16 * (y % 16)) + 256 * (y / 16 + y) := by omega
  have f : ∀ a, a < 69 → ∀ b, b < 5 → (a / 16 + a + 16 * b) &&& 15 = (a / 16 + a) &&& 15 := by decide +kernel
  rw [e, and_cat _ _ _ _ (by omega) (by omega), f a ha _ hy]

/-- One byte, all three. -/
theorem byte_all : ∀ a, a < 256 → s1 a 85 < 256 ∧ s2 (s1 a 85) 51 < 69 ∧ s2 (s1 a 85) 51 % 16 < 5 ∧ s3 (s2 (s1 a 85) 51) 15 = pop 8 a := by decide +kernel

/-- The three masks, n bytes long. -/
def mask (b : Nat) : Nat → Nat
  | 0 => 0
  | n + 1 => b + 256 * mask b n

theorem swar (n : Nat) : ∀ x, x < 256 ^ n → ∃ q, s3 (s2 (s1 x (mask 85 n)) (mask 51 n)) (mask 15 n) = q ∧ (s2 (s1 x (mask 85 n)) (mask 51 n)) % 16 < 5 := by
  intro x hx
  refine ⟨_, rfl, ?_⟩
  cases n with
  | zero => simp [mask, s1, s2]
  | succ n =>
    obtain ⟨a, y, ha, rfl⟩ : ∃ a y, a < 256 ∧ x = a + 256 * y := ⟨x % 256, x / 256, Nat.mod_lt _ (by omega), by omega⟩
    obtain ⟨h1, h2, h3, _⟩ := byte_all a ha
    simp only [mask]
    rw [s1_cut a y _ ha, s2_cut _ _ _ h1]
    omega

/-- The bytes' numbers of bits, side by side. -/
def bytes : Nat → Nat → Nat
  | 0, _ => 0
  | n + 1, x => pop 8 (x % 256) + 256 * bytes n (x / 256)

theorem swar_bytes (n : Nat) : ∀ x, x < 256 ^ n → s3 (s2 (s1 x (mask 85 n)) (mask 51 n)) (mask 15 n) = bytes n x := by
  induction n with
  | zero => intro x hx; simp [mask, s1, s2, s3, bytes]
  | succ n ih =>
    intro x hx
    have hy : x / 256 < 256 ^ n := by rw [Nat.pow_succ] at hx; omega
    obtain ⟨a, y, ha, hxe⟩ : ∃ a y, a < 256 ∧ x = a + 256 * y := ⟨x % 256, x / 256, Nat.mod_lt _ (by omega), by omega⟩
    have e1 : x % 256 = a := by omega
    have e2 : x / 256 = y := by omega
    rw [e2] at hy
    obtain ⟨h1, h2, h3, h4⟩ := byte_all a ha
    obtain ⟨_, _, h5⟩ := swar n y hy
    simp only [mask, bytes, e1, e2]
    rw [hxe, s1_cut a y _ ha, s2_cut _ _ _ h1, s3_cut _ _ _ h2 h5, h4, ih y hy]

theorem swar64 (x : Nat) (hx : x < 18446744073709551616) :
    s3 (s2 (s1 x 6148914691236517205) 3689348814741910323) 1085102592571150095 = bytes 8 x := swar_bytes 8 x hx

theorem s1_le (x : Nat) : s1 x 6148914691236517205 < 18446744073709551616 := by
  unfold s1
  have h1 : x / 2 &&& 6148914691236517205 ≤ 6148914691236517205 := Nat.and_le_right
  have h2 : x &&& 6148914691236517205 ≤ 6148914691236517205 := Nat.and_le_right
  omega

theorem s2_le (x : Nat) : s2 x 3689348814741910323 < 7378697629483820647 := by
  unfold s2
  have h1 : x / 4 &&& 3689348814741910323 ≤ 3689348814741910323 := Nat.and_le_right
  have h2 : x &&& 3689348814741910323 ≤ 3689348814741910323 := Nat.and_le_right
  omega

theorem div_cut (c a y : Nat) (ha : a < c) : (a + c * y) / c = y := by
  rw [Nat.add_mul_div_left _ _ (by omega), Nat.div_eq_of_lt ha, Nat.zero_add]

theorem add_cut (c a b y z : Nat) : a + c * y + (b + c * z) = (a + b) + c * (y + z) := by
  rw [Nat.mul_add]; omega

theorem low7 (a z : Nat) (h : a ≤ 64) : (a + 256 * z) % 128 = a := by omega

theorem cut1 (A B C D E F G H : Nat) : A + 256 * (B + 256 * (C + 256 * (D + 256 * (E + 256 * (F + 256 * (G + 256 * H)))))) + (B + 256 * (C + 256 * (D + 256 * (E + 256 * (F + 256 * (G + 256 * H))))))
      = (A + B + 256 * (B + C)) + 65536 * (C + D + 256 * (D + E + 256 * (E + F + 256 * (F + G + 256 * (G + H + 256 * H))))) := by omega
theorem cut2 (A B C D E F G H : Nat) : (A + B + 256 * (B + C)) + 65536 * (C + D + 256 * (D + E + 256 * (E + F + 256 * (F + G + 256 * (G + H + 256 * H))))) + (C + D + 256 * (D + E + 256 * (E + F + 256 * (F + G + 256 * (G + H + 256 * H)))))
      = (A + B + C + D + 256 * (B + C + D + E + 256 * (C + D + E + F + 256 * (D + E + F + G)))) + 4294967296 * (E + F + G + H + 256 * (F + G + H + 256 * (G + H + 256 * H))) := by omega
theorem cut3 (A B C D E F G H : Nat) : (A + B + C + D + 256 * (B + C + D + E + 256 * (C + D + E + F + 256 * (D + E + F + G)))) + 4294967296 * (E + F + G + H + 256 * (F + G + H + 256 * (G + H + 256 * H))) + (E + F + G + H + 256 * (F + G + H + 256 * (G + H + 256 * H)))
      = (A + B + C + D + E + F + G + H) + 256 * (B + C + D + E + 256 * (C + D + E + F + 256 * (D + E + F + G)) + 16777216 * (E + F + G + H + 256 * (F + G + H + 256 * (G + H + 256 * H))) + (F + G + H + 256 * (G + H + 256 * H))) := by omega
theorem twice (x c : Nat) : x + x / c ≤ 2 * x := by have := Nat.div_le_self x c; omega

theorem fold8 (p0 p1 p2 p3 p4 p5 p6 p7 : Nat) (h0 : p0 ≤ 8) (h1 : p1 ≤ 8) (h2 : p2 ≤ 8) (h3 : p3 ≤ 8) (h4 : p4 ≤ 8) (h5 : p5 ≤ 8) (h6 : p6 ≤ 8) (h7 : p7 ≤ 8)
    (x3 x4 x5 x6 : Nat) (e3 : x3 = p0 + 256 * (p1 + 256 * (p2 + 256 * (p3 + 256 * (p4 + 256 * (p5 + 256 * (p6 + 256 * p7)))))))
    (e4 : x4 = x3 + x3 / 256) (e5 : x5 = x4 + x4 / 65536) (e6 : x6 = x5 + x5 / 4294967296) :
    x6 < 4900000000000000000 ∧ x3 ≤ x4 ∧ x4 ≤ x5 ∧ x5 ≤ x6 ∧ x6 % 128 = p0 + p1 + p2 + p3 + p4 + p5 + p6 + p7 := by
  have b3 : x3 < 600000000000000000 := by omega
  have b4 := twice x3 256
  have b5 := twice x4 65536
  have b6 := twice x5 4294967296
  have d3 := div_cut 256 p0 (p1 + 256 * (p2 + 256 * (p3 + 256 * (p4 + 256 * (p5 + 256 * (p6 + 256 * p7)))))) (by omega)
  rw [← e3] at d3
  have f4 := e4
  rw [d3, e3, cut1] at f4
  have d4 := div_cut 65536 (p0 + p1 + 256 * (p1 + p2)) (p2 + p3 + 256 * (p3 + p4 + 256 * (p4 + p5 + 256 * (p5 + p6 + 256 * (p6 + p7 + 256 * p7))))) (by clear f4 d3; omega)
  rw [← f4] at d4
  have f5 := e5
  rw [d4, f4, cut2] at f5
  have d5 := div_cut 4294967296 (p0 + p1 + p2 + p3 + 256 * (p1 + p2 + p3 + p4 + 256 * (p2 + p3 + p4 + p5 + 256 * (p3 + p4 + p5 + p6)))) (p4 + p5 + p6 + p7 + 256 * (p5 + p6 + p7 + 256 * (p6 + p7 + 256 * p7))) (by clear f4 d3 f5 d4; omega)
  rw [← f5] at d5
  have f6 := e6
  rw [d5, f5, cut3] at f6
  refine ⟨?_, ?_, ?_, ?_, ?_⟩
  · rw [← e4] at b4; rw [← e5] at b5; rw [← e6] at b6; clear f4 f5 f6 d3 d4 d5 e3 e4 e5 e6; omega
  · rw [e4]; exact Nat.le_add_right _ _
  · rw [e5]; exact Nat.le_add_right _ _
  · rw [e6]; exact Nat.le_add_right _ _
  · rw [f6]; exact low7 _ _ (by clear f4 f5 f6 d3 d4 d5 e3 e4 e5 e6 b3 b4 b5 b6; omega)

/-- What OnesCount64 adds up, at every number below 2^64. -/
theorem swar_cnt (x : Nat) (hx : x < 18446744073709551616) (x1 x2 x3 x4 x5 x6 : Nat) (e1 : x1 = s1 x 6148914691236517205) (e2 : x2 = s2 x1 3689348814741910323) (e3 : x3 = s3 x2 1085102592571150095)
    (e4 : x4 = x3 + x3 / 256) (e5 : x5 = x4 + x4 / 65536) (e6 : x6 = x5 + x5 / 4294967296) : x1 < 18446744073709551616 ∧ x2 < 7378697629483820647 ∧ x6 < 4900000000000000000 ∧ x3 ≤ x4 ∧ x4 ≤ x5 ∧ x5 ≤ x6 ∧ x6 % 128 = cnt x := by
  have e : x3 = bytes 8 x := by rw [e3, e2, e1]; exact swar64 x hx
  simp only [bytes, Nat.mul_zero, Nat.add_zero] at e
  obtain ⟨h6, k3, k4, k5, hc⟩ := fold8 _ _ _ _ _ _ _ _ 
    (byte8_le _ (Nat.mod_lt x (by omega))) (byte8_le _ (Nat.mod_lt (x / 256) (by omega))) (byte8_le _ (Nat.mod_lt (x / 256 / 256) (by omega))) (byte8_le _ (Nat.mod_lt (x / 256 / 256 / 256) (by omega))) (byte8_le _ (Nat.mod_lt (x / 256 / 256 / 256 / 256) (by omega))) (byte8_le _ (Nat.mod_lt (x / 256 / 256 / 256 / 256 / 256) (by omega))) (byte8_le _ (Nat.mod_lt (x / 256 / 256 / 256 / 256 / 256 / 256) (by omega))) (byte8_le _ (Nat.mod_lt (x / 256 / 256 / 256 / 256 / 256 / 256 / 256) (by omega)))
    x3 x4 x5 x6 (by rw [e]) e4 e5 e6
  refine ⟨by rw [e1]; exact s1_le x, by rw [e2]; exact s2_le _, h6, k3, k4, k5, ?_⟩
  have d : ∀ y, x / 256 / 256 / 256 / 256 / 256 / 256 / 256 = y → pop 8 y = pop 8 (y % 256) := fun y _ => (pop_mod 8 y).symm
  have a0 : pop 64 x = pop 8 (x % 256) + pop 56 (x / 256) := pop_byte 56 _
  have a1 : pop 56 (x / 256) = pop 8 (x / 256 % 256) + pop 48 (x / 256 / 256) := pop_byte 48 _
  have a2 : pop 48 (x / 256 / 256) = pop 8 (x / 256 / 256 % 256) + pop 40 (x / 256 / 256 / 256) := pop_byte 40 _
  have a3 : pop 40 (x / 256 / 256 / 256) = pop 8 (x / 256 / 256 / 256 % 256) + pop 32 (x / 256 / 256 / 256 / 256) := pop_byte 32 _
  have a4 : pop 32 (x / 256 / 256 / 256 / 256) = pop 8 (x / 256 / 256 / 256 / 256 % 256) + pop 24 (x / 256 / 256 / 256 / 256 / 256) := pop_byte 24 _
  have a5 : pop 24 (x / 256 / 256 / 256 / 256 / 256) = pop 8 (x / 256 / 256 / 256 / 256 / 256 % 256) + pop 16 (x / 256 / 256 / 256 / 256 / 256 / 256) := pop_byte 16 _
  have a6 : pop 16 (x / 256 / 256 / 256 / 256 / 256 / 256) = pop 8 (x / 256 / 256 / 256 / 256 / 256 / 256 % 256) + pop 8 (x / 256 / 256 / 256 / 256 / 256 / 256 / 256) := pop_byte 8 _
  have a7 := d _ rfl
  rw [hc, cnt_pop, a0, a1, a2, a3, a4, a5, a6, a7]
  simp only [Nat.add_assoc]

end Go.Proofs.YtgdliebllmgibaaDoor.Plain
