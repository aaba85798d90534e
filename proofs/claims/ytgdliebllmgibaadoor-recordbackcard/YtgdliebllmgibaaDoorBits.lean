/- Plain facts on bits of numbers below 2^64: the lowest set bit, and what is left when it is cleared. No program is named here. -/
import Derived.Test.YtgdliebllmgibaaDoorPlain
import Derived.Lib.TrailingZeros
namespace Go.Proofs.YtgdliebllmgibaaDoor.Plain

def inv (x : Nat) : Nat := 18446744073709551615 - x
theorem inv_lt (x : Nat) : inv x < 18446744073709551616 := by unfold inv; omega
theorem inv_bit (x i : Nat) (hx : x < 18446744073709551616) (hi : i < 64) : (inv x).testBit i = !x.testBit i := by
  have e : inv x = 2 ^ 64 - (x + 1) := by unfold inv; omega
  rw [e, Nat.testBit_two_pow_sub_succ hx]
  simp [hi]

/-- The place of the lowest set bit; 64: there is none. -/
def low (x : Nat) : Nat := Lib.ctz 64 x
theorem low_le (x : Nat) (hx : x < 18446744073709551616) : low x ≤ 64 := by
  unfold low
  by_cases h : x = 0
  · simp [Lib.ctz, h]
  · exact Nat.le_of_lt (Lib.lowest_bit 64 x h hx).2
theorem low_zero : low 0 = 64 := rfl
theorem low_lt (x : Nat) (h : x ≠ 0) (hx : x < 18446744073709551616) : low x < 64 := (Lib.lowest_bit 64 x h hx).2

theorem low_form (x : Nat) (h : x ≠ 0) (hx : x < 18446744073709551616) : ∃ m, x = 2 ^ low x * (2 * m + 1) := by
  obtain ⟨m, hm, _⟩ := Lib.ctzFrom_spec 64 x (by omega) hx
  have e : low x = Lib.ctzFrom 64 x := by simp [low, Lib.ctz, h]
  rw [e]
  exact ⟨m, hm⟩

theorem odd_bit (k m i : Nat) : (2 ^ k * (2 * m + 1)).testBit i = (decide (k ≤ i) && (2 * m + 1).testBit (i - k)) := by
  rw [Nat.mul_comm, Nat.testBit_mul_two_pow]

theorem low_below (x : Nat) (h : x ≠ 0) (hx : x < 18446744073709551616) (i : Nat) (hi : i < low x) : x.testBit i = false := by
  obtain ⟨m, hm⟩ := low_form x h hx
  generalize low x = k at *
  rw [hm, odd_bit]
  simp; omega

theorem low_bit (x : Nat) (h : x ≠ 0) (hx : x < 18446744073709551616) : x.testBit (low x) = true := by
  obtain ⟨m, hm⟩ := low_form x h hx
  generalize low x = k at *
  rw [hm, odd_bit]
  simp

/-- The number without its lowest bit. -/
def drop1 (x : Nat) : Nat := x &&& (x - 1)
theorem drop1_lt (x : Nat) (h : x ≠ 0) : drop1 x < x := by
  unfold drop1
  have : x &&& (x - 1) ≤ x - 1 := Nat.and_le_right
  omega

theorem drop1_bit (x : Nat) (h : x ≠ 0) (hx : x < 18446744073709551616) (i : Nat) : (drop1 x).testBit i = (x.testBit i && decide (i ≠ low x)) := by
  obtain ⟨m, hm⟩ := low_form x h hx
  unfold drop1
  generalize low x = k at *
  have e : x - 1 = 2 ^ k * (2 * m) + (2 ^ k - 1) := by
    have := Nat.two_pow_pos k
    rw [hm, Nat.mul_add]; omega
  have hlt : 2 ^ k - 1 < 2 ^ k := by have := Nat.two_pow_pos k; omega
  rw [Nat.testBit_and, e, Nat.testBit_two_pow_mul_add _ hlt, hm, odd_bit]
  by_cases h1 : i < k
  · have h2 : ¬ k ≤ i := by omega
    simp [h2]
  · have h2 : k ≤ i := by omega
    rw [if_neg h1]
    by_cases h3 : i = k
    · subst h3; simp
    · obtain ⟨j, rfl⟩ : ∃ j, i = k + (j + 1) := ⟨i - k - 1, by omega⟩
      have h4 : k + (j + 1) - k = j + 1 := by omega
      simp only [h4, Nat.testBit_succ]
      have d1 : (2 * m + 1) / 2 = m := by omega
      have d2 : 2 * m / 2 = m := by omega
      rw [d1, d2]
      simp

theorem range_cut (n k : Nat) (h : k < n) : List.range n = List.range k ++ k :: (List.range (n - k - 1)).map (· + (k + 1)) := by
  obtain ⟨d, rfl⟩ : ∃ d, n = k + (1 + d) := ⟨n - k - 1, by omega⟩
  have e : k + (1 + d) - k - 1 = d := by omega
  rw [e, List.range_add, List.range_add]
  simp [Function.comp_def, Nat.add_comm, Nat.add_left_comm]

theorem pls_zero : pls 0 = [] := by simp [pls, upTo]

/-- The places are the lowest one, and those of what is left. -/
theorem pls_cons (x : Nat) (h : x ≠ 0) (hx : x < 18446744073709551616) : pls x = low x :: pls (drop1 x) := by
  have hk := low_lt x h hx
  unfold pls upTo
  rw [range_cut 64 (low x) hk]
  simp only [List.filter_append, List.filter_cons]
  have h1 : (List.range (low x)).filter (fun i => x.testBit i) = [] := by
    rw [List.filter_eq_nil_iff]
    intro i hi
    simp [low_below x h hx i (by simpa using hi)]
  have h2 : (List.range (low x)).filter (fun i => (drop1 x).testBit i) = [] := by
    rw [List.filter_eq_nil_iff]
    intro i hi
    simp [drop1_bit x h hx, low_below x h hx i (by simpa using hi)]
  have h3 : (drop1 x).testBit (low x) = false := by simp [drop1_bit x h hx]
  have h4 : ∀ l : List Nat, (l.map (· + (low x + 1))).filter (fun i => (drop1 x).testBit i) = (l.map (· + (low x + 1))).filter (fun i => x.testBit i) := by
    intro l
    apply List.filter_congr
    intro i hi
    obtain ⟨j, _, rfl⟩ := List.mem_map.1 hi
    rw [drop1_bit x h hx]
    have : j + (low x + 1) ≠ low x := by omega
    simp [this]
  rw [h1, h2, h3, h4, low_bit x h hx]
  simp

theorem pls_ne (x : Nat) (h : x ≠ 0) (hx : x < 18446744073709551616) : pls x ≠ [] := by rw [pls_cons x h hx]; simp

theorem mem_pls (x i : Nat) : i ∈ pls x ↔ i < 64 ∧ x.testBit i = true := by simp [pls, upTo]

/-- n held from 0 to 64. -/
def hold (n : Int) : Nat := (min (max n 0) 64).toNat
theorem hold_le (n : Int) : hold n ≤ 64 := by unfold hold; omega
theorem hold_cast (n : Int) : (hold n : Int) = min (max n 0) 64 := by unfold hold; omega

/-- The n lowest bits. -/
def ones (n : Nat) : Nat := 2 ^ n - 1
theorem ones_lt (n : Nat) (h : n ≤ 64) : ones n < 18446744073709551616 := by
  unfold ones
  have : 2 ^ n ≤ 2 ^ 64 := Nat.pow_le_pow_right (by omega) h
  have := Nat.two_pow_pos n
  omega
theorem ones_bit (n i : Nat) : (ones n).testBit i = decide (i < n) := by unfold ones; exact Nat.testBit_two_pow_sub_one n i
theorem ones_wrap (n : Nat) (h : n ≤ 64) : ((2 : Int) ^ n % 18446744073709551616 - 1) % 18446744073709551616 = (ones n : Int) := by
  have hp := Nat.two_pow_pos n
  have e : ((2 : Int) ^ n) = ((2 ^ n : Nat) : Int) := by simp
  unfold ones
  by_cases h1 : n = 64
  · subst h1; decide
  · have : 2 ^ n ≤ 2 ^ 63 := Nat.pow_le_pow_right (by omega) (by omega)
    rw [e]
    omega

theorem ones_mono (n x : Nat) : x ≤ ones n ↔ x < 2 ^ n := by
  unfold ones
  have := Nat.two_pow_pos n
  omega

theorem high_bit (x i : Nat) (hx : x < 18446744073709551616) (hi : 64 ≤ i) : x.testBit i = false :=
  Nat.testBit_lt_two_pow (Nat.lt_of_lt_of_le (show x < 2 ^ 64 from hx) (Nat.pow_le_pow_right (by omega) hi))

/-- Two numbers below 2^64 with the same 64 bits are one. -/
theorem eq_of_bits (x y : Nat) (hx : x < 18446744073709551616) (hy : y < 18446744073709551616) (h : ∀ i, i < 64 → x.testBit i = y.testBit i) : x = y := by
  apply Nat.eq_of_testBit_eq
  intro i
  by_cases hi : i < 64
  · exact h i hi
  · rw [high_bit x i hx (by omega), high_bit y i hy (by omega)]

/-- The n bits from bit a on. -/
def fld (x a n : Nat) : Nat := x / 2 ^ a &&& ones n
theorem fld_lt (x a n : Nat) (h : n ≤ 64) : fld x a n < 18446744073709551616 := by
  have h1 : fld x a n ≤ ones n := Nat.and_le_right
  have := ones_lt n h
  omega
theorem fld_le (x a n : Nat) : fld x a n ≤ ones n := Nat.and_le_right
theorem fld_bit (x a n i : Nat) : (fld x a n).testBit i = (decide (i < n) && x.testBit (a + i)) := by
  unfold fld
  rw [Nat.testBit_and, ones_bit, Nat.testBit_div_two_pow, Nat.add_comm, Bool.and_comm]

/-- x, but the n bits from bit a on are v's. -/
def wth (x a n v : Nat) : Nat := (x &&& inv (ones n * 2 ^ a % 18446744073709551616)) ||| (v * 2 ^ a % 18446744073709551616)
theorem wth_lt (x a n v : Nat) (hx : x < 18446744073709551616) : wth x a n v < 18446744073709551616 := by
  unfold wth
  have h1 : x &&& inv (ones n * 2 ^ a % 18446744073709551616) < 2 ^ 64 := Nat.lt_of_le_of_lt Nat.and_le_left hx
  have h2 : v * 2 ^ a % 18446744073709551616 < 2 ^ 64 := Nat.mod_lt _ (by omega)
  exact Nat.or_lt_two_pow h1 h2
theorem shl_bit (v a i : Nat) (hi : i < 64) : (v * 2 ^ a % 18446744073709551616).testBit i = (decide (a ≤ i) && v.testBit (i - a)) := by
  rw [show (18446744073709551616 : Nat) = 2 ^ 64 from rfl, Nat.testBit_mod_two_pow, Nat.testBit_mul_two_pow]
  simp [hi]
theorem wth_bit (x a n v i : Nat) (hi : i < 64) (hv : v ≤ ones n) : (wth x a n v).testBit i = if a ≤ i ∧ i < a + n then v.testBit (i - a) else x.testBit i := by
  unfold wth
  rw [Nat.testBit_or, Nat.testBit_and, inv_bit _ _ (Nat.mod_lt _ (by omega)) hi, shl_bit _ _ _ hi, shl_bit _ _ _ hi, ones_bit]
  by_cases h1 : a ≤ i
  · by_cases h2 : i < a + n
    · have h3 : i - a < n := by omega
      simp [h1, h2, h3]
    · have h3 : ¬ i - a < n := by omega
      have h4 : v.testBit (i - a) = false := Nat.testBit_lt_two_pow (Nat.lt_of_lt_of_le ((ones_mono n v).1 hv) (Nat.pow_le_pow_right (by omega) (by omega)))
      simp [h2, h3, h4]
  · simp [h1]

theorem filter_both (p q : Nat → Bool) (l : List Nat) : (l.filter p).length + (l.filter q).length = (l.filter fun i => p i || q i).length + (l.filter fun i => p i && q i).length := by
  induction l with
  | nil => rfl
  | cons a l ih =>
    simp only [List.filter_cons]
    cases p a <;> cases q a <;> simp <;> omega

theorem cnt_both (a b : Nat) : cnt a + cnt b = cnt (a ||| b) + cnt (a &&& b) := by
  unfold cnt pls upTo
  rw [filter_both]
  congr 2
  · apply List.filter_congr; intro i _; rw [Nat.testBit_or]
  · apply List.filter_congr; intro i _; rw [Nat.testBit_and]

theorem filter_not (p : Nat → Bool) (l : List Nat) : (l.filter p).length + (l.filter fun i => !p i).length = l.length := by
  induction l with
  | nil => rfl
  | cons a l ih =>
    simp only [List.filter_cons]
    cases p a <;> simp <;> omega

theorem cnt_inv (a : Nat) (ha : a < 18446744073709551616) : cnt a + cnt (inv a) = 64 := by
  unfold cnt pls upTo
  have e : (List.range 64).filter (fun i => (inv a).testBit i) = (List.range 64).filter (fun i => !a.testBit i) := by
    apply List.filter_congr
    intro i hi
    exact inv_bit a i ha (by simpa using hi)
  rw [e, filter_not]
  simp

/-- All bits below the lowest one that is not set are set. -/
theorem below_low (x k : Nat) (hx : x < 18446744073709551616) (h : k ≤ low (inv x)) : x &&& ones k = ones k := by
  have h64 := low_le (inv x) (inv_lt x)
  apply Nat.eq_of_testBit_eq
  intro i
  rw [Nat.testBit_and, ones_bit]
  by_cases hi : i < k
  · have hb : (inv x).testBit i = false := by
      by_cases h0 : inv x = 0
      · rw [h0]; exact Nat.zero_testBit i
      · exact low_below (inv x) h0 (inv_lt x) i (by omega)
    rw [inv_bit x i hx (by omega)] at hb
    have : x.testBit i = true := by simpa using hb
    simp [hi, this]
  · simp [hi]

theorem low_unset (x : Nat) (hx : x < 18446744073709551616) (h : low (inv x) < 64) : x.testBit (low (inv x)) = false := by
  have h0 : inv x ≠ 0 := by
    intro e
    rw [e, low_zero] at h
    omega
  have hb := low_bit (inv x) h0 (inv_lt x)
  rw [inv_bit x _ hx h] at hb
  simpa using hb

theorem above_bit (n v i : Nat) (hv : v ≤ ones n) (hi : n ≤ i) : v.testBit i = false :=
  Nat.testBit_lt_two_pow (Nat.lt_of_lt_of_le ((ones_mono n v).1 hv) (Nat.pow_le_pow_right (by omega) hi))

theorem fld_wth (x f l v : Nat) (h : f + l ≤ 64) (hv : v ≤ ones l) : fld (wth x f l v) f l = v := by
  apply Nat.eq_of_testBit_eq
  intro i
  rw [fld_bit]
  by_cases hi : i < l
  · rw [wth_bit x f l v _ (by omega) hv, if_pos (by omega), Nat.add_sub_cancel_left]
    simp [hi]
  · rw [above_bit l v i hv (by omega)]
    simp [hi]

theorem fld_beside (x f l v a n : Nat) (h : a + n ≤ 64) (hv : v ≤ ones l) (ho : a + n ≤ f ∨ f + l ≤ a) : fld (wth x f l v) a n = fld x a n := by
  apply Nat.eq_of_testBit_eq
  intro i
  rw [fld_bit, fld_bit]
  by_cases hi : i < n
  · rw [wth_bit x f l v _ (by omega) hv, if_neg (by omega)]
  · simp [hi]

theorem wth_back (x f l v : Nat) (hx : x < 18446744073709551616) (hv : v ≤ ones l) : wth (wth x f l v) f l (fld x f l) = x := by
  apply eq_of_bits _ _ (wth_lt _ _ _ _ (wth_lt _ _ _ _ hx)) hx
  intro i hi
  rw [wth_bit _ _ _ _ _ hi (fld_le _ _ _), wth_bit _ _ _ _ _ hi hv, fld_bit]
  by_cases h1 : f ≤ i ∧ i < f + l
  · rw [if_pos h1]
    have h2 : i - f < l := by omega
    have h3 : f + (i - f) = i := by omega
    simp [h2, h3]
  · rw [if_neg h1, if_neg h1]

end Go.Proofs.YtgdliebllmgibaaDoor.Plain
