/- Plain facts: a word made bit by bit. No program is named here. -/
import Derived.Test.YtgdliebllmgibaaDoorLists
namespace Go.Proofs.YtgdliebllmgibaaDoor.Plain

/-- The word whose bits below k are p's. -/
def mk (p : Nat → Bool) : Nat → Nat
  | 0 => 0
  | k + 1 => if p k then mk p k ||| 2 ^ k else mk p k

theorem mk_bit (p : Nat → Bool) (k i : Nat) : (mk p k).testBit i = (decide (i < k) && p i) := by
  induction k with
  | zero => simp [mk]
  | succ k ih =>
    unfold mk
    by_cases h : i = k
    · subst h
      split
      · rename_i hp
        rw [Nat.testBit_or, Nat.testBit_two_pow_self, hp]; simp
      · rename_i hp
        have hp' : p i = false := by simpa using hp
        rw [ih, hp']; simp
    · have h2 : (i < k + 1) = (i < k) := by
        apply propext; omega
      have h3 : ¬ k = i := fun e => h e.symm
      split
      · rw [Nat.testBit_or, Nat.testBit_two_pow, ih]
        simp [h2, h3]
      · rw [ih]
        simp [h2]

theorem mk_lt (p : Nat → Bool) (k : Nat) (hk : k ≤ 64) : mk p k < 18446744073709551616 := by
  show mk p k < 2 ^ 64
  apply Nat.lt_pow_two_of_testBit
  intro i hi
  rw [mk_bit]
  have : ¬ i < k := by omega
  simp [this]

theorem mk_yes (p : Nat → Bool) (k : Nat) (h : p k = true) : mk p k ||| 2 ^ k = mk p (k + 1) := by
  rw [mk.eq_2, if_pos h]
theorem mk_no (p : Nat → Bool) (k : Nat) (h : p k = false) : mk p k = mk p (k + 1) := by
  rw [mk.eq_2, if_neg (by rw [h]; exact Bool.false_ne_true)]

theorem mk_ones (n : Nat) : mk (fun _ => true) n = ones n := by
  apply Nat.eq_of_testBit_eq
  intro i
  rw [mk_bit, ones_bit, Bool.and_true]

theorem mk_fld (x a n : Nat) : mk (fun i => x.testBit (a + i)) n = fld x a n := by
  apply Nat.eq_of_testBit_eq
  intro i
  rw [mk_bit, fld_bit]

/-- Which bit of what stands at place i. -/
def wbit (x a n v i : Nat) : Bool := if a ≤ i ∧ i < a + n then v.testBit (i - a) else x.testBit i
theorem mk_wth (x a n v : Nat) (hx : x < 18446744073709551616) (hv : v ≤ ones n) : mk (wbit x a n v) 64 = wth x a n v := by
  apply eq_of_bits _ _ (mk_lt _ _ (Nat.le_refl _)) (wth_lt x a n v hx)
  intro i hi
  rw [mk_bit, wth_bit x a n v i hi hv]
  simp [hi, wbit]

/-- The first places make the first bits. -/
theorem join_fst (x m : Nat) (hx : x < 18446744073709551616) : join ((pls x).take m) = fst x m := by
  rw [← pls_fst, join_pls _ (fst_lt x m hx)]

/-- The lowest place that is not set, sought from below. -/
theorem low_iff (x k : Nat) (hx : x < 18446744073709551616) (hk : k < 64) (hb : x.testBit k = false) (hall : ∀ i, i < k → x.testBit i = true) : low (inv x) = k := by
  have h0 : inv x ≠ 0 := by
    intro e
    have := inv_bit x k hx hk
    rw [e, Nat.zero_testBit, hb] at this
    cases this
  have hl := low_lt (inv x) h0 (inv_lt x)
  have h1 := low_unset x hx hl
  rcases Nat.lt_trichotomy (low (inv x)) k with h | h | h
  · rw [hall _ h] at h1; cases h1
  · exact h
  · have h2 := low_below (inv x) h0 (inv_lt x) k h
    rw [inv_bit x k hx hk, hb] at h2
    cases h2

theorem low_ge (x k : Nat) (hx : x < 18446744073709551616) (hk : k ≤ 64) (hall : ∀ i, i < k → x.testBit i = true) : k ≤ low (inv x) := by
  rcases Nat.lt_or_ge (low (inv x)) k with h | h
  · have h1 := low_unset x hx (by omega)
    rw [hall _ h] at h1
    cases h1
  · exact h

end Go.Proofs.YtgdliebllmgibaaDoor.Plain
