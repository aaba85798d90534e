/- Bits of many words: plain mathematics of chapter 3: what is turned, counted, the runs that are not set, the words of a row of bits; each of them is one alone. (No program.) -/
import Derived.WalkKit
namespace Go.Proofs.YtlicdlpebhalaaaDoor.Bitm

/-- Bit i of a list of words; beyond it none is set. -/
def bit (l : List Nat) (i : Nat) : Bool := (l.getD (i / 64) 0).testBit (i % 64)
def Fit (l : List Nat) : Prop := ∀ x ∈ l, x < 18446744073709551616

theorem bit_beyond (l : List Nat) (i : Nat) (h : 64 * l.length ≤ i) : bit l i = false := by
  unfold bit
  rw [List.getD_eq_getElem?_getD, List.getElem?_eq_none (by omega)]
  simp

theorem high_bit (x i : Nat) (h : x < 18446744073709551616) (hi : 64 ≤ i) : x.testBit i = false :=
  Nat.testBit_lt_two_pow (Nat.lt_of_lt_of_le h (Nat.pow_le_pow_right (n := 2) (by omega) hi))

theorem word_ext (x y : Nat) (hx : x < 18446744073709551616) (hy : y < 18446744073709551616) (h : ∀ i, i < 64 → x.testBit i = y.testBit i) : x = y := by
  apply Nat.eq_of_testBit_eq
  intro i
  by_cases hi : i < 64
  · exact h i hi
  · rw [high_bit x i hx (by omega), high_bit y i hy (by omega)]

theorem getD_fit {l : List Nat} (h : Fit l) (k : Nat) : l.getD k 0 < 18446744073709551616 := by
  rw [List.getD_eq_getElem?_getD]
  by_cases hk : k < l.length
  · rw [List.getElem?_eq_getElem hk]; exact h _ (List.getElem_mem hk)
  · rw [List.getElem?_eq_none (by omega)]; simp

/-- Two lists of one length with the same bits are one. -/
theorem list_ext {l m : List Nat} (hl : Fit l) (hm : Fit m) (hlen : l.length = m.length) (h : ∀ i, i < 64 * l.length → bit l i = bit m i) : l = m := by
  apply List.ext_getElem hlen
  intro k h1 h2
  have e1 : l.getD k 0 = l[k] := by simp [h1]
  have e2 : m.getD k 0 = m[k] := by simp [h2]
  rw [← e1, ← e2]
  refine word_ext _ _ (getD_fit hl k) (getD_fit hm k) fun i hi => ?_
  have := h (64 * k + i) (by omega)
  unfold bit at this
  rwa [show (64 * k + i) / 64 = k by omega, show (64 * k + i) % 64 = i by omega] at this

/-! ### one bit of a word, one bit of a list -/
def wordBit (x j : Nat) (on : Bool) : Nat := if on then x ||| 2 ^ j else x &&& (18446744073709551615 - 2 ^ j)

theorem inv_pow (j i : Nat) (hj : j < 64) (hi : i < 64) : (18446744073709551615 - 2 ^ j).testBit i = decide (i ≠ j) := by
  have e : 18446744073709551615 - 2 ^ j = 2 ^ 64 - (2 ^ j + 1) := by rw [show (2 : Nat) ^ 64 = 18446744073709551616 from rfl]; omega
  rw [e, Nat.testBit_two_pow_sub_succ (Nat.pow_lt_pow_right (by omega) hj), Nat.testBit_two_pow]
  by_cases h : i = j
  · simp [h, hj]
  · simp [h, hi, Ne.symm h]

theorem wordBit_lt {x : Nat} (hx : x < 18446744073709551616) (j : Nat) (hj : j < 64) (on : Bool) : wordBit x j on < 18446744073709551616 := by
  unfold wordBit
  split
  · exact Nat.or_lt_two_pow (n := 64) hx (Nat.pow_lt_pow_right (by omega) hj)
  · exact Nat.lt_of_le_of_lt Nat.and_le_left hx

theorem wordBit_bit (x j i : Nat) (hj : j < 64) (hi : i < 64) (on : Bool) : (wordBit x j on).testBit i = if i = j then on else x.testBit i := by
  unfold wordBit
  cases on
  · simp only [Bool.false_eq_true, if_false]
    rw [Nat.testBit_and, inv_pow j i hj hi]
    by_cases h : i = j <;> simp [h]
  · simp only [if_true]
    rw [Nat.testBit_or, Nat.testBit_two_pow]
    by_cases h : i = j
    · simp [h]
    · simp [h, Ne.symm h]

def turnBit (l : List Nat) (i : Nat) (on : Bool) : List Nat := l.set (i / 64) (wordBit (l.getD (i / 64) 0) (i % 64) on)

theorem turnBit_len (l : List Nat) (i : Nat) (on : Bool) : (turnBit l i on).length = l.length := by simp [turnBit]

theorem turnBit_fit {l : List Nat} (h : Fit l) (i : Nat) (on : Bool) : Fit (turnBit l i on) := by
  intro x hx
  rcases List.mem_or_eq_of_mem_set hx with hx | rfl
  · exact h x hx
  · exact wordBit_lt (getD_fit h _) _ (Nat.mod_lt _ (by omega)) _

theorem turnBit_bit (l : List Nat) (i j : Nat) (hi : i < 64 * l.length) (on : Bool) : bit (turnBit l i on) j = if j = i then on else bit l j := by
  unfold bit turnBit
  by_cases hw : j / 64 = i / 64
  · have h1 : i / 64 < l.length := by omega
    rw [hw, List.getD_eq_getElem?_getD, List.getElem?_set_self (by exact h1)]
    simp only [Option.getD_some]
    rw [wordBit_bit _ _ _ (Nat.mod_lt _ (by omega)) (Nat.mod_lt _ (by omega))]
    by_cases h : j = i
    · simp [h]
    · rw [if_neg (by omega), if_neg h]
  · rw [if_neg (by intro e; rw [e] at hw; exact hw rfl)]
    rw [List.getD_eq_getElem?_getD, List.getElem?_set_ne (by omega), ← List.getD_eq_getElem?_getD]

/-- The bits from at on, k of them, turned one by one. -/
def turnTo (l : List Nat) (at_ : Nat) (on : Bool) : Nat → List Nat
  | 0 => l
  | k + 1 => turnBit (turnTo l at_ on k) (at_ + k) on

theorem turnTo_len (l : List Nat) (a : Nat) (on : Bool) : ∀ k, (turnTo l a on k).length = l.length
  | 0 => rfl
  | k + 1 => by rw [turnTo, turnBit_len, turnTo_len l a on k]

theorem turnTo_fit {l : List Nat} (h : Fit l) (a : Nat) (on : Bool) : ∀ k, Fit (turnTo l a on k)
  | 0 => h
  | k + 1 => turnBit_fit (turnTo_fit h a on k) _ _

theorem turnTo_bit (l : List Nat) (a : Nat) (on : Bool) (j : Nat) : ∀ k, a + k ≤ 64 * l.length → bit (turnTo l a on k) j = if a ≤ j ∧ j < a + k then on else bit l j
  | 0, _ => by rw [turnTo, if_neg (by omega)]
  | k + 1, h => by
    rw [turnTo, turnBit_bit _ _ _ (by rw [turnTo_len]; omega), turnTo_bit l a on j k (by omega)]
    by_cases e : j = a + k
    · rw [if_pos e, if_pos (by omega)]
    · rw [if_neg e]
      by_cases h2 : a ≤ j ∧ j < a + k
      · rw [if_pos h2, if_pos (by omega)]
      · rw [if_neg h2, if_neg (by omega)]

/-- What is turned is one alone. -/
theorem turn_alone {l m : List Nat} {a n : Nat} {on : Bool} (hl : Fit l) (hm : Fit m) (hlen : m.length = l.length) (h : a + n ≤ 64 * l.length)
    (hb : ∀ j, j < 64 * l.length → bit m j = if a ≤ j ∧ j < a + n then on else bit l j) : m = turnTo l a on n :=
  list_ext hm (turnTo_fit hl a on n) (by rw [hlen, turnTo_len]) fun i hi => by rw [hb i (by rw [← hlen]; exact hi), turnTo_bit l a on i n h]

/-! ### how many are set -/
def countTo (l : List Nat) : Nat → Nat
  | 0 => 0
  | k + 1 => countTo l k + (bit l k).toNat

theorem countTo_le (l : List Nat) : ∀ k, countTo l k ≤ k
  | 0 => Nat.le_refl _
  | k + 1 => by have := countTo_le l k; have := Bool.toNat_le (bit l k); simp only [countTo]; omega

/-! ### the next one that is not set -/
/-- i is the first place from lo on, below hi, that is not set. -/
def IsNext (l : List Nat) (lo hi i : Nat) : Prop := lo ≤ i ∧ i < hi ∧ bit l i = false ∧ ∀ j, lo ≤ j → j < i → bit l j = true

theorem next_alone {l : List Nat} {lo hi i j : Nat} (h : IsNext l lo hi i) (k : IsNext l lo hi j) : i = j := by
  rcases Nat.lt_trichotomy i j with e | e | e
  · have := k.2.2.2 i h.1 e; rw [h.2.2.1] at this; cases this
  · exact e
  · have := h.2.2.2 j k.1 e; rw [k.2.2.1] at this; cases this

theorem next_none {l : List Nat} {lo hi i : Nat} (h : IsNext l lo hi i) (k : ∀ j, lo ≤ j → j < hi → bit l j = true) : False := by
  have := k i h.1 h.2.1; rw [h.2.2.1] at this; cases this

/-! ### the runs that are not set -/
/-- One bit more that is not set, at i, behind the runs R. -/
def runStep (R : List (Nat × Nat)) (i : Nat) : List (Nat × Nat) := match R.getLast? with
  | some r => if r.1 + r.2 = i then R.dropLast ++ [(r.1, r.2 + 1)] else R ++ [(i, 1)]
  | none => [(i, 1)]

/-- The runs of the first k bits. -/
def runsTo (l : List Nat) : Nat → List (Nat × Nat)
  | 0 => []
  | k + 1 => if bit l k then runsTo l k else runStep (runsTo l k) k

/-- The last run ends where the bits do just if the last bit is not set. -/
def Ends (R : List (Nat × Nat)) (k : Nat) : Prop := ∃ r, R.getLast? = some r ∧ r.1 + r.2 = k

theorem runStep_ends {R : List (Nat × Nat)} {k : Nat} (h : Ends R k) : ∃ R0 r, R = R0 ++ [r] ∧ r.1 + r.2 = k ∧ runStep R k = R0 ++ [(r.1, r.2 + 1)] := by
  obtain ⟨r, hr, he⟩ := h
  have hne : R ≠ [] := by intro e; rw [e] at hr; cases hr
  refine ⟨R.dropLast, r, ?_, he, ?_⟩
  · have := List.dropLast_concat_getLast hne
    rw [List.getLast?_eq_some_getLast hne] at hr
    rw [← this, Option.some.inj hr]
    simp
  · unfold runStep; rw [hr]; simp [he]

theorem runStep_new {R : List (Nat × Nat)} {k : Nat} (h : ¬ Ends R k) : runStep R k = R ++ [(k, 1)] := by
  unfold runStep
  cases hr : R.getLast? with
  | none => rw [List.getLast?_eq_none_iff.1 hr]; rfl
  | some r => simp only []; rw [if_neg (fun e => h ⟨r, hr, e⟩)]

theorem ends_snoc (R : List (Nat × Nat)) (r : Nat × Nat) (k : Nat) : Ends (R ++ [r]) k ↔ r.1 + r.2 = k := by simp [Ends]

theorem runsTo_below (l : List Nat) : ∀ k, ∀ r ∈ runsTo l k, 1 ≤ r.2 ∧ r.1 + r.2 ≤ k
  | 0, r, h => by cases h
  | k + 1, r, h => by
    have ih := runsTo_below l k
    simp only [runsTo] at h
    split at h
    · have := ih r h; omega
    · by_cases he : Ends (runsTo l k) k
      · obtain ⟨R0, r0, hR, h0, hs⟩ := runStep_ends he
        rw [hs] at h
        rcases List.mem_append.1 h with h | h
        · have := ih r (by rw [hR]; exact List.mem_append_left _ h); omega
        · simp at h; subst h; simp; omega
      · rw [runStep_new he] at h
        rcases List.mem_append.1 h with h | h
        · have := ih r h; omega
        · simp at h; subst h; simp

theorem runsTo_ends (l : List Nat) (k : Nat) : Ends (runsTo l (k + 1)) (k + 1) ↔ bit l k = false := by
  simp only [runsTo]
  by_cases hb : bit l k = true
  · rw [if_pos hb]
    constructor
    · rintro ⟨r, hr, he⟩
      have := (runsTo_below l k r (List.mem_of_getLast? hr)).2
      omega
    · intro h; rw [h] at hb; cases hb
  · rw [if_neg hb]
    refine ⟨fun _ => by simpa using hb, fun _ => ?_⟩
    by_cases he : Ends (runsTo l k) k
    · obtain ⟨R0, r0, hR, h0, hs⟩ := runStep_ends he
      rw [hs, ends_snoc]; simp; omega
    · rw [runStep_new he, ends_snoc]

/-- Over bits that are set the runs stay. -/
theorem runsTo_set (l : List Nat) (a : Nat) : ∀ n, (∀ i, a ≤ i → i < a + n → bit l i = true) → runsTo l (a + n) = runsTo l a
  | 0, _ => rfl
  | n + 1, h => by
    rw [← Nat.add_assoc, runsTo, if_pos (h (a + n) (by omega) (by omega)), runsTo_set l a n (fun i h1 h2 => h i h1 (by omega))]

/-- Over bits that are not set, behind one that is (or at the beginning), one run more. -/
theorem runsTo_run (l : List Nat) (a : Nat) (ha : a = 0 ∨ bit l (a - 1) = true) : ∀ n, (∀ i, a ≤ i → i < a + (n + 1) → bit l i = false) → runsTo l (a + (n + 1)) = runsTo l a ++ [(a, n + 1)]
  | 0, h => by
    have hb := h a (by omega) (by omega)
    rw [runsTo, if_neg (by simp [hb]), runStep_new]
    intro he
    cases a with
    | zero => obtain ⟨r, hr, _⟩ := he; simp [runsTo] at hr
    | succ a =>
      rcases ha with ha | ha
      · cases ha
      · rw [runsTo_ends] at he
        simp only [Nat.add_sub_cancel] at ha
        rw [he] at ha; cases ha
  | n + 1, h => by
    rw [← Nat.add_assoc, runsTo, if_neg (by simp [h (a + (n + 1)) (by omega) (by omega)]), runsTo_run l a ha n (fun i h1 h2 => h i h1 (by omega))]
    obtain ⟨R0, r0, hR, h0, hs⟩ := runStep_ends (R := runsTo l a ++ [(a, n + 1)]) (k := a + (n + 1)) ((ends_snoc ..).2 rfl)
    rw [hs]
    obtain ⟨e1, e2⟩ := List.append_inj' hR rfl
    simp at e2
    rw [← e1, ← e2]

theorem runsTo_sorted (l : List Nat) : ∀ k, (runsTo l k).Pairwise fun r s => r.1 + r.2 < s.1
  | 0 => List.Pairwise.nil
  | k + 1 => by
    have ih := runsTo_sorted l k
    simp only [runsTo]
    split
    · exact ih
    · by_cases he : Ends (runsTo l k) k
      · obtain ⟨R0, r0, hR, h0, hs⟩ := runStep_ends he
        rw [hs]
        rw [hR, List.pairwise_append] at ih
        rw [List.pairwise_append]
        exact ⟨ih.1, by simp, fun a ha b hb => by simp at hb; subst hb; exact ih.2.2 a ha r0 (by simp)⟩
      · rw [runStep_new he, List.pairwise_append]
        refine ⟨ih, by simp, fun a ha b hb => ?_⟩
        simp at hb; subst hb
        have h1 := (runsTo_below l k a ha).2
        rcases Nat.lt_or_eq_of_le h1 with h2 | h2
        · exact h2
        · exfalso
          -- a run that ends at k is the last one
          obtain ⟨R1, R2, hR⟩ := List.append_of_mem ha
          cases R2 with
          | nil => exact he ⟨a, by rw [hR]; simp, h2⟩
          | cons c R2 =>
            rw [hR, List.pairwise_append] at ih
            have h3 := (List.pairwise_cons.1 ih.2.1).1 c (by simp)
            have h4 := (runsTo_below l k c (by rw [hR]; simp)).2
            omega

/-- A bit is in a run just if it is not set. -/
theorem runsTo_mem (l : List Nat) (i : Nat) : ∀ k, i < k → ((∃ r ∈ runsTo l k, r.1 ≤ i ∧ i < r.1 + r.2) ↔ bit l i = false)
  | k + 1, hi => by
    by_cases hk : i < k
    · rw [← runsTo_mem l i k hk]
      simp only [runsTo]
      split
      · rfl
      · by_cases he : Ends (runsTo l k) k
        · obtain ⟨R0, r0, hR, h0, hs⟩ := runStep_ends he
          rw [hs, hR]
          constructor
          · rintro ⟨r, hr, h1, h2⟩
            rcases List.mem_append.1 hr with hr | hr
            · exact ⟨r, List.mem_append_left _ hr, h1, h2⟩
            · simp at hr; subst hr; exact ⟨r0, by simp, h1, by simp at h2; omega⟩
          · rintro ⟨r, hr, h1, h2⟩
            rcases List.mem_append.1 hr with hr | hr
            · exact ⟨r, List.mem_append_left _ hr, h1, h2⟩
            · simp at hr; subst hr; exact ⟨(r.1, r.2 + 1), by simp, h1, by simp; omega⟩
        · rw [runStep_new he]
          constructor
          · rintro ⟨r, hr, h1, h2⟩
            rcases List.mem_append.1 hr with hr | hr
            · exact ⟨r, hr, h1, h2⟩
            · simp at hr; subst hr; simp at h1; omega
          · rintro ⟨r, hr, h1, h2⟩
            exact ⟨r, List.mem_append_left _ hr, h1, h2⟩
    · obtain rfl : i = k := by omega
      simp only [runsTo]
      by_cases hb : bit l i = true
      · rw [if_pos hb]
        constructor
        · rintro ⟨r, hr, h1, h2⟩
          have := (runsTo_below l i r hr).2; omega
        · intro h; rw [h] at hb; cases hb
      · rw [if_neg hb]
        refine ⟨fun _ => by simpa using hb, fun _ => ?_⟩
        by_cases he : Ends (runsTo l i) i
        · obtain ⟨R0, r0, hR, h0, hs⟩ := runStep_ends he
          rw [hs]; exact ⟨(r0.1, r0.2 + 1), by simp, by simp; omega, by simp; omega⟩
        · rw [runStep_new he]; exact ⟨(i, 1), by simp, by simp, by simp⟩

/-- So many are set as are in no run. -/
def total (R : List (Nat × Nat)) : Nat := (R.map (·.2)).sum

theorem runs_count (l : List Nat) : ∀ k, countTo l k + total (runsTo l k) = k
  | 0 => rfl
  | k + 1 => by
    have ih := runs_count l k
    simp only [runsTo, countTo]
    by_cases hb : bit l k = true
    · rw [if_pos hb, hb]; simp; omega
    · rw [if_neg hb]
      have hb' : bit l k = false := by simpa using hb
      rw [hb']
      by_cases he : Ends (runsTo l k) k
      · obtain ⟨R0, r0, hR, h0, hs⟩ := runStep_ends he
        rw [hs]; rw [hR] at ih; simp [total] at ih ⊢; omega
      · rw [runStep_new he]; simp [total] at ih ⊢; omega

/-! ### the words of a row of bits -/
theorem pow_sub_bit (lo hi b : Nat) (h : lo ≤ hi) : (2 ^ hi - 2 ^ lo).testBit b = decide (lo ≤ b ∧ b < hi) := by
  have e : 2 ^ hi - 2 ^ lo = (2 ^ (hi - lo) - 1) * 2 ^ lo := by
    rw [Nat.sub_mul, ← Nat.pow_add, Nat.sub_add_cancel h, Nat.one_mul]
  rw [e, Nat.testBit_mul_two_pow, Nat.testBit_two_pow_sub_one]
  by_cases h1 : lo ≤ b
  · simp [h1]; omega
  · simp [h1]

/-- Those of the n bits from a on that the word w has. -/
def partMask (a n w : Nat) : Nat := 2 ^ (min (a + n) (64 * w + 64) - 64 * w) - 2 ^ (max a (64 * w) - 64 * w)

def partStep (R : List (Nat × Nat)) (i : Nat) : List (Nat × Nat) := match R.getLast? with
  | some r => if r.1 = i / 64 then R.dropLast ++ [(r.1, r.2 ||| 2 ^ (i % 64))] else R ++ [(i / 64, 2 ^ (i % 64))]
  | none => [(i / 64, 2 ^ (i % 64))]

def partsTo (a : Nat) : Nat → List (Nat × Nat)
  | 0 => []
  | k + 1 => partStep (partsTo a k) (a + k)

/-- All of them, at once. -/
def partsAll (a n : Nat) : List (Nat × Nat) := if n = 0 then [] else (List.range ((a + n - 1) / 64 - a / 64 + 1)).map fun j => (a / 64 + j, partMask a n (a / 64 + j))

theorem partMask_bit (a n w b : Nat) (hb : b < 64) : (partMask a n w).testBit b = decide (a ≤ 64 * w + b ∧ 64 * w + b < a + n) := by
  unfold partMask
  by_cases h : max a (64 * w) - 64 * w ≤ min (a + n) (64 * w + 64) - 64 * w
  · rw [pow_sub_bit _ _ _ h]
    congr 1
    apply propext
    omega
  · have e : 2 ^ (min (a + n) (64 * w + 64) - 64 * w) - 2 ^ (max a (64 * w) - 64 * w) = 0 := Nat.sub_eq_zero_of_le (Nat.pow_le_pow_right (by omega) (by omega))
    rw [e]
    simp
    omega

theorem partMask_lt (a n w : Nat) : partMask a n w < 18446744073709551616 := by
  have h1 : 2 ^ (min (a + n) (64 * w + 64) - 64 * w) ≤ 2 ^ 64 := Nat.pow_le_pow_right (by omega) (by omega)
  have h2 : 0 < 2 ^ (max a (64 * w) - 64 * w) := Nat.pow_pos (by omega)
  unfold partMask
  have e : (2 : Nat) ^ 64 = 18446744073709551616 := rfl
  omega

/-- A mask with those bits is that one. -/
theorem partMask_alone {a n w m : Nat} (hm : m < 18446744073709551616) (h : ∀ b, b < 64 → m.testBit b = decide (a ≤ 64 * w + b ∧ 64 * w + b < a + n)) : m = partMask a n w :=
  word_ext _ _ hm (partMask_lt a n w) fun b hb => by rw [h b hb, partMask_bit a n w b hb]

theorem partMask_more (a k w : Nat) (h : w < (a + k) / 64) : partMask a (k + 1) w = partMask a k w :=
  partMask_alone (partMask_lt ..) fun b hb => by rw [partMask_bit _ _ _ _ hb]; congr 1; apply propext; omega

theorem partMask_one (a k : Nat) : partMask a (k + 1) ((a + k) / 64) = partMask a k ((a + k) / 64) ||| 2 ^ ((a + k) % 64) := by
  symm
  refine partMask_alone (Nat.or_lt_two_pow (n := 64) (partMask_lt ..) (Nat.pow_lt_pow_right (by omega) (Nat.mod_lt _ (by omega)))) fun b hb => ?_
  rw [Nat.testBit_or, partMask_bit _ _ _ _ hb, Nat.testBit_two_pow, Bool.eq_iff_iff]
  simp
  omega

theorem partMask_none (a k : Nat) (h : a + k ≤ 64 * ((a + k) / 64)) : partMask a k ((a + k) / 64) = 0 := by
  symm
  refine partMask_alone (by omega) fun b hb => ?_
  simp
  omega

theorem partsTo_all (a : Nat) : ∀ k, partsTo a k = partsAll a k
  | 0 => rfl
  | k + 1 => by
    rw [partsTo, partsTo_all a k]
    by_cases hk : k = 0
    · subst hk
      have e := partMask_one a 0
      have e0 : partMask a 0 (a / 64) = 0 := by
        symm
        refine partMask_alone (by omega) fun b hb => ?_
        simp
      simp only [Nat.add_zero] at e
      rw [e0] at e
      simp [partsAll, partStep, e]
    · have hm : partsAll a k = (List.range ((a + k - 1) / 64 - a / 64 + 1)).map fun j => (a / 64 + j, partMask a k (a / 64 + j)) := by simp [partsAll, hk]
      have hlast : (partsAll a k).getLast? = some ((a + k - 1) / 64, partMask a k ((a + k - 1) / 64)) := by
        rw [hm, List.range_succ, List.map_append]
        simp [show a / 64 + ((a + k - 1) / 64 - a / 64) = (a + k - 1) / 64 by omega]
      have hdrop : (partsAll a k).dropLast = (List.range ((a + k - 1) / 64 - a / 64)).map fun j => (a / 64 + j, partMask a k (a / 64 + j)) := by
        rw [hm, List.range_succ, List.map_append]
        simp
      have hall : partsAll a (k + 1) = (List.range ((a + k) / 64 - a / 64 + 1)).map fun j => (a / 64 + j, partMask a (k + 1) (a / 64 + j)) := by simp [partsAll]
      unfold partStep
      rw [hlast, hall]
      simp only []
      by_cases hw : (a + k - 1) / 64 = (a + k) / 64
      · rw [if_pos hw, hdrop, hw, List.range_succ, List.map_append]
        congr 1
        · refine List.map_congr_left fun j hj => ?_
          rw [partMask_more a k _ (by have := List.mem_range.1 hj; omega)]
        · simp only [List.map_cons, List.map_nil, show a / 64 + ((a + k) / 64 - a / 64) = (a + k) / 64 by omega, partMask_one]
      · have h1 : (a + k) / 64 = (a + k - 1) / 64 + 1 := by omega
        have hz := partMask_one a k
        rw [partMask_none a k (by omega), Nat.zero_or] at hz
        rw [if_neg hw, hm, show (a + k) / 64 - a / 64 + 1 = ((a + k - 1) / 64 - a / 64 + 1) + 1 by omega, List.range_succ (n := (a + k - 1) / 64 - a / 64 + 1), List.map_append]
        congr 1
        · refine List.map_congr_left fun j hj => ?_
          rw [partMask_more a k _ (by have := List.mem_range.1 hj; omega)]
        · simp only [List.map_cons, List.map_nil, show a / 64 + ((a + k - 1) / 64 - a / 64 + 1) = (a + k) / 64 by omega, hz]

end Go.Proofs.YtlicdlpebhalaaaDoor.Bitm
