/- Plain mathematics of a stretch of bits gone through word by word: what is turned, counted, found, and the runs. No program. -/
import Derived.Test.YtlicdlpebhalaaaDoorBitm
import Derived.Test.YtlicdlpebhalaaaDoorBits
namespace Go.Proofs.YtlicdlpebhalaaaDoor.Bitm

/-- How many bits of i's word, from i on, lie below e. -/
def size (i e : Nat) : Nat := min (64 - i % 64) (e - i)
theorem size_pos (i e : Nat) (h : i < e) : 1 ≤ size i e := by unfold size; omega
theorem size_le (i e : Nat) : i + size i e ≤ max i e := by unfold size; omega
/-- These bits of it. -/
def mask (i e : Nat) : Nat := Plain.ones (size i e) * 2 ^ (i % 64)
theorem mask_eq (i e : Nat) (h : i < e) : mask i e = partMask i (e - i) (i / 64) := by
  unfold mask partMask Plain.ones
  rw [Nat.sub_mul, Nat.one_mul, ← Nat.pow_add]
  congr 2 <;> (try unfold size) <;> omega

theorem mask_lt (i e : Nat) (h : i < e) : mask i e < 18446744073709551616 := by rw [mask_eq i e h]; exact partMask_lt _ _ _
theorem mask_bit (i e b : Nat) (h : i < e) (hb : b < 64) : (mask i e).testBit b = decide (i ≤ 64 * (i / 64) + b ∧ 64 * (i / 64) + b < i + size i e) := by
  rw [mask_eq i e h, partMask_bit _ _ _ _ hb, decide_eq_decide]
  unfold size
  omega

theorem parts_none (a e : Nat) (h : e ≤ a) : partsAll a (e - a) = [] := by unfold partsAll; rw [if_pos (by omega)]
theorem parts_cons (i e : Nat) (h : i < e) : partsAll i (e - i) = (i / 64, mask i e) :: partsAll (i + size i e) (e - (i + size i e)) := by
  rw [mask_eq i e h]
  have hp : ∀ w, i / 64 < w → partMask i (e - i) w = partMask (i + size i e) (e - (i + size i e)) w := fun w hw => by
    refine partMask_alone (partMask_lt _ _ _) (fun b hb => ?_)
    rw [partMask_bit _ _ _ _ hb, decide_eq_decide]
    unfold size
    omega
  by_cases h2 : e ≤ i + size i e
  · rw [parts_none _ _ h2]
    unfold partsAll
    rw [if_neg (by omega), show (i + (e - i) - 1) / 64 - i / 64 + 1 = 1 from by unfold size at h2; omega]
    rfl
  · have e1 : (i + size i e) / 64 = i / 64 + 1 := by unfold size at *; omega
    have e2 : (i + size i e + (e - (i + size i e)) - 1) = e - 1 := by omega
    have e3 : (i + (e - i) - 1) = e - 1 := by omega
    unfold partsAll
    rw [if_neg (by omega), if_neg (by omega), e1, e2, e3]
    rw [show (e - 1) / 64 - i / 64 + 1 = ((e - 1) / 64 - (i / 64 + 1) + 1) + 1 from by unfold size at *; omega, List.range_succ_eq_map, List.map_cons, List.map_map]
    congr 1
    apply List.map_congr_left
    intro j _
    simp only [Function.comp_apply]
    rw [show i / 64 + (j + 1) = i / 64 + 1 + j from by omega, hp _ (by omega)]

theorem parts_below (a n K : Nat) (h : a + n ≤ 64 * K) : ∀ p ∈ partsAll a n, p.1 < K ∧ p.2 < 18446744073709551616 := by
  intro p hp
  unfold partsAll at hp
  split at hp
  · cases hp
  · simp only [List.mem_map, List.mem_range] at hp
    obtain ⟨j, hj, rfl⟩ := hp
    exact ⟨by simp only; omega, partMask_lt _ _ _⟩

theorem parts_len (a n : Nat) : (partsAll a n).length ≤ n / 64 + 2 := by
  unfold partsAll
  split
  · simp
  · rw [List.length_map, List.length_range]
    omega

/-- One word's bits turned. -/
def turnWord (x m : Nat) (on : Bool) : Nat := if on then x ||| m else x &&& Plain.inv m
def turnPart (on : Bool) (l : List Nat) (p : Nat × Nat) : List Nat := l.set p.1 (turnWord (l.getD p.1 0) p.2 on)

theorem turnWord_lt {x m : Nat} (hx : x < 18446744073709551616) (hm : m < 18446744073709551616) (on : Bool) : turnWord x m on < 18446744073709551616 := by
  unfold turnWord
  cases on
  · exact Nat.lt_of_le_of_lt Nat.and_le_left hx
  · exact Nat.or_lt_two_pow (n := 64) hx hm

theorem turnWord_bit (x m b : Nat) (hm : m < 18446744073709551616) (hb : b < 64) (on : Bool) : (turnWord x m on).testBit b = if m.testBit b then on else x.testBit b := by
  unfold turnWord
  cases on
  · simp only [Bool.false_eq_true, if_false, Nat.testBit_and, Plain.inv_bit m b hm hb]
    cases m.testBit b <;> simp
  · simp only [if_true, Nat.testBit_or]
    cases m.testBit b <;> simp

theorem turnPart_len (on : Bool) (l : List Nat) (p : Nat × Nat) : (turnPart on l p).length = l.length := by simp [turnPart]
theorem turnPart_fit {on : Bool} {l : List Nat} {p : Nat × Nat} (h : Fit l) (hp : p.2 < 18446744073709551616) : Fit (turnPart on l p) := by
  intro x hx
  unfold turnPart at hx
  rcases List.mem_or_eq_of_mem_set hx with hx | rfl
  · exact h x hx
  · exact turnWord_lt (getD_fit h _) hp on

theorem turnPart_bit (on : Bool) (l : List Nat) (i e j : Nat) (hi : i < e) (he : e ≤ 64 * l.length) : bit (turnPart on l (i / 64, mask i e)) j = if i ≤ j ∧ j < i + size i e then on else bit l j := by
  unfold bit turnPart
  simp only [List.getD_eq_getElem?_getD]
  by_cases hw : i / 64 = j / 64
  · rw [← hw, List.getElem?_set_self (by omega), Option.getD_some, turnWord_bit _ _ _ (mask_lt i e hi) (by omega), mask_bit i e _ hi (by omega)]
    have e1 : (i ≤ 64 * (i / 64) + j % 64 ∧ 64 * (i / 64) + j % 64 < i + size i e) ↔ (i ≤ j ∧ j < i + size i e) := by rw [hw]; rw [show 64 * (j / 64) + j % 64 = j from by omega]
    by_cases h : i ≤ j ∧ j < i + size i e
    · rw [decide_eq_true (e1.2 h), if_pos rfl, if_pos h]
    · rw [decide_eq_false (fun x => h (e1.1 x)), if_neg h]
      simp
  · rw [List.getElem?_set_ne (by omega), if_neg]
    unfold size
    omega

/-- All of a stretch's words turned: the stretch is turned. -/
theorem turn_parts (on : Bool) (e : Nat) : ∀ (d i : Nat) (l : List Nat), e - i = d → i ≤ e → e ≤ 64 * l.length → Fit l → (partsAll i (e - i)).foldl (turnPart on) l = turnTo l i on (e - i) := by
  intro d
  induction d using Nat.strongRecOn with
  | ind d ih =>
    intro i l hd hie he hf
    by_cases h : i < e
    · have hs := size_pos i e h
      have hs2 := size_le i e
      rw [parts_cons i e h, List.foldl_cons, ih (e - (i + size i e)) (by omega) _ _ rfl (by omega) (by rw [turnPart_len]; exact he) (turnPart_fit hf (mask_lt i e h))]
      refine turn_alone hf (turnTo_fit (turnPart_fit hf (mask_lt i e h)) _ _ _) (by rw [turnTo_len, turnPart_len]) (by omega) (fun j hj => ?_)
      rw [turnTo_bit _ _ _ _ _ (by rw [turnPart_len]; omega), turnPart_bit on l i e j h he]
      by_cases h1 : i + size i e ≤ j ∧ j < i + size i e + (e - (i + size i e))
      · rw [if_pos h1, if_pos (by omega)]
      · rw [if_neg h1]
        by_cases h2 : i ≤ j ∧ j < i + size i e
        · rw [if_pos h2, if_pos (by omega)]
        · rw [if_neg h2, if_neg (by omega)]
    · rw [parts_none _ _ (by omega), show e - i = 0 from by omega]
      rfl

/-- A word's bits of a stretch, counted. -/
def countPart (l : List Nat) (p : Nat × Nat) : Nat := Plain.cnt (l.getD p.1 0 &&& p.2)
theorem count_part (l : List Nat) (i e : Nat) (h : i < e) : countPart l (i / 64, mask i e) + countTo l i = countTo l (i + size i e) := by
  have key : ∀ n, n ≤ 64 → (Plain.upTo (l.getD (i / 64) 0 &&& mask i e) n).length + countTo l i = countTo l (max i (min (64 * (i / 64) + n) (i + size i e))) := by
    intro n
    induction n with
    | zero => intro _; rw [Plain.upTo_zero, List.length_nil, Nat.zero_add]; congr 1; omega
    | succ n ih =>
      intro hn
      have ih := ih (by omega)
      rw [Plain.upTo_succ, Nat.testBit_and, mask_bit i e n h (by omega)]
      by_cases hin : i ≤ 64 * (i / 64) + n ∧ 64 * (i / 64) + n < i + size i e
      · rw [decide_eq_true hin, Bool.and_true]
        have e1 : max i (min (64 * (i / 64) + n) (i + size i e)) = 64 * (i / 64) + n := by omega
        have e2 : max i (min (64 * (i / 64) + (n + 1)) (i + size i e)) = (64 * (i / 64) + n) + 1 := by omega
        rw [e1] at ih
        have e3 : bit l (64 * (i / 64) + n) = (l.getD (i / 64) 0).testBit n := by
          unfold bit
          rw [show (64 * (i / 64) + n) / 64 = i / 64 from by omega, show (64 * (i / 64) + n) % 64 = n from by omega]
        rw [e2, countTo, e3, ← ih]
        cases (l.getD (i / 64) 0).testBit n <;> simp <;> omega
      · rw [decide_eq_false hin, Bool.and_false]
        simp only [Bool.false_eq_true, if_false]
        rw [ih]
        congr 1
        omega
  have := key 64 (Nat.le_refl _)
  have hs := size_pos i e h
  rw [show max i (min (64 * (i / 64) + 64) (i + size i e)) = i + size i e from by unfold size at *; omega] at this
  exact this

theorem count_parts (l : List Nat) (e : Nat) : ∀ (d i : Nat), e - i = d → i ≤ e → ((partsAll i (e - i)).map (countPart l)).sum + countTo l i = countTo l e := by
  intro d
  induction d using Nat.strongRecOn with
  | ind d ih =>
    intro i hd hie
    by_cases h : i < e
    · have hs := size_pos i e h
      have hs2 := size_le i e
      have h1 := ih (e - (i + size i e)) (by omega) _ rfl (by omega)
      have h2 := count_part l i e h
      rw [parts_cons i e h, List.map_cons, List.sum_cons]
      omega
    · rw [parts_none _ _ (by omega), show i = e from by omega]
      simp

/-- Where a bit is sought that is as 'on' says: what is found. -/
structure NextIs (l : List Nat) (on : Bool) (lo hi : Nat) (r : Nat) (ok : Bool) : Prop where
  found : ok = true → lo ≤ r ∧ r < hi ∧ bit l r = on ∧ ∀ j, lo ≤ j → j < r → bit l j = !on
  none_ : ok = false → r = 0 ∧ ∀ j, lo ≤ j → j < hi → bit l j = !on

theorem NextIs.alone {l : List Nat} {on : Bool} {lo hi r s : Nat} {a b : Bool} (h : NextIs l on lo hi r a) (k : NextIs l on lo hi s b) : r = s ∧ a = b := by
  have ne : (!on) ≠ on := by cases on <;> simp
  cases a <;> cases b
  · exact ⟨(h.none_ rfl).1.trans (k.none_ rfl).1.symm, rfl⟩
  · obtain ⟨h1, h2, h3, _⟩ := k.found rfl
    exact absurd (((h.none_ rfl).2 s h1 h2).symm.trans h3) ne
  · obtain ⟨h1, h2, h3, _⟩ := h.found rfl
    exact absurd (((k.none_ rfl).2 r h1 h2).symm.trans h3) ne
  · obtain ⟨h1, h2, h3, h4⟩ := h.found rfl
    obtain ⟨k1, k2, k3, k4⟩ := k.found rfl
    refine ⟨?_, rfl⟩
    rcases Nat.lt_trichotomy r s with c | c | c
    · exact absurd ((k4 r h1 c).symm.trans h3) ne
    · exact c
    · exact absurd ((h4 s k1 c).symm.trans k3) ne

/-- What is looked over in one word: its bits that are passed, and all that are no bits of the stretch. -/
def passed (l : List Nat) (on : Bool) (p : Nat × Nat) : Nat := (if on then Plain.inv (l.getD p.1 0) else l.getD p.1 0) ||| Plain.inv p.2
theorem passed_lt {l : List Nat} (h : Fit l) (on : Bool) (p : Nat × Nat) : passed l on p < 18446744073709551616 := by
  unfold passed
  refine Nat.or_lt_two_pow (n := 64) ?_ (Plain.inv_lt _)
  split
  · exact Plain.inv_lt _
  · exact getD_fit h _

theorem passed_bit {l : List Nat} (h : Fit l) (on : Bool) (i e b : Nat) (hi : i < e) (hb : b < 64) :
    (passed l on (i / 64, mask i e)).testBit b = !(decide (i ≤ 64 * (i / 64) + b ∧ 64 * (i / 64) + b < i + size i e) && (bit l (64 * (i / 64) + b) == on)) := by
  unfold passed
  rw [Nat.testBit_or, Plain.inv_bit _ _ (mask_lt i e hi) hb, mask_bit i e b hi hb]
  have e3 : bit l (64 * (i / 64) + b) = (l.getD (i / 64) 0).testBit b := by
    unfold bit
    rw [show (64 * (i / 64) + b) / 64 = i / 64 from by omega, show (64 * (i / 64) + b) % 64 = b from by omega]
  rw [e3]
  cases on
  · simp only [Bool.false_eq_true, if_false]
    cases (l.getD (i / 64) 0).testBit b <;> cases decide (i ≤ 64 * (i / 64) + b ∧ 64 * (i / 64) + b < i + size i e) <;> rfl
  · simp only [if_true, Plain.inv_bit _ _ (getD_fit h (i / 64)) hb]
    cases (l.getD (i / 64) 0).testBit b <;> cases decide (i ≤ 64 * (i / 64) + b ∧ 64 * (i / 64) + b < i + size i e) <;> rfl

/-- Nothing is found in a word. -/
def Missed (l : List Nat) (on : Bool) (p : Nat × Nat) : Prop := ¬ Plain.low (Plain.inv (passed l on p)) < 64
/-- The place that is found. -/
def hit (l : List Nat) (on : Bool) (p : Nat × Nat) : Nat := p.1 * 64 + Plain.low (Plain.inv (passed l on p))

theorem low_below' (y b : Nat) (hy : y < 18446744073709551616) (hb : b < Plain.low (Plain.inv y)) (h64 : b < 64) : y.testBit b = true := by
  by_cases h0 : Plain.inv y = 0
  · have : y = 18446744073709551615 := by unfold Plain.inv at h0; omega
    rw [this, show (18446744073709551615 : Nat) = 2 ^ 64 - 1 from rfl, Nat.testBit_two_pow_sub_one, decide_eq_true h64]
  · have := Plain.low_below (Plain.inv y) h0 (Plain.inv_lt y) b hb
    rw [Plain.inv_bit y b hy h64] at this
    simpa using this

theorem missed_bits {l : List Nat} (h : Fit l) (on : Bool) (i e : Nat) (hi : i < e) (hm : Missed l on (i / 64, mask i e)) : ∀ j, i ≤ j → j < i + size i e → bit l j = !on := by
  intro j h1 h2
  have hs : size i e ≤ 64 - i % 64 := by unfold size; omega
  have hb : j - 64 * (i / 64) < 64 := by omega
  have := low_below' _ (j - 64 * (i / 64)) (passed_lt h on (i / 64, mask i e)) (by unfold Missed at hm; omega) hb
  rw [passed_bit h on i e _ hi hb, show 64 * (i / 64) + (j - 64 * (i / 64)) = j from by omega, decide_eq_true ⟨h1, h2⟩] at this
  cases on <;> cases hbit : bit l j <;> simp_all

theorem hit_bits {l : List Nat} (h : Fit l) (on : Bool) (i e : Nat) (hi : i < e) (hm : ¬ Missed l on (i / 64, mask i e)) : i ≤ hit l on (i / 64, mask i e) ∧ hit l on (i / 64, mask i e) < i + size i e ∧ bit l (hit l on (i / 64, mask i e)) = on ∧
    ∀ j, i ≤ j → j < hit l on (i / 64, mask i e) → bit l j = !on := by
  have hlt : Plain.low (Plain.inv (passed l on (i / 64, mask i e))) < 64 := by unfold Missed at hm; omega
  have hu := Plain.low_unset _ (passed_lt h on _) hlt
  have hbel := fun b => low_below' _ b (passed_lt h on (i / 64, mask i e))
  unfold hit
  simp only
  rw [passed_bit h on i e _ hi hlt] at hu
  generalize Plain.low (Plain.inv (passed l on (i / 64, mask i e))) = b at *
  rw [Bool.not_eq_false', Bool.and_eq_true, decide_eq_true_eq] at hu
  rw [show i / 64 * 64 + b = 64 * (i / 64) + b from by omega]
  refine ⟨hu.1.1, hu.1.2, by simpa using hu.2, fun j h1 h2 => ?_⟩
  have := hbel (j - 64 * (i / 64)) (by omega) (by omega)
  rw [passed_bit h on i e _ hi (by omega), show 64 * (i / 64) + (j - 64 * (i / 64)) = j from by omega, decide_eq_true ⟨h1, by omega⟩] at this
  cases on <;> cases hbit : bit l j <;> simp_all

/-- Nothing is found in all words of the stretch. -/
theorem all_missed {l : List Nat} (h : Fit l) (on : Bool) (e : Nat) : ∀ (d i : Nat), e - i = d → i ≤ e → (∀ p ∈ partsAll i (e - i), Missed l on p) → ∀ j, i ≤ j → j < e → bit l j = !on := by
  intro d
  induction d using Nat.strongRecOn with
  | ind d ih =>
    intro i hd hie hall j h1 h2
    have hlt : i < e := by omega
    have hs := size_pos i e hlt
    have hs2 := size_le i e
    rw [parts_cons i e hlt] at hall
    by_cases hj : j < i + size i e
    · exact missed_bits h on i e hlt (hall _ (List.mem_cons_self ..)) j h1 hj
    · exact ih (e - (i + size i e)) (by omega) _ rfl (by omega) (fun p hp => hall p (List.mem_cons_of_mem _ hp)) j (by omega) h2

/-- The first that is not missed is where the first one is found. -/
theorem first_hit {l : List Nat} (h : Fit l) (on : Bool) (e : Nat) : ∀ (d i : Nat), e - i = d → i ≤ e → ∀ pre p, (pre ++ [p]) <+: partsAll i (e - i) → (∀ q ∈ pre, Missed l on q) → ¬ Missed l on p → NextIs l on i e (hit l on p) true := by
  intro d
  induction d using Nat.strongRecOn with
  | ind d ih =>
    intro i hd hie pre p hpre hall hp
    by_cases hlt : i < e
    · have hs := size_pos i e hlt
      have hs2 := size_le i e
      rw [parts_cons i e hlt] at hpre
      cases pre with
      | nil =>
        simp only [List.nil_append, List.cons_prefix_cons] at hpre
        obtain ⟨rfl, _⟩ := hpre
        obtain ⟨a1, a2, a3, a4⟩ := hit_bits h on i e hlt hp
        exact ⟨fun _ => ⟨a1, by omega, a3, a4⟩, fun x => by cases x⟩
      | cons q pre =>
        simp only [List.cons_append, List.cons_prefix_cons] at hpre
        obtain ⟨rfl, hpre⟩ := hpre
        have := (ih (e - (i + size i e)) (by omega) _ rfl (by omega) pre p hpre (fun x hx => hall x (List.mem_cons_of_mem _ hx)) hp).found rfl
        obtain ⟨a1, a2, a3, a4⟩ := this
        refine ⟨fun _ => ⟨by omega, a2, a3, fun j h1 h2 => ?_⟩, fun x => by cases x⟩
        by_cases hj : j < i + size i e
        · exact missed_bits h on i e hlt (hall _ (List.mem_cons_self ..)) j h1 hj
        · exact a4 j (by omega) h2
    · rw [parts_none _ _ (by omega)] at hpre
      have := hpre.length_le
      simp at this

/-- The runs, one further. -/
theorem runs_step (l : List Nat) (n lo i r : Nat) (ok : Bool) (h0 : lo = 0 ∨ bit l lo = true) (h1 : NextIs l false lo n i true) (h2 : NextIs l true i n r ok) :
    let e := if ok then r else n
    runsTo l e = runsTo l lo ++ [(i, e - i)] ∧ i < e ∧ e ≤ n ∧ (bit l e = true ∨ e = n) := by
  obtain ⟨a1, a2, a3, a4⟩ := h1.found rfl
  have hlo : runsTo l i = runsTo l lo := by
    have := runsTo_set l lo (i - lo) (fun j h1 h2 => by simpa using a4 j h1 (by omega))
    rwa [show lo + (i - lo) = i from by omega] at this
  have hi : i = 0 ∨ bit l (i - 1) = true := by
    by_cases hz : i = 0
    · exact .inl hz
    · right
      by_cases hl : i = lo
      · rcases h0 with h0 | h0
        · omega
        · rw [← hl, a3] at h0; cases h0
      · simpa using a4 (i - 1) (by omega) (by omega)
  have go : ∀ e, i < e → (∀ j, i ≤ j → j < e → bit l j = false) → runsTo l e = runsTo l lo ++ [(i, e - i)] := fun e he hb => by
    have := runsTo_run l i hi (e - i - 1) (fun j h1 h2 => hb j h1 (by omega))
    rw [show i + (e - i - 1 + 1) = e from by omega, show e - i - 1 + 1 = e - i from by omega, hlo] at this
    exact this
  cases ok with
  | true =>
    obtain ⟨b1, b2, b3, b4⟩ := h2.found rfl
    have hne : i ≠ r := fun x => by rw [← x, a3] at b3; cases b3
    exact ⟨go r (by omega) (fun j h1 h2 => by simpa using b4 j h1 h2), by simp; omega, by simp; omega, .inl b3⟩
  | false =>
    obtain ⟨_, b4⟩ := h2.none_ rfl
    exact ⟨go n a2 (fun j h1 h2 => by simpa using b4 j h1 h2), by simpa using a2, by simp, .inr rfl⟩

theorem runs_end (l : List Nat) (n lo : Nat) (hlo : lo ≤ n) (r : Nat) (h : NextIs l false lo n r false) : runsTo l n = runsTo l lo := by
  have := runsTo_set l lo (n - lo) (fun j h1 h2 => by simpa using (h.none_ rfl).2 j h1 (by omega))
  rwa [show lo + (n - lo) = n from by omega] at this

theorem runs_len (l : List Nat) (k : Nat) : (runsTo l k).length ≤ k := by
  induction k with
  | zero => simp [runsTo]
  | succ k ih =>
    rw [runsTo]
    split
    · omega
    · by_cases he : Ends (runsTo l k) k
      · obtain ⟨R0, r, hR, _, hs⟩ := runStep_ends he
        rw [hs]; rw [hR] at ih; simp at ih ⊢; omega
      · rw [runStep_new he]; simp; omega

end Go.Proofs.YtlicdlpebhalaaaDoor.Bitm
