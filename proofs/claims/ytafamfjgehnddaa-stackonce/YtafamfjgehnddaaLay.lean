/- Layouts, by numbers: how many words, which word each thing has, what a word is for. (Of no program.) -/
namespace Go.Proofs.Ytafamfjgehnddaa
namespace Lay

/-- There are such layouts. -/
def may (P T : Int) : Bool := decide (1 ≤ P) && decide (P ≤ 4096) && decide (1 ≤ T) && decide (T ≤ 64)

theorem may_iff {P T : Int} : may P T = true ↔ 1 ≤ P ∧ P ≤ 4096 ∧ 1 ≤ T ∧ T ≤ 64 := by
  unfold may
  simp only [Bool.and_eq_true, decide_eq_true_eq, and_assoc]

theorem may_false {P T : Int} : may P T = false ↔ P < 1 ∨ 4096 < P ∨ T < 1 ∨ 64 < T := by
  have h := may_iff (P := P) (T := T)
  cases hm : may P T
  · rw [hm] at h
    constructor
    · intro _
      by_cases h1 : P < 1 ∨ 4096 < P ∨ T < 1 ∨ 64 < T
      · exact h1
      · exact absurd (h.2 (by omega)) (by simp)
    · intro _
      rfl
  · rw [hm] at h
    have := h.1 rfl
    constructor
    · intro k
      cases k
    · intro k
      omega

/-- How many words a map has. -/
def maps (P : Int) : Int := (P + 63) / 64
def states (T : Int) : Int := 68 + 14 * T
def index (P T : Int) : Int := 68 + 14 * T + 5 * P
def used (P T : Int) : Int := 68 + 14 * T + 6 * P
def gone (P T : Int) : Int := 68 + 14 * T + 6 * P + maps P
def total (P T : Int) : Int := 68 + 14 * T + 6 * P + 2 * maps P

theorem maps_bd {P : Int} (h1 : 1 ≤ P) (h2 : P ≤ 4096) : 1 ≤ maps P ∧ maps P ≤ 64 ∧ P ≤ 64 * maps P := by
  unfold maps
  omega

def words (P T : Int) : Int := if may P T = true then total P T else 0

theorem words_in {P T : Int} (h : may P T = true) : words P T = total P T := if_pos h
theorem words_out {P T : Int} (h : may P T = false) : words P T = 0 := if_neg (by simp [h])

theorem words_bd {P T : Int} (h : may P T = true) : 90 ≤ words P T ∧ words P T ≤ 65536 := by
  rw [words_in h]
  obtain ⟨h1, h2, h3, h4⟩ := may_iff.1 h
  obtain ⟨m1, m2, m3⟩ := maps_bd h1 h2
  unfold total
  omega

/-- i is from 0 to n - 1. -/
def below (i n : Int) : Bool := decide (0 ≤ i) && decide (i < n)

theorem below_iff {i n : Int} : below i n = true ↔ 0 ≤ i ∧ i < n := by
  unfold below
  simp only [Bool.and_eq_true, decide_eq_true_eq]

theorem below_false {i n : Int} : below i n = false ↔ i < 0 ∨ n ≤ i := by
  have h := below_iff (i := i) (n := n)
  cases hm : below i n
  · rw [hm] at h
    constructor
    · intro _
      by_cases h1 : i < 0 ∨ n ≤ i
      · exact h1
      · exact absurd (h.2 (by omega)) (by simp)
    · intro _
      rfl
  · rw [hm] at h
    have := h.1 rfl
    constructor
    · intro k
      cases k
    · intro k
      omega

def two (f : Bool) : Int := if f = true then 2 else 0

def head (P T c : Int) (f : Bool) (p : Int) : Int × Bool :=
  if (may P T && below c 15 && below p 2) = true then (8 + 4 * c + p + two f, true) else (0, false)

def cache (P T t c : Int) : Int × Bool :=
  if (may P T && below t T && below c 14) = true then (68 + 14 * t + c, true) else (0, false)

/-- Kinds from KState to KIndex. -/
def kinds (k : Int) : Bool := decide (9 ≤ k) && decide (k ≤ 14)

def page (P T k p : Int) : Int × Bool :=
  if (may P T && below p P && (decide (9 ≤ k) && decide (k ≤ 14))) = true then (if k = 14 then index P T + p else states T + 5 * p + (k - 9), true) else (0, false)

def map (P T k i : Int) : Int × Bool :=
  if (may P T && below i (maps P) && (decide (k = 15) || decide (k = 16))) = true then (if k = 16 then gone P T + i else used P T + i, true) else (0, false)

/-- What a word is for: its kind, A, B. -/
def spot (P T a : Int) : Int × Int × Int :=
  if a < 8 then (if a < 5 then a + 1 else 6, 0, 0)
  else if a < 68 then (7, (a - 8) / 4, (a - 8) % 4)
  else if a < states T then (8, (a - 68) / 14, (a - 68) % 14)
  else if a < index P T then (9 + (a - states T) % 5, (a - states T) / 5, 0)
  else if a < used P T then (14, a - index P T, 0)
  else if a < gone P T then (15, a - used P T, 0)
  else (16, a - gone P T, 0)

def name (P T a : Int) : (Int × Int × Int) × Bool :=
  if below a (words P T) = true then (spot P T a, true) else ((0, 0, 0), false)

end Lay
end Go.Proofs.Ytafamfjgehnddaa
