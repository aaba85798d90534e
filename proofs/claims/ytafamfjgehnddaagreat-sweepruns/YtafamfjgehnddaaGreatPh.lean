/- Numbers of package phase: a state, its cycle, its phase, what it may become. No program is named here. -/
namespace Go.Proofs.YtafamfjgehnddaaGreat.Ph

def cyc (g : Int) : Bool := decide (1 ≤ g) && decide (g ≤ 2147483648)
def som (p : Int) : Bool := decide (1 ≤ p) && decide (p ≤ 6)
/-- The state of cycle g and phase p. -/
def state (g p : Int) : Nat := (8 * g + p).toNat
def make (g p : Int) : Nat × Bool := if cyc g && som p then (state g p, true) else (0, false)
def abv (x : Nat) : Nat := x / 8
def low (x : Nat) : Nat := x % 8
def may (x : Nat) : Bool := x == 0 || (cyc (abv x : Nat) && som (low x : Nat))
def gen (x : Nat) : Int := if may x then (abv x : Nat) else 0
def ph (x : Nat) : Int := if may x then (low x : Nat) else 0
def isSwept (f : Int) : Bool := f == 1 || f == 2 || f == 3 || f == 5
def swept (x : Nat) (g : Int) : Bool := isSwept (ph x) && gen x == g
def waits (x : Nat) (g : Int) : Bool := ph x == 1 && gen x + 1 == g
def within (f t : Int) : Bool :=
  if f = 1 then t == 2 || t == 3
  else if f = 2 then t == 1 || t == 3 || t == 0
  else if f = 3 then t == 1 || t == 0
  else if f = 4 then t == 5 || t == 6
  else if f = 5 then t == 2
  else if f = 6 then t == 2
  else false
def step (x : Nat) (g p : Int) : Bool :=
  if x = 0 then p == 2
  else if waits x g then p == 2 || p == 4
  else if gen x = g then within (ph x) p
  else false
def goes (x : Nat) (g p : Int) : Nat × Bool :=
  if cyc g && step x g p then (if p = 0 then (0, true) else make g p) else (0, false)

theorem cyc_iff {g : Int} : cyc g = true ↔ 1 ≤ g ∧ g ≤ 2147483648 := by simp [cyc]
theorem som_iff {p : Int} : som p = true ↔ 1 ≤ p ∧ p ≤ 6 := by simp [som]
theorem may_iff {x : Nat} : may x = true ↔ x = 0 ∨ (1 ≤ x / 8 ∧ x / 8 ≤ 2147483648 ∧ 1 ≤ x % 8 ∧ x % 8 ≤ 6) := by
  unfold may
  rw [Bool.or_eq_true, Bool.and_eq_true, cyc_iff, som_iff, beq_iff_eq]
  unfold abv low
  omega
theorem abv_lt (x : Nat) (h : x < 18446744073709551616) : abv x < 2305843009213693952 := by unfold abv; omega
theorem low_lt (x : Nat) : low x < 8 := by unfold low; omega
theorem state_lt {g p : Int} (hg : cyc g = true) (hp : som p = true) : state g p < 18446744073709551616 := by
  rw [cyc_iff] at hg
  rw [som_iff] at hp
  unfold state
  omega
theorem state_may {g p : Int} (hg : cyc g = true) (hp : som p = true) : may (state g p) = true := by
  rw [cyc_iff] at hg
  rw [som_iff] at hp
  rw [may_iff]
  unfold state
  omega
theorem state_gen {g p : Int} (hg : cyc g = true) (hp : som p = true) : gen (state g p) = g := by
  unfold gen
  rw [state_may hg hp, if_pos rfl]
  rw [cyc_iff] at hg
  rw [som_iff] at hp
  unfold abv state
  omega
theorem state_ph {g p : Int} (hg : cyc g = true) (hp : som p = true) : ph (state g p) = p := by
  unfold ph
  rw [state_may hg hp, if_pos rfl]
  rw [cyc_iff] at hg
  rw [som_iff] at hp
  unfold low state
  omega
theorem state_ne {g p : Int} (hg : cyc g = true) (hp : som p = true) : state g p ≠ 0 := by
  rw [cyc_iff] at hg
  rw [som_iff] at hp
  unfold state
  omega
theorem make_in {g p : Int} (hg : cyc g = true) (hp : som p = true) : make g p = (state g p, true) := by unfold make; rw [hg, hp]; rfl
theorem make_out1 {g : Int} (p : Int) (hg : cyc g = false) : make g p = (0, false) := by unfold make; rw [hg]; rfl
theorem make_out2 (g : Int) {p : Int} (hp : som p = false) : make g p = (0, false) := by unfold make; rw [hp, Bool.and_false]; rfl
theorem or_state (g k : Nat) (hk : k < 8) : g * 8 ||| k = g * 8 + k := by
  have h := Nat.shiftLeft_add_eq_or_of_lt (i := 3) (b := k) (by omega) g
  rw [Nat.shiftLeft_eq] at h
  exact h.symm

/-- A word that is a state, not 0, is of some phase and cycle. -/
theorem of_may {x : Nat} (h : may x = true) (h0 : x ≠ 0) : cyc (gen x) = true ∧ som (ph x) = true ∧ x = state (gen x) (ph x) := by
  have h' := h
  rw [may_iff] at h'
  unfold gen ph
  rw [h, if_pos rfl, if_pos rfl, cyc_iff, som_iff]
  unfold state abv low
  omega
theorem gen_none {x : Nat} (h : may x = false) : gen x = 0 := by unfold gen; rw [h]; rfl
theorem ph_none {x : Nat} (h : may x = false) : ph x = 0 := by unfold ph; rw [h]; rfl
theorem ph_lt (x : Nat) : 0 ≤ ph x ∧ ph x < 8 := by
  unfold ph low
  split <;> omega
theorem gen_lt (x : Nat) : 0 ≤ gen x ∧ gen x ≤ 2147483648 := by
  cases h : may x
  · rw [gen_none h]; omega
  · rw [may_iff] at h
    unfold gen abv
    split <;> omega
theorem within_zero (t : Int) : within 0 t = false := by unfold within; simp
theorem step_none {x : Nat} (h : may x = false) (g p : Int) : step x g p = false := by
  have h0 : x ≠ 0 := by rintro rfl; exact absurd h (by decide)
  unfold step waits
  rw [if_neg h0, ph_none h, within_zero]
  simp

/-- What goes is a state of that cycle and phase, or none. -/
theorem goes_out {x : Nat} {g p : Int} (h : cyc g = true) (hs : step x g p = true) : goes x g p = if p = 0 then (0, true) else make g p := by
  unfold goes
  rw [h, hs]
  rfl
theorem step_som {x : Nat} {g p : Int} (hs : step x g p = true) (h0 : p ≠ 0) : som p = true := by
  rw [som_iff]
  unfold step within at hs
  repeat' split at hs
  all_goals (simp at hs <;> omega)

end Go.Proofs.YtafamfjgehnddaaGreat.Ph
