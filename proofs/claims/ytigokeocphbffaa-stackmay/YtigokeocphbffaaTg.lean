/- Numbers of package tag: a head, its page, its tag, the head that follows. No program is named here. -/
namespace Go.Proofs.Ytigokeocphbffaa.Tg

/-- The head of tag t and page p. -/
def head (t : Nat) (p : Int) : Nat := t * 4294967296 + (p + 1).toNat
def make (t : Nat) (p : Int) : Nat × Bool := if -1 ≤ p ∧ p < 4096 then (head t p, true) else (0, false)
def low (x : Nat) : Nat := x % 4294967296
def page (x : Nat) : Int := if low x ≤ 4096 then (low x : Int) - 1 else -1
def tag (x : Nat) : Nat := x / 4294967296
def succ (t : Nat) : Nat := (t + 1) % 4294967296
def next (x : Nat) (p : Int) : Nat × Bool := make (succ (tag x)) p

theorem tag_lt (x : Nat) (h : x < 18446744073709551616) : tag x < 4294967296 := by unfold tag; omega
theorem low_lt (x : Nat) : low x < 4294967296 := by unfold low; omega
theorem succ_lt (t : Nat) : succ t < 4294967296 := by unfold succ; omega
theorem head_lt (t : Nat) (p : Int) (ht : t < 4294967296) (h1 : -1 ≤ p) (h2 : p < 4096) : head t p < 18446744073709551616 := by unfold head; omega
theorem tag_head (t : Nat) (p : Int) (h1 : -1 ≤ p) (h2 : p < 4096) : tag (head t p) = t := by unfold tag head; omega
theorem page_head (t : Nat) (p : Int) (h1 : -1 ≤ p) (h2 : p < 4096) : page (head t p) = p := by
  have e : low (head t p) = (p + 1).toNat := by unfold low head; omega
  unfold page
  rw [e, if_pos (by omega)]
  omega
theorem page_may (x : Nat) : -1 ≤ page x ∧ page x < 4096 := by
  unfold page
  split <;> omega
theorem page_low (x : Nat) (h : page x ≠ -1) : (low x : Int) = page x + 1 := by
  unfold page at h ⊢
  split at h
  · rename_i h1
    rw [if_pos h1]
    omega
  · exact absurd rfl h
theorem make_in (t : Nat) (p : Int) (h1 : -1 ≤ p) (h2 : p < 4096) : make t p = (head t p, true) := by unfold make; rw [if_pos ⟨h1, h2⟩]
theorem make_out (t : Nat) (p : Int) (h : ¬ (-1 ≤ p ∧ p < 4096)) : make t p = (0, false) := by unfold make; rw [if_neg h]
theorem make_may (t : Nat) (p : Int) : (make t p).2 = decide (-1 ≤ p ∧ p < 4096) := by
  unfold make
  split <;> simp_all
theorem or_head (t k : Nat) (hk : k < 4294967296) : t * 4294967296 ||| k = t * 4294967296 + k := by
  have h := Nat.shiftLeft_add_eq_or_of_lt (i := 32) (b := k) (by omega) t
  rw [Nat.shiftLeft_eq] at h
  exact h.symm

end Go.Proofs.Ytigokeocphbffaa.Tg
