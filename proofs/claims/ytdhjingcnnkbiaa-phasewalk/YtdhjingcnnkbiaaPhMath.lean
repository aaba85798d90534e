/- What a state becomes: numbers. No program is named here. -/
import Derived.Test.YtdhjingcnnkbiaaPh
namespace Go.Proofs.Ytdhjingcnnkbiaa.Ph

/-- What a word becomes is none, or a state of that cycle and phase. -/
theorem goes_true {x : Nat} {g p : Int} {c : Nat} (h : goes x g p = (c, true)) :
    cyc g = true ∧ may x = true ∧ (x = 0 ∨ gen x = g ∨ waits x g = true) ∧ ((c = 0 ∧ p = 0) ∨ (c ≠ 0 ∧ c = state g p ∧ som p = true)) := by
  cases hc : cyc g
  · unfold goes at h
    rw [hc] at h
    simp at h
  cases hs : step x g p
  · unfold goes at h
    rw [hs] at h
    simp at h
  refine ⟨rfl, ?_, ?_, ?_⟩
  · cases hm : may x
    · rw [step_none hm] at hs
      exact absurd hs (by decide)
    · rfl
  · unfold step at hs
    split at hs
    · exact .inl (by assumption)
    · split at hs
      · exact .inr (.inr (by assumption))
      · split at hs
        · exact .inr (.inl (by assumption))
        · exact absurd hs (by decide)
  · rw [goes_out hc hs] at h
    by_cases h0 : p = 0
    · rw [if_pos h0] at h
      exact .inl ⟨(Prod.mk.inj h).1.symm, h0⟩
    · have hp := step_som hs h0
      rw [if_neg h0, make_in hc hp] at h
      have e := (Prod.mk.inj h).1
      subst e
      exact .inr ⟨state_ne hc hp, rfl, hp⟩

theorem goes_false {x : Nat} {g p : Int} {c : Nat} (h : goes x g p = (c, false)) : c = 0 := by
  unfold goes at h
  split at h
  · split at h
    · simp at h
    · unfold make at h
      split at h
      · simp at h
      · exact (Prod.mk.inj h).1.symm
  · exact (Prod.mk.inj h).1.symm

/-- The state that waits for cycle g. -/
theorem waits_state {g : Int} (h1 : 2 ≤ g) (h2 : g ≤ 2147483648) : waits (state (g - 1) 1) g = true := by
  have hc : cyc (g - 1) = true := cyc_iff.2 ⟨by omega, by omega⟩
  unfold waits
  rw [state_ph hc (by decide), state_gen hc (by decide)]
  simp

theorem waits_step {g : Int} (h1 : 2 ≤ g) (h2 : g ≤ 2147483648) (p : Int) : step (state (g - 1) 1) g p = (p == 2 || p == 4) := by
  have hc : cyc (g - 1) = true := cyc_iff.2 ⟨by omega, by omega⟩
  unfold step
  rw [if_neg (state_ne hc (by decide)), waits_state h1 h2]
  rfl

theorem same_step {g f : Int} (hc : cyc g = true) (hf : som f = true) (p : Int) : step (state g f) g p = within f p := by
  unfold step waits
  rw [if_neg (state_ne hc hf), state_ph hc hf, state_gen hc hf, if_pos rfl]
  have e : (g + 1 == g) = false := by rw [beq_eq_false_iff_ne]; omega
  rw [e, Bool.and_false]
  rfl

/-- What is of cycle g waits no more for it. -/
theorem waits_same {g f : Int} (hc : cyc g = true) (hf : som f = true) : waits (state g f) g = false := by
  unfold waits
  rw [state_gen hc hf]
  have e : (g + 1 == g) = false := by rw [beq_eq_false_iff_ne]; omega
  rw [e, Bool.and_false]

theorem swept_same {g f : Int} (hc : cyc g = true) (hf : som f = true) : swept (state g f) g = isSwept f := by
  unfold swept
  rw [state_gen hc hf, state_ph hc hf]
  simp

theorem swept_wait {g : Int} (h1 : 2 ≤ g) (h2 : g ≤ 2147483648) : swept (state (g - 1) 1) g = false := by
  have hc : cyc (g - 1) = true := cyc_iff.2 ⟨by omega, by omega⟩
  unfold swept
  rw [state_gen hc (by decide)]
  have e : (g - 1 == g) = false := by rw [beq_eq_false_iff_ne]; omega
  rw [e, Bool.and_false]

end Go.Proofs.Ytdhjingcnnkbiaa.Ph
