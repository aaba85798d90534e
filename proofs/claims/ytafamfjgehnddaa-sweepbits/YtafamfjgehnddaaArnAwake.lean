/- The document's example of an arena. -/
import Derived.Test.YtafamfjgehnddaaArnNew
import Derived.Test.YtafamfjgehnddaaRunAwake
namespace Go.Proofs.Ytafamfjgehnddaa
open Go.RowKit

theorem St.first_len (n : Nat) : (St.first n).words.length = n := by simp [St.first]
theorem St.first_zero (n : Nat) (h : 1 ≤ n) : (St.first n).words.getD 0 0 = 1 := by
  obtain ⟨m, rfl⟩ : ∃ m, n = m + 1 := ⟨n - 1, by omega⟩
  simp [St.first, List.replicate_succ]
theorem St.first_last (n i : Nat) (h : 1 ≤ i) : (St.first n).words.getD i 0 = 0 := by
  simp only [St.first, List.getD_eq_getElem?_getD, List.getElem?_set]
  rw [if_neg (by omega)]
  by_cases h : i < n
  · simp [h]
  · simp [h]

end Go.Proofs.Ytafamfjgehnddaa
