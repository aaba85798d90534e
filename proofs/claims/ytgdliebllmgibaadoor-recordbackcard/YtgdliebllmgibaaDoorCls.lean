/- Sizes of classes: the document's table, and the class of a size. (Plain mathematics, of any program.) -/
import Derived.Test.YtgdliebllmgibaaDoorBase
namespace Go.Proofs.YtgdliebllmgibaaDoor
namespace Cls

/-- The table: bytes, pages, slots of each class; the last row is the large one's. -/
def tab : List (Nat × Nat × Nat) :=
  [(128, 1, 64), (192, 1, 42), (256, 1, 32), (384, 1, 21), (512, 1, 16), (768, 1, 10), (1024, 1, 8), (1536, 3, 16), (2048, 1, 4), (3072, 3, 8), (4096, 1, 2), (6144, 3, 4), (8192, 2, 2), (12288, 3, 2), (0, 0, 1)]

def row (c : Int) : Nat × Nat × Nat := if c < 0 then (0, 0, 0) else tab.getD c.toNat (0, 0, 0)
def bytes (c : Int) : Nat := (row c).1
def pages (c : Int) : Nat := (row c).2.1
def slots (c : Int) : Nat := (row c).2.2

/-- The class of a size, from class k on. -/
def find (size : Int) : Nat → Nat → Nat
  | 0, k => k
  | f + 1, k => if size ≤ (bytes (k : Int) : Int) then k else find size f (k + 1)

/-- The first class whose bytes are enough; 14 if there is none. -/
def cls (size : Int) : Nat := find size 14 0

/-- The pages of a size in the class that it has. -/
def pgs (size : Int) : Int := if cls size = 14 then (size - 1) / 8192 + 1 else (pages (cls size) : Int)

theorem row_out {c : Int} (h : c < 0 ∨ 14 < c) : row c = (0, 0, 0) := by
  unfold row
  by_cases h0 : c < 0
  · rw [if_pos h0]
  · rw [if_neg h0]
    have h1 : tab.length ≤ c.toNat := by simp [tab]; omega
    simp only [List.getD_eq_getElem?_getD, List.getElem?_eq_none h1, Option.getD_none]

theorem row_large : row 14 = (0, 0, 1) := by decide +kernel

theorem cases14 {k : Nat} (h : k < 14) : k = 0 ∨ k = 1 ∨ k = 2 ∨ k = 3 ∨ k = 4 ∨ k = 5 ∨ k = 6 ∨ k = 7 ∨ k = 8 ∨ k = 9 ∨ k = 10 ∨ k = 11 ∨ k = 12 ∨ k = 13 := by omega

/-- Whatever holds of each of the fourteen classes. -/
theorem each (p : Nat → Bool) (h : (List.range 14).all p = true) {k : Nat} (hk : k < 14) : p k = true := List.all_eq_true.1 h k (List.mem_range.2 hk)

theorem bytes_le {k : Nat} (h : k < 14) : 128 ≤ bytes (k : Int) ∧ bytes (k : Int) ≤ 12288 := by
  simpa using each (fun k => decide (128 ≤ bytes (k : Int)) && decide (bytes (k : Int) ≤ 12288)) (by decide +kernel) h
theorem pages_le {k : Nat} (h : k < 14) : 1 ≤ pages (k : Int) ∧ pages (k : Int) ≤ 3 := by
  simpa using each (fun k => decide (1 ≤ pages (k : Int)) && decide (pages (k : Int) ≤ 3)) (by decide +kernel) h
theorem slots_le {k : Nat} (h : k < 14) : 2 ≤ slots (k : Int) ∧ slots (k : Int) ≤ 64 := by
  simpa using each (fun k => decide (2 ≤ slots (k : Int)) && decide (slots (k : Int) ≤ 64)) (by decide +kernel) h
theorem fits {k : Nat} (h : k < 14) : slots (k : Int) * bytes (k : Int) ≤ pages (k : Int) * 8192 ∧ (slots (k : Int) < 64 → pages (k : Int) * 8192 < (slots (k : Int) + 1) * bytes (k : Int)) :=
  of_decide_eq_true (each (fun k => decide (slots (k : Int) * bytes (k : Int) ≤ pages (k : Int) * 8192 ∧ (slots (k : Int) < 64 → pages (k : Int) * 8192 < (slots (k : Int) + 1) * bytes (k : Int)))) (by decide +kernel) h)
theorem rise {k : Nat} (h : k + 1 < 14) : bytes (k : Int) < bytes ((k + 1 : Nat) : Int) := by
  have := each (fun k => decide (k + 1 < 14 → bytes (k : Int) < bytes ((k + 1 : Nat) : Int))) (by decide +kernel) (k := k) (by omega)
  exact of_decide_eq_true this h

/-- Where the first k classes are too small the search goes on from k. -/
theorem find_from (size : Int) : ∀ (f k : Nat), find size f k ≤ f + k ∧ k ≤ find size f k ∧ (∀ j, k ≤ j → j < find size f k → (bytes (j : Int) : Int) < size) ∧ (find size f k < f + k → size ≤ (bytes (find size f k : Int) : Int))
  | 0, k => by simp only [find]; exact ⟨by omega, by omega, fun j h1 h2 => by omega, fun h => by omega⟩
  | f + 1, k => by
    simp only [find]
    split
    · rename_i h
      exact ⟨by omega, by omega, fun j h1 h2 => by omega, fun _ => h⟩
    · rename_i h
      obtain ⟨h1, h2, h3, h4⟩ := find_from size f (k + 1)
      refine ⟨by omega, by omega, fun j hj1 hj2 => ?_, fun hl => h4 (by omega)⟩
      by_cases he : j = k
      · subst he; omega
      · exact h3 j (by omega) hj2

theorem cls_le (size : Int) : cls size ≤ 14 := by have := (find_from size 14 0).1; unfold cls; omega
theorem cls_small (size : Int) (j : Nat) (h : j < cls size) : (bytes (j : Int) : Int) < size := (find_from size 14 0).2.2.1 j (by omega) h
theorem cls_fits (size : Int) (h : cls size < 14) : size ≤ (bytes (cls size : Int) : Int) := (find_from size 14 0).2.2.2 (by unfold cls at h; omega)

/-- The class is alone in that. -/
theorem cls_is (size : Int) (k : Nat) (hk : k < 14) (h1 : ∀ j : Nat, j < k → (bytes (j : Int) : Int) < size) (h2 : size ≤ (bytes (k : Int) : Int)) : cls size = k := by
  have hle := cls_le size
  rcases Nat.lt_trichotomy (cls size) k with h | h | h
  · have := h1 _ h
    have := cls_fits size (by omega)
    omega
  · exact h
  · have := cls_small size k h
    omega
theorem cls_none (size : Int) (h1 : ∀ j : Nat, j < 14 → (bytes (j : Int) : Int) < size) : cls size = 14 := by
  have hle := cls_le size
  by_cases h : cls size < 14
  · have := h1 (cls size) h
    have := cls_fits size h
    omega
  · omega

theorem bytes_nat (k : Nat) : bytes (k : Int) = (tab.getD k (0, 0, 0)).1 := by unfold bytes row; rw [if_neg (by omega), Int.toNat_natCast]
theorem pages_nat (k : Nat) : pages (k : Int) = (tab.getD k (0, 0, 0)).2.1 := by unfold pages row; rw [if_neg (by omega), Int.toNat_natCast]
theorem slots_nat (k : Nat) : slots (k : Int) = (tab.getD k (0, 0, 0)).2.2 := by unfold slots row; rw [if_neg (by omega), Int.toNat_natCast]

end Cls
end Go.Proofs.YtgdliebllmgibaaDoor
