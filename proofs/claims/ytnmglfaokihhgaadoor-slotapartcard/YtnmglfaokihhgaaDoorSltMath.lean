/- Slots, as numbers: found where they begin, and nowhere else; apart. -/
import Derived.Test.YtnmglfaokihhgaaDoorSltRefApart
namespace Go.Proofs.YtnmglfaokihhgaaDoor
namespace Cls

theorem in_class {c : Int} (h0 : 0 ≤ c) (h1 : c < 14) : (128 ≤ bytes c ∧ bytes c ≤ 12288) ∧ (1 ≤ pages c ∧ pages c ≤ 3) ∧ (2 ≤ slots c ∧ slots c ≤ 64) ∧ slots c * bytes c ≤ pages c * 8192 := by
  obtain ⟨k, rfl⟩ := Int.eq_ofNat_of_zero_le h0
  have hk : k < 14 := by omega
  exact ⟨bytes_le hk, pages_le hk, slots_le hk, (fits hk).1⟩

theorem slots_pos {c : Int} (h0 : 0 ≤ c) (h1 : c ≤ 14) : 1 ≤ slots c := by
  by_cases h : c = 14
  · subst h; decide +kernel
  · have := (in_class h0 (by omega)).2.2.1; omega

theorem bytesOf_pos {c : Int} (h0 : 0 ≤ c) (h1 : c ≤ 14) : 2 ≤ bytesOf c 1 ∧ bytesOf c 1 ≤ 12288 := by
  unfold bytesOf
  by_cases h : c = 14
  · rw [if_neg (by simpa using h), if_neg (by omega)]; omega
  · rw [if_pos h]; have := (in_class h0 (by omega)).1; omega

theorem begins_at {p c i : Int} (h1 : 0 ≤ p) (h2 : p < 4096) (h3 : 0 ≤ i) (h4 : i < (slots c : Int)) : begins p c i = (p * 8192 + i * (bytes c : Int), true) := begins_iff.2 ⟨⟨h1, h2, h3, h4⟩, rfl⟩

theorem lt_mul {j k x : Int} (hx : 0 ≤ x) (h : k < j) : k * x + x ≤ j * x := by
  have := Int.mul_le_mul_of_nonneg_right (show k + 1 ≤ j by omega) hx
  rw [Int.add_mul, Int.one_mul] at this
  exact this

theorem back_none {p c k a n r : Int} (hc0 : 0 ≤ c) (hc1 : c ≤ 14) (hb : begins p c k = (a, true)) (hn : bytesOf c 1 = n) (hr0 : 0 ≤ r) (hr1 : r < n - 1) : which p c (a + 1 + r) = (0, false) := by
  refine which_none fun j _ hj => ?_
  obtain ⟨_, h1⟩ := begins_iff.1 hb
  obtain ⟨_, h2⟩ := begins_iff.1 hj
  unfold bytesOf at hn
  by_cases h : c = 14
  · subst h
    rw [show bytes 14 = 0 from by decide +kernel] at h1 h2
    simp at h1 h2
    omega
  · rw [if_pos h] at hn
    have hx : (0 : Int) ≤ (bytes c : Int) := by omega
    rcases Int.lt_trichotomy (j : Int) k with hl | hl | hl
    · have := lt_mul hx hl; omega
    · rw [hl] at h2; omega
    · have := lt_mul hx hl; omega

theorem aparts_slots {p i j x y n : Int} (hp0 : 0 ≤ p) (hp1 : p < 4096) (hi0 : 0 ≤ i) (hi1 : i < 64) (hj0 : 0 ≤ j) (hj1 : j < 64) (hn0 : 1 ≤ n) (hn1 : n ≤ 12288) (hx : p * 8192 + i * n = x) (hy : p * 8192 + j * n = y) :
    aparts x n y n = decide (i ≠ j) ∧ (x < y ↔ i < j) := by
  have b1 := mul_bd hi0 hi1 (by omega) hn1
  have b2 := mul_bd hj0 hj1 (by omega) hn1
  unfold aparts nears
  rw [if_pos (by omega)]
  rcases Int.lt_trichotomy i j with hl | hl | hl
  · have := lt_mul (x := n) (by omega) hl
    refine ⟨?_, by omega⟩
    rw [decide_eq_true (show i ≠ j by omega), decide_eq_true (show x + n ≤ y by omega)]
    simp
  · subst hl
    refine ⟨?_, by omega⟩
    have e1 : (n == 0) = false := by simp; omega
    rw [decide_eq_false (show ¬ i ≠ i by simp), decide_eq_false (show ¬ (x + n ≤ y) by omega), decide_eq_false (show ¬ (y + n ≤ x) by omega), e1]
    rfl
  · have := lt_mul (x := n) (by omega) hl
    refine ⟨?_, by omega⟩
    rw [decide_eq_true (show i ≠ j by omega), decide_eq_true (show y + n ≤ x by omega)]
    simp

end Cls
end Go.Proofs.YtnmglfaokihhgaaDoor
