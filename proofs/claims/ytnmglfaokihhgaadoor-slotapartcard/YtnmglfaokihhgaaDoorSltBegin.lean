/- Where a slot begins: the program's call and the document's. -/
import Derived.Test.YtnmglfaokihhgaaDoorClsOk
import Derived.BigQuiet
namespace Go.Proofs.YtnmglfaokihhgaaDoor
open Go.RowKit

namespace Cls
theorem slots_bd (c : Int) : slots c ≤ 64 := by
  by_cases h : c < 0 ∨ 14 < c
  · unfold slots; rw [row_out h]; simp
  · obtain ⟨k, rfl⟩ := Int.eq_ofNat_of_zero_le (a := c) (by omega)
    by_cases h14 : k = 14
    · subst h14; decide +kernel
    · exact (slots_le (by omega)).2
theorem bytes_bd (c : Int) : bytes c ≤ 12288 := by
  by_cases h : c < 0 ∨ 14 < c
  · unfold bytes; rw [row_out h]; simp
  · obtain ⟨k, rfl⟩ := Int.eq_ofNat_of_zero_le (a := c) (by omega)
    by_cases h14 : k = 14
    · subst h14; decide +kernel
    · exact (bytes_le (by omega)).2
theorem in_of_slots {c i : Int} (h0 : 0 ≤ i) (h : i < (slots c : Int)) : 0 ≤ c ∧ c ≤ 14 := by
  by_cases hh : c < 0 ∨ 14 < c
  · unfold slots at h; rw [row_out hh] at h; simp at h; omega
  · omega

/-- Where slot i of a span of class c that begins with page p begins. -/
def begins (p c i : Int) : Int × Bool := if 0 ≤ p ∧ p < 4096 ∧ 0 ≤ i ∧ i < (slots c : Int) then (p * 8192 + i * (bytes c : Int), true) else (0, false)

theorem mul_bd {i x : Int} (h0 : 0 ≤ i) (h1 : i < 64) (h2 : 0 ≤ x) (h3 : x ≤ 12288) : 0 ≤ i * x ∧ i * x ≤ 786432 := by
  refine ⟨Int.mul_nonneg h0 h2, ?_⟩
  have := Int.mul_le_mul (a := i) (b := x) (c := 64) (d := 12288) (by omega) h3 h2 (by omega)
  omega
end Cls

theorem sbegin_in (p c i x s : Int) (hp : 0 ≤ p) (hp2 : p < 4096) (hi : 0 ≤ i) (hi2 : i < s) (hm : 0 ≤ i * x ∧ i * x ≤ 786432) (HX : Hid ((Cls.bytes c : Int) = x)) (HS : Hid ((Cls.slots c : Int) = s)) {w0 w : World} (hok : ClsOk w0 w) :
    Calls Tryd.prog 7 #[.int .i64 p, .int .i64 c, .int .i64 i] w fun e w' => e = .returned (.tuple #[.int .i64 (p * 8192 + i * x), .bool true]) ∧ ClsOk w0 w' := by
  have d1 : decide (p < 0) = false := by simp; omega
  have d2 : decide (4096 ≤ p) = false := by simp; omega
  have d3 : decide (i < 0) = false := by simp; omega
  have d4 : decide (s ≤ i) = false := by simp; omega
  go_enter Tryd.func7, Tryd.ntmps7
  go_wp2_with (first | (go_at_call 18; refine (cslotsOk c s HS.out (by assumption)).mono ?_; rintro e w1 ⟨rfl, hok⟩) | (go_at_call 19; refine (csizeOk c x HX.out (by assumption)).mono ?_; rintro e w1 ⟨rfl, hok⟩))
  go_ret2
  exact ⟨rfl, by assumption⟩

theorem sbegin_out (p c i s : Int) (h : p < 0 ∨ 4096 ≤ p ∨ i < 0 ∨ s ≤ i) (HS : Hid ((Cls.slots c : Int) = s)) {w0 w : World} (hok : ClsOk w0 w) :
    Calls Tryd.prog 7 #[.int .i64 p, .int .i64 c, .int .i64 i] w fun e w' => e = .returned (.tuple #[.int .i64 0, .bool false]) ∧ ClsOk w0 w' := by
  by_cases h1 : p < 0
  · have d1 : decide (p < 0) = true := by simp; omega
    clear h h1
    go_enter Tryd.func7, Tryd.ntmps7
    go_wp2
    go_ret2
    exact ⟨rfl, by assumption⟩
  have d1 : decide (p < 0) = false := by simp; omega
  by_cases h2 : 4096 ≤ p
  · have d2 : decide (4096 ≤ p) = true := by simp; omega
    clear h h1 h2
    go_enter Tryd.func7, Tryd.ntmps7
    go_wp2
    go_ret2
    exact ⟨rfl, by assumption⟩
  have d2 : decide (4096 ≤ p) = false := by simp; omega
  by_cases h3 : i < 0
  · have d3 : decide (i < 0) = true := by simp; omega
    clear h h1 h2 h3
    go_enter Tryd.func7, Tryd.ntmps7
    go_wp2
    go_ret2
    exact ⟨rfl, by assumption⟩
  have d3 : decide (i < 0) = false := by simp; omega
  have d4 : decide (s ≤ i) = true := by simp; omega
  clear h h1 h2 h3
  go_enter Tryd.func7, Tryd.ntmps7
  go_wp2_with (first | (go_at_call 18; refine (cslotsOk c s HS.out (by assumption)).mono ?_; rintro e w1 ⟨rfl, hok⟩))
  go_ret2
  exact ⟨rfl, by assumption⟩

theorem sbeginOk (p c i a : Int) (b : Bool) (hv : Cls.begins p c i = (a, b)) {w0 w : World} (hok : ClsOk w0 w) :
    Calls Tryd.prog 7 #[.int .i64 p, .int .i64 c, .int .i64 i] w fun e w' => e = .returned (.tuple #[.int .i64 a, .bool b]) ∧ ClsOk w0 w' := by
  have hs := Cls.slots_bd c
  have hb := Cls.bytes_bd c
  unfold Cls.begins at hv
  split at hv
  · rename_i h
    obtain ⟨rfl, rfl⟩ := Prod.mk.inj hv
    exact sbegin_in p c i _ _ h.1 h.2.1 h.2.2.1 h.2.2.2 (Cls.mul_bd h.2.2.1 (by omega) (by omega) (by omega)) (hide rfl) (hide rfl) hok
  · rename_i h
    obtain ⟨rfl, rfl⟩ := Prod.mk.inj hv
    exact sbegin_out p c i _ (by omega) (hide rfl) hok

theorem rbegin_in (p c i x s : Int) (hp : 0 ≤ p) (hp2 : p < 4096) (hc : 0 ≤ c) (hc2 : c ≤ 14) (hi : 0 ≤ i) (hi2 : i < s) (hm : 0 ≤ i * x ∧ i * x ≤ 786432) (HX : Hid ((Cls.bytes c : Int) = x)) (HS : Hid ((Cls.slots c : Int) = s)) {w0 w : World} (hok : ClsOk w0 w) :
    Calls Tryd.prog 8 #[.int .i64 p, .int .i64 c, .int .i64 i] w fun e w' => e = .returned (.tuple #[.int .i64 (p * 8192 + i * x), .bool true]) ∧ ClsOk w0 w' := by
  have d1 : decide (p < 0) = false := by simp; omega
  have d2 : decide (4096 ≤ p) = false := by simp; omega
  have d3 : decide (i < 0) = false := by simp; omega
  have d4 : decide (s ≤ i) = false := by simp; omega
  have d5 : decide (c < 0) = false := by simp; omega
  have d6 : decide (14 < c) = false := by simp; omega
  go_enter Tryd.func8, Tryd.ntmps8
  go_wp2_with (first | (go_at_call 16; refine (rslotsOk c s HS.out (by assumption)).mono ?_; rintro e w1 ⟨rfl, hok⟩) | (go_at_call 20; refine (rsizeOk c x HX.out (by assumption)).mono ?_; rintro e w1 ⟨rfl, hok⟩))
  go_ret2
  exact ⟨rfl, by assumption⟩

theorem rbegin_out (p c i s : Int) (h : p < 0 ∨ 4096 ≤ p ∨ c < 0 ∨ 14 < c ∨ i < 0 ∨ s ≤ i) (HS : Hid ((Cls.slots c : Int) = s)) {w0 w : World} (hok : ClsOk w0 w) :
    Calls Tryd.prog 8 #[.int .i64 p, .int .i64 c, .int .i64 i] w fun e w' => e = .returned (.tuple #[.int .i64 0, .bool false]) ∧ ClsOk w0 w' := by
  by_cases h1 : p < 0
  · have d1 : decide (p < 0) = true := by simp; omega
    clear h h1
    go_enter Tryd.func8, Tryd.ntmps8
    go_wp2
    go_ret2
    exact ⟨rfl, by assumption⟩
  have d1 : decide (p < 0) = false := by simp; omega
  by_cases h2 : 4096 ≤ p
  · have d2 : decide (4096 ≤ p) = true := by simp; omega
    clear h h1 h2
    go_enter Tryd.func8, Tryd.ntmps8
    go_wp2
    go_ret2
    exact ⟨rfl, by assumption⟩
  have d2 : decide (4096 ≤ p) = false := by simp; omega
  by_cases h5 : c < 0
  · have d5 : decide (c < 0) = true := by simp; omega
    clear h h1 h2 h5
    go_enter Tryd.func8, Tryd.ntmps8
    go_wp2
    go_ret2
    exact ⟨rfl, by assumption⟩
  have d5 : decide (c < 0) = false := by simp; omega
  by_cases h6 : 14 < c
  · have d6 : decide (14 < c) = true := by simp; omega
    clear h h1 h2 h5 h6
    go_enter Tryd.func8, Tryd.ntmps8
    go_wp2
    go_ret2
    exact ⟨rfl, by assumption⟩
  have d6 : decide (14 < c) = false := by simp; omega
  by_cases h3 : i < 0
  · have d3 : decide (i < 0) = true := by simp; omega
    clear h h1 h2 h3 h5 h6
    go_enter Tryd.func8, Tryd.ntmps8
    go_wp2
    go_ret2
    exact ⟨rfl, by assumption⟩
  have d3 : decide (i < 0) = false := by simp; omega
  have d4 : decide (s ≤ i) = true := by simp; omega
  clear h h1 h2 h3 h5 h6
  go_enter Tryd.func8, Tryd.ntmps8
  go_wp2_with (first | (go_at_call 16; refine (rslotsOk c s HS.out (by assumption)).mono ?_; rintro e w1 ⟨rfl, hok⟩))
  go_ret2
  exact ⟨rfl, by assumption⟩

theorem rbeginOk (p c i a : Int) (b : Bool) (hv : Cls.begins p c i = (a, b)) {w0 w : World} (hok : ClsOk w0 w) :
    Calls Tryd.prog 8 #[.int .i64 p, .int .i64 c, .int .i64 i] w fun e w' => e = .returned (.tuple #[.int .i64 a, .bool b]) ∧ ClsOk w0 w' := by
  have hs := Cls.slots_bd c
  have hb := Cls.bytes_bd c
  unfold Cls.begins at hv
  split at hv
  · rename_i h
    obtain ⟨rfl, rfl⟩ := Prod.mk.inj hv
    have hc := Cls.in_of_slots h.2.2.1 h.2.2.2
    exact rbegin_in p c i _ _ h.1 h.2.1 hc.1 hc.2 h.2.2.1 h.2.2.2 (Cls.mul_bd h.2.2.1 (by omega) (by omega) (by omega)) (hide rfl) (hide rfl) hok
  · rename_i h
    obtain ⟨rfl, rfl⟩ := Prod.mk.inj hv
    exact rbegin_out p c i _ (by omega) (hide rfl) hok

end Go.Proofs.YtnmglfaokihhgaaDoor
