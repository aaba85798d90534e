/- Which slot begins at an address: the program's call, and the document's. -/
import Derived.Test.YtnmglfaokihhgaaDoorSltBegin
namespace Go.Proofs.YtnmglfaokihhgaaDoor
open Go.RowKit

namespace Cls
/-- How far the slots of a class lie from one another (the large one's is alone). -/
def far (c : Int) : Int := max (bytes c : Int) 1
/-- Which slot of a span of class c that begins with page p begins at a. -/
def which (p c a : Int) : Int × Bool := if 0 ≤ p ∧ p < 4096 ∧ 0 < slots c ∧ p * 8192 ≤ a ∧ (a - p * 8192) % far c = 0 ∧ (a - p * 8192) / far c < (slots c : Int) then ((a - p * 8192) / far c, true) else (0, false)
end Cls

theorem sof_rest (p c a x : Int) (hp : 0 ≤ p) (hp2 : p < 4096) (ha : p * 8192 ≤ a) (ha2 : a ≤ 9223372036854775807) (hx0 : 1 ≤ x) (hx : x ≤ 12288) (hr : (a - p * 8192) % x ≠ 0) (HX : Hid ((Cls.bytes c : Int) = x)) (HB : Hid (Cls.begins p c 0 = (p * 8192, true))) {w0 w : World} (hok : ClsOk w0 w) :
    Calls Tryd.prog 9 #[.int .i64 p, .int .i64 c, .int .i64 a] w fun e w' => e = .returned (.tuple #[.int .i64 (0), .bool false]) ∧ ClsOk w0 w' := by
  have d1 : decide (a < p * 8192) = false := by simp; omega
  have d2 : max x 1 = x := by omega
  have d3 : (x == 0) = false := by simp; omega
  have e0 : ((a - p * 8192) % x == 0) = false := by simpa using hr
  have e1 : ((a - p * 8192) % x != 0) = true := by simpa using hr
  go_enter Tryd.func9, Tryd.ntmps9
  go_wp2_with (first | (go_at_call 7; refine (sbeginOk p c 0 _ _ HB.out (by assumption)).mono ?_; rintro e w1 ⟨rfl, hok⟩) | (go_at_call 19; refine (csizeOk c x HX.out (by assumption)).mono ?_; rintro e w1 ⟨rfl, hok⟩))
  all_goals try (exfalso; omega)
  go_quiet (fail)
  have hok' := hok.drewN nq
  clear hok
  go_wp2_with (first | (go_at_call 7; refine (sbeginOk p c 0 _ _ HB.out (by assumption)).mono ?_; rintro e w1 ⟨rfl, hok⟩) | (go_at_call 19; refine (csizeOk c x HX.out (by assumption)).mono ?_; rintro e w1 ⟨rfl, hok⟩))
  go_ret2
  exact ⟨rfl, by assumption⟩

theorem sof_far (p c a x s : Int) (hp : 0 ≤ p) (hp2 : p < 4096) (ha : p * 8192 ≤ a) (ha2 : a ≤ 9223372036854775807) (hx0 : 1 ≤ x) (hx : x ≤ 12288) (hr : (a - p * 8192) % x = 0) (hq : s ≤ (a - p * 8192) / x) (HX : Hid ((Cls.bytes c : Int) = x)) (HS : Hid ((Cls.slots c : Int) = s)) (HB : Hid (Cls.begins p c 0 = (p * 8192, true))) {w0 w : World} (hok : ClsOk w0 w) :
    Calls Tryd.prog 9 #[.int .i64 p, .int .i64 c, .int .i64 a] w fun e w' => e = .returned (.tuple #[.int .i64 (0), .bool false]) ∧ ClsOk w0 w' := by
  have d1 : decide (a < p * 8192) = false := by simp; omega
  have d2 : max x 1 = x := by omega
  have d3 : (x == 0) = false := by simp; omega
  have e0 : decide (s ≤ (a - p * 8192) / x) = true := by simpa using hq
  go_enter Tryd.func9, Tryd.ntmps9
  go_wp2_with (first | (go_at_call 7; refine (sbeginOk p c 0 _ _ HB.out (by assumption)).mono ?_; rintro e w1 ⟨rfl, hok⟩) | (go_at_call 18; refine (cslotsOk c s HS.out (by assumption)).mono ?_; rintro e w1 ⟨rfl, hok⟩) | (go_at_call 19; refine (csizeOk c x HX.out (by assumption)).mono ?_; rintro e w1 ⟨rfl, hok⟩))
  all_goals try (exfalso; omega)
  go_quiet (fail)
  have hok' := hok.drewN nq
  clear hok
  go_wp2_with (first | (go_at_call 7; refine (sbeginOk p c 0 _ _ HB.out (by assumption)).mono ?_; rintro e w1 ⟨rfl, hok⟩) | (go_at_call 18; refine (cslotsOk c s HS.out (by assumption)).mono ?_; rintro e w1 ⟨rfl, hok⟩) | (go_at_call 19; refine (csizeOk c x HX.out (by assumption)).mono ?_; rintro e w1 ⟨rfl, hok⟩))
  go_ret2
  exact ⟨rfl, by assumption⟩

theorem sof_in (p c a x s : Int) (hp : 0 ≤ p) (hp2 : p < 4096) (ha : p * 8192 ≤ a) (ha2 : a ≤ 9223372036854775807) (hx0 : 1 ≤ x) (hx : x ≤ 12288) (hr : (a - p * 8192) % x = 0) (hq : (a - p * 8192) / x < s) (HX : Hid ((Cls.bytes c : Int) = x)) (HS : Hid ((Cls.slots c : Int) = s)) (HB : Hid (Cls.begins p c 0 = (p * 8192, true))) {w0 w : World} (hok : ClsOk w0 w) :
    Calls Tryd.prog 9 #[.int .i64 p, .int .i64 c, .int .i64 a] w fun e w' => e = .returned (.tuple #[.int .i64 ((a - p * 8192) / x), .bool true]) ∧ ClsOk w0 w' := by
  have d1 : decide (a < p * 8192) = false := by simp; omega
  have d2 : max x 1 = x := by omega
  have d3 : (x == 0) = false := by simp; omega
  have e0 : decide (s ≤ (a - p * 8192) / x) = false := by simpa using hq
  go_enter Tryd.func9, Tryd.ntmps9
  go_wp2_with (first | (go_at_call 7; refine (sbeginOk p c 0 _ _ HB.out (by assumption)).mono ?_; rintro e w1 ⟨rfl, hok⟩) | (go_at_call 18; refine (cslotsOk c s HS.out (by assumption)).mono ?_; rintro e w1 ⟨rfl, hok⟩) | (go_at_call 19; refine (csizeOk c x HX.out (by assumption)).mono ?_; rintro e w1 ⟨rfl, hok⟩))
  all_goals try (exfalso; omega)
  go_quiet (fail)
  have hok' := hok.drewN nq
  clear hok
  go_wp2_with (first | (go_at_call 7; refine (sbeginOk p c 0 _ _ HB.out (by assumption)).mono ?_; rintro e w1 ⟨rfl, hok⟩) | (go_at_call 18; refine (cslotsOk c s HS.out (by assumption)).mono ?_; rintro e w1 ⟨rfl, hok⟩) | (go_at_call 19; refine (csizeOk c x HX.out (by assumption)).mono ?_; rintro e w1 ⟨rfl, hok⟩))
  go_ret2
  exact ⟨rfl, by assumption⟩

theorem sof_far0 (p c a s : Int) (hp : 0 ≤ p) (hp2 : p < 4096) (ha : p * 8192 ≤ a) (ha2 : a ≤ 9223372036854775807) (hq : s ≤ a - p * 8192) (HX : Hid ((Cls.bytes c : Int) = 0)) (HS : Hid ((Cls.slots c : Int) = s)) (HB : Hid (Cls.begins p c 0 = (p * 8192, true))) {w0 w : World} (hok : ClsOk w0 w) :
    Calls Tryd.prog 9 #[.int .i64 p, .int .i64 c, .int .i64 a] w fun e w' => e = .returned (.tuple #[.int .i64 (0), .bool false]) ∧ ClsOk w0 w' := by
  have d1 : decide (a < p * 8192) = false := by simp; omega
  have e0 : decide (s ≤ a - p * 8192) = true := by simpa using hq
  go_enter Tryd.func9, Tryd.ntmps9
  go_wp2_with (first | (go_at_call 7; refine (sbeginOk p c 0 _ _ HB.out (by assumption)).mono ?_; rintro e w1 ⟨rfl, hok⟩) | (go_at_call 18; refine (cslotsOk c s HS.out (by assumption)).mono ?_; rintro e w1 ⟨rfl, hok⟩) | (go_at_call 19; refine (csizeOk c 0 HX.out (by assumption)).mono ?_; rintro e w1 ⟨rfl, hok⟩))
  go_quiet (fail)
  have hok' := hok.drewN nq
  clear hok
  go_wp2_with (first | (go_at_call 7; refine (sbeginOk p c 0 _ _ HB.out (by assumption)).mono ?_; rintro e w1 ⟨rfl, hok⟩) | (go_at_call 18; refine (cslotsOk c s HS.out (by assumption)).mono ?_; rintro e w1 ⟨rfl, hok⟩) | (go_at_call 19; refine (csizeOk c 0 HX.out (by assumption)).mono ?_; rintro e w1 ⟨rfl, hok⟩))
  go_ret2
  exact ⟨rfl, by assumption⟩

theorem sof_in0 (p c a s : Int) (hp : 0 ≤ p) (hp2 : p < 4096) (ha : p * 8192 ≤ a) (ha2 : a ≤ 9223372036854775807) (hq : a - p * 8192 < s) (HX : Hid ((Cls.bytes c : Int) = 0)) (HS : Hid ((Cls.slots c : Int) = s)) (HB : Hid (Cls.begins p c 0 = (p * 8192, true))) {w0 w : World} (hok : ClsOk w0 w) :
    Calls Tryd.prog 9 #[.int .i64 p, .int .i64 c, .int .i64 a] w fun e w' => e = .returned (.tuple #[.int .i64 (a - p * 8192), .bool true]) ∧ ClsOk w0 w' := by
  have d1 : decide (a < p * 8192) = false := by simp; omega
  have e0 : decide (s ≤ a - p * 8192) = false := by simpa using hq
  go_enter Tryd.func9, Tryd.ntmps9
  go_wp2_with (first | (go_at_call 7; refine (sbeginOk p c 0 _ _ HB.out (by assumption)).mono ?_; rintro e w1 ⟨rfl, hok⟩) | (go_at_call 18; refine (cslotsOk c s HS.out (by assumption)).mono ?_; rintro e w1 ⟨rfl, hok⟩) | (go_at_call 19; refine (csizeOk c 0 HX.out (by assumption)).mono ?_; rintro e w1 ⟨rfl, hok⟩))
  go_quiet (fail)
  have hok' := hok.drewN nq
  clear hok
  go_wp2_with (first | (go_at_call 7; refine (sbeginOk p c 0 _ _ HB.out (by assumption)).mono ?_; rintro e w1 ⟨rfl, hok⟩) | (go_at_call 18; refine (cslotsOk c s HS.out (by assumption)).mono ?_; rintro e w1 ⟨rfl, hok⟩) | (go_at_call 19; refine (csizeOk c 0 HX.out (by assumption)).mono ?_; rintro e w1 ⟨rfl, hok⟩))
  go_ret2
  exact ⟨rfl, by assumption⟩

theorem sof_none (p c a x : Int) (b : Bool) (h : b = false ∨ a < x) (HB : Hid (Cls.begins p c 0 = (x, b))) {w0 w : World} (hok : ClsOk w0 w) :
    Calls Tryd.prog 9 #[.int .i64 p, .int .i64 c, .int .i64 a] w fun e w' => e = .returned (.tuple #[.int .i64 0, .bool false]) ∧ ClsOk w0 w' := by
  cases b
  · clear h
    go_enter Tryd.func9, Tryd.ntmps9
    go_wp2_with (first | (go_at_call 7; refine (sbeginOk p c 0 _ _ HB.out (by assumption)).mono ?_; rintro e w1 ⟨rfl, hok⟩))
    go_ret2
    exact ⟨rfl, by assumption⟩
  · have d : decide (a < x) = true := by simpa using h
    go_enter Tryd.func9, Tryd.ntmps9
    go_wp2_with (first | (go_at_call 7; refine (sbeginOk p c 0 _ _ HB.out (by assumption)).mono ?_; rintro e w1 ⟨rfl, hok⟩))
    go_ret2
    exact ⟨rfl, by assumption⟩

theorem sofOk (p c a i : Int) (b : Bool) (ha2 : a ≤ 9223372036854775807) (hv : Cls.which p c a = (i, b)) {w0 w : World} (hok : ClsOk w0 w) :
    Calls Tryd.prog 9 #[.int .i64 p, .int .i64 c, .int .i64 a] w fun e w' => e = .returned (.tuple #[.int .i64 i, .bool b]) ∧ ClsOk w0 w' := by
  have hs := Cls.slots_bd c
  have hb := Cls.bytes_bd c
  by_cases h0 : 0 ≤ p ∧ p < 4096 ∧ 0 < Cls.slots c ∧ p * 8192 ≤ a
  · obtain ⟨hp, hp2, h3, ha⟩ := h0
    have HB : Hid (Cls.begins p c 0 = (p * 8192, true)) := hide (by unfold Cls.begins; rw [if_pos ⟨hp, hp2, by omega, by omega⟩]; simp)
    by_cases hx : Cls.bytes c = 0
    · have hf : Cls.far c = 1 := by unfold Cls.far; rw [hx]; rfl
      unfold Cls.which at hv
      rw [hf, Int.ediv_one, Int.emod_one] at hv
      by_cases hq : a - p * 8192 < (Cls.slots c : Int)
      · rw [if_pos ⟨hp, hp2, h3, ha, rfl, hq⟩] at hv
        obtain ⟨rfl, rfl⟩ := Prod.mk.inj hv
        exact sof_in0 p c a _ hp hp2 ha ha2 hq (hide (by rw [hx]; rfl)) (hide rfl) HB hok
      · rw [if_neg (fun h => hq h.2.2.2.2.2)] at hv
        obtain ⟨rfl, rfl⟩ := Prod.mk.inj hv
        exact sof_far0 p c a _ hp hp2 ha ha2 (by omega) (hide (by rw [hx]; rfl)) (hide rfl) HB hok
    · have hf : Cls.far c = (Cls.bytes c : Int) := by unfold Cls.far; omega
      unfold Cls.which at hv
      rw [hf] at hv
      by_cases hr : (a - p * 8192) % (Cls.bytes c : Int) = 0
      · by_cases hq : (a - p * 8192) / (Cls.bytes c : Int) < (Cls.slots c : Int)
        · rw [if_pos ⟨hp, hp2, h3, ha, hr, hq⟩] at hv
          obtain ⟨rfl, rfl⟩ := Prod.mk.inj hv
          exact sof_in p c a _ _ hp hp2 ha ha2 (by omega) (by omega) hr hq (hide rfl) (hide rfl) HB hok
        · rw [if_neg (fun h => hq h.2.2.2.2.2)] at hv
          obtain ⟨rfl, rfl⟩ := Prod.mk.inj hv
          exact sof_far p c a _ _ hp hp2 ha ha2 (by omega) (by omega) hr (Int.not_lt.1 hq) (hide rfl) (hide rfl) HB hok
      · rw [if_neg (fun h => hr h.2.2.2.2.1)] at hv
        obtain ⟨rfl, rfl⟩ := Prod.mk.inj hv
        exact sof_rest p c a _ hp hp2 ha ha2 (by omega) (by omega) hr (hide rfl) HB hok
  · unfold Cls.which at hv
    rw [if_neg (fun h => h0 ⟨h.1, h.2.1, h.2.2.1, h.2.2.2.1⟩)] at hv
    obtain ⟨rfl, rfl⟩ := Prod.mk.inj hv
    by_cases h1 : 0 ≤ p ∧ p < 4096 ∧ 0 < Cls.slots c
    · exact sof_none p c a (p * 8192) true (by omega) (hide (by unfold Cls.begins; rw [if_pos ⟨h1.1, h1.2.1, by omega, by omega⟩]; simp)) hok
    · exact sof_none p c a 0 false (Or.inl rfl) (hide (by unfold Cls.begins; rw [if_neg (by omega)])) hok

end Go.Proofs.YtnmglfaokihhgaaDoor
