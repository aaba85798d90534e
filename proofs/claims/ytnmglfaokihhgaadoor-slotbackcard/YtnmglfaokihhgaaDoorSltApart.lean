/- How many bytes a slot has, and whether bytes are apart: the program's calls and the document's. -/
import Derived.Test.YtnmglfaokihhgaaDoorSltRef
namespace Go.Proofs.YtnmglfaokihhgaaDoor
open Go.RowKit

namespace Cls
/-- How many bytes a slot of class c has, of so many pages. -/
def bytesOf (c n : Int) : Int := if c ≠ 14 then (bytes c : Int) else if n < 1 ∨ 4096 < n then 0 else n * 8192
def nears (x : Int) : Prop := 0 ≤ x ∧ x ≤ 1099511627776
instance (x : Int) : Decidable (nears x) := by unfold nears; infer_instance
/-- Have n bytes from a on, and m from t on, none in common? -/
def aparts (a n t m : Int) : Bool := if nears a ∧ nears n ∧ nears t ∧ nears m then (n == 0) || (m == 0) || decide (a + n ≤ t) || decide (t + m ≤ a) else false
end Cls

theorem near_in (x : Int) (h : Cls.nears x) (w : World) : Calls Tryd.prog 21 #[.int .i64 x] w fun e w' => e = .returned (.bool true) ∧ w' = w := by
  have d1 : decide (0 ≤ x) = true := by simpa using h.1
  have d2 : decide (x ≤ 1099511627776) = true := by simpa using h.2
  go_enter Tryd.func21, Tryd.ntmps21
  go_wp2
  go_ret
  exact ⟨rfl, rfl⟩

theorem near_out (x : Int) (h : ¬ Cls.nears x) (w : World) : Calls Tryd.prog 21 #[.int .i64 x] w fun e w' => e = .returned (.bool false) ∧ w' = w := by
  by_cases h1 : 0 ≤ x
  · have d1 : decide (0 ≤ x) = true := by simpa using h1
    have d2 : decide (x ≤ 1099511627776) = false := by simp; have : ¬ (x ≤ 1099511627776) := fun h2 => h ⟨h1, h2⟩; omega
    clear h
    go_enter Tryd.func21, Tryd.ntmps21
    go_wp2
    go_ret
    exact ⟨rfl, rfl⟩
  · have d1 : decide (0 ≤ x) = false := by simp; omega
    clear h h1
    go_enter Tryd.func21, Tryd.ntmps21
    go_wp2
    go_ret
    exact ⟨rfl, rfl⟩

theorem nearOk (x : Int) (b : Bool) (h : decide (Cls.nears x) = b) (w : World) : Calls Tryd.prog 21 #[.int .i64 x] w fun e w' => e = .returned (.bool b) ∧ w' = w := by
  subst h
  by_cases h : Cls.nears x
  · rw [decide_eq_true h]; exact near_in x h w
  · rw [decide_eq_false h]; exact near_out x h w

set_option maxHeartbeats 2000000 in
theorem sapart_in (a n t m : Int) (h1 : Cls.nears a) (h2 : Cls.nears n) (h3 : Cls.nears t) (h4 : Cls.nears m) (x y z u : Bool) (e1 : (n == 0) = x) (e2 : (m == 0) = y) (e3 : decide (a + n ≤ t) = z) (e4 : decide (t + m ≤ a) = u) (w : World) :
    Calls Tryd.prog 13 #[.int .i64 a, .int .i64 n, .int .i64 t, .int .i64 m] w fun e w' => e = .returned (.bool (x || y || z || u)) ∧ w' = w := by
  have N1 := hide (fun w => nearOk a true (decide_eq_true h1) w)
  have N2 := hide (fun w => nearOk n true (decide_eq_true h2) w)
  have N3 := hide (fun w => nearOk t true (decide_eq_true h3) w)
  have N4 := hide (fun w => nearOk m true (decide_eq_true h4) w)
  unfold Cls.nears at h1 h2 h3 h4
  cases x <;> cases y <;> cases z <;> cases u <;> (
    go_enter Tryd.func13, Tryd.ntmps13
    go_wp2_with fail
    refine (N1.out _).mono ?_
    rintro e w1 ⟨rfl, rfl⟩
    go_wp2_with fail
    refine (N2.out _).mono ?_
    rintro e w1 ⟨rfl, rfl⟩
    go_wp2_with fail
    refine (N3.out _).mono ?_
    rintro e w1 ⟨rfl, rfl⟩
    go_wp2_with fail
    refine (N4.out _).mono ?_
    rintro e w1 ⟨rfl, rfl⟩
    go_wp2
    go_ret
    exact ⟨rfl, rfl⟩)

theorem sapart_out (a n t m : Int) (h : ¬ (Cls.nears a ∧ Cls.nears n ∧ Cls.nears t ∧ Cls.nears m)) (w : World) :
    Calls Tryd.prog 13 #[.int .i64 a, .int .i64 n, .int .i64 t, .int .i64 m] w fun e w' => e = .returned (.bool false) ∧ w' = w := by
  by_cases h1 : Cls.nears a
  case neg =>
    have N1 := hide (fun w => nearOk a false (decide_eq_false h1) w)
    clear h h1
    go_enter Tryd.func13, Tryd.ntmps13
    go_wp2_with fail
    refine (N1.out _).mono ?_
    rintro e w1 ⟨rfl, rfl⟩
    go_wp2
    go_ret
    exact ⟨rfl, rfl⟩
  have N1 := hide (fun w => nearOk a true (decide_eq_true h1) w)
  by_cases h2 : Cls.nears n
  case neg =>
    have N2 := hide (fun w => nearOk n false (decide_eq_false h2) w)
    clear h h1 h2
    go_enter Tryd.func13, Tryd.ntmps13
    go_wp2_with fail
    refine (N1.out _).mono ?_
    rintro e w1 ⟨rfl, rfl⟩
    go_wp2_with fail
    refine (N2.out _).mono ?_
    rintro e w1 ⟨rfl, rfl⟩
    go_wp2
    go_ret
    exact ⟨rfl, rfl⟩
  have N2 := hide (fun w => nearOk n true (decide_eq_true h2) w)
  by_cases h3 : Cls.nears t
  case neg =>
    have N3 := hide (fun w => nearOk t false (decide_eq_false h3) w)
    clear h h1 h2 h3
    go_enter Tryd.func13, Tryd.ntmps13
    go_wp2_with fail
    refine (N1.out _).mono ?_
    rintro e w1 ⟨rfl, rfl⟩
    go_wp2_with fail
    refine (N2.out _).mono ?_
    rintro e w1 ⟨rfl, rfl⟩
    go_wp2_with fail
    refine (N3.out _).mono ?_
    rintro e w1 ⟨rfl, rfl⟩
    go_wp2
    go_ret
    exact ⟨rfl, rfl⟩
  have N3 := hide (fun w => nearOk t true (decide_eq_true h3) w)
  have N4 := hide (fun w => nearOk m false (decide_eq_false (fun h4 => h ⟨h1, h2, h3, h4⟩)) w)
  clear h h1 h2 h3
  go_enter Tryd.func13, Tryd.ntmps13
  go_wp2_with fail
  refine (N1.out _).mono ?_
  rintro e w1 ⟨rfl, rfl⟩
  go_wp2_with fail
  refine (N2.out _).mono ?_
  rintro e w1 ⟨rfl, rfl⟩
  go_wp2_with fail
  refine (N3.out _).mono ?_
  rintro e w1 ⟨rfl, rfl⟩
  go_wp2_with fail
  refine (N4.out _).mono ?_
  rintro e w1 ⟨rfl, rfl⟩
  go_wp2
  go_ret
  exact ⟨rfl, rfl⟩

theorem sapartOk (a n t m : Int) (b : Bool) (hv : Cls.aparts a n t m = b) {w0 w : World} (hok : ClsOk w0 w) :
    Calls Tryd.prog 13 #[.int .i64 a, .int .i64 n, .int .i64 t, .int .i64 m] w fun e w' => e = .returned (.bool b) ∧ ClsOk w0 w' := by
  subst hv
  unfold Cls.aparts
  split
  · rename_i h
    exact (sapart_in a n t m h.1 h.2.1 h.2.2.1 h.2.2.2 _ _ _ _ rfl rfl rfl rfl w).mono fun _ _ ⟨he, hw⟩ => ⟨he, hw ▸ hok⟩
  · rename_i h
    exact (sapart_out a n t m h w).mono fun _ _ ⟨he, hw⟩ => ⟨he, hw ▸ hok⟩

theorem sbytesOk (c n x : Int) (hv : Cls.bytesOf c n = x) {w0 w : World} (hok : ClsOk w0 w) :
    Calls Tryd.prog 11 #[.int .i64 c, .int .i64 n] w fun e w' => e = .returned (.int .i64 x) ∧ ClsOk w0 w' := by
  unfold Cls.bytesOf at hv
  by_cases hc : c = 14
  · rw [if_neg (by simpa using hc)] at hv
    subst hc
    by_cases h1 : n < 1
    · rw [if_pos (Or.inl h1)] at hv
      subst hv
      have d1 : decide (n < 1) = true := by simpa using h1
      clear h1
      go_enter Tryd.func11, Tryd.ntmps11
      go_wp2
      go_ret
      exact ⟨rfl, hok⟩
    have d1 : decide (n < 1) = false := by simpa using h1
    by_cases h2 : 4096 < n
    · rw [if_pos (Or.inr h2)] at hv
      subst hv
      have d2 : decide (4096 < n) = true := by simpa using h2
      clear h1 h2
      go_enter Tryd.func11, Tryd.ntmps11
      go_wp2
      go_ret
      exact ⟨rfl, hok⟩
    have d2 : decide (4096 < n) = false := by simpa using h2
    rw [if_neg (by omega)] at hv
    subst hv
    go_enter Tryd.func11, Tryd.ntmps11
    go_wp2
    go_ret
    exact ⟨rfl, hok⟩
  · rw [if_pos hc] at hv
    have HX := hide hv
    have d : (c == 14) = false := by simpa using hc
    clear hv
    go_enter Tryd.func11, Tryd.ntmps11
    go_wp2_with (first | (go_at_call 19; refine (csizeOk c x HX.out (by assumption)).mono ?_; rintro e w1 ⟨rfl, hok⟩))
    go_ret
    exact ⟨rfl, by assumption⟩

theorem rbytesOk (c n x : Int) (hv : Cls.bytesOf c n = x) {w0 w : World} (hok : ClsOk w0 w) :
    Calls Tryd.prog 12 #[.int .i64 c, .int .i64 n] w fun e w' => e = .returned (.int .i64 x) ∧ ClsOk w0 w' := by
  unfold Cls.bytesOf at hv
  by_cases hc : c = 14
  · rw [if_neg (by simpa using hc)] at hv
    subst hc
    by_cases h1 : n < 1
    · rw [if_pos (Or.inl h1)] at hv
      subst hv
      have d1 : decide (n < 1) = true := by simpa using h1
      clear h1
      go_enter Tryd.func12, Tryd.ntmps12
      go_wp2
      go_ret
      exact ⟨rfl, hok⟩
    have d1 : decide (n < 1) = false := by simpa using h1
    by_cases h2 : 4096 < n
    · rw [if_pos (Or.inr h2)] at hv
      subst hv
      have d2 : decide (4096 < n) = true := by simpa using h2
      clear h1 h2
      go_enter Tryd.func12, Tryd.ntmps12
      go_wp2
      go_ret
      exact ⟨rfl, hok⟩
    have d2 : decide (4096 < n) = false := by simpa using h2
    rw [if_neg (by omega)] at hv
    subst hv
    go_enter Tryd.func12, Tryd.ntmps12
    go_wp2
    go_ret
    exact ⟨rfl, hok⟩
  · rw [if_pos hc] at hv
    have HX := hide hv
    have d : (c == 14) = false := by simpa using hc
    clear hv
    go_enter Tryd.func12, Tryd.ntmps12
    go_wp2_with (first | (go_at_call 20; refine (rsizeOk c x HX.out (by assumption)).mono ?_; rintro e w1 ⟨rfl, hok⟩))
    go_ret
    exact ⟨rfl, by assumption⟩

end Go.Proofs.YtnmglfaokihhgaaDoor
