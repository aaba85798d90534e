/- What the functions of packages tag and dustpanref6 answer, each at every argument. -/
import Derived.Test.YtbfkhbeekdfceaaTg
import Derived.Test.YtbfkhbeekdfceaaLeaves
namespace Go.Proofs.Ytbfkhbeekdfceaa
open Go.RowKit

theorem or_key (t : Nat) (p : Int) (ht : t < 4294967296) (h1 : -1 ≤ p) (h2 : p < 4096) :
    bits BinOp.or IntKind.u64 ((t : Int) * 4294967296) (p + 1) = (Tg.head t p : Int) := by
  obtain ⟨k, hk⟩ : ∃ k : Nat, p + 1 = (k : Int) := ⟨(p + 1).toNat, by omega⟩
  have e : (t : Int) * 4294967296 = ((t * 4294967296 : Nat) : Int) := by simp
  rw [hk, e, bits_or_u64_nat _ _ (by omega) (by omega), Tg.or_head t k (by omega)]
  unfold Tg.head
  omega

theorem make7 (t : Nat) (p : Int) (ht : t < 4294967296) (w : World) :
    Calls Try.prog 7 #[.int .u32 t, .int .i64 p] w fun e w' => e = .returned (.tuple #[.int .u64 (Tg.make t p).1, .bool (Tg.make t p).2]) ∧ w' = w := by
  by_cases h1 : -1 ≤ p
  · by_cases h2 : p < 4096
    · have HK := hide (or_key t p ht h1 h2)
      rw [Tg.make_in t p h1 h2]
      go_enter Try.func7, Try.ntmps7
      go_wp2
      go_ret2
      refine ⟨?_, rfl⟩
      rw [← HK.out]
      rfl
    · rw [Tg.make_out t p (by omega)]
      go_enter Try.func7, Try.ntmps7
      go_wp2
      go_ret2
      exact ⟨rfl, rfl⟩
  · rw [Tg.make_out t p (by omega)]
    go_enter Try.func7, Try.ntmps7
    go_wp2
    go_ret2
    exact ⟨rfl, rfl⟩

theorem rmake8 (t : Nat) (p : Int) (ht : t < 4294967296) (w : World) :
    Calls Try.prog 8 #[.int .u32 t, .int .i64 p] w fun e w' => e = .returned (.tuple #[.int .u64 (Tg.make t p).1, .bool (Tg.make t p).2]) ∧ w' = w := by
  by_cases h1 : -1 ≤ p
  · by_cases h2 : p < 4096
    · have HK := hide (or_key t p ht h1 h2)
      rw [Tg.make_in t p h1 h2]
      go_enter Try.func8, Try.ntmps8
      go_wp2
      go_ret2
      refine ⟨?_, rfl⟩
      rw [← HK.out]
      rfl
    · rw [Tg.make_out t p (by omega)]
      go_enter Try.func8, Try.ntmps8
      go_wp2
      go_ret2
      exact ⟨rfl, rfl⟩
  · rw [Tg.make_out t p (by omega)]
    go_enter Try.func8, Try.ntmps8
    go_wp2
    go_ret2
    exact ⟨rfl, rfl⟩

/-! ### Page, Tag -/

theorem field_low (x : Nat) (hx : x < 18446744073709551616) (w : World) :
    Calls Try.prog 16 #[.int .u64 x, .int .i64 0, .int .i64 32] w fun e w' => e = .returned (.int .u64 (Tg.low x)) ∧ ∃ q, w' = w.drewN q := by
  have h := field17 x hx 0 32 w (by omega)
  have e : fieldAns x 0 32 = Tg.low x := by
    unfold fieldAns
    rw [if_pos (by decide)]
    show x / 2 ^ 0 &&& (2 ^ 32 - 1) = _
    rw [Nat.and_two_pow_sub_one_eq_mod, Nat.pow_zero, Nat.div_one]
    rfl
  rw [e] at h
  exact h

theorem field_tag (x : Nat) (hx : x < 18446744073709551616) (w : World) :
    Calls Try.prog 16 #[.int .u64 x, .int .i64 32, .int .i64 32] w fun e w' => e = .returned (.int .u64 (Tg.tag x)) ∧ ∃ q, w' = w.drewN q := by
  have h := field17 x hx 32 32 w (by omega)
  have e : fieldAns x 32 32 = Tg.tag x := by
    unfold fieldAns
    rw [if_pos (by decide)]
    show x / 2 ^ 32 &&& (2 ^ 32 - 1) = _
    rw [Nat.and_two_pow_sub_one_eq_mod]
    have := Tg.tag_lt x hx
    unfold Tg.tag at *
    omega
  rw [e] at h
  exact h

theorem page11 (x : Nat) (hx : x < 18446744073709551616) (w : World) :
    Calls Try.prog 11 #[.int .u64 x] w fun e w' => e = .returned (.int .i64 (Tg.page x)) ∧ ∃ q, w' = w.drewN q := by
  have H := hide (fun w => field_low x hx w)
  have hl := Tg.low_lt x
  unfold Tg.page
  generalize Tg.low x = y at *
  by_cases h : y ≤ 4096
  · rw [if_pos h]
    go_enter Try.func11, Try.ntmps11
    go_wp2_with (go_at_call 16; refine (H.out _).mono ?_; rintro e w' ⟨rfl, q, rfl⟩)
    go_ret
    exact ⟨rfl, _, rfl⟩
  · rw [if_neg h]
    go_enter Try.func11, Try.ntmps11
    go_wp2_with (go_at_call 16; refine (H.out _).mono ?_; rintro e w' ⟨rfl, q, rfl⟩)
    go_ret
    exact ⟨rfl, _, rfl⟩

theorem tag13 (x : Nat) (hx : x < 18446744073709551616) (w : World) :
    Calls Try.prog 13 #[.int .u64 x] w fun e w' => e = .returned (.int .u32 (Tg.tag x)) ∧ ∃ q, w' = w.drewN q := by
  have H := hide (fun w => field_tag x hx w)
  have hl := Tg.tag_lt x hx
  generalize Tg.tag x = y at *
  go_enter Try.func13, Try.ntmps13
  go_wp2_with (go_at_call 16; refine (H.out _).mono ?_; rintro e w' ⟨rfl, q, rfl⟩)
  go_ret
  exact ⟨ret_int (by first | rfl | omega), _, rfl⟩

theorem next9 (x : Nat) (hx : x < 18446744073709551616) (p : Int) (w : World) :
    Calls Try.prog 9 #[.int .u64 x, .int .i64 p] w fun e w' => e = .returned (.tuple #[.int .u64 (Tg.next x p).1, .bool (Tg.next x p).2]) ∧ ∃ q, w' = w.drewN q := by
  have H := hide (fun w => tag13 x hx w)
  have hl := Tg.tag_lt x hx
  have M := hide (fun w => make7 (Tg.succ (Tg.tag x)) p (Tg.succ_lt _) w)
  have hs : ((Tg.succ (Tg.tag x) : Nat) : Int) = ((Tg.tag x : Int) + 1) % 4294967296 := by unfold Tg.succ; omega
  unfold Tg.next
  rw [hs] at M
  clear hs
  generalize Tg.make (Tg.succ (Tg.tag x)) p = a at *
  obtain ⟨a1, a2⟩ := a
  generalize Tg.tag x = y at *
  go_enter Try.func9, Try.ntmps9
  go_wp2_with (first | (go_at_call 13; refine (H.out _).mono ?_; rintro e w' ⟨rfl, q, rfl⟩) | (go_at_call 7; refine (M.out _).mono ?_; rintro e w' ⟨rfl, rfl⟩))
  go_ret2
  exact ⟨rfl, _, rfl⟩

/-! ### the document's -/

theorem rpage12 (x : Nat) (hx : x < 18446744073709551616) (w : World) :
    Calls Try.prog 12 #[.int .u64 x] w fun e w' => e = .returned (.int .i64 (Tg.page x)) ∧ w' = w := by
  have hy : ((x : Int) % 4294967296) = ((Tg.low x : Nat) : Int) := by unfold Tg.low; omega
  have HM : Hid ((x : Int).tmod 4294967296 = ((Tg.low x : Nat) : Int)) := by show _ = _; rw [Int.tmod_eq_emod_of_nonneg (by omega)]; exact hy
  have hl := Tg.low_lt x
  unfold Tg.page
  generalize Tg.low x = y at *
  by_cases h : y ≤ 4096
  · rw [if_pos h]
    go_enter Try.func12, Try.ntmps12
    go_wp2
    go_ret
    exact ⟨ret_int (by omega), rfl⟩
  · rw [if_neg h]
    go_enter Try.func12, Try.ntmps12
    go_wp2
    go_ret
    exact ⟨rfl, rfl⟩

theorem rtag14 (x : Nat) (hx : x < 18446744073709551616) (w : World) :
    Calls Try.prog 14 #[.int .u64 x] w fun e w' => e = .returned (.int .u32 (Tg.tag x)) ∧ w' = w := by
  have hl := Tg.tag_lt x hx
  have he : ((Tg.tag x : Nat) : Int) = (x : Int) / 4294967296 := by unfold Tg.tag; omega
  have HE := hide he
  generalize Tg.tag x = y at *
  clear he
  go_enter Try.func14, Try.ntmps14
  go_wp2
  go_ret
  exact ⟨ret_int (by have := HE.out; omega), rfl⟩

theorem rnext10 (x : Nat) (hx : x < 18446744073709551616) (p : Int) (w : World) :
    Calls Try.prog 10 #[.int .u64 x, .int .i64 p] w fun e w' => e = .returned (.tuple #[.int .u64 (Tg.next x p).1, .bool (Tg.next x p).2]) ∧ w' = w := by
  have H := hide (fun w => rtag14 x hx w)
  have hl := Tg.tag_lt x hx
  have M := hide (fun w => rmake8 (Tg.succ (Tg.tag x)) p (Tg.succ_lt _) w)
  have hs : ((Tg.succ (Tg.tag x) : Nat) : Int) = ((Tg.tag x : Int) + 1) % 4294967296 := by unfold Tg.succ; omega
  unfold Tg.next
  rw [hs] at M
  clear hs
  generalize Tg.make (Tg.succ (Tg.tag x)) p = a at *
  obtain ⟨a1, a2⟩ := a
  generalize Tg.tag x = y at *
  go_enter Try.func10, Try.ntmps10
  go_wp2_with (first | (go_at_call 14; refine (H.out _).mono ?_; rintro e w' ⟨rfl, rfl⟩) | (go_at_call 8; refine (M.out _).mono ?_; rintro e w' ⟨rfl, rfl⟩))
  go_ret2
  exact ⟨rfl, rfl⟩

/-! ### awake -/

theorem awake15 (w : World) : Calls Try.prog 15 #[] w fun e w' => e = .returned (.bool true) ∧ ∃ q, w' = w.drewN q := by
  have M := hide (fun w => make7 1 0 (by omega) w)
  have H := hide (fun w => page11 0 (by omega) w)
  have e1 : Tg.make 1 0 = (4294967297, true) := by decide
  have e2 : Tg.page 0 = -1 := by decide
  rw [e1] at M
  rw [e2] at H
  go_enter Try.func15, Try.ntmps15
  go_wp2_with (first | (go_at_call 7; refine (M.out _).mono ?_; rintro e w' ⟨rfl, rfl⟩) | (go_at_call 11; refine (H.out _).mono ?_; rintro e w' ⟨rfl, q, rfl⟩))
  go_ret
  exact ⟨rfl, _, rfl⟩

end Go.Proofs.Ytbfkhbeekdfceaa
