/- What the functions of packages tag and dustpanref6 answer, each at every argument. -/
import Derived.Test.YtigokeocphbffaaTg
import Derived.Test.YtigokeocphbffaaLeaves
namespace Go.Proofs.Ytigokeocphbffaa
open Go.RowKit

theorem or_key (t : Nat) (p : Int) (ht : t < 4294967296) (h1 : -1 ≤ p) (h2 : p < 4096) :
    bits BinOp.or IntKind.u64 ((t : Int) * 4294967296) (p + 1) = (Tg.head t p : Int) := by
  obtain ⟨k, hk⟩ : ∃ k : Nat, p + 1 = (k : Int) := ⟨(p + 1).toNat, by omega⟩
  have e : (t : Int) * 4294967296 = ((t * 4294967296 : Nat) : Int) := by simp
  rw [hk, e, bits_or_u64_nat _ _ (by omega) (by omega), Tg.or_head t k (by omega)]
  unfold Tg.head
  omega

theorem make7 (t : Nat) (p : Int) (ht : t < 4294967296) (w : World) :
    Calls Try.prog 82 #[.int .u32 t, .int .i64 p] w fun e w' => e = .returned (.tuple #[.int .u64 (Tg.make t p).1, .bool (Tg.make t p).2]) ∧ w' = w := by
  by_cases h1 : -1 ≤ p
  · by_cases h2 : p < 4096
    · have HK := hide (or_key t p ht h1 h2)
      rw [Tg.make_in t p h1 h2]
      go_enter Try.func82, Try.ntmps82
      go_wp2
      go_ret2
      refine ⟨?_, rfl⟩
      rw [← HK.out]
      rfl
    · rw [Tg.make_out t p (by omega)]
      go_enter Try.func82, Try.ntmps82
      go_wp2
      go_ret2
      exact ⟨rfl, rfl⟩
  · rw [Tg.make_out t p (by omega)]
    go_enter Try.func82, Try.ntmps82
    go_wp2
    go_ret2
    exact ⟨rfl, rfl⟩

/-! ### Page, Tag -/

theorem field_low (x : Nat) (hx : x < 18446744073709551616) (w : World) :
    Calls Try.prog 45 #[.int .u64 x, .int .i64 0, .int .i64 32] w fun e w' => e = .returned (.int .u64 (Tg.low x)) ∧ ∃ q, w' = w.drewN q := by
  have h := field17 x hx 0 32 w (by omega)
  have e : fieldAns x 0 32 = Tg.low x := by
    unfold fieldAns
    rw [if_pos (by decide)]
    show x / 2 ^ 0 &&& (2 ^ 32 - 1) = _
    rw [Nat.and_two_pow_sub_one_eq_mod, Nat.pow_zero, Nat.div_one]
    rfl
  rw [e] at h
  exact h

theorem field_tag (x : Nat) (hx : x < 18446744073709551616) (w : World) :
    Calls Try.prog 45 #[.int .u64 x, .int .i64 32, .int .i64 32] w fun e w' => e = .returned (.int .u64 (Tg.tag x)) ∧ ∃ q, w' = w.drewN q := by
  have h := field17 x hx 32 32 w (by omega)
  have e : fieldAns x 32 32 = Tg.tag x := by
    unfold fieldAns
    rw [if_pos (by decide)]
    show x / 2 ^ 32 &&& (2 ^ 32 - 1) = _
    rw [Nat.and_two_pow_sub_one_eq_mod]
    have := Tg.tag_lt x hx
    unfold Tg.tag at *
    omega
  rw [e] at h
  exact h

theorem page11 (x : Nat) (hx : x < 18446744073709551616) (w : World) :
    Calls Try.prog 39 #[.int .u64 x] w fun e w' => e = .returned (.int .i64 (Tg.page x)) ∧ ∃ q, w' = w.drewN q := by
  have H := hide (fun w => field_low x hx w)
  have hl := Tg.low_lt x
  unfold Tg.page
  generalize Tg.low x = y at *
  by_cases h : y ≤ 4096
  · rw [if_pos h]
    go_enter Try.func39, Try.ntmps39
    go_wp2_with (go_at_call 45; refine (H.out _).mono ?_; rintro e w' ⟨rfl, q, rfl⟩)
    go_ret
    exact ⟨rfl, _, rfl⟩
  · rw [if_neg h]
    go_enter Try.func39, Try.ntmps39
    go_wp2_with (go_at_call 45; refine (H.out _).mono ?_; rintro e w' ⟨rfl, q, rfl⟩)
    go_ret
    exact ⟨rfl, _, rfl⟩

theorem tag13 (x : Nat) (hx : x < 18446744073709551616) (w : World) :
    Calls Try.prog 19 #[.int .u64 x] w fun e w' => e = .returned (.int .u32 (Tg.tag x)) ∧ ∃ q, w' = w.drewN q := by
  have H := hide (fun w => field_tag x hx w)
  have hl := Tg.tag_lt x hx
  generalize Tg.tag x = y at *
  go_enter Try.func19, Try.ntmps19
  go_wp2_with (go_at_call 45; refine (H.out _).mono ?_; rintro e w' ⟨rfl, q, rfl⟩)
  go_ret
  exact ⟨ret_int (by first | rfl | omega), _, rfl⟩

theorem next9 (x : Nat) (hx : x < 18446744073709551616) (p : Int) (w : World) :
    Calls Try.prog 62 #[.int .u64 x, .int .i64 p] w fun e w' => e = .returned (.tuple #[.int .u64 (Tg.next x p).1, .bool (Tg.next x p).2]) ∧ ∃ q, w' = w.drewN q := by
  have H := hide (fun w => tag13 x hx w)
  have hl := Tg.tag_lt x hx
  have M := hide (fun w => make7 (Tg.succ (Tg.tag x)) p (Tg.succ_lt _) w)
  have hs : ((Tg.succ (Tg.tag x) : Nat) : Int) = ((Tg.tag x : Int) + 1) % 4294967296 := by unfold Tg.succ; omega
  unfold Tg.next
  rw [hs] at M
  clear hs
  generalize Tg.make (Tg.succ (Tg.tag x)) p = a at *
  obtain ⟨a1, a2⟩ := a
  generalize Tg.tag x = y at *
  go_enter Try.func62, Try.ntmps62
  go_wp2_with (first | (go_at_call 19; refine (H.out _).mono ?_; rintro e w' ⟨rfl, q, rfl⟩) | (go_at_call 82; refine (M.out _).mono ?_; rintro e w' ⟨rfl, rfl⟩))
  go_ret2
  exact ⟨rfl, _, rfl⟩

/-! ### the document's -/

/-! ### awake -/

end Go.Proofs.Ytigokeocphbffaa
