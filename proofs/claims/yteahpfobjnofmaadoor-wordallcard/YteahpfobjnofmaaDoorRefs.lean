/- What the reference functions of the statements answer, each at every argument: the same as the functions of package word. -/
import Derived.Test.YteahpfobjnofmaaDoorPlaces
import Derived.Test.YteahpfobjnofmaaDoorMk
import Derived.Test.YteahpfobjnofmaaDoorAwake
namespace Go.Proofs.YteahpfobjnofmaaDoor
open Go.RowKit

theorem or_key (j y : Nat) (hj : j < 18446744073709551616) (hy : y < 64) : bits BinOp.or IntKind.u64 (j : Int) (IntKind.u64.wrap (2 ^ y)) = ((j ||| 2 ^ y : Nat) : Int) := by
  have h2 : 2 ^ y < 2 ^ 64 := Nat.pow_lt_pow_right (by omega) hy
  have e : IntKind.u64.wrap ((2 : Int) ^ y) = ((2 ^ y : Nat) : Int) := by
    rw [IntKind.wrap_u64, show ((2 : Int) ^ y) = ((2 ^ y : Nat) : Int) from by simp]
    generalize 2 ^ y = z at *
    omega
  rw [e, bits_or_u64_nat j (2 ^ y) hj h2]

theorem bitN (x : Nat) (hx : x < 18446744073709551616) (i : Int) (k : Nat) (hi : i = (k : Int)) (hk : k < 64) (b : Bool) (hb : x.testBit k = b) (w : World) :
    Calls Tryd.prog 29 #[.int .u64 (x : Int), .int .i64 i] w fun e w' => e = .returned (.bool b) ∧ w' = w := by
  have h := bit29 x hx i w
  have e : bitAt x i = b := by
    subst hi
    unfold bitAt
    rw [Int.toNat_natCast, hb]
    have : (0 : Int) ≤ (k : Int) ∧ (k : Int) < 64 := by omega
    simp [this]
  rw [e] at h
  exact h

theorem ones16 (n : Int) (w : World) : Calls Tryd.prog 16 #[.int .i64 n] w fun e w' => e = .returned (.int .u64 (Plain.ones (Plain.hold n))) ∧ w' = w := by
  have h32 := hold32 n 64 w
  have e : max 0 (min n 64) = (Plain.hold n : Int) := by rw [Plain.hold_cast]; omega
  rw [e] at h32
  have hm := Plain.hold_le n
  generalize Plain.hold n = m at *
  have H := hide h32
  clear h32 e
  go_enter Tryd.func16, Tryd.ntmps16
  go_wp2
  go_loop [3, 4] (fun a i => ∃ k : Nat, k ≤ m ∧ i = .int .i64 (k : Int) ∧ a = .int .u64 (Plain.mk (fun _ => true) k : Int)) (fun _ i => m - (intOf i).toNat)
  case atStart => exact ⟨0, Nat.zero_le _, rfl, rfl⟩
  case round =>
    obtain ⟨k, hk, rfl, rfl⟩ := hrel
    by_cases hlt : k < m
    · have ho := or_key _ k (Plain.mk_lt (fun _ => true) k (by omega)) (by omega)
      rw [Plain.mk_yes _ k rfl] at ho
      generalize Plain.mk (fun _ => true) k = j at *
      go_wp2_with (go_at_call 32; refine H.out.mono ?_; rintro e w1 ⟨rfl, rfl⟩)
      go_round
      case rel => exact ⟨k + 1, by omega, by go_num, rfl⟩
      case measure => simp [intOf]; omega
    · obtain rfl : k = m := by omega
      rw [Plain.mk_ones]
      go_wp2_with (go_at_call 32; refine H.out.mono ?_; rintro e w1 ⟨rfl, rfl⟩)
      go_ret
      exact ⟨rfl, rfl⟩

theorem field18 (x : Nat) (hx : x < 18446744073709551616) (a n : Int) (w : World) (ha : a ≤ 9223372036854775807) :
    Calls Tryd.prog 18 #[.int .u64 (x : Int), .int .i64 a, .int .i64 n] w fun e w' => e = .returned (.int .u64 (fieldAns x a n)) ∧ w' = w := by
  have h28 := within28 a n w ha
  unfold fieldAns
  by_cases h : isIn a n = true
  · rw [if_pos h]
    rw [h] at h28
    obtain ⟨h1, h2, h3⟩ := (isIn_iff a n).1 h
    obtain ⟨f, rfl⟩ := Int.eq_ofNat_of_zero_le h1
    obtain ⟨l, rfl⟩ := Int.eq_ofNat_of_zero_le h2
    rw [Int.toNat_natCast, Int.toNat_natCast, ← Plain.mk_fld]
    have hfl : f + l ≤ 64 := by omega
    have H := hide h28
    clear h28 h
    go_enter Tryd.func18, Tryd.ntmps18
    go_wp2_with (go_at_call 28; refine H.out.mono ?_; rintro e w1 ⟨rfl, rfl⟩)
    go_loop [7, 8] (fun v i => ∃ k : Nat, k ≤ l ∧ i = .int .i64 (k : Int) ∧ v = .int .u64 (Plain.mk (fun i => x.testBit (f + i)) k : Int)) (fun _ i => l - (intOf i).toNat)
    case atStart => exact ⟨0, Nat.zero_le _, rfl, rfl⟩
    case round =>
      obtain ⟨k, hk, rfl, rfl⟩ := hrel
      by_cases hlt : k < l
      · have hj := Plain.mk_lt (fun i => x.testBit (f + i)) k (by omega)
        cases hb : x.testBit (f + k) with
        | true =>
          have ho := or_key _ k hj (by omega)
          rw [Plain.mk_yes (fun i => x.testBit (f + i)) k hb] at ho
          have HB := hide (bitN x hx ((f : Int) + (k : Int)) (f + k) (by omega) (by omega) true hb)
          clear hb
          generalize Plain.mk (fun i => x.testBit (f + i)) k = j at *
          go_wp2_with (go_at_call 29; refine (HB.out _).mono ?_; rintro e w1 ⟨rfl, rfl⟩)
          go_round
          case rel => exact ⟨k + 1, by omega, by go_num, rfl⟩
          case measure => simp [intOf]; omega
        | false =>
          rw [Plain.mk_no (fun i => x.testBit (f + i)) k hb]
          have HB := hide (bitN x hx ((f : Int) + (k : Int)) (f + k) (by omega) (by omega) false hb)
          clear hb hj
          go_wp2_with (go_at_call 29; refine (HB.out _).mono ?_; rintro e w1 ⟨rfl, rfl⟩)
          go_round
          case rel => exact ⟨k + 1, by omega, by go_num, rfl⟩
          case measure => simp [intOf]; omega
      · obtain rfl : k = l := by omega
        go_wp2
        go_ret
        exact ⟨rfl, rfl⟩
  · rw [if_neg h]
    rw [Bool.not_eq_true] at h
    rw [h] at h28
    have H := hide h28
    clear h28 h
    go_enter Tryd.func18, Tryd.ntmps18
    go_wp2_with (go_at_call 28; refine H.out.mono ?_; rintro e w1 ⟨rfl, rfl⟩)
    go_ret
    exact ⟨rfl, rfl⟩

theorem low12 (x : Nat) (hx : x < 18446744073709551616) (n : Int) (w : World) :
    Calls Tryd.prog 12 #[.int .u64 (x : Int), .int .i64 n] w fun e w' => e = .returned (.tuple #[.int .i64 (lowAns x n).1, .bool (lowAns x n).2]) ∧ w' = w := by
  have h32 := hold32 n 64 w
  have e : max 0 (min n 64) = (Plain.hold n : Int) := by rw [Plain.hold_cast]; omega
  rw [e] at h32
  have hm := Plain.hold_le n
  obtain ⟨A, hA⟩ : ∃ A, lowAns x n = A := ⟨_, rfl⟩
  rw [hA]
  unfold lowAns at hA
  generalize Plain.hold n = m at *
  have HA := hide hA
  have H := hide h32
  clear h32 e hA
  go_enter Tryd.func12, Tryd.ntmps12
  go_wp2
  go_loop [6] (fun i => ∃ k : Nat, k ≤ m ∧ i = .int .i64 (k : Int) ∧ Hid (∀ i, i < k → x.testBit i = true)) (fun i => m - (intOf i).toNat)
  case atStart => exact ⟨0, Nat.zero_le _, rfl, fun i hi => absurd hi (by omega)⟩
  case round =>
    obtain ⟨k, hk, rfl, hall⟩ := hrel
    by_cases hlt : k < m
    · cases hb : x.testBit k with
      | true =>
        have HB := hide (bitN x hx (k : Int) k rfl (by omega) true hb)
        have HB2 := hide hb
        clear hb
        go_wp2_with (first | (go_at_call 32; refine H.out.mono ?_; rintro e w1 ⟨rfl, rfl⟩) | (go_at_call 29; refine (HB.out _).mono ?_; rintro e w1 ⟨rfl, rfl⟩))
        go_round
        case rel =>
          refine ⟨k + 1, by omega, by go_num, fun i hi => ?_⟩
          by_cases he : i = k
          · subst he; exact HB2.out
          · exact hall.out i (by omega)
        case measure => simp [intOf]; omega
      | false =>
        have HB := hide (bitN x hx (k : Int) k rfl (by omega) false hb)
        have hl := Plain.low_iff x k hx (by omega) hb hall.out
        have HL := hide hl
        clear hb hl
        go_wp2_with (first | (go_at_call 32; refine H.out.mono ?_; rintro e w1 ⟨rfl, rfl⟩) | (go_at_call 29; refine (HB.out _).mono ?_; rintro e w1 ⟨rfl, rfl⟩))
        go_ret2
        refine ⟨?_, rfl⟩
        have hA := HA.out
        rw [HL.out, if_pos hlt] at hA
        rw [← hA]
        rfl
    · obtain rfl : k = m := by omega
      have HL := hide (Plain.low_ge x k hx hm hall.out)
      go_wp2_with (go_at_call 32; refine H.out.mono ?_; rintro e w1 ⟨rfl, rfl⟩)
      go_ret2
      refine ⟨?_, rfl⟩
      have hA := HA.out
      rw [if_neg (by have := HL.out; omega)] at hA
      rw [← hA]
      rfl

theorem with10 (x : Nat) (hx : x < 18446744073709551616) (a n : Int) (v : Nat) (hv : v < 18446744073709551616) (w : World) (ha : a ≤ 9223372036854775807) :
    Calls Tryd.prog 10 #[.int .u64 (x : Int), .int .i64 a, .int .i64 n, .int .u64 (v : Int)] w fun e w' => e = .returned (.tuple #[.int .u64 (withAns x a n v).1, .bool (withAns x a n v).2]) ∧ w' = w := by
  have h28 := within28 a n w ha
  have h16 := ones16 n w
  unfold withAns
  by_cases h : isIn a n = true
  · rw [h] at h28
    have H28 := hide h28
    have H16 := hide h16
    clear h28 h16
    by_cases hle : v ≤ Plain.ones (Plain.hold n)
    · rw [if_pos ⟨h, hle⟩]
      have hn := hold_in h
      obtain ⟨h1, h2, h3⟩ := (isIn_iff a n).1 h
      obtain ⟨f, rfl⟩ := Int.eq_ofNat_of_zero_le h1
      obtain ⟨l, rfl⟩ := Int.eq_ofNat_of_zero_le h2
      rw [Int.toNat_natCast] at hn
      rw [Int.toNat_natCast, Int.toNat_natCast, ← Plain.mk_wth x f l v hx (by rw [← hn]; exact hle)]
      have hfl : f + l ≤ 64 := by omega
      generalize Plain.ones (Plain.hold (l : Int)) = o at *
      have hd : decide (o < v) = false := by simp; omega
      have hd' : decide ((o : Int) < (v : Int)) = false := by simp; omega
      clear h hn
      go_enter Tryd.func10, Tryd.ntmps10
      go_wp2_with (first | (go_at_call 28; refine H28.out.mono ?_; rintro e w1 ⟨rfl, rfl⟩) | (go_at_call 16; refine H16.out.mono ?_; rintro e w1 ⟨rfl, rfl⟩))
      go_loop [10, 11] (fun o i => ∃ k : Nat, k ≤ 64 ∧ i = .int .i64 (k : Int) ∧ o = .int .u64 (Plain.mk (Plain.wbit x f l v) k : Int)) (fun _ i => 64 - (intOf i).toNat)
      case atStart => exact ⟨0, Nat.zero_le _, rfl, rfl⟩
      case round =>
        obtain ⟨k, hk, rfl, rfl⟩ := hrel
        by_cases hlt : k < 64
        · have hj := Plain.mk_lt (Plain.wbit x f l v) k (by omega)
          have ho := or_key _ k hj hlt
          have hbx := bitN x hx (k : Int) k rfl hlt
          have hbv := bitN v hv ((k : Int) - (f : Int)) (k - f)
          by_cases hin : f ≤ k ∧ k < f + l
          · have hw : Plain.wbit x f l v k = v.testBit (k - f) := by unfold Plain.wbit; rw [if_pos hin]
            have hc := hide (hbv (by omega) (by omega) _ hw.symm)
            cases hb : Plain.wbit x f l v k with
            | true =>
              rw [Plain.mk_yes _ k hb] at ho
              rw [hb] at hc
              clear hb hw hbx hbv
              generalize Plain.mk (Plain.wbit x f l v) k = j at *
              obtain ⟨i1, i2⟩ := hin
              go_wp2_with (go_at_call 29; refine (hc.out _).mono ?_; rintro e w2 ⟨rfl, rfl⟩)
              go_round
              case rel => exact ⟨k + 1, by omega, by go_num, rfl⟩
              case measure => simp [intOf]; omega
            | false =>
              rw [Plain.mk_no _ k hb]
              rw [hb] at hc
              clear hb hw hbx hbv ho hj
              obtain ⟨i1, i2⟩ := hin
              go_wp2_with (go_at_call 29; refine (hc.out _).mono ?_; rintro e w2 ⟨rfl, rfl⟩)
              go_round
              case rel => exact ⟨k + 1, by omega, by go_num, rfl⟩
              case measure => simp [intOf]; omega
          · have hw : Plain.wbit x f l v k = x.testBit k := by unfold Plain.wbit; rw [if_neg hin]
            have hc := hide (hbx _ hw.symm)
            have hin2 : k < f ∨ f + l ≤ k := by omega
            clear hin
            cases hb : Plain.wbit x f l v k with
            | true =>
              rw [Plain.mk_yes _ k hb] at ho
              rw [hb] at hc
              clear hb hw hbx hbv
              generalize Plain.mk (Plain.wbit x f l v) k = j at *
              rcases hin2 with i1 | i1
              all_goals
                go_wp2_with (go_at_call 29; refine (hc.out _).mono ?_; rintro e w2 ⟨rfl, rfl⟩)
                go_round
                case rel => exact ⟨k + 1, by omega, by go_num, rfl⟩
                case measure => simp [intOf]; omega
            | false =>
              rw [Plain.mk_no _ k hb]
              rw [hb] at hc
              clear hb hw hbx hbv ho hj
              rcases hin2 with i1 | i1
              all_goals
                go_wp2_with (go_at_call 29; refine (hc.out _).mono ?_; rintro e w2 ⟨rfl, rfl⟩)
                go_round
                case rel => exact ⟨k + 1, by omega, by go_num, rfl⟩
                case measure => simp [intOf]; omega
        · obtain rfl : k = 64 := by omega
          go_wp2
          go_ret2
          exact ⟨rfl, rfl⟩
    · rw [if_neg (fun hh => hle hh.2)]
      clear h
      go_enter Tryd.func10, Tryd.ntmps10
      go_wp2_with (first | (go_at_call 28; refine H28.out.mono ?_; rintro e w1 ⟨rfl, rfl⟩) | (go_at_call 16; refine H16.out.mono ?_; rintro e w1 ⟨rfl, rfl⟩))
      go_ret2
      exact ⟨rfl, rfl⟩
  · rw [if_neg (fun hh => h hh.1)]
    rw [Bool.not_eq_true] at h
    rw [h] at h28
    have H28 := hide h28
    clear h28 h h16
    go_enter Tryd.func10, Tryd.ntmps10
    go_wp2_with (first | (go_at_call 28; refine H28.out.mono ?_; rintro e w1 ⟨rfl, rfl⟩))
    go_ret2
    exact ⟨rfl, rfl⟩

end Go.Proofs.YteahpfobjnofmaaDoor
