/- What the document's calls on lists of bits answer, each at every argument: the next one, how many, are two lists alike. -/
import Derived.Test.YtlicdlpebhalaaaDoorFound
import Derived.LoopNIn
namespace Go.Proofs.YtlicdlpebhalaaaDoor
open Go.RowKit

theorem holdN (n : Int) (k : Nat) (w : World) : Calls Tryd.prog 35 #[.int .i64 n, .int .i64 (64 * (k : Int))] w fun e w' => e = .returned (.int .i64 (heldN n k)) ∧ w' = w := by
  have h := hold32 n (64 * (k : Int)) w
  rw [show max 0 (min n (64 * (k : Int))) = (heldN n k : Int) from by unfold heldN; omega] at h
  exact h

/-- An answer of a place that is found, or of none. -/
def NextAns (l : List Nat) (on : Bool) (lo hi : Nat) (x : Ending) : Prop := ∃ r ok, x = .returned (.tuple #[.int .i64 ((r : Nat) : Int), .bool ok]) ∧ Bitm.NextIs l on lo hi r ok

theorem rnext13 (l : List Nat) (hl : l.length ≤ 1099511627776) (hf : Bitm.Fit l) (a : Option Addr) (c : Nat) (n lo : Int) (hlo : lo ≤ 9223372036854775807) (w : World) (h : WordsIn w a l) :
    Calls Tryd.prog 13 #[.slice a l.length c, .int .i64 n, .int .i64 lo] w fun x w' => NextAns l false lo.toNat (heldN n l.length) x ∧ w' = w := by
  have HR := fun (i : Nat) (hi : i ≤ 64 * l.length) => hide (rhas16 l (by omega) hf a c (i : Int) (by omega) (by omega) w h)
  obtain ⟨z, hz⟩ : ∃ z, lo.toNat = z := ⟨_, rfl⟩
  obtain ⟨k, hk⟩ : ∃ k, l.length = k := ⟨_, rfl⟩
  have hmax : max lo 0 = (z : Int) := by omega
  rw [hz, hk]
  rw [hk] at HR hl
  have hhe : Hid (heldN n k = min n.toNat (64 * k)) := rfl
  generalize heldN n k = e at *
  clear hf h hk hz
  go_enter Tryd.func13, Tryd.ntmps13
  have hstart : Hid (∀ x, z ≤ x → x < z → Bitm.bit l x = true) := fun x h1 h2 => by omega
  by_cases h0 : lo < 0
  · obtain rfl : z = 0 := by omega
    clear hmax
    go_wp2
    go_loopw [8] (fun i wr => ∃ j : Nat, i = .int .i64 (j : Int) ∧ wr = w ∧ 0 ≤ j ∧ Hid (∀ x, 0 ≤ x → x < j → Bitm.bit l x = true)) (fun i _ => 64 * k - (intOf i).toNat)
    case atStart => exact ⟨0, by simp, rfl, Nat.le_refl _, hstart⟩
    case round =>
      obtain ⟨j, rfl, rfl, hzj, hall⟩ := hrel
      by_cases h2 : (j : Int) < n
      · by_cases h3 : (j : Int) < 64 * (k : Int)
        · have hH := HR j (by omega)
          rw [hasAns_nat] at hH
          cases hb : Bitm.bit l j with
          | true =>
            rw [hb] at hH
            have HB := hide hb
            clear hb
            go_wp2_with (go_at_call 16; refine hH.out.mono ?_; rintro e w' ⟨rfl, rfl⟩)
            go_roundw
            case rel => exact ⟨j + 1, by go_num, (by first | rfl | trivial), by omega, fun x h1 h2 => by rcases Nat.lt_or_eq_of_le (Nat.le_of_lt_succ h2) with h | h; exact hall.out x h1 h; rw [h]; exact HB.out⟩
            case measure => simp [intOf]; omega
          | false =>
            rw [hb] at hH
            have HB := hide hb
            clear hb
            go_wp2_with (go_at_call 16; refine hH.out.mono ?_; rintro e w' ⟨rfl, rfl⟩)
            go_ret2
            exact ⟨⟨j, true, rfl, ⟨fun _ => ⟨hzj, by rw [hhe.out]; omega, HB.out, hall.out⟩, fun x => by cases x⟩⟩, rfl⟩
        · go_wp2
          go_ret2
          exact ⟨⟨0, false, rfl, ⟨(fun x => by cases x), fun _ => ⟨rfl, fun x h1 h2 => hall.out x h1 (by rw [hhe.out] at h2; omega)⟩⟩⟩, rfl⟩
      · go_wp2
        go_ret2
        exact ⟨⟨0, false, rfl, ⟨(fun x => by cases x), fun _ => ⟨rfl, fun x h1 h2 => hall.out x h1 (by rw [hhe.out] at h2; omega)⟩⟩⟩, rfl⟩
  · obtain rfl : lo = (z : Int) := by omega
    clear hmax
    go_wp2
    go_loopw [8] (fun i wr => ∃ j : Nat, i = .int .i64 (j : Int) ∧ wr = w ∧ z ≤ j ∧ Hid (∀ x, z ≤ x → x < j → Bitm.bit l x = true)) (fun i _ => 64 * k - (intOf i).toNat)
    case atStart => exact ⟨z, by simp, rfl, Nat.le_refl _, hstart⟩
    case round =>
      obtain ⟨j, rfl, rfl, hzj, hall⟩ := hrel
      by_cases h2 : (j : Int) < n
      · by_cases h3 : (j : Int) < 64 * (k : Int)
        · have hH := HR j (by omega)
          rw [hasAns_nat] at hH
          cases hb : Bitm.bit l j with
          | true =>
            rw [hb] at hH
            have HB := hide hb
            clear hb
            go_wp2_with (go_at_call 16; refine hH.out.mono ?_; rintro e w' ⟨rfl, rfl⟩)
            go_roundw
            case rel => exact ⟨j + 1, by go_num, (by first | rfl | trivial), by omega, fun x h1 h2 => by rcases Nat.lt_or_eq_of_le (Nat.le_of_lt_succ h2) with h | h; exact hall.out x h1 h; rw [h]; exact HB.out⟩
            case measure => simp [intOf]; omega
          | false =>
            rw [hb] at hH
            have HB := hide hb
            clear hb
            go_wp2_with (go_at_call 16; refine hH.out.mono ?_; rintro e w' ⟨rfl, rfl⟩)
            go_ret2
            exact ⟨⟨j, true, rfl, ⟨fun _ => ⟨hzj, by rw [hhe.out]; omega, HB.out, hall.out⟩, fun x => by cases x⟩⟩, rfl⟩
        · go_wp2
          go_ret2
          exact ⟨⟨0, false, rfl, ⟨(fun x => by cases x), fun _ => ⟨rfl, fun x h1 h2 => hall.out x h1 (by rw [hhe.out] at h2; omega)⟩⟩⟩, rfl⟩
      · go_wp2
        go_ret2
        exact ⟨⟨0, false, rfl, ⟨(fun x => by cases x), fun _ => ⟨rfl, fun x h1 h2 => hall.out x h1 (by rw [hhe.out] at h2; omega)⟩⟩⟩, rfl⟩

theorem countAll18 (l : List Nat) (hl : l.length ≤ 1099511627776) (hf : Bitm.Fit l) (a : Option Addr) (c : Nat) (n : Int) (w : World) (h : WordsIn w a l) :
    Calls Tryd.prog 18 #[.slice a l.length c, .int .i64 n] w fun x w' => x = .returned (.int .i64 (Bitm.countTo l (heldN n l.length))) ∧ w' = w := by
  have HR := fun (i : Nat) (hi : i ≤ 64 * l.length) => hide (rhas16 l (by omega) hf a c (i : Int) (by omega) (by omega) w h)
  have HH := hide (holdN n l.length w)
  have he := heldN_le n l.length
  have hcle := Bitm.countTo_le l
  obtain ⟨k, hk⟩ : ∃ k, l.length = k := ⟨_, rfl⟩
  rw [hk] at HR hl HH he ⊢
  generalize heldN n k = e at *
  clear hf h hk
  go_enter Tryd.func18, Tryd.ntmps18
  go_wp2
  go_loopw [5, 6] (fun s i wr => ∃ j : Nat, s = .int .i64 ((Bitm.countTo l j : Nat) : Int) ∧ i = .int .i64 (j : Int) ∧ wr = w ∧ j ≤ e) (fun _ i _ => e - (intOf i).toNat)
  case atStart => exact ⟨0, rfl, rfl, rfl, Nat.zero_le _⟩
  case round =>
    obtain ⟨j, rfl, rfl, rfl, hje⟩ := hrel
    have hcj := hcle j
    have hnext : Hid (Bitm.countTo l (j + 1) = Bitm.countTo l j + (Bitm.bit l j).toNat) := rfl
    by_cases h3 : j < e
    · have hH := HR j (by omega)
      rw [hasAns_nat] at hH
      cases hb : Bitm.bit l j with
      | true =>
        rw [hb] at hH hnext
        clear hb
        generalize Bitm.countTo l j = s at *
        go_wp2_with (first | (go_at_call 16; refine hH.out.mono ?_; rintro e w' ⟨rfl, rfl⟩) | (go_at_call 35; refine HH.out.mono ?_; rintro e w' ⟨rfl, rfl⟩))
        go_roundw
        case rel => exact ⟨j + 1, by rw [hnext.out]; go_num, by go_num, (by first | rfl | trivial), by omega⟩
        case measure => simp [intOf]; omega
      | false =>
        rw [hb] at hH hnext
        clear hb
        generalize Bitm.countTo l j = s at *
        go_wp2_with (first | (go_at_call 16; refine hH.out.mono ?_; rintro e w' ⟨rfl, rfl⟩) | (go_at_call 35; refine HH.out.mono ?_; rintro e w' ⟨rfl, rfl⟩))
        go_roundw
        case rel => exact ⟨j + 1, by rw [hnext.out]; rfl, by go_num, (by first | rfl | trivial), by omega⟩
        case measure => simp [intOf]; omega
    · obtain rfl : j = e := by omega
      go_wp2_with (first | (go_at_call 35; refine HH.out.mono ?_; rintro e w' ⟨rfl, rfl⟩))
      go_ret
      exact ⟨rfl, rfl⟩

theorem sameWords14 (l : List Nat) (hl : l.length ≤ 1099511627776) (a b : Option Addr) (ca cb : Nat) (w : World) (ha : WordsIn w a l) (hb : WordsIn w b l) :
    Calls Tryd.prog 14 #[.slice a l.length ca, .slice b l.length cb] w fun e W' => e = .returned (.bool true) ∧ ∃ q, W' = w.drewN q := by
  have HA := hide ha
  have HB := hide hb
  clear ha hb
  obtain ⟨c, hc⟩ : ∃ c, l.length = c := ⟨_, rfl⟩
  rw [hc] at hl ⊢
  have HC := hide hc
  clear hc
  go_enter Tryd.func14, Tryd.ntmps14
  go_wp2
  go_loopw [5] (fun i wr => ∃ k q : Nat, k ≤ c ∧ i = .int .i64 (k : Int) ∧ wr = w.drewN q) (fun i _ => c - (intOf i).toNat)
  case atStart => exact ⟨0, 0, Nat.zero_le _, rfl, rfl⟩
  case round =>
    obtain ⟨k, q, hk, rfl, rfl⟩ := hrel
    by_cases hlt : k < c
    · obtain ⟨g, o, rfl, hg, hcell⟩ := HA.out.word (q := k) (by rw [HC.out]; exact hlt)
      obtain ⟨g2, o2, rfl, hg2, hcell2⟩ := HB.out.word (q := k) (by rw [HC.out]; exact hlt)
      generalize l.getD k 0 = y at *
      go_wp2_with fail
      go_quiet (fail)
      go_wp2
      go_roundw
      case rel => exact ⟨k + 1, _, by omega, by go_num, rfl⟩
      case measure => simp [intOf]; omega
    · obtain rfl : k = c := by omega
      go_wp2
      go_ret
      exact ⟨rfl, _, rfl⟩

theorem sameRuns19 (l : List (Nat × Nat)) (hl : l.length ≤ 1099511627776) (va vb : Value) (w : World) (ha : PairsV .i64 w va l) (hb : PairsV .i64 w vb l) :
    Calls Tryd.prog 19 #[va, vb] w fun e W' => e = .returned (.bool true) ∧ ∃ q, W' = w.drewN q := by
  obtain ⟨a, ca, rfl, ha⟩ := ha
  obtain ⟨b, cb, rfl, hb⟩ := hb
  have HA := hide ha
  have HB := hide hb
  clear ha hb
  obtain ⟨c, hc⟩ : ∃ c, l.length = c := ⟨_, rfl⟩
  rw [hc] at hl ⊢
  have HC := hide hc
  clear hc
  go_enter Tryd.func19, Tryd.ntmps19
  go_wp2
  go_loopw [5] (fun i wr => ∃ k q : Nat, k ≤ c ∧ i = .int .i64 (k : Int) ∧ wr = w.drewN q) (fun i _ => c - (intOf i).toNat)
  case atStart => exact ⟨0, 0, Nat.zero_le _, rfl, rfl⟩
  case round =>
    obtain ⟨k, q, hk, rfl, rfl⟩ := hrel
    by_cases hlt : k < c
    · obtain ⟨g, rfl, hg, hcell, hcell'⟩ := HA.out.at (i := k) (by rw [HC.out]; exact hlt)
      obtain ⟨g2, rfl, hg2, hcell2, hcell2'⟩ := HB.out.at (i := k) (by rw [HC.out]; exact hlt)
      generalize (l.getD k (0, 0)).1 = y at *
      generalize (l.getD k (0, 0)).2 = z at *
      rw [Nat.mul_comm 2 k] at hcell hcell' hcell2 hcell2'
      go_wp2_with fail
      go_quiet (fail)
      go_wp2
      go_roundw
      case rel => exact ⟨k + 1, _, by omega, by go_num, rfl⟩
      case measure => simp [intOf]; omega
    · obtain rfl : k = c := by omega
      go_wp2
      go_ret
      exact ⟨rfl, _, rfl⟩

theorem sameParts24 (l : List (Nat × Nat)) (hl : l.length ≤ 1099511627776) (va vb : Value) (w : World) (ha : PairsV .u64 w va l) (hb : PairsV .u64 w vb l) :
    Calls Tryd.prog 24 #[va, vb] w fun e W' => e = .returned (.bool true) ∧ ∃ q, W' = w.drewN q := by
  obtain ⟨a, ca, rfl, ha⟩ := ha
  obtain ⟨b, cb, rfl, hb⟩ := hb
  have HA := hide ha
  have HB := hide hb
  clear ha hb
  obtain ⟨c, hc⟩ : ∃ c, l.length = c := ⟨_, rfl⟩
  rw [hc] at hl ⊢
  have HC := hide hc
  clear hc
  go_enter Tryd.func24, Tryd.ntmps24
  go_wp2
  go_loopw [5] (fun i wr => ∃ k q : Nat, k ≤ c ∧ i = .int .i64 (k : Int) ∧ wr = w.drewN q) (fun i _ => c - (intOf i).toNat)
  case atStart => exact ⟨0, 0, Nat.zero_le _, rfl, rfl⟩
  case round =>
    obtain ⟨k, q, hk, rfl, rfl⟩ := hrel
    by_cases hlt : k < c
    · obtain ⟨g, rfl, hg, hcell, hcell'⟩ := HA.out.at (i := k) (by rw [HC.out]; exact hlt)
      obtain ⟨g2, rfl, hg2, hcell2, hcell2'⟩ := HB.out.at (i := k) (by rw [HC.out]; exact hlt)
      generalize (l.getD k (0, 0)).1 = y at *
      generalize (l.getD k (0, 0)).2 = z at *
      rw [Nat.mul_comm 2 k] at hcell hcell' hcell2 hcell2'
      go_wp2_with fail
      go_quiet (fail)
      go_wp2
      go_roundw
      case rel => exact ⟨k + 1, _, by omega, by go_num, rfl⟩
      case measure => simp [intOf]; omega
    · obtain rfl : k = c := by omega
      go_wp2
      go_ret
      exact ⟨rfl, _, rfl⟩

end Go.Proofs.YtlicdlpebhalaaaDoor
