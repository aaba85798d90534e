/- What the reference functions of the statements that go over lists of places answer, each at every argument. -/
import Derived.Test.YtlicdlpebhalaaaDoorRefs
namespace Go.Proofs.YtlicdlpebhalaaaDoor
open Go.RowKit

theorem below_append {n₀ : Nat} {w W w3 : World} {tmp : Obj} {v : Value} {k : Nat} {xs : List Value} (hB : Below n₀ w W) (hn : n₀ ≤ w.heap.size) (hrow : W.ownsRow n₀ 3 1 v k xs)
    (hgrow : (W.alloc tmp).grownBy w3 v.ownBlock) : Below n₀ w w3 := by
  refine (hB.alloc (Nat.le_trans hn hB.size) tmp).grown hgrow (by have := hB.size; simp; omega) (fun j ej => ?_)
  rcases hrow.2 with ⟨rfl, _⟩ | ⟨g, cap, cur, rfl, hb, _, _⟩
  · simp [Value.ownBlock] at ej
  · obtain rfl : g = j := by simpa [Value.ownBlock] using ej
    exact hb

set_option maxHeartbeats 1000000 in
theorem places25 (x : Nat) (hx : x < 18446744073709551616) (w : World) :
    Calls Tryd.prog 39 #[.int .u64 (x : Int)] w fun e W' => ∃ a cap, e = .returned (.slice a (Plain.cnt x) cap) ∧ RowAt W' w.heap.size a (Plain.pls x) ∧ Below w.heap.size w W' := by
  obtain ⟨i0, hi, hz0, hz1, hz2⟩ := info_parts info3
  go_enter Tryd.func39, Tryd.ntmps39
  go_wp2
  go_loopw [3, 4] (fun v i wr => ∃ k : Nat, k ≤ 64 ∧ i = .int .i64 (k : Int) ∧ Hid (wr.ownsRow w.heap.size 3 1 v (Plain.upTo x k).length (vals (Plain.upTo x k)) ∧ Below w.heap.size w wr)) (fun _ i _ => 64 - (intOf i).toNat)
  case atStart => exact ⟨0, Nat.zero_le _, rfl, World.ownsRow_nil _ _ _ _, Below.refl _ _⟩
  case round =>
    obtain ⟨k, hk, rfl, hH⟩ := hrel
    obtain ⟨hown, hB⟩ := hH.out
    have hul : (Plain.upTo x k).length ≤ k := Nat.le_trans (List.length_filter_le _ _) (by simp)
    have hu := Plain.upTo_succ x k
    by_cases hlt : k < 64
    · cases hb : x.testBit k with
      | true =>
        rw [hb, if_pos rfl] at hu
        have HB := hide (bitN x hx (k : Int) k rfl hlt true hb)
        have HU := hide hu
        have HBel := hide hB
        have HO := hide hown
        clear hb hu hB hown hH
        go_wp2_with (first | (go_at_call 33; refine (HB.out _).mono ?_; rintro e w1 ⟨rfl, rfl⟩) | (at_builtin; refine wpList_append_own _ rfl _ _ 63 rfl w.heap.size 3 i0 (.int .i64 0) 1 8 Tryd.underlying63 hi hz0 hz1 hz2 rfl (by decide) _ _ _ rfl (HO.out.alloc _) ⟨_, 0, none⟩ 1 1 [.int .i64 (k : Int)] rfl rfl (cell_one_new _ _ _) (by simp [Value.oneCell']) (by unfold maxLen; omega) (by omega) (by have := HBel.out.size; simp; omega) ?_; intro v' w3 hown' hgrow' _))
        refine ⟨⟨k + 1, by omega, by go_num, ?_, below_append HBel.out (Nat.le_refl _) HO.out hgrow'⟩, by simp [intOf]; omega⟩
        rw [HU.out]
        simpa [vals] using hown'
      | false =>
        rw [hb, if_neg (by simp)] at hu
        have HB := hide (bitN x hx (k : Int) k rfl hlt false hb)
        have HU := hide hu
        clear hb hu hB hown
        go_wp2_with (first | (go_at_call 33; refine (HB.out _).mono ?_; rintro e w1 ⟨rfl, rfl⟩))
        go_roundw
        case rel => exact ⟨k + 1, by omega, by go_num, by rw [HU.out]; exact hH⟩
        case measure => simp [intOf]; omega
    · obtain rfl : k = 64 := by omega
      clear hu hB hown
      go_wp2
      go_ret
      obtain ⟨hown, hB⟩ := hH.out
      obtain ⟨a, cap, rfl, hr⟩ := rowAt_of_owns hown
      exact ⟨a, cap, rfl, hr, hB⟩

theorem count20 (x : Nat) (hx : x < 18446744073709551616) (w : World) :
    Calls Tryd.prog 26 #[.int .u64 (x : Int)] w fun e W' => e = .returned (.int .i64 (Plain.cnt x)) ∧ Below w.heap.size w W' := by
  have H := hide (places25 x hx w)
  have hc := Plain.cnt_le x
  generalize Plain.cnt x = c at *
  go_enter Tryd.func26, Tryd.ntmps26
  go_wp2_with fail
  refine H.out.mono ?_
  rintro e w1 ⟨a, cap, rfl, _, hb⟩
  go_wp2
  go_ret
  exact ⟨rfl, hb⟩

end Go.Proofs.YtlicdlpebhalaaaDoor
