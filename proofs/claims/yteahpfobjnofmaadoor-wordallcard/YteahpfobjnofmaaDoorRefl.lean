/- What the reference functions of the statements that go over lists of places answer, each at every argument. -/
import Derived.Test.YteahpfobjnofmaaDoorRefs
namespace Go.Proofs.YteahpfobjnofmaaDoor
open Go.RowKit

theorem below_append {n₀ : Nat} {w W w3 : World} {tmp : Obj} {v : Value} {k : Nat} {xs : List Value} (hB : Below n₀ w W) (hn : n₀ ≤ w.heap.size) (hrow : W.ownsRow n₀ 3 1 v k xs)
    (hgrow : (W.alloc tmp).grownBy w3 v.ownBlock) : Below n₀ w w3 := by
  refine (hB.alloc (Nat.le_trans hn hB.size) tmp).grown hgrow (by have := hB.size; simp; omega) (fun j ej => ?_)
  rcases hrow.2 with ⟨rfl, _⟩ | ⟨g, cap, cur, rfl, hb, _, _⟩
  · simp [Value.ownBlock] at ej
  · obtain rfl : g = j := by simpa [Value.ownBlock] using ej
    exact hb

set_option maxHeartbeats 1000000 in
theorem places25 (x : Nat) (hx : x < 18446744073709551616) (w : World) :
    Calls Tryd.prog 25 #[.int .u64 (x : Int)] w fun e W' => ∃ a cap, e = .returned (.slice a (Plain.cnt x) cap) ∧ RowAt W' w.heap.size a (Plain.pls x) ∧ Below w.heap.size w W' := by
  obtain ⟨i0, hi, hz0, hz1, hz2⟩ := info_parts info3
  go_enter Tryd.func25, Tryd.ntmps25
  go_wp2
  go_loopw [3, 4] (fun v i wr => ∃ k : Nat, k ≤ 64 ∧ i = .int .i64 (k : Int) ∧ Hid (wr.ownsRow w.heap.size 3 1 v (Plain.upTo x k).length (vals (Plain.upTo x k)) ∧ Below w.heap.size w wr)) (fun _ i _ => 64 - (intOf i).toNat)
  case atStart => exact ⟨0, Nat.zero_le _, rfl, World.ownsRow_nil _ _ _ _, Below.refl _ _⟩
  case round =>
    obtain ⟨k, hk, rfl, hH⟩ := hrel
    obtain ⟨hown, hB⟩ := hH.out
    have hul : (Plain.upTo x k).length ≤ k := Nat.le_trans (List.length_filter_le _ _) (by simp)
    have hu := Plain.upTo_succ x k
    by_cases hlt : k < 64
    · cases hb : x.testBit k with
      | true =>
        rw [hb, if_pos rfl] at hu
        have HB := hide (bitN x hx (k : Int) k rfl hlt true hb)
        have HU := hide hu
        have HBel := hide hB
        have HO := hide hown
        clear hb hu hB hown hH
        go_wp2_with (first | (go_at_call 29; refine (HB.out _).mono ?_; rintro e w1 ⟨rfl, rfl⟩) | (at_builtin; refine wpList_append_own _ rfl _ _ 32 rfl w.heap.size 3 i0 (.int .i64 0) 1 8 Tryd.underlying32 hi hz0 hz1 hz2 rfl (by decide) _ _ _ rfl (HO.out.alloc _) ⟨_, 0, none⟩ 1 1 [.int .i64 (k : Int)] rfl rfl (cell_one_new _ _ _) (by simp [Value.oneCell']) (by unfold maxLen; omega) (by omega) (by have := HBel.out.size; simp; omega) ?_; intro v' w3 hown' hgrow' _))
        refine ⟨⟨k + 1, by omega, by go_num, ?_, below_append HBel.out (Nat.le_refl _) HO.out hgrow'⟩, by simp [intOf]; omega⟩
        rw [HU.out]
        simpa [vals] using hown'
      | false =>
        rw [hb, if_neg (by simp)] at hu
        have HB := hide (bitN x hx (k : Int) k rfl hlt false hb)
        have HU := hide hu
        clear hb hu hB hown
        go_wp2_with (first | (go_at_call 29; refine (HB.out _).mono ?_; rintro e w1 ⟨rfl, rfl⟩))
        go_roundw
        case rel => exact ⟨k + 1, by omega, by go_num, by rw [HU.out]; exact hH⟩
        case measure => simp [intOf]; omega
    · obtain rfl : k = 64 := by omega
      clear hu hB hown
      go_wp2
      go_ret
      obtain ⟨hown, hB⟩ := hH.out
      obtain ⟨a, cap, rfl, hr⟩ := rowAt_of_owns hown
      exact ⟨a, cap, rfl, hr, hB⟩

theorem count20 (x : Nat) (hx : x < 18446744073709551616) (w : World) :
    Calls Tryd.prog 20 #[.int .u64 (x : Int)] w fun e W' => e = .returned (.int .i64 (Plain.cnt x)) ∧ Below w.heap.size w W' := by
  have H := hide (places25 x hx w)
  have hc := Plain.cnt_le x
  generalize Plain.cnt x = c at *
  go_enter Tryd.func20, Tryd.ntmps20
  go_wp2_with fail
  refine H.out.mono ?_
  rintro e w1 ⟨a, cap, rfl, _, hb⟩
  go_wp2
  go_ret
  exact ⟨rfl, hb⟩

theorem nth14 (x : Nat) (hx : x < 18446744073709551616) (k : Int) (hk1 : -9223372036854775808 ≤ k) (hk2 : k ≤ 9223372036854775807) (w : World) :
    Calls Tryd.prog 14 #[.int .u64 (x : Int), .int .i64 k] w fun e W' => e = .returned (.tuple #[.int .i64 (nthAns x k).1, .bool (nthAns x k).2]) ∧ Below w.heap.size w W' := by
  have H := hide (places25 x hx w)
  have hc := Plain.cnt_le x
  have hlen : (Plain.pls x).length = Plain.cnt x := rfl
  have HL := hide hlen
  clear hlen
  by_cases hin : 0 ≤ k ∧ k < (Plain.cnt x : Int)
  · obtain ⟨h0, h1⟩ := hin
    obtain ⟨i, rfl⟩ := Int.eq_ofNat_of_zero_le h0
    obtain ⟨y, hy⟩ : ∃ y, (Plain.pls x)[i]? = some y := ⟨_, List.getElem?_eq_getElem (by rw [HL.out]; omega)⟩
    rw [nthAns_some (x := x) (k := (i : Int)) (i := y) (by omega) hy]
    have HY := hide hy
    clear hy
    have hic : i < Plain.cnt x := by omega
    generalize Plain.cnt x = c at *
    go_enter Tryd.func14, Tryd.ntmps14
    go_wp2_with fail
    refine H.out.mono ?_
    rintro e w1 ⟨a, cap, rfl, hr, hb⟩
    obtain ⟨g, rfl, _, hg, hcells⟩ := hr (fun e => by have := HL.out; rw [e] at this; simp at this; omega)
    have hcell := hcells i y HY.out
    clear hcells hr
    go_wp2
    go_ret2
    exact ⟨rfl, hb⟩
  · rw [nthAns_none (x := x) (k := k) (fun h0 => by omega)]
    have hor : k < 0 ∨ (0 ≤ k ∧ (Plain.cnt x : Int) ≤ k) := by omega
    clear hin
    generalize Plain.cnt x = c at *
    rcases hor with h0 | ⟨h0, h1⟩
    all_goals
      go_enter Tryd.func14, Tryd.ntmps14
      go_wp2_with fail
      refine H.out.mono ?_
      rintro e w1 ⟨a, cap, rfl, hr, hb⟩
      clear hr
      go_wp2
      go_ret2
      exact ⟨rfl, hb⟩

theorem first22 (x : Nat) (hx : x < 18446744073709551616) (k : Int) (w : World) :
    Calls Tryd.prog 22 #[.int .u64 (x : Int), .int .i64 k] w fun e W' => e = .returned (.int .u64 (firstAns x k)) ∧ Below w.heap.size w W' := by
  have H := hide (places25 x hx w)
  have hc := Plain.cnt_le x
  have hlen : (Plain.pls x).length = Plain.cnt x := rfl
  have HL := hide hlen
  clear hlen
  obtain ⟨m, hm⟩ : ∃ m : Nat, m = min (Plain.hold k) (Plain.cnt x) := ⟨_, rfl⟩
  have h32 := fun w => hold32 k (Plain.cnt x : Int) w
  have e : max 0 (min k (Plain.cnt x : Int)) = (m : Int) := by rw [hm]; have := Plain.hold_cast k; omega
  rw [e] at h32
  have hF : firstAns x k = Plain.join ((Plain.pls x).take m) := by
    have h1 : (Plain.pls x).take m = (Plain.pls x).take (Plain.hold k) := by
      rw [hm, show Plain.cnt x = (Plain.pls x).length from rfl, List.take_eq_take_iff]
      omega
    rw [h1, Plain.join_fst x _ hx]
    rfl
  rw [hF]
  have hmc : m ≤ Plain.cnt x := by omega
  have H32 := hide h32
  clear h32 e hF hm
  generalize Plain.cnt x = c at *
  go_enter Tryd.func22, Tryd.ntmps22
  go_wp2_with fail
  refine H.out.mono ?_
  rintro e w1 ⟨a, cap, rfl, hr, hb⟩
  have HR := hide hr
  have HB := hide hb
  clear hr hb H
  go_wp2
  go_loop [6, 7] (fun o i => ∃ j : Nat, j ≤ m ∧ i = .int .i64 (j : Int) ∧ o = .int .u64 (Plain.join ((Plain.pls x).take j) : Int)) (fun _ i => m - (intOf i).toNat)
  case atStart => exact ⟨0, Nat.zero_le _, rfl, by simp [Plain.join]⟩
  case round =>
    obtain ⟨j, hj, rfl, rfl⟩ := hrel
    by_cases hlt : j < m
    · obtain ⟨y, hy⟩ : ∃ y, (Plain.pls x)[j]? = some y := ⟨_, List.getElem?_eq_getElem (by rw [HL.out]; omega)⟩
      obtain ⟨g, rfl, _, hg, hcells⟩ := HR.out (fun e => by have := HL.out; rw [e] at this; simp at this; omega)
      obtain ⟨hj', hye⟩ := List.getElem?_eq_some_iff.1 hy
      have hcell := hcells j y hy
      have hy64 : y < 64 := by rw [← hye]; exact Plain.pls_lt x j hj'
      have hjl : Plain.join ((Plain.pls x).take j) < 18446744073709551616 := Plain.join_lt _ (fun i hi => ((Plain.mem_pls x i).1 (List.mem_of_mem_take hi)).1)
      have hor := or_key _ y hjl hy64
      rw [show Plain.join ((Plain.pls x).take j) ||| 2 ^ y = Plain.join ((Plain.pls x).take (j + 1)) from by rw [Plain.join_take _ _ hj', hye]] at hor
      clear hcells hye hy hj'
      generalize Plain.join ((Plain.pls x).take j) = o at *
      go_wp2_with (go_at_call 32; refine (H32.out _).mono ?_; rintro e w2 ⟨rfl, rfl⟩)
      go_round
      case rel => exact ⟨j + 1, by omega, by go_num, rfl⟩
      case measure => simp [intOf]; omega
    · obtain rfl : j = m := by omega
      go_wp2_with (go_at_call 32; refine (H32.out _).mono ?_; rintro e w2 ⟨rfl, rfl⟩)
      go_ret
      exact ⟨rfl, HB.out⟩

theorem same23 (l : List Nat) (hl : l.length ≤ 64) (a b : Option Addr) (ca cb : Nat) (n1 n2 : Nat) (w : World) (ha : RowAt w n1 a l) (hb : RowAt w n2 b l) :
    Calls Tryd.prog 23 #[.slice a l.length ca, .slice b l.length cb] w fun e W' => e = .returned (.bool true) ∧ ∃ q, W' = w.drewN q := by
  have HA := hide ha
  have HB := hide hb
  clear ha hb
  obtain ⟨c, hc⟩ : ∃ c, l.length = c := ⟨_, rfl⟩
  rw [hc] at hl ⊢
  have HC := hide hc
  clear hc
  go_enter Tryd.func23, Tryd.ntmps23
  go_wp2
  go_loopw [5] (fun i wr => ∃ k q : Nat, k ≤ c ∧ i = .int .i64 (k : Int) ∧ wr = w.drewN q) (fun i _ => c - (intOf i).toNat)
  case atStart => exact ⟨0, 0, Nat.zero_le _, rfl, rfl⟩
  case round =>
    obtain ⟨k, q, hk, rfl, rfl⟩ := hrel
    by_cases hlt : k < c
    · obtain ⟨y, hy⟩ : ∃ y, l[k]? = some y := ⟨_, List.getElem?_eq_getElem (by rw [HC.out]; exact hlt)⟩
      have hne : l ≠ [] := fun e => by have := HC.out; rw [e] at this; simp at this; omega
      obtain ⟨g, rfl, _, hg, hcells⟩ := HA.out hne
      obtain ⟨g2, rfl, _, hg2, hcells2⟩ := HB.out hne
      have c1 := hcells k y hy
      have c2 := hcells2 k y hy
      clear hcells hcells2 hy hne
      go_wp2_with fail
      go_quiet (fail)
      go_wp2
      go_roundw
      case rel => exact ⟨k + 1, _, by omega, by go_num, rfl⟩
      case measure => simp [intOf]; omega
    · obtain rfl : k = c := by omega
      go_wp2
      go_ret
      exact ⟨rfl, _, rfl⟩

end Go.Proofs.YteahpfobjnofmaaDoor
