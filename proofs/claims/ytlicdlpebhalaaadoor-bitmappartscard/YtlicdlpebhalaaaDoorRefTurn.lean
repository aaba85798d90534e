/- Turn, as the document has it: what it answers, at every list and every stretch. -/
import Derived.Test.YtlicdlpebhalaaaDoorRefBits
namespace Go.Proofs.YtlicdlpebhalaaaDoor
open Go.RowKit

theorem clear_set (x j : Nat) (hx : x < 18446744073709551616) (hj : j < 64) : ((x &&& (18446744073709551615 - 2 ^ j)) ||| 2 ^ j) = x ||| 2 ^ j := by
  have hp : 2 ^ j < 18446744073709551616 := Nat.pow_lt_pow_right (by omega) hj
  refine Bitm.word_ext _ _ (Nat.or_lt_two_pow (n := 64) (Nat.lt_of_le_of_lt Nat.and_le_left hx) hp) (Nat.or_lt_two_pow (n := 64) hx hp) (fun i hi => ?_)
  rw [Nat.testBit_or, Nat.testBit_or, Nat.testBit_and, Bitm.inv_pow j i hj hi, Nat.testBit_two_pow]
  by_cases e : j = i
  · simp [e]
  · simp [e, Ne.symm e]

theorem shl_one (j : Nat) (hj : j < 64) : IntKind.u64.wrap (2 ^ j) = ((2 ^ j : Nat) : Int) := by
  have hp : 2 ^ j < 18446744073709551616 := Nat.pow_lt_pow_right (by omega) hj
  rw [show ((2 : Int) ^ j) = ((2 ^ j : Nat) : Int) from by simp]
  exact wrap_nat _ hp

set_option maxRecDepth 100000 in
set_option maxHeartbeats 2000000 in
theorem rturnOk (l : List Nat) (hl : l.length ≤ 1099511627776) (hf : Bitm.Fit l) (a : Option Addr) (c : Nat) (hz : a = none → c = 0) (p q : Nat) (hpq : p + q ≤ 64 * l.length) (on : Bool) (w : World) (h : WordsIn w a l) :
    Calls Tryd.prog 11 #[.slice a l.length c, .int .i64 (p : Int), .int .i64 (q : Int), .bool on] w fun e w' => ∃ v, e = .returned (.tuple #[v, .bool true]) ∧ WordsOwn w' w.heap.size v (Bitm.turnTo l p on q) ∧ Below w.heap.size w w' := by
  obtain ⟨i0, hi, hz0, hz1, hz2⟩ := info_parts infoU64
  have HO := hide (owned_empty w)
  have HF := hide hf
  obtain ⟨n, hn⟩ : ∃ n, l.length = n := ⟨_, rfl⟩
  have HL := hide hn
  cases a with
  | none =>
    obtain rfl := words_none h
    obtain rfl := hz rfl
    obtain rfl : p = 0 := by simp at hpq; omega
    obtain rfl : q = 0 := by simp at hpq; omega
    obtain rfl : n = 0 := by simpa using HL.out.symm
    clear hz h hn hf hpq
    have hT0 : Hid (Bitm.turnTo [] 0 on 0 = []) := rfl
    go_enter Tryd.func11, Tryd.ntmps11
    go_wp2_with (at_builtin; refine wpList_append_own_none _ rfl _ _ 22 rfl w.heap.size 39 i0 1 Tryd.underlying22 hi _ 0 [] rfl HO.out rfl ?_)
    go_loopw [12] (fun i wr => i = .int .i64 0 ∧ wr = w.alloc (.cells #[] 39)) (fun _ _ => 0)
    case atStart => exact ⟨rfl, rfl⟩
    case round =>
      obtain ⟨rfl, rfl⟩ := hrel
      go_wp2
      go_ret2
      exact ⟨_, rfl, by rw [hT0.out]; exact HO.out, (Below.refl w.heap.size w).alloc (Nat.le_refl _) _⟩
  | some ad =>
    have HN := hide (words_news (h.alloc (.cells #[] 39)) l.length)
    rw [List.take_length] at HN
    rw [hn] at hl hpq ⊢
    clear hz hn h hf
    go_enter Tryd.func11, Tryd.ntmps11
    go_wp2_with (at_builtin; refine wpList_append_own _ rfl _ _ 22 rfl w.heap.size 39 i0 (.int .u64 0) 1 8 Tryd.underlying22 hi hz0 hz1 hz2 rfl (by decide) _ 0 [] rfl HO.out ad n c (wordVals l) rfl (by rw [wordVals_length, HL.out, Nat.mul_one]) HN.out (words_one _) (by unfold maxLen; omega) (by omega) (by simp) ?_; intro v w3 hown' hgrow' hnil)
    have hv : ∃ g cap, v = .slice (some ⟨g, 0, none⟩) n cap := by
      rcases hown'.2 with ⟨e, _⟩ | ⟨g, cap, _, e, _⟩
      · have := (hnil.1 e).1; cases this
      · exact ⟨g, cap, by simpa using e⟩
    obtain ⟨g, cap, rfl⟩ := hv
    have HB3 := hide (below_new hgrow')
    have HR3 : Hid (w3.ownsRow w.heap.size 39 1 (.slice (some ⟨g, 0, none⟩) n cap) n (wordVals l)) := hide (by simpa using hown')
    clear hown' hgrow' hnil HN HO
    go_loopw [12] (fun i wr => ∃ j t : Nat, t = p + j ∧ j ≤ q ∧ i = .int .i64 (t : Int) ∧ Hid (wr.ownsRow w.heap.size 39 1 (.slice (some ⟨g, 0, none⟩) n cap) n (wordVals (Bitm.turnTo l p on j)) ∧ Below w.heap.size w wr)) (fun i _ => p + q - (intOf i).toNat)
    case atStart => exact ⟨0, p, by omega, by omega, rfl, HR3.out, HB3.out⟩
    case round =>
      obtain ⟨j, t, htj, hjq, rfl, hH⟩ := hrel
      by_cases hlt : j < q
      · obtain ⟨hrow, hB⟩ := hH.out
        have hfit := Bitm.turnTo_fit HF.out p on j
        have hlen := Bitm.turnTo_len l p on j
        rw [HL.out] at hlen
        have hnext : Hid (Bitm.turnTo l p on (j + 1) = Bitm.turnBit (Bitm.turnTo l p on j) t on) := by show Bitm.turnTo l p on (j + 1) = _; rw [htj]; rfl
        generalize Bitm.turnTo l p on j = Y at *
        have hxn : t / 64 < n := by omega
        have hr64 : t % 64 < 64 := by omega
        have hy := Bitm.getD_fit hfit (t / 64)
        have hgl := (hrow.lt g rfl).1
        have e2 := hrow.cellAt (t / 64) (by omega)
        have e3 := fun x => hrow.frozenAt x
        rw [← List.getElem?_toArray, wordVals_get _ _ (by omega)] at e2
        have HB := hide hB
        have HST := hide (fun u v => (hrow.stored (t / 64) u).1.stored (t / 64) v)
        have HST1 := hide (fun u => (hrow.stored (t / 64) u).1)
        have hTB : Hid (Bitm.turnBit Y t on = Y.set (t / 64) (Bitm.wordBit (Y.getD (t / 64) 0) (t % 64) on)) := rfl
        have hq : ((t : Int) / 64) = ((t / 64 : Nat) : Int) := by simp
        have hr : ((t : Int) % 64) = ((t % 64 : Nat) : Int) := by simp
        have hsh := shl_one (t % 64) hr64
        have hcs := hide (clear_set (Y.getD (t / 64) 0) (t % 64) hy hr64)
        have hpw : 2 ^ (t % 64) < 18446744073709551616 := Nat.pow_lt_pow_right (by omega) hr64
        have han := bits_andNot_u64 (Y.getD (t / 64) 0) (2 ^ (t % 64)) hy hpw
        have hy1 : (Y.getD (t / 64) 0 &&& Plain.inv (2 ^ (t % 64))) < 18446744073709551616 := Nat.lt_of_le_of_lt Nat.and_le_left hy
        have hor := bits_or_u64_nat (Y.getD (t / 64) 0 &&& Plain.inv (2 ^ (t % 64))) (2 ^ (t % 64)) hy1 hpw
        have hw1 : Hid (Bitm.wordBit (Y.getD (t / 64) 0) (t % 64) false = Y.getD (t / 64) 0 &&& Plain.inv (2 ^ (t % 64))) := rfl
        have hw2 : Hid (Bitm.wordBit (Y.getD (t / 64) 0) (t % 64) true = (Y.getD (t / 64) 0 &&& Plain.inv (2 ^ (t % 64))) ||| 2 ^ (t % 64)) := by
          show Bitm.wordBit (Y.getD (t / 64) 0) (t % 64) true = _
          exact (hcs.out).symm
        clear hcs hrow hB hH
        generalize hx : t / 64 = x at *
        generalize hrr : t % 64 = r at *
        generalize Y.getD x 0 = y at *
        generalize (y &&& Plain.inv (2 ^ r)) = y1 at *
        generalize (y1 ||| 2 ^ r) = y2 at *
        generalize (2 : Nat) ^ r = pw at *
        clear hx hrr
        have ht : (t : Int) < (p : Int) + (q : Int) := by omega
        have HTJ := hide htj
        clear htj
        cases on with
        | false =>
          go_wp2
          refine plain_start 13 (by kernel_rfl) ?_
          refine reads (fuel := 1) (by kernel_rfl) (fun _ _ _ _ _ h => h) [0, 1, 2, 3, 4, 5, 6, 7, 8, 9, 10, 11, 12] (by kernel_rfl) (by kernel_rfl) ?_
          simp only [List.filterMap_cons, List.filterMap_nil, List.getElem?_toArray, List.getElem?_cons_zero, List.getElem?_cons_succ]
          show wpQuiet _ _ _ _ [_, _, _, _, _, _, _, _, _, _, _, _, _] _
          repeat (go_big_quiet_step (fail))
          refine wpQuiet_nil ?_
          refine last rfl (by kernel_rfl) (by kernel_rfl) (fun K hK => ?_)
          go_simp
          refine hK _ _ ?_
          clear hK K
          go_wp2
          go_roundw
          case rel =>
            refine ⟨j + 1, t + 1, by have := HTJ.out; omega, by omega, by go_num, ?_, (HB.out.setCell (p := ⟨g, x, none⟩) (by simp; omega) _).drew⟩
            have := HST1.out (.int .u64 (y1 : Int))
            rw [wordVals_put] at this
            rw [hnext.out, hTB.out, hw1.out]
            exact this
          case measure => simp [intOf]; omega
        | true =>
          go_wp2
          refine plain_start 13 (by kernel_rfl) ?_
          refine reads (fuel := 1) (by kernel_rfl) (fun _ _ _ _ _ h => h) [0, 1, 2, 3, 4, 5, 6, 7, 8, 9, 10, 11, 12] (by kernel_rfl) (by kernel_rfl) ?_
          simp only [List.filterMap_cons, List.filterMap_nil, List.getElem?_toArray, List.getElem?_cons_zero, List.getElem?_cons_succ]
          show wpQuiet _ _ _ _ [_, _, _, _, _, _, _, _, _, _, _, _, _] _
          repeat (go_big_quiet_step (fail))
          refine wpQuiet_nil ?_
          refine last rfl (by kernel_rfl) (by kernel_rfl) (fun K hK => ?_)
          go_simp
          refine hK _ _ ?_
          clear hK K
          go_wp2
          refine plain_start 13 (by kernel_rfl) ?_
          refine reads (fuel := 1) (by kernel_rfl) (fun _ _ _ _ _ h => h) [0, 1, 2, 3, 4, 5, 6, 7, 8, 9, 10, 11, 12] (by kernel_rfl) (by kernel_rfl) ?_
          simp only [List.filterMap_cons, List.filterMap_nil, List.getElem?_toArray, List.getElem?_cons_zero, List.getElem?_cons_succ]
          show wpQuiet _ _ _ _ [_, _, _, _, _, _, _, _, _, _, _, _, _] _
          repeat (go_big_quiet_step (fail))
          refine wpQuiet_nil ?_
          refine last rfl (by kernel_rfl) (by kernel_rfl) (fun K hK => ?_)
          go_simp
          refine hK _ _ ?_
          clear hK K
          go_wp2
          go_roundw
          case rel =>
            refine ⟨j + 1, t + 1, by have := HTJ.out; omega, by omega, by go_num, ?_, ((HB.out.setCell (p := ⟨g, x, none⟩) (by simp; omega) _).drew.setCell (p := ⟨g, x, none⟩) (by simp; omega) _).drew⟩
            have := (HST.out (.int .u64 (y1 : Int)) (.int .u64 (y2 : Int))).1
            rw [List.set_set, wordVals_put] at this
            rw [hnext.out, hTB.out, hw2.out]
            exact this
          case measure => simp [intOf]; omega
      · obtain rfl : j = q := by omega
        have ht : ¬ ((t : Int) < (p : Int) + (j : Int)) := by omega
        clear htj
        obtain ⟨hrow, hB⟩ := hH.out
        have HRow := hide hrow
        have HB := hide hB
        clear hrow hB hH
        go_wp2
        go_ret2
        exact ⟨_, rfl, by rw [WordsOwn, Bitm.turnTo_len, HL.out]; exact HRow.out, HB.out⟩

theorem rturn11 (l : List Nat) (hl : l.length ≤ 1099511627776) (hf : Bitm.Fit l) (a : Option Addr) (c : Nat) (hz : a = none → c = 0) (p q : Int) (hp1 : -9223372036854775808 ≤ p) (hp2 : p ≤ 9223372036854775807) (hq1 : -9223372036854775808 ≤ q) (hq2 : q ≤ 9223372036854775807) (on : Bool) (w : World) (h : WordsIn w a l) :
    Calls Tryd.prog 11 #[.slice a l.length c, .int .i64 p, .int .i64 q, .bool on] w fun e w' => ∃ v, e = .returned (.tuple #[v, .bool (turnOk l.length p q)]) ∧ WordsOwn w' w.heap.size v (turnL l p q on) ∧ Below w.heap.size w w' := by
  by_cases hok : 0 ≤ p ∧ 0 ≤ q ∧ q ≤ 64 * (l.length : Int) - p
  · obtain ⟨p', rfl⟩ : ∃ k : Nat, p = (k : Int) := ⟨p.toNat, by omega⟩
    obtain ⟨q', rfl⟩ : ∃ k : Nat, q = (k : Int) := ⟨q.toNat, by omega⟩
    rw [turnL, (turnOk_iff _ _ _).2 hok, if_pos rfl]
    exact rturnOk l hl hf a c hz p' q' (by omega) on w h
  · rw [turnL, turnOk_no _ _ _ hok, if_neg (by simp)]
    have hN : Hid (∀ w' : World, WordsOwn w' w.heap.size (.slice none 0 0) []) := fun w' => World.ownsRow_nil _ _ _ _
    clear hf hz h
    generalize l.length = k at *
    by_cases h0 : 0 ≤ p
    · by_cases h1 : 0 ≤ q
      · have h2 : ¬ q ≤ 64 * (k : Int) - p := fun h => hok ⟨h0, h1, h⟩
        clear hok
        by_cases h3 : p ≤ 64 * (k : Int)
        · go_enter Tryd.func11, Tryd.ntmps11
          go_wp2
          go_ret2
          exact ⟨_, rfl, hN.out _, Below.refl _ _⟩
        · go_enter Tryd.func11, Tryd.ntmps11
          go_wp2
          go_ret2
          exact ⟨_, rfl, hN.out _, Below.refl _ _⟩
      · clear hok
        go_enter Tryd.func11, Tryd.ntmps11
        go_wp2
        go_ret2
        exact ⟨_, rfl, hN.out _, Below.refl _ _⟩
    · clear hok
      go_enter Tryd.func11, Tryd.ntmps11
      go_wp2
      go_ret2
      exact ⟨_, rfl, hN.out _, Below.refl _ _⟩

end Go.Proofs.YtlicdlpebhalaaaDoor
