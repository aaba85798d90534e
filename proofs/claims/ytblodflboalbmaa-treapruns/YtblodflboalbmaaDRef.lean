/- The document's tree: Get, Ceil, Keys. -/
import Derived.Test.YtblodflboalbmaaDOwn
import Derived.Test.YtblodflboalbmaaTreAwake
import Derived.Laws.AppendOwn
namespace Go.Proofs.Ytblodflboalbmaa
open Go.RowKit

set_option maxHeartbeats 1000000 in
theorem rgetNo (w : World) (r : Nat) (v : Value) (L : List (It Int)) (h : DAt w r 0 v L) (key : Int) (hl : L.length ≤ 1000000) (hg : getL key L = none) :
    Calls Try.prog 45 #[.pointer (some ⟨r, 0, none⟩), .int .i64 key] w fun e w' => e = .returned (.tuple #[.int .i64 0, .bool false]) ∧ w' = w := by
  have HH := hide (hasT w r 0 v L h key hl)
  rw [hg] at HH
  clear hg h
  go_enter Try.func45, Try.ntmps45
  go_wp2_with fail
  refine HH.out.mono ?_
  rintro e w1 ⟨rfl, rfl⟩
  go_wp2
  go_ret2
  exact ⟨rfl, rfl⟩

set_option maxHeartbeats 1000000 in
theorem rgetYes (w : World) (r : Nat) (v : Value) (L : List (It Int)) (h : DAt w r 0 v L) (key k : Int) (d : Nat) (x : Int) (hl : L.length ≤ 1000000) (hg : getL key L = some (k, d, x)) :
    Calls Try.prog 45 #[.pointer (some ⟨r, 0, none⟩), .int .i64 key] w fun e w' => e = .returned (.tuple #[.int .i64 x, .bool true]) ∧ Alike w w' := by
  have HH := hide (hasT w r 0 v L h key hl)
  rw [hg] at HH
  obtain ⟨p, hp⟩ := place_there L key
  have HP := hide (fun n => placeP (w.drewN n) r 0 v L (h.alike (Alike.drewN w n)) key hl p hp)
  obtain ⟨hpl, e1, _⟩ := place_some h.ris hp hg
  obtain ⟨a, c, rfl⟩ := h.slice
  have c0 : w.cell? ⟨r, 0, none⟩ = some (.slice a L.length c) := h.head
  obtain ⟨g, e, b0, b1, b2⟩ := h.at hpl
  subst e
  rw [e1] at b2
  simp only at b2
  clear hg h hp e1 b0 b1
  generalize L.length = m at *
  go_enter Try.func45, Try.ntmps45
  go_wp2_with fail
  refine HH.out.mono ?_
  rintro z w1 ⟨rfl, hw1⟩
  rw [hw1]
  clear hw1 w1
  go_wp2
  go_quiet ((go_at_call 76; exact Calls.quiet_of_same (HP.out _)))
  go_wp2
  go_ret2
  exact ⟨rfl, Alike.drewN _ _⟩

theorem place_ceil {L : List (It Int)} {key : Int} {p : Nat} (hr : Rising L) (h : Place L key p) : (ceilL key L = none ∧ p = L.length) ∨ ∃ hp : p < L.length, ceilL key L = some L[p] := by
  rcases ceil_row hr key with ⟨hc, hall⟩ | ⟨x, hc, hm, ⟨i, hi, hki⟩, hfirst⟩
  · refine .inl ⟨hc, ?_⟩
    have := h.le
    by_cases q : p < L.length
    · have h1 := h.hi q; have h2 := hall p q; omega
    · omega
  · have hp : p < L.length := by
      by_cases q : p < L.length
      · exact q
      · have := h.lo i (by omega); omega
    refine .inr ⟨hp, ?_⟩
    rw [hc]
    have e := hfirst p hp (h.hi hp) h.lo
    have : x = L[p] := rising_inj hr hm (List.getElem_mem _) (by rw [e]; simp [keyAt, hp])
    rw [this]

set_option maxHeartbeats 1000000 in
theorem rceilNo (w : World) (r : Nat) (v : Value) (L : List (It Int)) (h : DAt w r 0 v L) (key : Int) (hl : L.length ≤ 1000000) (hg : ceilL key L = none) :
    Calls Try.prog 46 #[.pointer (some ⟨r, 0, none⟩), .int .i64 key] w fun e w' => e = .returned (.tuple #[.int .i64 0, .int .i64 0, .bool false]) ∧ Alike w w' := by
  obtain ⟨p, hp⟩ := place_there L key
  have HP := hide (placeP w r 0 v L h key hl p hp)
  have hpl : p = L.length := by
    rcases place_ceil h.ris hp with ⟨_, q⟩ | ⟨_, q⟩
    · exact q
    · rw [hg] at q; cases q
  obtain ⟨a, c, rfl⟩ := h.slice
  have c0 : w.cell? ⟨r, 0, none⟩ = some (.slice a L.length c) := h.head
  rw [← hpl] at c0 hl
  clear hg h hp hpl
  go_enter Try.func46, Try.ntmps46
  go_wp2_with fail
  refine HP.out.mono ?_
  rintro z w1 ⟨rfl, hw1⟩
  rw [hw1]
  clear hw1 w1
  go_wp2
  go_ret3
  exact ⟨rfl, Alike.refl _⟩

set_option maxHeartbeats 1000000 in
theorem rceilYes (w : World) (r : Nat) (v : Value) (L : List (It Int)) (h : DAt w r 0 v L) (key k : Int) (d : Nat) (x : Int) (hl : L.length ≤ 1000000) (hg : ceilL key L = some (k, d, x)) :
    Calls Try.prog 46 #[.pointer (some ⟨r, 0, none⟩), .int .i64 key] w fun e w' => e = .returned (.tuple #[.int .i64 k, .int .i64 x, .bool true]) ∧ Alike w w' := by
  obtain ⟨p, hp⟩ := place_there L key
  have HP := hide (placeP w r 0 v L h key hl p hp)
  obtain ⟨hpl, e1⟩ : ∃ hp : p < L.length, L[p] = (k, d, x) := by
    rcases place_ceil h.ris hp with ⟨q, _⟩ | ⟨q1, q⟩
    · rw [hg] at q; cases q
    · rw [hg] at q; exact ⟨q1, by simpa using q.symm⟩
  obtain ⟨a, c, rfl⟩ := h.slice
  have c0 : w.cell? ⟨r, 0, none⟩ = some (.slice a L.length c) := h.head
  obtain ⟨g, e, b0, b1, b2⟩ := h.at hpl
  subst e
  have ek : keyAt L p = k := by simp [keyAt, hpl, e1]
  rw [ek] at b0
  rw [e1] at b2
  simp only at b2
  clear hg h hp e1 b1 ek
  generalize L.length = m at *
  have hne : ((p : Int) == (m : Int)) = false := by rw [beq_eq_false_iff_ne]; omega
  go_enter Try.func46, Try.ntmps46
  go_wp2_with fail
  refine HP.out.mono ?_
  rintro z w1 ⟨rfl, hw1⟩
  rw [hw1]
  clear hw1 w1
  go_wp2
  go_quiet (fail)
  go_wp2
  go_ret3
  exact ⟨rfl, Alike.drewN _ _⟩
set_option maxHeartbeats 2000000 in
theorem rkeys (w : World) (r : Nat) (v : Value) (L : List (It Int)) (h : DAt w r 0 v L) (hl : L.length ≤ 1000000) :
    Calls Try.prog 18 #[.pointer (some ⟨r, 0, none⟩)] w fun e w' => ∃ v', e = .returned v' ∧ w'.ownsRow w.heap.size 3 1 v' L.length (intVals (L.map (·.1))) ∧ Below w.heap.size w w' := by
  obtain ⟨i0, hi, hz0, hz1, hz2⟩ := info_parts infoII
  obtain ⟨a, c, rfl⟩ := h.slice
  have H := hide h
  obtain ⟨m, hm⟩ : ∃ m, L.length = m := ⟨_, rfl⟩
  have HM := hide hm
  have c0 : w.cell? ⟨r, 0, none⟩ = some (.slice a m c) := by rw [← hm]; exact h.head
  rw [hm] at hl ⊢
  clear h hm
  go_enter Try.func18, Try.ntmps18
  go_wp2
  clear c0
  go_loopw [3, 4] (fun o i wr => ∃ k : Nat, k ≤ m ∧ i = .int .i64 (k : Int) ∧ Hid (wr.ownsRow w.heap.size 3 1 o k (intVals ((L.map (·.1)).take k)) ∧ Below w.heap.size w wr)) (fun _ i _ => m - (intOf i).toNat)
  case atStart => exact ⟨0, Nat.zero_le _, rfl, ⟨World.ownsRow_nil _ _ _ _, Below.refl _ _⟩⟩
  case round =>
    obtain ⟨k, hk, rfl, hh⟩ := hrel
    obtain ⟨hrow, hb⟩ := hh.out
    obtain ⟨oa, oc, rfl⟩ := ownsRow_slice hrow
    have hd := H.out.below hb
    have c0 : wr.cell? ⟨r, 0, none⟩ = some (.slice a m c) := by rw [← HM.out]; exact hd.head
    have HROW := hide hrow
    have HB := hide hb
    by_cases hlt : k < m
    · obtain ⟨g, e, b0, _, _⟩ := hd.at (i := k) (by rw [HM.out]; exact hlt)
      subst e
      have HTK : Hid (intVals ((L.map (·.1)).take (k + 1)) = intVals ((L.map (·.1)).take k) ++ [.int .i64 (keyAt L k)]) := hide (by
        have hkl : k < (L.map (·.1)).length := by rw [List.length_map, HM.out]; exact hlt
        rw [List.take_succ_eq_append_getElem hkl]
        simp [intVals, keyAt, show k < L.length by rw [HM.out]; exact hlt])
      generalize keyAt L k = y at *
      clear hh hrow hb hd
      go_wp2_with (at_builtin; refine wpList_append_own _ rfl _ _ 38 rfl w.heap.size 3 i0 (.int .i64 0) 1 8 Try.underlying38 hi hz0 hz1 hz2 rfl (by decide) _ _ _ rfl (HROW.out.alloc _) ⟨_, 0, none⟩ 1 1 [.int .i64 y] rfl rfl (cell_one_new _ _ _) (by simp [Value.oneCell']) (by unfold maxLen; omega) (by omega) (by have := HB.out.size; simp; omega) ?_; intro v' w3 hown' hgrow' _)
      have hb3 := HB.out.trans (((Below.refl w.heap.size wr).alloc HB.out.size (.cells #[.int .i64 y] 3)).trans (grown_below (HROW.out.alloc _) hgrow' (by have := HB.out.size; simp; omega)))
      go_roundw
      case rel => exact ⟨k + 1, by omega, by go_num, ⟨by rw [HTK.out]; exact hown', hb3⟩⟩
      case measure => simp [intOf]; omega
    · have hkm : k = m := by omega
      clear hh hrow hb hd
      go_wp2
      go_ret
      refine ⟨_, rfl, ?_, HB.out⟩
      have := HROW.out
      rw [List.take_of_length_le (by rw [List.length_map, HM.out]; omega), hkm] at this
      rw [hkm]; exact this

theorem rgetNoP {R : Res} {w0 w : World} {r : Nat} {L : List (It Int)} (l : Loc R) (h : Own (Sep (RD r L) R) w0 w) (key : Int) (hl : L.length ≤ 1000000) (hg : getL key L = none) :
    Calls Try.prog 45 #[.pointer (some ⟨r, 0, none⟩), .int .i64 key] w fun e w' => e = .returned (.tuple #[.int .i64 0, .bool false]) ∧ Own (Sep (RD r L) R) w0 w' := by
  obtain ⟨v, a, k⟩ := h.dtree l
  exact (rgetNo w r v L a key hl hg).mono fun _ _ ⟨e, q⟩ => ⟨e, by rw [q]; exact h⟩
theorem rgetYesP {R : Res} {w0 w : World} {r : Nat} {L : List (It Int)} (l : Loc R) (h : Own (Sep (RD r L) R) w0 w) (key k : Int) (d : Nat) (x : Int) (hl : L.length ≤ 1000000) (hg : getL key L = some (k, d, x)) :
    Calls Try.prog 45 #[.pointer (some ⟨r, 0, none⟩), .int .i64 key] w fun e w' => e = .returned (.tuple #[.int .i64 x, .bool true]) ∧ Own (Sep (RD r L) R) w0 w' := by
  obtain ⟨v, a, _⟩ := h.dtree l
  exact (rgetYes w r v L a key k d x hl hg).mono fun _ _ ⟨e, q⟩ => ⟨e, h.below (Loc.rd.sep l) (q.below _)⟩
theorem rceilNoP {R : Res} {w0 w : World} {r : Nat} {L : List (It Int)} (l : Loc R) (h : Own (Sep (RD r L) R) w0 w) (key : Int) (hl : L.length ≤ 1000000) (hg : ceilL key L = none) :
    Calls Try.prog 46 #[.pointer (some ⟨r, 0, none⟩), .int .i64 key] w fun e w' => e = .returned (.tuple #[.int .i64 0, .int .i64 0, .bool false]) ∧ Own (Sep (RD r L) R) w0 w' := by
  obtain ⟨v, a, k⟩ := h.dtree l
  exact (rceilNo w r v L a key hl hg).mono fun _ _ ⟨e, q⟩ => ⟨e, h.below (Loc.rd.sep l) (q.below _)⟩
theorem rceilYesP {R : Res} {w0 w : World} {r : Nat} {L : List (It Int)} (l : Loc R) (h : Own (Sep (RD r L) R) w0 w) (key k : Int) (d : Nat) (x : Int) (hl : L.length ≤ 1000000) (hg : ceilL key L = some (k, d, x)) :
    Calls Try.prog 46 #[.pointer (some ⟨r, 0, none⟩), .int .i64 key] w fun e w' => e = .returned (.tuple #[.int .i64 k, .int .i64 x, .bool true]) ∧ Own (Sep (RD r L) R) w0 w' := by
  obtain ⟨v, a, _⟩ := h.dtree l
  exact (rceilYes w r v L a key k d x hl hg).mono fun _ _ ⟨e, q⟩ => ⟨e, h.below (Loc.rd.sep l) (q.below _)⟩
theorem rkeysP {R : Res} {w0 w : World} {r : Nat} {L : List (It Int)} (l : Loc R) (h : Own (Sep (RD r L) R) w0 w) (hl : L.length ≤ 1000000) :
    Calls Try.prog 18 #[.pointer (some ⟨r, 0, none⟩)] w fun e w' => ∃ v, e = .returned v ∧ IntsV w' v (L.map (·.1)) ∧ Below w.heap.size w w' ∧ Own (Sep (RD r L) R) w0 w' := by
  obtain ⟨v, a, k⟩ := h.dtree l
  exact (rkeys w r v L a hl).mono fun _ _ ⟨v', e, g, b⟩ => ⟨v', e, ints_of_owns g, b, h.below (Loc.rd.sep l) b⟩
end Go.Proofs.Ytblodflboalbmaa
