/- The words that have some of any bits, and which of them, are the document's: each bit once, words rising: the law BitmapParts answers true at every input, and its arguments read behind the call as they read before. Condition: the listed table of math/bits is laid as the program's text lays it (the card ties it). -/
import Derived.Test.YtlicdlpebhalaaaDoorAwake3
import Derived.Test.YtlicdlpebhalaaaDoorRefTurn
import Derived.Test.YtlicdlpebhalaaaDoorRefl
import Derived.Test.YtlicdlpebhalaaaDoorLaid
namespace Go.Proofs.YtlicdlpebhalaaaDoor.bitmapParts
open Go.ChangeShapes Go.WideShapes Go.ChangeAt Go.RowKit

theorem parts_word (a b i : Nat) (h : i < (Bitm.partsAll a b).length) : ((Bitm.partsAll a b).getD i (0, 0)).1 = a / 64 + i := by
  unfold Bitm.partsAll at h ⊢
  split at h
  · simp at h
  · rename_i hb
    rw [if_neg hb]
    rw [List.length_map, List.length_range] at h
    rw [List.getD_eq_getElem?_getD, List.getElem?_map, List.getElem?_range h]
    rfl

/-- The bits of all parts, counted. -/
def bitsTo (R : List (Nat × Nat)) (j : Nat) : Nat := ((R.take j).map fun p => Plain.cnt p.2).sum
theorem bitsTo_succ (R : List (Nat × Nat)) (j : Nat) (h : j < R.length) : bitsTo R (j + 1) = bitsTo R j + Plain.cnt (R.getD j (0, 0)).2 := by
  unfold bitsTo
  rw [List.take_add_one, List.map_append, List.sum_append, List.getElem?_eq_getElem h, List.getD_eq_getElem?_getD, List.getElem?_eq_getElem h]
  simp
theorem bitsTo_le (R : List (Nat × Nat)) (j : Nat) : bitsTo R j ≤ 64 * j := by
  induction j with
  | zero => simp [bitsTo]
  | succ j ih =>
    by_cases h : j < R.length
    · rw [bitsTo_succ R j h]; have := Plain.cnt_le (R.getD j (0, 0)).2; omega
    · unfold bitsTo at ih ⊢; rw [List.take_of_length_le (by omega)]; rw [List.take_of_length_le (by omega)] at ih; omega

theorem cnt_mask (i e : Nat) (h : i < e) : Plain.cnt (Bitm.mask i e) = Bitm.size i e := by
  have key : ∀ n, n ≤ 64 → (Plain.upTo (Bitm.mask i e) n).length + i = max i (min (64 * (i / 64) + n) (i + Bitm.size i e)) := by
    intro n
    induction n with
    | zero => intro _; rw [Plain.upTo_zero, List.length_nil]; omega
    | succ n ih =>
      intro hn
      have ih := ih (by omega)
      rw [Plain.upTo_succ, Bitm.mask_bit i e n h (by omega)]
      by_cases hin : i ≤ 64 * (i / 64) + n ∧ 64 * (i / 64) + n < i + Bitm.size i e
      · rw [decide_eq_true hin, if_pos rfl, List.length_append, List.length_singleton]
        omega
      · rw [decide_eq_false hin]
        simp only [Bool.false_eq_true, if_false]
        rw [ih]
        omega
  have := key 64 (Nat.le_refl _)
  have hs := Bitm.size_pos i e h
  have : max i (min (64 * (i / 64) + 64) (i + Bitm.size i e)) = i + Bitm.size i e := by unfold Bitm.size at *; omega
  unfold Plain.cnt Plain.pls
  omega

theorem bits_all (e : Nat) : ∀ (d i : Nat), e - i = d → i ≤ e → ((Bitm.partsAll i (e - i)).map fun p => Plain.cnt p.2).sum = e - i := by
  intro d
  induction d using Nat.strongRecOn with
  | ind d ih =>
    intro i hd hie
    by_cases h : i < e
    · have hs := Bitm.size_pos i e h
      have hs2 := Bitm.size_le i e
      have h1 := ih (e - (i + Bitm.size i e)) (by omega) _ rfl (by omega)
      rw [Bitm.parts_cons i e h, List.map_cons, List.sum_cons, h1]
      simp only
      rw [cnt_mask i e h]
      omega
    · rw [Bitm.parts_none _ _ (by omega)]
      simp; omega

theorem bitsTo_all (p q : Int) (h : partsL p q ≠ []) : (bitsTo (partsL p q) (partsL p q).length : Int) = q := by
  unfold partsL at h ⊢
  split at h
  · rename_i hok
    rw [if_pos hok]
    unfold bitsTo
    rw [List.take_length]
    have := bits_all (p.toNat + q.toNat) _ p.toNat rfl (by omega)
    rw [show p.toNat + q.toNat - p.toNat = q.toNat from by omega] at this
    rw [this]
    omega
  · exact absurd rfl h

theorem partsL_word (p q : Int) (i : Nat) (h : i < (partsL p q).length) : ((partsL p q).getD i (0, 0)).1 = p.toNat / 64 + i := by
  unfold partsL at h ⊢
  split
  · rename_i hok; rw [if_pos hok] at h; exact parts_word _ _ _ h
  · rename_i hok; rw [if_neg hok] at h; simp at h

theorem partsL_len (p q : Int) : (partsL p q).length ≤ 16386 := by
  unfold partsL
  split
  · have := Bitm.parts_len p.toNat q.toNat; omega
  · simp

theorem partsL_mask (p q : Int) (i : Nat) : ((partsL p q).getD i (0, 0)).2 < 18446744073709551616 := by
  have hall : ∀ x ∈ partsL p q, x.2 < 18446744073709551616 := fun x hm => by
    unfold partsL at hm
    split at hm
    · exact (Bitm.parts_below _ _ (p.toNat + q.toNat) (by omega) _ hm).2
    · cases hm
  by_cases h : i < (partsL p q).length
  · rw [List.getD_eq_getElem?_getD, List.getElem?_eq_getElem h]
    exact hall _ (List.getElem_mem h)
  · rw [List.getD_eq_getElem?_getD, List.getElem?_eq_none (by omega)]; simp

set_option maxRecDepth 100000 in
set_option maxHeartbeats 4000000 in
/-- Behind the test: any n that is no greater than it may be. -/
theorem walkAt (p : Int) (hp : -9223372036854775808 ≤ p ∧ p ≤ 9223372036854775807) (q : Int) (hq : -9223372036854775808 ≤ q ∧ q ≤ 9223372036854775807) (q' : Int) (hq' : if 65536 < q ∧ q ≤ 1048576 then q' = q % 65536 else q' = q) (w : World) (hT : Tab w) :
    Calls Tryd.prog 4 #[.int .i64 p, .int .i64 q] w fun e w' => e = .returned (.bool true) ∧ Below w.heap.size w w' := by
  have hpos := hT.lt
  have HT := hide (fun (x : World) (hx : Below w.heap.size w x) => hT.below hpos hx)
  have HP := hide (parts23 p q' w)
  have HWD := hide (partsL_word p q')
  have HML := hide (partsL_mask p q')
  have hlen := partsL_len p q'
  have HALL := hide (bitsTo_all p q')
  have HRP := hide (fun w => rparts25 p q' w)
  obtain ⟨R, hR⟩ : ∃ R, partsL p q' = R := ⟨_, rfl⟩
  rw [hR] at HP HWD HML hlen HALL HRP
  clear hR hT
  have hpn : p.toNat / 64 ≤ 200000000000000000 := by omega
  generalize p.toNat / 64 = z at *
  go_enter Tryd.func4, Tryd.ntmps4
  have hcase : (65536 < q ∧ q ≤ 1048576 ∧ q % 65536 = q') ∨ (¬ 65536 < q ∧ q' = q) ∨ (65536 < q ∧ ¬ q ≤ 1048576 ∧ q' = q) := by
    by_cases h1 : 65536 < q <;> by_cases h2 : q ≤ 1048576 <;> simp_all
  clear hq'
  rcases hcase with ⟨h1, h2, h3⟩ | ⟨h1, rfl⟩ | ⟨h1, h2, rfl⟩
  · have hq9 : 0 ≤ q := by omega
    go_wp2_with fail
    refine HP.out.mono ?_
    rintro e w1 ⟨v, he, hp1, hb1⟩
    have HV := hide hp1
    obtain ⟨a1, c1, hv, hpi⟩ := hp1
    have HPI := hide hpi
    subst hv
    subst he
    have H1 : Hid (Below w.heap.size w w1) := hb1
    clear hb1 hpi HP
    go_wp2_with fail
    refine (HRP.out w1).mono ?_
    rintro e w2 ⟨v2, he, hp2, hb2⟩
    have HV1 := hide (HV.out.below hb2 (Nat.le_refl _))
    have HPI2 := hide (HPI.out.below hb2 (Nat.le_refl _))
    have HV2 := hide hp2
    obtain ⟨a2, c2, hv2, _⟩ := hp2
    subst hv2
    subst he
    have H2 : Hid (Below w.heap.size w w2) := H1.out.trans (hb2.mono H1.out.size)
    clear hb2 HRP HV HPI H1
    go_wp2_with fail
    refine (sameParts24 R (by omega) _ _ w2 HV1.out HV2.out).mono ?_
    rintro e w3 ⟨rfl, q3, rfl⟩
    have H3 : Hid (Below w.heap.size w (w2.drewN q3)) := below_drewN H2.out q3
    have HPI3 := hide (HPI2.out.below (below_drewN (Below.refl w2.heap.size w2) q3) (Nat.le_refl _))
    generalize w2.drewN q3 = w3 at *
    clear H2 HPI2 HV1 HV2
    obtain ⟨k, hk⟩ : ∃ k, R.length = k := ⟨_, rfl⟩
    have HK := hide hk
    rw [hk] at hlen ⊢
    clear hk
    have HB0 : Hid (bitsTo R 0 = 0) := rfl
    go_wp2
    go_loopw [6, 7] (fun s i wr => ∃ j : Nat, s = .int .i64 ((bitsTo R j : Nat) : Int) ∧ i = .int .i64 (j : Int) ∧ j ≤ k ∧ Hid (Below w3.heap.size w3 wr)) (fun _ i _ => k - (intOf i).toNat)
    case atStart => exact ⟨0, rfl, rfl, Nat.zero_le _, Below.refl _ _⟩
    case round =>
      obtain ⟨j, rfl, rfl, hjk, hBr⟩ := hrel
      have hbl := bitsTo_le R j
      by_cases hlt : j < k
      · have hPr := HPI3.out.below hBr.out (Nat.le_refl _)
        obtain ⟨g, rfl, hg, e1, e2⟩ := hPr.at (i := j) (by rw [HK.out]; exact hlt)
        have hsucc := hide (bitsTo_succ R j (by rw [HK.out]; exact hlt))
        have hmk := HML.out j
        rw [HWD.out j (by rw [HK.out]; exact hlt)] at e1
        rw [Nat.mul_comm 2 j] at e1 e2
        have HCt := fun w => hide (count20 (R.getD j (0, 0)).2 hmk w)
        have hct := Plain.cnt_le (R.getD j (0, 0)).2
        generalize (R.getD j (0, 0)).2 = m at *
        generalize Plain.cnt m = cm at *
        generalize bitsTo R j = S at *
        by_cases hj0 : j = 0
        · subst hj0
          clear hPr
          simp only [Nat.zero_mul, Nat.zero_add, Nat.add_zero] at e1 e2
          go_wp2_with fail
          go_quiet (fail)
          go_wp2_with fail
          refine (HCt _).out.mono ?_
          rintro e w5 ⟨rfl, hb5⟩
          have H5 : Hid (Below w3.heap.size w3 w5) := (below_drewN hBr.out _).trans (hb5.mono (below_drewN hBr.out _).size)
          clear hb5
          go_wp2
          go_roundw
          case rel => exact ⟨0 + 1, by rw [hsucc.out]; go_num, by go_num, by omega, H5.out⟩
          case measure => simp [intOf]; omega
        · obtain ⟨i, rfl⟩ : ∃ i, j = i + 1 := ⟨j - 1, by omega⟩
          obtain ⟨g', hgg, _, e3, _⟩ := hPr.at (i := i) (by rw [HK.out]; omega)
          cases hgg
          rw [HWD.out i (by rw [HK.out]; omega), Nat.mul_comm 2 i] at e3
          have hne : ((((z + (i + 1) : Nat) : Int)) != (((z + i : Nat) : Int)) + 1) = false := by simp; omega
          have hzi : z + (i + 1) ≤ 300000000000000000 := by omega
          have hzj : z + i ≤ 300000000000000000 := by omega
          generalize hz1 : z + (i + 1) = z1 at *
          generalize hz2 : z + i = z2 at *
          clear hPr hz1 hz2 hj0
          go_wp2_with fail
          go_quiet (fail)
          go_wp2_with fail
          refine (HCt _).out.mono ?_
          rintro e w5 ⟨rfl, hb5⟩
          have H5 : Hid (Below w3.heap.size w3 w5) := (below_drewN hBr.out _).trans (hb5.mono (below_drewN hBr.out _).size)
          clear hb5
          go_wp2
          go_roundw
          case rel => exact ⟨i + 1 + 1, by rw [hsucc.out]; go_num, by go_num, by omega, H5.out⟩
          case measure => simp [intOf]; omega
      · obtain rfl : j = k := by omega
        have HB3 : Hid (Below w.heap.size w wr) := H3.out.trans (hBr.out.mono H3.out.size)
        by_cases hk0 : j = 0
        · subst hk0
          go_wp2_with fail
          refine (awake22 _ (HT.out _ HB3.out)).mono ?_
          rintro e w6 ⟨rfl, hb6⟩
          go_wp2
          go_ret
          exact ⟨rfl, HB3.out.trans (hb6.mono HB3.out.size)⟩
        · have hne : R ≠ [] := fun e => hk0 (by rw [← HK.out, e]; rfl)
          have hall := HALL.out hne
          rw [HK.out] at hall
          generalize bitsTo R j = S at *
          clear hne
          go_wp2_with fail
          refine (awake22 _ (HT.out _ HB3.out)).mono ?_
          rintro e w6 ⟨rfl, hb6⟩
          go_wp2
          go_ret
          exact ⟨rfl, HB3.out.trans (hb6.mono HB3.out.size)⟩
  · have hq9 : q' ≤ 65536 := by omega
    go_wp2_with fail
    refine HP.out.mono ?_
    rintro e w1 ⟨v, he, hp1, hb1⟩
    have HV := hide hp1
    obtain ⟨a1, c1, hv, hpi⟩ := hp1
    have HPI := hide hpi
    subst hv
    subst he
    have H1 : Hid (Below w.heap.size w w1) := hb1
    clear hb1 hpi HP
    go_wp2_with fail
    refine (HRP.out w1).mono ?_
    rintro e w2 ⟨v2, he, hp2, hb2⟩
    have HV1 := hide (HV.out.below hb2 (Nat.le_refl _))
    have HPI2 := hide (HPI.out.below hb2 (Nat.le_refl _))
    have HV2 := hide hp2
    obtain ⟨a2, c2, hv2, _⟩ := hp2
    subst hv2
    subst he
    have H2 : Hid (Below w.heap.size w w2) := H1.out.trans (hb2.mono H1.out.size)
    clear hb2 HRP HV HPI H1
    go_wp2_with fail
    refine (sameParts24 R (by omega) _ _ w2 HV1.out HV2.out).mono ?_
    rintro e w3 ⟨rfl, q3, rfl⟩
    have H3 : Hid (Below w.heap.size w (w2.drewN q3)) := below_drewN H2.out q3
    have HPI3 := hide (HPI2.out.below (below_drewN (Below.refl w2.heap.size w2) q3) (Nat.le_refl _))
    generalize w2.drewN q3 = w3 at *
    clear H2 HPI2 HV1 HV2
    obtain ⟨k, hk⟩ : ∃ k, R.length = k := ⟨_, rfl⟩
    have HK := hide hk
    rw [hk] at hlen ⊢
    clear hk
    have HB0 : Hid (bitsTo R 0 = 0) := rfl
    go_wp2
    go_loopw [6, 7] (fun s i wr => ∃ j : Nat, s = .int .i64 ((bitsTo R j : Nat) : Int) ∧ i = .int .i64 (j : Int) ∧ j ≤ k ∧ Hid (Below w3.heap.size w3 wr)) (fun _ i _ => k - (intOf i).toNat)
    case atStart => exact ⟨0, rfl, rfl, Nat.zero_le _, Below.refl _ _⟩
    case round =>
      obtain ⟨j, rfl, rfl, hjk, hBr⟩ := hrel
      have hbl := bitsTo_le R j
      by_cases hlt : j < k
      · have hPr := HPI3.out.below hBr.out (Nat.le_refl _)
        obtain ⟨g, rfl, hg, e1, e2⟩ := hPr.at (i := j) (by rw [HK.out]; exact hlt)
        have hsucc := hide (bitsTo_succ R j (by rw [HK.out]; exact hlt))
        have hmk := HML.out j
        rw [HWD.out j (by rw [HK.out]; exact hlt)] at e1
        rw [Nat.mul_comm 2 j] at e1 e2
        have HCt := fun w => hide (count20 (R.getD j (0, 0)).2 hmk w)
        have hct := Plain.cnt_le (R.getD j (0, 0)).2
        generalize (R.getD j (0, 0)).2 = m at *
        generalize Plain.cnt m = cm at *
        generalize bitsTo R j = S at *
        by_cases hj0 : j = 0
        · subst hj0
          clear hPr
          simp only [Nat.zero_mul, Nat.zero_add, Nat.add_zero] at e1 e2
          go_wp2_with fail
          go_quiet (fail)
          go_wp2_with fail
          refine (HCt _).out.mono ?_
          rintro e w5 ⟨rfl, hb5⟩
          have H5 : Hid (Below w3.heap.size w3 w5) := (below_drewN hBr.out _).trans (hb5.mono (below_drewN hBr.out _).size)
          clear hb5
          go_wp2
          go_roundw
          case rel => exact ⟨0 + 1, by rw [hsucc.out]; go_num, by go_num, by omega, H5.out⟩
          case measure => simp [intOf]; omega
        · obtain ⟨i, rfl⟩ : ∃ i, j = i + 1 := ⟨j - 1, by omega⟩
          obtain ⟨g', hgg, _, e3, _⟩ := hPr.at (i := i) (by rw [HK.out]; omega)
          cases hgg
          rw [HWD.out i (by rw [HK.out]; omega), Nat.mul_comm 2 i] at e3
          have hne : ((((z + (i + 1) : Nat) : Int)) != (((z + i : Nat) : Int)) + 1) = false := by simp; omega
          have hzi : z + (i + 1) ≤ 300000000000000000 := by omega
          have hzj : z + i ≤ 300000000000000000 := by omega
          generalize hz1 : z + (i + 1) = z1 at *
          generalize hz2 : z + i = z2 at *
          clear hPr hz1 hz2 hj0
          go_wp2_with fail
          go_quiet (fail)
          go_wp2_with fail
          refine (HCt _).out.mono ?_
          rintro e w5 ⟨rfl, hb5⟩
          have H5 : Hid (Below w3.heap.size w3 w5) := (below_drewN hBr.out _).trans (hb5.mono (below_drewN hBr.out _).size)
          clear hb5
          go_wp2
          go_roundw
          case rel => exact ⟨i + 1 + 1, by rw [hsucc.out]; go_num, by go_num, by omega, H5.out⟩
          case measure => simp [intOf]; omega
      · obtain rfl : j = k := by omega
        have HB3 : Hid (Below w.heap.size w wr) := H3.out.trans (hBr.out.mono H3.out.size)
        by_cases hk0 : j = 0
        · subst hk0
          go_wp2_with fail
          refine (awake22 _ (HT.out _ HB3.out)).mono ?_
          rintro e w6 ⟨rfl, hb6⟩
          go_wp2
          go_ret
          exact ⟨rfl, HB3.out.trans (hb6.mono HB3.out.size)⟩
        · have hne : R ≠ [] := fun e => hk0 (by rw [← HK.out, e]; rfl)
          have hall := HALL.out hne
          rw [HK.out] at hall
          generalize bitsTo R j = S at *
          clear hne
          go_wp2_with fail
          refine (awake22 _ (HT.out _ HB3.out)).mono ?_
          rintro e w6 ⟨rfl, hb6⟩
          go_wp2
          go_ret
          exact ⟨rfl, HB3.out.trans (hb6.mono HB3.out.size)⟩
  · have hq9 : 1048576 < q' := by omega
    go_wp2_with fail
    refine HP.out.mono ?_
    rintro e w1 ⟨v, he, hp1, hb1⟩
    have HV := hide hp1
    obtain ⟨a1, c1, hv, hpi⟩ := hp1
    have HPI := hide hpi
    subst hv
    subst he
    have H1 : Hid (Below w.heap.size w w1) := hb1
    clear hb1 hpi HP
    go_wp2_with fail
    refine (HRP.out w1).mono ?_
    rintro e w2 ⟨v2, he, hp2, hb2⟩
    have HV1 := hide (HV.out.below hb2 (Nat.le_refl _))
    have HPI2 := hide (HPI.out.below hb2 (Nat.le_refl _))
    have HV2 := hide hp2
    obtain ⟨a2, c2, hv2, _⟩ := hp2
    subst hv2
    subst he
    have H2 : Hid (Below w.heap.size w w2) := H1.out.trans (hb2.mono H1.out.size)
    clear hb2 HRP HV HPI H1
    go_wp2_with fail
    refine (sameParts24 R (by omega) _ _ w2 HV1.out HV2.out).mono ?_
    rintro e w3 ⟨rfl, q3, rfl⟩
    have H3 : Hid (Below w.heap.size w (w2.drewN q3)) := below_drewN H2.out q3
    have HPI3 := hide (HPI2.out.below (below_drewN (Below.refl w2.heap.size w2) q3) (Nat.le_refl _))
    generalize w2.drewN q3 = w3 at *
    clear H2 HPI2 HV1 HV2
    obtain ⟨k, hk⟩ : ∃ k, R.length = k := ⟨_, rfl⟩
    have HK := hide hk
    rw [hk] at hlen ⊢
    clear hk
    have HB0 : Hid (bitsTo R 0 = 0) := rfl
    go_wp2
    go_loopw [6, 7] (fun s i wr => ∃ j : Nat, s = .int .i64 ((bitsTo R j : Nat) : Int) ∧ i = .int .i64 (j : Int) ∧ j ≤ k ∧ Hid (Below w3.heap.size w3 wr)) (fun _ i _ => k - (intOf i).toNat)
    case atStart => exact ⟨0, rfl, rfl, Nat.zero_le _, Below.refl _ _⟩
    case round =>
      obtain ⟨j, rfl, rfl, hjk, hBr⟩ := hrel
      have hbl := bitsTo_le R j
      by_cases hlt : j < k
      · have hPr := HPI3.out.below hBr.out (Nat.le_refl _)
        obtain ⟨g, rfl, hg, e1, e2⟩ := hPr.at (i := j) (by rw [HK.out]; exact hlt)
        have hsucc := hide (bitsTo_succ R j (by rw [HK.out]; exact hlt))
        have hmk := HML.out j
        rw [HWD.out j (by rw [HK.out]; exact hlt)] at e1
        rw [Nat.mul_comm 2 j] at e1 e2
        have HCt := fun w => hide (count20 (R.getD j (0, 0)).2 hmk w)
        have hct := Plain.cnt_le (R.getD j (0, 0)).2
        generalize (R.getD j (0, 0)).2 = m at *
        generalize Plain.cnt m = cm at *
        generalize bitsTo R j = S at *
        by_cases hj0 : j = 0
        · subst hj0
          clear hPr
          simp only [Nat.zero_mul, Nat.zero_add, Nat.add_zero] at e1 e2
          go_wp2_with fail
          go_quiet (fail)
          go_wp2_with fail
          refine (HCt _).out.mono ?_
          rintro e w5 ⟨rfl, hb5⟩
          have H5 : Hid (Below w3.heap.size w3 w5) := (below_drewN hBr.out _).trans (hb5.mono (below_drewN hBr.out _).size)
          clear hb5
          go_wp2
          go_roundw
          case rel => exact ⟨0 + 1, by rw [hsucc.out]; go_num, by go_num, by omega, H5.out⟩
          case measure => simp [intOf]; omega
        · obtain ⟨i, rfl⟩ : ∃ i, j = i + 1 := ⟨j - 1, by omega⟩
          obtain ⟨g', hgg, _, e3, _⟩ := hPr.at (i := i) (by rw [HK.out]; omega)
          cases hgg
          rw [HWD.out i (by rw [HK.out]; omega), Nat.mul_comm 2 i] at e3
          have hne : ((((z + (i + 1) : Nat) : Int)) != (((z + i : Nat) : Int)) + 1) = false := by simp; omega
          have hzi : z + (i + 1) ≤ 300000000000000000 := by omega
          have hzj : z + i ≤ 300000000000000000 := by omega
          generalize hz1 : z + (i + 1) = z1 at *
          generalize hz2 : z + i = z2 at *
          clear hPr hz1 hz2 hj0
          go_wp2_with fail
          go_quiet (fail)
          go_wp2_with fail
          refine (HCt _).out.mono ?_
          rintro e w5 ⟨rfl, hb5⟩
          have H5 : Hid (Below w3.heap.size w3 w5) := (below_drewN hBr.out _).trans (hb5.mono (below_drewN hBr.out _).size)
          clear hb5
          go_wp2
          go_roundw
          case rel => exact ⟨i + 1 + 1, by rw [hsucc.out]; go_num, by go_num, by omega, H5.out⟩
          case measure => simp [intOf]; omega
      · obtain rfl : j = k := by omega
        have HB3 : Hid (Below w.heap.size w wr) := H3.out.trans (hBr.out.mono H3.out.size)
        by_cases hk0 : j = 0
        · subst hk0
          go_wp2_with fail
          refine (awake22 _ (HT.out _ HB3.out)).mono ?_
          rintro e w6 ⟨rfl, hb6⟩
          go_wp2
          go_ret
          exact ⟨rfl, HB3.out.trans (hb6.mono HB3.out.size)⟩
        · have hne : R ≠ [] := fun e => hk0 (by rw [← HK.out, e]; rfl)
          have hall := HALL.out hne
          rw [HK.out] at hall
          generalize bitsTo R j = S at *
          clear hne
          go_wp2_with fail
          refine (awake22 _ (HT.out _ HB3.out)).mono ?_
          rintro e w6 ⟨rfl, hb6⟩
          go_wp2
          go_ret
          exact ⟨rfl, HB3.out.trans (hb6.mono HB3.out.size)⟩

theorem walk (p : Int) (hp : -9223372036854775808 ≤ p ∧ p ≤ 9223372036854775807) (q : Int) (hq : -9223372036854775808 ≤ q ∧ q ≤ 9223372036854775807) (w : World) (hT : Tab w) :
    Calls Tryd.prog 4 #[.int .i64 p, .int .i64 q] w fun e w' => e = .returned (.bool true) ∧ Below w.heap.size w w' :=
  walkAt p hp q hq (if 65536 < q ∧ q ≤ 1048576 then q % 65536 else q) (by split <;> rfl) w hT

set_option maxRecDepth 100000 in
theorem lifted (os : Os) (started : os.Started) (H : Type) (enc : TypeId × Value → H) :
    ReturnsInHanded {} Tryd.checked os 4 .any (fun w args => (Rows.bitmapPartsSpec.pre enc Tryd.prog Tryd.f4 [] false w args ∧ laidMetH Tryd.prog laidL w) ∧ sizedMet enc Tryd.prog Tryd.f4 (OpenSpec.ofChange Rows.bitmapPartsSpec) false w args)
      (Rows.bitmapPartsSpec.post enc Tryd.prog Tryd.f4 false true false false) := by
  refine returnsInHanded_of_change_and (C := Tryd.checked) (X := fun w _ => laidMetH Tryd.prog laidL w) (fun _ _ _ hh h => h.of_heap hh) own started (by kernel_rfl) Tryd.func4
    (ChangeSpec.witness_shaped (enc := enc) (C := Tryd.checked) (os := os) (X := fun w _ => laidMetH Tryd.prog laidL w) false (World.doorLaid Tryd.prog 400 os) #[.int .i64 0, .int .i64 0] 8 rfl (World.shaped_of_RefB (by kernel_rfl) (by kernel_rfl)) (by kernel_rfl) (by kernel_rfl) (by kernel_rfl) (door_met os _)) ?_
  intro W base args ds gs before hval0 hW _ _ hL _
  have hval : ∀ (j : Nat) t v, Tryd.f4.params[j]? = some t → args[j]? = some v → Value.okWide Tryd.prog W .any base t v := hval0
  have hW' := hW
  obtain ⟨p, q, hA0, hV, rfl, hfz, hnd⟩ := hW
  have hA : DataW.TrodAll enc Tryd.prog W 0 (fun _ => true) true Tryd.f4.params.toList args.toList ds p := hA0
  rw [Tryd.params4] at hA hval
  obtain ⟨v0, vs0, d0, ds0, p0, q0, hargs, rfl, rfl, h0, r0⟩ := trodAll_cons hA
  obtain ⟨v1, vs1, d1, ds1, p1, q1, rfl, rfl, rfl, h1, r1⟩ := trodAll_cons r0
  obtain ⟨rfl, rfl, rfl⟩ := trodAll_nil r1
  obtain rfl : args = #[v0, v1] := by cases args; simp_all
  obtain ⟨rfl, rfl⟩ := trodVars_none hV
  obtain ⟨a0, rfl, rfl, rfl, w0⟩ := open_int Tryd.underlying3 (hval 0 3 v0 rfl rfl) h0
  obtain ⟨a1, rfl, rfl, rfl, w1⟩ := open_int Tryd.underlying3 (hval 1 3 v1 rfl rfl) h1
  clear hA0 hval0
  have hx0 := i64_bd w0
  have hx1 := i64_bd w1
  refine (walk a0 hx0 a1 hx1 W (tab_of_laid hL)).mono fun e W' ⟨he, bel⟩ => ?_
  subst he
  exact ⟨_, rfl, _, _, _, [], _, [], hW', trodAll_mk1 (shut_bool Tryd.underlying4 _), (trodAll_cons_mk (shut_int Tryd.underlying3 w0) (trodAll_cons_mk (shut_int Tryd.underlying3 w1) trodAll_mk0)), rfl, bel.frame _, fun h => by cases h⟩

theorem over : Rows.BitmapPartsSaid :=
  OpenClaim.holds_of_wide 4 Tryd.f4 rfl rfl rfl rfl rfl rfl rfl ⟨rfl, rfl, rfl, rfl, rfl⟩ rfl rfl rfl rfl rfl (by kernel_rfl) Tryd.func4 (by kernel_rfl)
    (of_decide_eq_true (by kernel_rfl)) (by unfold Func.isWrapper; first | (rw [if_pos (by decide +kernel)]; kernel_rfl) | (rw [if_neg (by decide +kernel)]; exact ⟨rfl, rfl⟩))
    (fun os started H enc _ => lifted os started H enc)
end Go.Proofs.YtlicdlpebhalaaaDoor.bitmapParts
namespace Go.Proofs.YtlicdlpebhalaaaDoor

theorem bitmapParts_card : Rows.BitmapPartsCardSaid :=
  Claim7.holds_tied_plain_at .later [] [.data] true (true, "6fc65819a77c73ce99a1c081f2558f99aa8d3c850c923daa96cdcf8d21cd8057") false
    bitmapParts.over (fun _ h => by cases h) (by kernel_rfl) (fun _ h => by cases h) bitmapParts_row_tie rfl ⟨rfl, rfl⟩ (by kernel_rfl) rfl
    (fun f fn hf hfn => by
      obtain rfl : f = 4 := Option.some.inj ((show Tryd.prog.funcNamed Rows.bitmapPartsRow.func = some 4 by kernel_rfl).symm.trans hf) |>.symm
      obtain rfl : fn = Tryd.f4 := (Option.some.inj (Tryd.func4.symm.trans hfn)).symm
      exact ⟨by kernel_rfl, fun j t ht => by
        rw [Tryd.params4] at ht
        have hm : t ∈ [3, 3] := by simpa using Array.mem_of_getElem? ht
        have hall : ([3, 3].all fun u => !Tryd.prog.wantsStandIn u) = true := by kernel_rfl
        exact (show Tryd.prog.wantsStandIn t = false by simpa using List.all_eq_true.1 hall t hm)⟩)
    (by kernel_rfl)
end Go.Proofs.YtlicdlpebhalaaaDoor
