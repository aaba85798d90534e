/- No bit of a run is set, and each that is not set is in one; ahead of a run, and behind it, a bit is set, or the list ends; so many are set as are in none: the law BitmapRuns answers true at every input, and its arguments read behind the call as they read before. Condition: the listed table of math/bits is laid as the program's text lays it (the card ties it). -/
import Derived.Test.YtlicdlpebhalaaaDoorAwake3
import Derived.Test.YtlicdlpebhalaaaDoorRefTurn
import Derived.Test.YtlicdlpebhalaaaDoorRefl
import Derived.Test.YtlicdlpebhalaaaDoorLaid
namespace Go.Proofs.YtlicdlpebhalaaaDoor.bitmapRuns
open Go.ChangeShapes Go.WideShapes Go.ChangeAt Go.RowKit

/-- Where run j - 1 ends. -/
def endOf (R : List (Nat × Nat)) : Nat → Nat
  | 0 => 0
  | j + 1 => (R.getD j (0, 0)).1 + (R.getD j (0, 0)).2

def freeTo (R : List (Nat × Nat)) (j : Nat) : Nat := Bitm.total (R.take j)
theorem freeTo_succ (R : List (Nat × Nat)) (j : Nat) (h : j < R.length) : freeTo R (j + 1) = freeTo R j + (R.getD j (0, 0)).2 := by
  unfold freeTo Bitm.total
  rw [List.take_add_one, List.map_append, List.sum_append, List.getElem?_eq_getElem h, List.getD_eq_getElem?_getD, List.getElem?_eq_getElem h]
  simp

theorem getD_mem {R : List (Nat × Nat)} {j : Nat} (h : j < R.length) : R.getD j (0, 0) ∈ R := by
  rw [List.getD_eq_getElem?_getD, List.getElem?_eq_getElem h]
  exact List.getElem_mem h

theorem run_apart {R : List (Nat × Nat)} (hs : R.Pairwise fun r s => r.1 + r.2 < s.1) {i j : Nat} (hij : i < j) (hj : j < R.length) : (R.getD i (0, 0)).1 + (R.getD i (0, 0)).2 < (R.getD j (0, 0)).1 := by
  rw [List.getD_eq_getElem?_getD, List.getD_eq_getElem?_getD, List.getElem?_eq_getElem hj, List.getElem?_eq_getElem (by omega)]
  exact List.pairwise_iff_getElem.1 hs i j (by omega) hj hij

/-- Ahead of run j, behind the one before, all bits are set. -/
theorem gap (l : List Nat) (e j : Nat) (hj : j ≤ (Bitm.runsTo l e).length) (i : Nat) (h1 : endOf (Bitm.runsTo l e) j ≤ i) (h2 : j < (Bitm.runsTo l e).length → i < ((Bitm.runsTo l e).getD j (0, 0)).1) (hie : i < e) : Bitm.bit l i = true := by
  have hs := Bitm.runsTo_sorted l e
  have hm := Bitm.runsTo_mem l i e hie
  generalize Bitm.runsTo l e = R at *
  cases hb : Bitm.bit l i with
  | true => rfl
  | false =>
    obtain ⟨r, hr, hr1, hr2⟩ := hm.2 hb
    obtain ⟨t, ht, rfl⟩ := List.getElem_of_mem hr
    have hg : R[t] = R.getD t (0, 0) := by rw [List.getD_eq_getElem?_getD, List.getElem?_eq_getElem ht]; rfl
    rw [hg] at hr1 hr2
    exfalso
    by_cases htj : t < j
    · obtain ⟨u, rfl⟩ : ∃ u, j = u + 1 := ⟨j - 1, by omega⟩
      simp only [endOf] at h1
      by_cases htu : t = u
      · rw [htu] at hr1 hr2; omega
      · have := run_apart hs (show t < u by omega) (show u < R.length by omega)
        omega
    · have hjl : j < R.length := by omega
      have h3 := h2 hjl
      by_cases htj2 : t = j
      · rw [htj2] at hr1; omega
      · have := run_apart hs (show j < t by omega) ht
        omega

theorem inside_run (l : List Nat) (e j : Nat) (hj : j < (Bitm.runsTo l e).length) (i : Nat) (h1 : ((Bitm.runsTo l e).getD j (0, 0)).1 ≤ i) (h2 : i < ((Bitm.runsTo l e).getD j (0, 0)).1 + ((Bitm.runsTo l e).getD j (0, 0)).2) : Bitm.bit l i = false := by
  have hb := (Bitm.runsTo_below l e _ (getD_mem hj)).2
  exact (Bitm.runsTo_mem l i e (by omega)).1 ⟨_, getD_mem hj, h1, h2⟩

set_option maxRecDepth 100000 in
set_option maxHeartbeats 4000000 in
theorem walk (l : List Nat) (a : Option Addr) (c : Nat) (hlc : l.length ≤ c) (hcm : c ≤ maxLen) (hf : Bitm.Fit l) (hz : a = none → c = 0) (y : Nat) (hy : y < 65536) (w : World) (hW : WordsIn w a l) (hT : Tab w) :
    Calls Tryd.prog 6 #[.slice a l.length c, .int .u16 (y : Int)] w fun e w' => e = .returned (.bool true) ∧ Below w.heap.size w w' := by
  have HS := hide (small9 l a c hz hlc hcm w hW)
  have HF : Hid (Bitm.Fit (l.take 20)) := fun x hx => hf x (List.mem_of_mem_take hx)
  have HL : Hid ((l.take 20).length ≤ 20) := hide (by simp; omega)
  generalize l.take 20 = L at *
  generalize l.length = n0 at *
  have hpos := hT.lt
  have HT := hide (fun (x : World) (hx : Below w.heap.size w x) => hT.below hpos hx)
  clear hT hW hf hz
  go_enter Tryd.func6, Tryd.ntmps6
  go_wp2_with fail
  refine HS.out.mono ?_
  rintro e0 w1 ⟨v, he0, hown, hb1⟩
  obtain ⟨a1, c1, rfl, hw1, hz1, hlc1, hcm1⟩ := hown.words
  subst he0
  have HW := hide (fun (x : World) (hx : Below w1.heap.size w1 x) => hw1.below hx (Nat.le_refl _))
  have HZ := hide hz1
  have HB := hide (fun (x : World) (hx : Below w1.heap.size w1 x) => hb1.trans (hx.mono hb1.size))
  have H1 : Hid (Below w1.heap.size w1 w1) := Below.refl _ _
  have HO := hide hown
  clear hw1 hz1 hown hb1 HS
  have HHI := hide (fun (x : World) (hx : Below w1.heap.size w1 x) (j : Int) (h1 : -9223372036854775808 ≤ j) (h2 : j ≤ 9223372036854775807) => has15 L (by have := HL.out; omega) HF.out a1 c1 j h1 h2 x (HW.out _ hx))
  have HH := hide (fun (x : World) (hx : Below w1.heap.size w1 x) (j : Nat) (hj : j ≤ 1048576) => has15 L (by have := HL.out; omega) HF.out a1 c1 (j : Int) (by omega) (by omega) x (HW.out _ hx))
  simp only [hasAns_nat] at HH
  have HL2 : Hid (L.length ≤ 1099511627) := by show L.length ≤ _; have := HL.out; omega
  have HL3 : Hid (L.length ≤ 1099511627776) := by show L.length ≤ _; have := HL.out; omega
  obtain ⟨k, hk⟩ : ∃ k, L.length = k := ⟨_, rfl⟩
  have HK := hide hk
  have hk20 : k ≤ 20 := by have := HL.out; omega
  rw [hk] at hlc1 HH HHI ⊢
  clear hk
  have hmm : (y : Int) % 1400 = ((y % 1400 : Nat) : Int) := by simp
  have hm14 : y % 1400 < 1400 := by omega
  generalize y % 1400 = m at *
  have c2 := runs20 L HL2.out HF.out a1 c1 (m : Int) w1 (HT.out _ (HB.out _ H1.out)) (HW.out _ H1.out)
  rw [HK.out] at c2
  have hcase : (m ≤ 64 * k ∧ heldN (m : Int) k ≤ m ∧ m ≤ heldN (m : Int) k) ∨ (64 * k < m ∧ heldN (m : Int) k ≤ 64 * k ∧ 64 * k ≤ heldN (m : Int) k) := by unfold heldN; omega
  generalize heldN (m : Int) k = e at *
  have C3 := hide (fun (x : World) (hx : Below w1.heap.size w1 x) (t : Int) (ht : heldN t k = e) => (show Calls Tryd.prog 17 #[.slice a1 k c1, .int .i64 t] x fun r w' => r = .returned (.int .i64 (Bitm.countTo L e : Int)) ∧ Below x.heap.size x w' from by
    have c3 := count17 L HL3.out HF.out a1 c1 t x (HW.out _ hx)
    rw [HK.out, ht] at c3
    exact c3))
  have HLE := hide (Bitm.runs_len L e)
  have HBE := hide (Bitm.runsTo_below L e)
  have HSO := hide (Bitm.runsTo_sorted L e)
  have HGAP := hide (gap L e)
  have HIN := hide (inside_run L e)
  have HSUM := hide (Bitm.runs_count L e)
  have hcl := Bitm.countTo_le L e
  obtain ⟨R, hR⟩ : ∃ R, Bitm.runsTo L e = R := ⟨_, rfl⟩
  rw [hR] at c2 HLE HBE HSO HGAP HIN HSUM
  clear hR
  generalize Bitm.countTo L e = ct at *
  rcases hcase with ⟨q1, q2, q3⟩ | ⟨q1, q2, q3⟩ <;> (
    go_wp2_with fail
    refine c2.mono ?_
    rintro e1 w2 ⟨v2, he1, hp2, hb2⟩
    have H2 : Hid (Below w1.heap.size w1 w2) := hb2
    obtain ⟨a2, c2, hv2, hpi⟩ := hp2
    subst hv2
    subst he1
    have HPI := hide hpi
    obtain ⟨n2, hn2⟩ : ∃ n2, R.length = n2 := ⟨_, rfl⟩
    have HN2 := hide hn2
    have hn2le : n2 ≤ e := by have := HLE.out; omega
    rw [hn2]
    clear hn2 hpi hb2
    go_wp2
    go_loopw [7, 8, 9] (fun at_ fr kk wr => ∃ j A F : Nat, at_ = .int .i64 (A : Int) ∧ fr = .int .i64 (F : Int) ∧ kk = .int .i64 (j : Int) ∧ j ≤ n2 ∧ A ≤ e ∧ F ≤ 1400 * j ∧ Hid (A = endOf R j ∧ F = freeTo R j) ∧ Hid (Below w2.heap.size w2 wr)) (fun _ _ kk _ => n2 - (intOf kk).toNat)
    case atStart => exact ⟨0, 0, 0, rfl, rfl, rfl, Nat.zero_le _, Nat.zero_le _, Nat.zero_le _, ⟨rfl, rfl⟩, Below.refl _ _⟩
    case round =>
      obtain ⟨j, A, F, rfl, rfl, rfl, hjn, hAe, hF, hAF, hBr⟩ := hrel
      generalize wr = V at *
      have K1 : Hid (Below w1.heap.size w1 V) := H2.out.trans (hBr.out.mono H2.out.size)
      by_cases hlt : j < n2
      · have hjR : j < R.length := by rw [HN2.out]; exact hlt
        obtain ⟨g, rfl, hg, e1, e2⟩ := (HPI.out.below hBr.out (Nat.le_refl _)).at (i := j) hjR
        obtain ⟨hb1', hb2'⟩ := HBE.out _ (getD_mem hjR)
        have hAx : A ≤ (R.getD j (0, 0)).1 ∧ (0 < j → A < (R.getD j (0, 0)).1) := by
          obtain ⟨hA, _⟩ := hAF.out
          rw [hA]
          cases j with
          | zero => exact ⟨Nat.zero_le _, fun h => by omega⟩
          | succ u => have := run_apart HSO.out (show u < u + 1 by omega) hjR; simp only [endOf]; omega
        obtain ⟨hAx1, hAx2⟩ := hAx
        have HG : Hid (∀ i, A ≤ i → i < (R.getD j (0, 0)).1 → Bitm.bit L i = true) := hide (fun i h1 h2 => HGAP.out j (by omega) i (by rw [← hAF.out.1]; exact h1) (fun _ => h2) (by omega))
        have HI : Hid (∀ i, (R.getD j (0, 0)).1 ≤ i → i < (R.getD j (0, 0)).1 + (R.getD j (0, 0)).2 → Bitm.bit L i = false) := hide (fun i h1 h2 => HIN.out j hjR i h1 h2)
        have HNX : Hid ((R.getD j (0, 0)).1 + (R.getD j (0, 0)).2 = endOf R (j + 1) ∧ F + (R.getD j (0, 0)).2 = freeTo R (j + 1)) := hide ⟨rfl, by rw [freeTo_succ R j hjR, hAF.out.2]⟩
        rw [Nat.mul_comm 2 j] at e1 e2
        generalize (R.getD j (0, 0)).1 = X at *
        generalize (R.getD j (0, 0)).2 = Y at *
        clear hAF hjR
        have hXe : X ≤ 1400 := by omega
        have hYe : Y ≤ 1400 := by omega
        have hE1 : (X : Int) + (Y : Int) ≤ (m : Int) := by omega
        have hE2 : (X : Int) + (Y : Int) ≤ 64 * (k : Int) := by omega
        have hAX : (A : Int) ≤ (X : Int) := by omega
        have hY1 : (1 : Int) ≤ (Y : Int) := by omega
        have d1 : decide ((Y : Int) < 1) = false := by simp; omega
        have d2 : decide (X < A) = false := by simp; omega
        have d3 : decide ((m : Int) < (X : Int) + (Y : Int)) = false := by simp; omega
        have d4 : decide (64 * (k : Int) < (X : Int) + (Y : Int)) = false := by simp; omega
        have hbx : (V.alloc (.cells #[.int .i64 (X : Int), .int .i64 (Y : Int)] 47)).heap[V.heap.size]? = some (.cells #[.int .i64 (X : Int), .int .i64 (Y : Int)] 47 (0, 0)) := heap_alloc_at V _
        have hsA : V.heap.size < (V.alloc (.cells #[.int .i64 (X : Int), .int .i64 (Y : Int)] 47)).heap.size := by simp
        have HA : Hid (Below w2.heap.size w2 (V.alloc (.cells #[.int .i64 (X : Int), .int .i64 (Y : Int)] 47))) := hBr.out.alloc hBr.out.size _
        have HA1 : Hid (Below w1.heap.size w1 (V.alloc (.cells #[.int .i64 (X : Int), .int .i64 (Y : Int)] 47))) := K1.out.alloc K1.out.size _
        have hne : (decide ((0 : Int) < (j : Int)) = false ∧ decide (0 < j) = false) ∨ ((0 : Int) < (j : Int) ∧ ((X : Int) == (A : Int)) = false) := by
          by_cases h : j = 0
          · exact .inl ⟨by simp; omega, by simp; omega⟩
          · exact .inr ⟨by omega, by have := hAx2 (by omega); simp; omega⟩
        clear hAx2
        rcases hne with ⟨hj0, hj1⟩ | ⟨hj0, hj1⟩ <;> (
          go_wp2
          generalize hWA : (V.alloc (.cells #[.int .i64 (X : Int), .int .i64 (Y : Int)] 47)) = WA at *
          clear hWA
          generalize hbb : V.heap.size = bb at *
          clear hbb
          go_loopw [11] (fun i wr => ∃ j : Nat, i = .int .i64 (j : Int) ∧ A ≤ j ∧ j ≤ X ∧ Hid (Below WA.heap.size WA wr)) (fun i _ => X - (intOf i).toNat)
          case atStart => exact ⟨A, (by first | rfl | (congr 1; omega)), Nat.le_refl _, (by omega), Below.refl _ _⟩
          case round =>
            obtain ⟨j2, rfl, hlj2, hhj2, hBr2⟩ := hrel
            generalize wr = V2 at *
            have K2 : Hid (Below w1.heap.size w1 V2) := HA1.out.trans (hBr2.out.mono HA1.out.size)
            have x2 : V2.cell? ⟨bb, 0, none⟩ = some (.int .i64 (X : Int)) := (hBr2.out.cell (p := ⟨bb, 0, none⟩) hsA).trans (cell_of_heap hbx)
            have y2 : V2.cell? ⟨bb, 1, none⟩ = some (.int .i64 (Y : Int)) := (hBr2.out.cell (p := ⟨bb, 1, none⟩) hsA).trans (cell_of_heap hbx)
            by_cases hlt2 : j2 < X
            · have hHj2 := hide (HH.out _ K2.out j2 (by omega))
              rw [HG.out j2 hlj2 hlt2] at hHj2
              go_wp2_with (go_at_call 15; refine hHj2.out.mono ?_; rintro e8 w5 ⟨rfl, q5, rfl⟩)
              go_roundw
              case rel => exact ⟨j2 + 1, by go_num, by omega, by omega, below_drewN hBr2.out _⟩
              case measure => simp [intOf]; omega
            · skip
              go_wp2
              go_loopw [12] (fun i wr => ∃ j : Nat, i = .int .i64 (j : Int) ∧ X ≤ j ∧ j ≤ (X + Y) ∧ Hid (Below V2.heap.size V2 wr)) (fun i _ => (X + Y) - (intOf i).toNat)
              case atStart => exact ⟨X, (by first | rfl | (congr 1; omega)), Nat.le_refl _, (by omega), Below.refl _ _⟩
              case round =>
                obtain ⟨j3, rfl, hlj3, hhj3, hBr3⟩ := hrel
                generalize wr = V3 at *
                have K3 : Hid (Below w1.heap.size w1 V3) := K2.out.trans (hBr3.out.mono K2.out.size)
                have x3 : V3.cell? ⟨bb, 0, none⟩ = some (.int .i64 (X : Int)) := (hBr3.out.cell (p := ⟨bb, 0, none⟩) (Nat.lt_of_lt_of_le hsA hBr2.out.size)).trans x2
                have y3 : V3.cell? ⟨bb, 1, none⟩ = some (.int .i64 (Y : Int)) := (hBr3.out.cell (p := ⟨bb, 1, none⟩) (Nat.lt_of_lt_of_le hsA hBr2.out.size)).trans y2
                by_cases hlt3 : j3 < (X + Y)
                · have hHj3 := hide (HH.out _ K3.out j3 (by omega))
                  rw [HI.out j3 hlj3 hlt3] at hHj3
                  have hc3 : (j3 : Int) < (X : Int) + (Y : Int) := by omega
                  go_wp2_with (go_at_call 15; refine hHj3.out.mono ?_; rintro e8 w5 ⟨rfl, q5, rfl⟩)
                  go_roundw
                  case rel => exact ⟨j3 + 1, by go_num, by omega, by omega, below_drewN hBr3.out _⟩
                  case measure => simp [intOf]; omega
                · skip
                  have hc3 : ¬ ((j3 : Int) < (X : Int) + (Y : Int)) := by omega
                  go_wp2_with fail
                  go_quiet (fail)
                  go_wp2
                  go_roundw
                  case rel => exact ⟨_, X + Y, F + Y, by go_num, by go_num, by go_num, by omega, by omega, by omega, HNX.out, below_drewN ((HA.out.trans (hBr2.out.mono HA.out.size)).trans (hBr3.out.mono (HA.out.trans (hBr2.out.mono HA.out.size)).size)) _⟩
                  case measure => simp [intOf]; omega)
      · obtain rfl : j = n2 := by omega
        have HG : Hid (∀ i, A ≤ i → i < e → Bitm.bit L i = true) := hide (fun i h1 h2 => HGAP.out j (by rw [HN2.out]; omega) i (by rw [← hAF.out.1]; exact h1) (fun h => by rw [HN2.out] at h; omega) h2)
        have HSM : Hid (ct + F = e) := by
          have h1 := HSUM.out
          have h2 := hAF.out.2
          unfold freeTo at h2
          rw [← HN2.out, List.take_length] at h2
          show ct + F = e
          omega
        clear hAF
        have hFe : F ≤ 1400 := by have := HSM.out; omega
        go_wp2
        go_loopw [13] (fun i wr => ∃ j : Nat, i = .int .i64 (j : Int) ∧ A ≤ j ∧ j ≤ e ∧ Hid (Below V.heap.size V wr)) (fun i _ => e - (intOf i).toNat)
        case atStart => exact ⟨A, (by first | rfl | (congr 1; omega)), Nat.le_refl _, (by omega), Below.refl _ _⟩
        case round =>
          obtain ⟨j4, rfl, hlj4, hhj4, hBr4⟩ := hrel
          generalize wr = V4 at *
          have K4 : Hid (Below w1.heap.size w1 V4) := K1.out.trans (hBr4.out.mono K1.out.size)
          by_cases hlt4 : j4 < e
          · have hHj4 := hide (HH.out _ K4.out j4 (by omega))
            rw [HG.out j4 hlj4 hlt4] at hHj4
            have hA4 : (j4 : Int) < (m : Int) := by omega
            have hB4 : (j4 : Int) < 64 * (k : Int) := by omega
            go_wp2_with (go_at_call 15; refine hHj4.out.mono ?_; rintro e8 w5 ⟨rfl, q5, rfl⟩)
            go_roundw
            case rel => exact ⟨j4 + 1, by go_num, by omega, by omega, below_drewN hBr4.out _⟩
            case measure => simp [intOf]; omega
          · skip
            first | (have hA4 : (m : Int) ≤ (j4 : Int) := by omega) | (have hA4 : 64 * (k : Int) ≤ (j4 : Int) := by omega)
            go_wp2_with fail
            refine (C3.out _ K4.out _ (by unfold heldN; omega)).mono ?_
            rintro e7 w7 ⟨rfl, hb7⟩
            have H7 : Hid (Below w1.heap.size w1 w7) := K4.out.trans (hb7.mono K4.out.size)
            first | (have hsm : (((ct : Int) + (F : Int)) == (m : Int)) = true := by (have := HSM.out; simp; omega)) | (have hsm : (((ct : Int) + (F : Int)) == 64 * (k : Int)) = true := by (have := HSM.out; simp; omega))
            clear hb7
            go_wp2_with fail
            refine (awake22 _ (HT.out _ (HB.out _ H7.out))).mono ?_
            rintro e9 wz ⟨rfl, hbz⟩
            have HZZ : Hid (Below w.heap.size w wz) := (HB.out _ H7.out).trans (hbz.mono (HB.out _ H7.out).size)
            clear hbz
            go_wp2
            go_ret
            exact ⟨rfl, HZZ.out⟩)

set_option maxRecDepth 100000 in
theorem lifted (os : Os) (started : os.Started) (H : Type) (enc : TypeId × Value → H) :
    ReturnsInHanded {} Tryd.checked os 6 .any (fun w args => (Rows.bitmapRunsSpec.pre enc Tryd.prog Tryd.f6 [] false w args ∧ laidMetH Tryd.prog laidL w) ∧ sizedMet enc Tryd.prog Tryd.f6 (OpenSpec.ofChange Rows.bitmapRunsSpec) false w args)
      (Rows.bitmapRunsSpec.post enc Tryd.prog Tryd.f6 false true false false) := by
  refine returnsInHanded_of_change_and (C := Tryd.checked) (X := fun w _ => laidMetH Tryd.prog laidL w) (fun _ _ _ hh h => h.of_heap hh) own started (by kernel_rfl) Tryd.func6
    (ChangeSpec.witness_shaped (enc := enc) (C := Tryd.checked) (os := os) (X := fun w _ => laidMetH Tryd.prog laidL w) false (World.doorLaid Tryd.prog 400 os) #[.slice none 0 0, .int .u16 0] 8 rfl (World.shaped_of_RefB (by kernel_rfl) (by kernel_rfl)) (by kernel_rfl) (by kernel_rfl) (by kernel_rfl) (door_met os _)) ?_
  intro W base args ds gs before hval0 hW _ _ hL _
  have hval : ∀ (j : Nat) t v, Tryd.f6.params[j]? = some t → args[j]? = some v → Value.okWide Tryd.prog W .any base t v := hval0
  have hW' := hW
  obtain ⟨p, q, hA0, hV, rfl, hfz, hnd⟩ := hW
  have hA : DataW.TrodAll enc Tryd.prog W 0 (fun _ => true) true Tryd.f6.params.toList args.toList ds p := hA0
  rw [Tryd.params6] at hA hval
  obtain ⟨v0, vs0, d0, ds0, p0, q0, hargs, rfl, rfl, h0, r0⟩ := trodAll_cons hA
  obtain ⟨v1, vs1, d1, ds1, p1, q1, rfl, rfl, rfl, h1, r1⟩ := trodAll_cons r0
  obtain ⟨rfl, rfl, rfl⟩ := trodAll_nil r1
  obtain rfl : args = #[v0, v1] := by cases args; simp_all
  obtain ⟨rfl, rfl⟩ := trodVars_none hV
  have h0k := h0
  have lt0 : ∀ x ∈ p0, x.block < W.heap.size := fun x hx => hW'.lt x (by simp [hx])
  obtain ⟨l0_0, l0_1, l0_2, rfl, f0_0, f0_1, f0_2, f0_3, f0_4⟩ := open_words (hval 0 22 v0 rfl rfl) h0
  obtain ⟨a1, rfl, rfl, rfl, w1⟩ := open_int Tryd.underlying44 (hval 1 44 v1 rfl rfl) h1
  clear hA0 hval0
  obtain ⟨x1, hx1, rfl⟩ := u16_nat w1
  refine (walk l0_0 l0_1 l0_2 f0_0 f0_1 f0_2 f0_3 x1 hx1 W f0_4 (tab_of_laid hL)).mono fun e W' ⟨he, bel⟩ => ?_
  subst he
  exact ⟨_, rfl, _, _, _, [], _, [], hW', trodAll_mk1 (shut_bool Tryd.underlying4 _), (trodAll_cons_mk (Below.trod laidOut (by kernel_rfl) (of_decide_eq_true (by kernel_rfl)) h0k bel lt0) (trodAll_cons_mk (shut_int Tryd.underlying44 w1) trodAll_mk0)), rfl, bel.frame _, fun h => by cases h⟩

theorem over : Rows.BitmapRunsSaid :=
  OpenClaim.holds_of_wide 6 Tryd.f6 rfl rfl rfl rfl rfl rfl rfl ⟨rfl, rfl, rfl, rfl, rfl⟩ rfl rfl rfl rfl rfl (by kernel_rfl) Tryd.func6 (by kernel_rfl)
    (of_decide_eq_true (by kernel_rfl)) (by unfold Func.isWrapper; first | (rw [if_pos (by decide +kernel)]; kernel_rfl) | (rw [if_neg (by decide +kernel)]; exact ⟨rfl, rfl⟩))
    (fun os started H enc _ => lifted os started H enc)
end Go.Proofs.YtlicdlpebhalaaaDoor.bitmapRuns
namespace Go.Proofs.YtlicdlpebhalaaaDoor

theorem bitmapRuns_card : Rows.BitmapRunsCardSaid :=
  Claim7.holds_tied_plain_at .later [] [.data] true (true, "6fc65819a77c73ce99a1c081f2558f99aa8d3c850c923daa96cdcf8d21cd8057") false
    bitmapRuns.over (fun _ h => by cases h) (by kernel_rfl) (fun _ h => by cases h) bitmapRuns_row_tie rfl ⟨rfl, rfl⟩ (by kernel_rfl) rfl
    (fun f fn hf hfn => by
      obtain rfl : f = 6 := Option.some.inj ((show Tryd.prog.funcNamed Rows.bitmapRunsRow.func = some 6 by kernel_rfl).symm.trans hf) |>.symm
      obtain rfl : fn = Tryd.f6 := (Option.some.inj (Tryd.func6.symm.trans hfn)).symm
      exact ⟨by kernel_rfl, fun j t ht => by
        rw [Tryd.params6] at ht
        have hm : t ∈ [22, 44] := by simpa using Array.mem_of_getElem? ht
        have hall : ([22, 44].all fun u => !Tryd.prog.wantsStandIn u) = true := by kernel_rfl
        exact (show Tryd.prog.wantsStandIn t = false by simpa using List.all_eq_true.1 hall t hm)⟩)
    (by kernel_rfl)
end Go.Proofs.YtlicdlpebhalaaaDoor
