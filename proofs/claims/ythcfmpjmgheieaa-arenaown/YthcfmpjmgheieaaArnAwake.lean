/- The document's example of an arena. -/
import Derived.Test.YthcfmpjmgheieaaArnNew
import Derived.Test.YthcfmpjmgheieaaRunAwake
namespace Go.Proofs.Ythcfmpjmgheieaa
open Go.RowKit

theorem St.first_len (n : Nat) : (St.first n).words.length = n := by simp [St.first]
theorem St.first_zero (n : Nat) (h : 1 ≤ n) : (St.first n).words.getD 0 0 = 1 := by
  obtain ⟨m, rfl⟩ : ∃ m, n = m + 1 := ⟨n - 1, by omega⟩
  simp [St.first, List.replicate_succ]
theorem St.first_last (n i : Nat) (h : 1 ≤ i) : (St.first n).words.getD i 0 = 0 := by
  simp only [St.first, List.getD_eq_getElem?_getD, List.getElem?_set]
  rw [if_neg (by omega)]
  by_cases h : i < n
  · simp [h]
  · simp [h]

set_option maxHeartbeats 2000000 in
set_option maxRecDepth 100000 in
theorem awake11 (w : World) : Calls Try.prog 21 #[] w fun e w' => e = .returned (.bool true) ∧ Below w.heap.size w w' := by
  have e90 : (Lay.words 1 1).toNat = 90 := by decide
  have N0 := anew Loc.nought (Own.start w) 1 1 (by decide) [] (by simp) none 0 (fun _ => ⟨rfl, rfl⟩) (fun h => absurd rfl h)
  rw [show ((1 : Nat) : Int) = 1 from rfl, e90] at N0
  simp only [List.length_nil] at N0
  have F : Fine 1 [] 1 [(kOf 0 1, ([] : List Nat).getD 0 0, ())] := (Fit.new (by omega) (by omega) (by simp)).fine (by omega)
  have E5 : runsOf [(kOf 0 1, ([] : List Nat).getD 0 0, ())] = [(0, 1)] := by simp [runsOf, rOf, rA, rN, kOf]
  obtain ⟨L, hL⟩ : ∃ L, [(kOf 0 1, ([] : List Nat).getD 0 0, ())] = L := ⟨_, rfl⟩
  obtain ⟨s, hs⟩ : ∃ s, St.first 90 = s := ⟨_, rfl⟩
  rw [hL] at N0 F E5
  rw [hs] at N0
  have s1 : s.words.length = 90 := by rw [← hs]; exact St.first_len 90
  have s2 : s.words.getD 0 0 = 1 := by rw [← hs]; exact St.first_zero 90 (by omega)
  have HE := hide E5
  have HF := hide F
  have H1 := hide s1
  have H2 := hide s2
  have HN := hide N0
  clear N0 E5 F hL hs s1 s2 e90
  go_enter Try.func21, Try.ntmps21
  go_wp2_with fail
  refine HN.out.mono ?_
  rintro e w1 ⟨q, p, r, rfl, o1⟩
  have O1 := hide o1
  clear o1 HN
  go_wp2_with fail
  refine (genX O1.out (by rw [H1.out]; omega) 1 H2.out (by omega)).mono ?_
  rintro e w2 ⟨rfl, b2⟩
  have O2 := hide (O1.out.below (Loc.ax.sep Loc.nought) b2)
  clear b2 O1
  go_wp2_with fail
  refine (storeX O2.out).mono ?_
  rintro e w3 ⟨rfl, rfl⟩
  go_wp2_with fail
  refine (lenX O2.out).mono ?_
  rintro e w3 ⟨rfl, rfl⟩
  rw [H1.out]
  go_wp2_with fail
  refine (runsX O2.out).mono ?_
  rintro e w3 ⟨rfl, rfl⟩
  go_wp2_with fail
  refine (listX Loc.nought O2.out HF.out).mono ?_
  rintro e w4 ⟨v, rfl, o4⟩
  have HV : Hid (RunsV w4 v (runsOf L)) := hide (by obtain ⟨_, h, _⟩ := o4.mid; exact h)
  have HB := hide o4.back
  clear o4 O2
  go_wp2_with fail
  have hA : Below w4.heap.size w4 (w4.alloc (.cells #[.int .i64 0, .int .i64 1] 84)) := (Below.refl _ w4).alloc (Nat.le_refl _) _
  have hc := heap_alloc_at w4 (.cells #[.int .i64 0, .int .i64 1] 84)
  have hW2 : RunsV (w4.alloc (.cells #[.int .i64 0, .int .i64 1] 84)) (.slice (some ⟨w4.heap.size, 0, none⟩) 1 1) (runsOf L) := by
    rw [HE.out]
    refine ⟨_, _, rfl, fun _ => ⟨w4.heap.size, rfl, lt_of_heap hc, fun i hi => ?_⟩⟩
    match i, hi with
    | 0, _ => exact ⟨cell_of_heap hc, cell_of_heap hc⟩
  refine (sameRuns _ v _ _ (HV.out.below hA) hW2 (by rw [HE.out]; decide)).mono ?_
  rintro e w7 ⟨rfl, h7⟩
  have HB7 : Hid (Below w.heap.size w w7) := hide ((HB.out.trans (hA.mono HB.out.size)).trans (h7.below _))
  clear h7 hW2 hc hA
  go_wp2
  go_ret
  exact ⟨rfl, HB7.out⟩
end Go.Proofs.Ythcfmpjmgheieaa
