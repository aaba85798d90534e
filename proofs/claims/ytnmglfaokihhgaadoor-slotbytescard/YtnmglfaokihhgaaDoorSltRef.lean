/- Which slot begins at an address: the document's call. -/
import Derived.Test.YtnmglfaokihhgaaDoorSltOf
namespace Go.Proofs.YtnmglfaokihhgaaDoor
open Go.RowKit

namespace Cls
theorem slots_one {c : Int} (h0 : bytes c = 0) (h1 : 0 < slots c) : slots c = 1 := by
  by_cases h : c < 0 ∨ 14 < c
  · unfold slots at h1; rw [row_out h] at h1; simp at h1
  · obtain ⟨k, rfl⟩ := Int.eq_ofNat_of_zero_le (a := c) (by omega)
    by_cases h14 : k = 14
    · subst h14; decide +kernel
    · have := (bytes_le (k := k) (by omega)).1; omega

theorem begins_iff {p c i a : Int} : begins p c i = (a, true) ↔ (0 ≤ p ∧ p < 4096 ∧ 0 ≤ i ∧ i < (slots c : Int)) ∧ p * 8192 + i * (bytes c : Int) = a := by
  unfold begins
  split
  · rename_i h; simp [h]
  · rename_i h; simp [h]

theorem which_is {p c a i : Int} (h : begins p c i = (a, true)) : which p c a = (i, true) := by
  obtain ⟨⟨h1, h2, h3, h4⟩, h5⟩ := begins_iff.1 h
  have hd : a - p * 8192 = i * (bytes c : Int) := by omega
  have hn : 0 ≤ i * (bytes c : Int) := Int.mul_nonneg h3 (by omega)
  unfold which
  rw [hd]
  by_cases hb : bytes c = 0
  · have hs := slots_one hb (by omega)
    have hf : far c = 1 := by unfold far; rw [hb]; rfl
    have hi : i = 0 := by omega
    subst hi
    rw [hf, if_pos ⟨h1, h2, by omega, by omega, by simp, by simp; omega⟩]
    simp
  · have hf : far c = (bytes c : Int) := by unfold far; omega
    have hq : i * (bytes c : Int) / (bytes c : Int) = i := Int.mul_ediv_cancel _ (by omega)
    rw [hf, if_pos ⟨h1, h2, by omega, by omega, Int.mul_emod_left _ _, by rw [hq]; exact h4⟩, hq]

theorem which_begins {p c a i : Int} (h : which p c a = (i, true)) : begins p c i = (a, true) := by
  unfold which at h
  split at h
  · rename_i hc
    obtain ⟨h1, h2, h3, h4, h5, h6⟩ := hc
    have hi := (Prod.mk.inj h).1
    rw [begins_iff]
    by_cases hb : bytes c = 0
    · have hs := slots_one hb (by omega)
      have hf : far c = 1 := by unfold far; rw [hb]; rfl
      rw [hf, Int.ediv_one] at hi h6
      rw [hb]
      refine ⟨⟨h1, h2, by omega, by omega⟩, by simp; omega⟩
    · have hf : far c = (bytes c : Int) := by unfold far; omega
      rw [hf] at hi h5 h6
      have hdm := Int.mul_ediv_add_emod (a - p * 8192) (bytes c : Int)
      have hq := Int.ediv_nonneg (a := a - p * 8192) (b := (bytes c : Int)) (by omega) (by omega)
      rw [hi, h5] at hdm
      rw [hi] at h6 hq
      refine ⟨⟨h1, h2, hq, h6⟩, ?_⟩
      rw [Int.mul_comm i]
      omega
  · cases h

theorem which_none {p c a : Int} (h : ∀ j : Nat, j < slots c → begins p c (j : Int) ≠ (a, true)) : which p c a = (0, false) := by
  rcases hw : which p c a with ⟨i, b⟩
  cases b with
  | true =>
    exfalso
    have hb := which_begins hw
    obtain ⟨⟨_, _, h3, h4⟩, _⟩ := begins_iff.1 hb
    obtain ⟨k, rfl⟩ := Int.eq_ofNat_of_zero_le h3
    exact h k (by omega) hb
  | false =>
    unfold which at hw
    split at hw
    · cases (Prod.mk.inj hw).2
    · rw [(Prod.mk.inj hw).1]

end Cls

set_option maxHeartbeats 1000000 in
theorem rsofOk (p c a i : Int) (b : Bool) (hv : Cls.which p c a = (i, b)) {w0 w : World} (hok : ClsOk w0 w) :
    Calls Tryd.prog 10 #[.int .i64 p, .int .i64 c, .int .i64 a] w fun e w' => e = .returned (.tuple #[.int .i64 i, .bool b]) ∧ ClsOk w0 w' := by
  have HV := hide hv
  have HOK := hide hok
  obtain ⟨s, hs⟩ : ∃ s, Cls.slots c = s := ⟨_, rfl⟩
  have hs64 : s ≤ 64 := by rw [← hs]; exact Cls.slots_bd c
  have HS : Hid ((Cls.slots c : Int) = (s : Int)) := hide (by rw [hs])
  have HN := hide hs
  clear hv hok hs
  go_enter Tryd.func10, Tryd.ntmps10
  go_wp2
  go_loopw [8] (fun i wr => ∃ k : Nat, k ≤ s ∧ i = .int .i64 (k : Int) ∧ Hid (∀ j : Nat, j < k → Cls.begins p c (j : Int) ≠ (a, true)) ∧ Hid (ClsOk w0 wr)) (fun i _ => s - (intOf i).toNat)
  case atStart => exact ⟨0, Nat.zero_le _, rfl, fun i hi => absurd hi (by omega), HOK⟩
  case round =>
    obtain ⟨k, hk, rfl, hall, hbel⟩ := hrel
    by_cases hlt : k < s
    · rcases hb : Cls.begins p c (k : Int) with ⟨x, y⟩
      have HB := hide hb
      cases y with
      | false =>
        have HNE : Hid (Cls.begins p c (k : Int) ≠ (a, true)) := hide (by rw [hb]; simp)
        clear hb
        go_wp2_with fail
        refine (rslotsOk c s HS.out hbel.out).mono ?_
        rintro e w1 ⟨rfl, hok1⟩
        have HOK1 := hide hok1
        clear hok1
        go_wp2_with fail
        refine (rbeginOk p c (k : Int) x false HB.out HOK1.out).mono ?_
        rintro e w2 ⟨rfl, hok2⟩
        have HOK2 := hide hok2
        clear hok2
        go_wp2
        go_roundw
        case rel =>
          refine ⟨k + 1, by omega, by go_num, fun j hj => ?_, HOK2⟩
          by_cases he : j = k
          · subst he; exact HNE.out
          · exact hall.out j (by omega)
        case measure => simp [intOf]; omega
      | true =>
        by_cases hxa : x = a
        · subst hxa
          have hw := Cls.which_is hb
          obtain ⟨rfl, rfl⟩ := Prod.mk.inj (HV.out.symm.trans hw)
          clear hb hw
          go_wp2_with fail
          refine (rslotsOk c s HS.out hbel.out).mono ?_
          rintro e w1 ⟨rfl, hok1⟩
          have HOK1 := hide hok1
          clear hok1
          go_wp2_with fail
          refine (rbeginOk p c (k : Int) x true HB.out HOK1.out).mono ?_
          rintro e w2 ⟨rfl, hok2⟩
          have HOK2 := hide hok2
          clear hok2
          go_wp2
          go_ret2
          exact ⟨rfl, HOK2.out⟩
        · have HNE : Hid (Cls.begins p c (k : Int) ≠ (a, true)) := hide (by rw [hb]; simp [hxa])
          have d : (x == a) = false := by simpa using hxa
          clear hb
          go_wp2_with fail
          refine (rslotsOk c s HS.out hbel.out).mono ?_
          rintro e w1 ⟨rfl, hok1⟩
          have HOK1 := hide hok1
          clear hok1
          go_wp2_with fail
          refine (rbeginOk p c (k : Int) x true HB.out HOK1.out).mono ?_
          rintro e w2 ⟨rfl, hok2⟩
          have HOK2 := hide hok2
          clear hok2
          go_wp2
          go_roundw
          case rel =>
            refine ⟨k + 1, by omega, by go_num, fun j hj => ?_, HOK2⟩
            by_cases he : j = k
            · subst he; exact HNE.out
            · exact hall.out j (by omega)
          case measure => simp [intOf]; omega
    · obtain rfl : k = s := by omega
      have hw := Cls.which_none (p := p) (c := c) (a := a) (by rw [HN.out]; exact hall.out)
      obtain ⟨rfl, rfl⟩ := Prod.mk.inj (HV.out.symm.trans hw)
      clear hw
      go_wp2_with fail
      refine (rslotsOk c k HS.out hbel.out).mono ?_
      rintro e w1 ⟨rfl, hok1⟩
      have HOK1 := hide hok1
      clear hok1
      go_wp2
      go_ret2
      exact ⟨rfl, HOK1.out⟩

end Go.Proofs.YtnmglfaokihhgaaDoor
