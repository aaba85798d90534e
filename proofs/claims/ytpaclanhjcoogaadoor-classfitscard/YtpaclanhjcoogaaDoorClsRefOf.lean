/- The document's class of a size: what the reference function Of answers; the document's examples of chapter 4. -/
import Derived.Test.YtpaclanhjcoogaaDoorClsRef
namespace Go.Proofs.YtpaclanhjcoogaaDoor
open Go.RowKit

theorem rof (size : Int) (h2 : size ≤ 9223372036854775807) (w : World) :
    Calls Tryd.prog 8 #[.int .i64 size] w fun e w' => e = .returned (ofAns size) ∧ Below w.heap.size w w' := by
  unfold ofAns
  by_cases h0 : size < 0
  · rw [if_pos h0]
    go_enter Tryd.func8, Tryd.ntmps8
    go_wp2
    go_ret3
    exact ⟨rfl, Below.refl _ _⟩
  · rw [if_neg h0]
    obtain ⟨A, hA⟩ : ∃ A, Cls.cls size = A := ⟨_, rfl⟩
    obtain ⟨B, hB⟩ : ∃ B, Cls.pgs size = B := ⟨_, rfl⟩
    have HA := hide hA
    have HB := hide hB
    rw [hA, hB]
    clear hA hB
    go_enter Tryd.func8, Tryd.ntmps8
    go_wp2
    go_loopw [5] (fun i wr => ∃ k : Nat, k ≤ 14 ∧ i = .int .i64 (k : Int) ∧ Hid (∀ j : Nat, j < k → (Cls.bytes (j : Int) : Int) < size) ∧ Hid (Below w.heap.size w wr)) (fun i _ => 14 - (intOf i).toNat)
    case atStart => exact ⟨0, Nat.zero_le _, rfl, fun i hi => absurd hi (by omega), Below.refl _ _⟩
    case round =>
      obtain ⟨k, hk, rfl, hall, hbel⟩ := hrel
      by_cases hlt : k < 14
      · by_cases hfit : size ≤ (Cls.bytes (k : Int) : Int)
        · have hc := Cls.cls_is size k hlt hall.out hfit
          have hp : (Cls.pages (k : Int) : Int) = B := by rw [← HB.out]; unfold Cls.pgs; rw [hc, if_neg (by omega)]
          have hk' : A = k := HA.out.symm.trans hc
          subst hk'
          have HP := hide hp
          clear HA HB hc hp
          go_wp2_with fail
          refine (rsize (A : Int) _).mono ?_
          rintro e w1 ⟨rfl, hb1⟩
          generalize (Cls.bytes (A : Int)) = x0 at *
          have HB1 := hide hb1
          clear hb1
          go_wp2_with fail
          have hq := rpages (A : Int) w1
          rw [HP.out] at hq
          refine hq.mono ?_
          clear hq
          rintro e w2 ⟨rfl, hb2⟩
          have HB2 := hide hb2
          clear hb2
          go_wp2
          go_ret3
          exact ⟨rfl, (hbel.out.trans (HB1.out.mono hbel.out.size)).trans (HB2.out.mono (Nat.le_trans hbel.out.size HB1.out.size))⟩
        · have hlt2 : (Cls.bytes (k : Int) : Int) < size := by omega
          have HX := hide hlt2
          go_wp2_with fail
          refine (rsize (k : Int) _).mono ?_
          rintro e w1 ⟨rfl, hb1⟩
          generalize hg : (Cls.bytes (k : Int)) = x0 at *
          have HG := hide hg
          have HB1 := hide hb1
          clear hb1 hg
          go_wp2
          go_roundw
          case rel => 
            refine ⟨k + 1, by omega, by go_num, fun j hj => ?_, hbel.out.trans (HB1.out.mono hbel.out.size)⟩
            by_cases he : j = k
            · subst he; have := HX.out; have := HG.out; omega
            · exact hall.out j (by omega)
          case measure => simp [intOf]; omega
      · obtain rfl : k = 14 := by omega
        have hc := Cls.cls_none size hall.out
        have hs : 12288 < size := by have := hall.out 13 (by omega); simpa [show Cls.bytes 13 = 12288 from by decide +kernel] using this
        have hp : B = (size - 1) / 8192 + 1 := by rw [← HB.out]; unfold Cls.pgs; rw [if_pos hc]
        have hk' : A = 14 := HA.out.symm.trans hc
        subst hk'
        have HP := hide hp
        clear HA HB hc hp
        by_cases hx : size / 8192 * 8192 < size
        · have HE : Hid (B = size / 8192 + 1) := hide (by have := HP.out; omega)
          go_wp2
          go_ret3
          exact ⟨by rw [HE.out]; rfl, hbel.out⟩
        · have HE : Hid (B = size / 8192) := hide (by have := HP.out; omega)
          go_wp2
          go_ret3
          exact ⟨by rw [HE.out]; rfl, hbel.out⟩

theorem awake4 (w : World) (hT : ClsTab w) : Calls Tryd.prog 15 #[] w fun e w' => e = .returned (.bool true) ∧ Below w.heap.size w w' := by
  have h1 := fun w hT => cof 0 (by omega) w hT
  have h2 := fun w hT => cof 12289 (by omega) w hT
  rw [show ofAns 0 = .tuple #[.int .i64 0, .int .i64 1, .bool true] from by kernel_rfl] at h1
  rw [show ofAns 12289 = .tuple #[.int .i64 14, .int .i64 2, .bool true] from by kernel_rfl] at h2
  have H1 := hide h1
  have H2 := hide h2
  have HT := hide hT
  clear hT h1 h2
  go_enter Tryd.func15, Tryd.ntmps15
  go_wp2_with fail
  refine (H1.out _ HT.out).mono ?_
  rintro e w1 ⟨rfl, q1, rfl⟩
  have HT1 : Hid (ClsTab (w.drewN q1)) := HT.out.grown (below_drewN (Below.refl _ _) _)
  go_wp2_with fail
  refine (H2.out _ HT1.out).mono ?_
  rintro e w1 ⟨rfl, q2, rfl⟩
  go_wp2
  go_ret
  exact ⟨rfl, below_drewN (Below.refl _ _) _⟩

end Go.Proofs.YtpaclanhjcoogaaDoor
