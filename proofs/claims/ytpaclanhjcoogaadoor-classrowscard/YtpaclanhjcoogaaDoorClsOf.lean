/- The class of a size, in package class. -/
import Derived.Test.YtpaclanhjcoogaaDoorClsRows
import Derived.OwnWalk
namespace Go.Proofs.YtpaclanhjcoogaaDoor
open Go.RowKit

/-- The class, the pages, and whether there is one. -/
def ofAns (size : Int) : Value := if size < 0 then .tuple #[.int .i64 0, .int .i64 0, .bool false] else .tuple #[.int .i64 (Cls.cls size : Int), .int .i64 (Cls.pgs size), .bool true]

theorem cof (size : Int) (h2 : size ≤ 9223372036854775807) (w : World) (hT : ClsTab w) :
    Calls Tryd.prog 7 #[.int .i64 size] w fun e w' => e = .returned (ofAns size) ∧ ∃ q, w' = w.drewN q := by
  unfold ofAns
  by_cases h0 : size < 0
  · rw [if_pos h0]
    clear hT
    go_enter Tryd.func7, Tryd.ntmps7
    go_wp2
    go_ret3
    exact ⟨rfl, 0, rfl⟩
  · rw [if_neg h0]
    obtain ⟨A, hA⟩ : ∃ A, Cls.cls size = A := ⟨_, rfl⟩
    obtain ⟨B, hB⟩ : ∃ B, Cls.pgs size = B := ⟨_, rfl⟩
    have HA := hide hA
    have HB := hide hB
    have HT := hide hT
    rw [hA, hB]
    clear hA hB hT
    go_enter Tryd.func7, Tryd.ntmps7
    go_wp2
    go_loop [8] (fun i => ∃ k : Nat, k ≤ 14 ∧ i = .int .i64 (k : Int) ∧ Hid (∀ j : Nat, j < k → (Cls.bytes (j : Int) : Int) < size)) (fun i => 14 - (intOf i).toNat)
    case atStart => exact ⟨0, Nat.zero_le _, rfl, fun i hi => absurd hi (by omega)⟩
    case round =>
      obtain ⟨k, hk, rfl, hall⟩ := hrel
      by_cases hlt : k < 14
      · obtain ⟨c0, c1, c2⟩ := HT.out k hlt
        by_cases hfit : size ≤ (Cls.bytes (k : Int) : Int)
        · have hc := Cls.cls_is size k hlt hall.out hfit
          have hp : (Cls.pages (k : Int) : Int) = B := by rw [← HB.out]; unfold Cls.pgs; rw [hc, if_neg (by omega)]
          have hk' : A = k := HA.out.symm.trans hc
          subst hk'
          rw [hp] at c1
          clear HA HB hc hp
          generalize (Cls.bytes (A : Int)) = x0 at *
          clear c2
          go_wp2_with fail
          go_quiet (fail)
          go_wp2
          go_ret3
          exact ⟨rfl, nq, rfl⟩
        · have hlt2 : (Cls.bytes (k : Int) : Int) < size := by omega
          have HX := hide hlt2
          generalize hg : (Cls.bytes (k : Int)) = x0 at *
          have HG := hide hg
          clear c1 c2 hg
          go_wp2
          go_round
          case rel => 
            refine ⟨k + 1, by omega, by go_num, fun j hj => ?_⟩
            by_cases he : j = k
            · subst he; have := HX.out; have := HG.out; omega
            · exact hall.out j (by omega)
          case measure => simp [intOf]; omega
      · obtain rfl : k = 14 := by omega
        have hc := Cls.cls_none size hall.out
        have hs : 12288 < size := by have := hall.out 13 (by omega); simpa [show Cls.bytes 13 = 12288 from by decide +kernel] using this
        have hp : B = (size - 1) / 8192 + 1 := by rw [← HB.out]; unfold Cls.pgs; rw [if_pos hc]
        have hk' : A = 14 := HA.out.symm.trans hc
        have HF := hide (pagesFor size (by omega) h2 w)
        subst hk' hp
        clear HA HB hc
        go_wp2_with (go_at_call 16; refine HF.out.mono ?_; rintro e w1 ⟨rfl, rfl⟩)
        go_ret3
        exact ⟨rfl, 0, rfl⟩

end Go.Proofs.YtpaclanhjcoogaaDoor
