/- Whatever a state becomes, step by step, within a cycle, it is a state; it waits no more, once it has become something, and is swept behind its sweeper at the latest: the law PhaseWalk answers true at every input, and its arguments read behind the call as they read before. -/
import Derived.Test.YtdhjingcnnkbiaaPhOpen
import Derived.Test.YtdhjingcnnkbiaaPhMath
namespace Go.Proofs.Ytdhjingcnnkbiaa.phaseWalk
open Go.ChangeShapes Go.WideShapes Go.ChangeAt Go.RowKit

set_option maxRecDepth 100000 in
set_option maxHeartbeats 1500000 in
theorem walk (x : Nat) (hx : x < 65536) (ao : Option Addr) (len cap : Nat) (hlc : len ≤ cap) (hcm : cap ≤ maxLen) (w : World) (hW : BytesIn w ao len) :
    Calls Try.prog 5 #[.int .u16 x, .slice ao len cap] w fun e w' => e = .returned (.bool true) ∧ Below w.heap.size w w' := by
  have HW := hide hW
  have hlen : len ≤ 9223372036854775807 := by unfold maxLen at hcm; omega
  clear hW hcm
  obtain ⟨g, eg⟩ : ∃ g : Int, 2 + (x : Int) = g := ⟨_, rfl⟩
  have g1 : 2 ≤ g := by omega
  have g2 : g ≤ 65537 := by omega
  have hb : Ph.cyc (g - 1) = true := Ph.cyc_iff.2 ⟨by omega, by omega⟩
  have hc : Ph.cyc g = true := Ph.cyc_iff.2 ⟨by omega, by omega⟩
  obtain ⟨a, HA, HM, HV, HS⟩ : ∃ a, Hid (a < 18446744073709551616) ∧ Hid (Ph.make (g - 1) 1 = (a, true)) ∧ Hid (Ph.waits a g = true) ∧ Hid (Ph.swept a g = false) :=
    ⟨_, Ph.state_lt hb (p := 1) (by decide), Ph.make_in hb (by decide), Ph.waits_state g1 (by omega), Ph.swept_wait g1 (by omega)⟩
  have HC := hide hc
  clear hb hc
  go_enter Try.func5, Try.ntmps5
  go_wp2_with fail
  refine (makeOk (g - 1) 1 a true HM.out (.start w)).mono ?_
  rintro e w1 ⟨rfl, hw1⟩
  go_wp2_with fail
  refine (waitsOk a HA.out g true HV.out hw1).mono ?_
  rintro e w2 ⟨rfl, hw2⟩
  go_wp2_with fail
  refine (sweptOk a HA.out g false HS.out hw2).mono ?_
  rintro e w3 ⟨rfl, hw3⟩
  go_wp2_with fail
  go_loopw [6, 8, 9] (fun x tv i wr => ∃ (k y : Nat) (t : Bool), k ≤ len ∧ k ≤ 60 ∧ x = .int .u64 (y : Int) ∧ tv = .bool t ∧ i = .int .i64 (k : Int) ∧ Hid (y < 18446744073709551616 ∧ Ph.waits y g = !t) ∧ PhOk w wr) (fun _ _ i _ => 60 - (intOf i).toNat)
  case atStart => exact ⟨0, a, false, by omega, by omega, rfl, rfl, rfl, ⟨HA.out, HV.out⟩, hw3⟩
  case round =>
    obtain ⟨k, y, t, hk, hk2, rfl, rfl, rfl, HY, hw⟩ := hrel
    clear HM HV HS hw1 hw2 hw3
    by_cases hlt : k < len ∧ k < 60
    · obtain ⟨hlt1, hlt2⟩ := hlt
      obtain ⟨b0, o, z, rfl, hz⟩ := HW.out k hlt1
      have hz' := hz.kept hw.below hz.lt
      have hcl := hz'.cell
      have hzx := hz'.hx
      have hzl := hz'.lt
      clear hz hz'
      obtain ⟨p, ep⟩ : ∃ p : Int, (z : Int) % 8 = p := ⟨_, rfl⟩
      obtain ⟨c, d, hN⟩ : ∃ c d, Ph.goes y g p = (c, d) := ⟨_, _, rfl⟩
      cases d
      · have HN := hide hN
        clear hN
        go_wp2_with fail
        refine (goesOk y HY.out.1 g p c false HN.out hw).mono ?_
        rintro e w4 ⟨rfl, hw4⟩
        clear HN hcl
        go_wp2
        go_roundw
        case rel => exact ⟨k + 1, y, t, by omega, by omega, rfl, rfl, by go_num, HY.out, hw4⟩
        case measure => simp [intOf]; omega
      · have ht := (Ph.goes_true hN).2.2.2
        have HN := hide hN
        clear hN
        rcases ht with ⟨c0, p0⟩ | ⟨c0, ec, hp⟩
        · subst c0
          clear p0
          go_wp2_with fail
          refine (goesOk y HY.out.1 g p 0 true HN.out hw).mono ?_
          rintro e w4 ⟨rfl, hw4⟩
          clear HN hcl
          go_wp2_with fail
          refine (mayOk0 hw4).mono ?_
          rintro e w5 ⟨rfl, hw5⟩
          go_wp2_with fail
          refine (waitsOk0 g hw5).mono ?_
          rintro e w6 ⟨rfl, hw6⟩
          go_wp2_with fail
          refine (phOk0 hw6).mono ?_
          rintro e w7 ⟨rfl, hw7⟩
          go_wp2_with fail
          refine (sweptOk0 g hw7).mono ?_
          rintro e w8 ⟨rfl, hw8⟩
          go_wp2
          go_roundw
          case rel => exact ⟨k + 1, 0, true, by omega, by omega, rfl, rfl, by go_num, ⟨by omega, rfl⟩, hw8⟩
          case measure => simp [intOf]; omega
        · have dc : ((c : Int) == 0) = false := by simp; omega
          have hl := Ph.state_lt HC.out hp
          rw [← ec] at hl
          have VB := hide (Ph.state_may HC.out hp)
          have VW := hide (Ph.waits_same HC.out hp)
          have VG := hide (Ph.state_gen HC.out hp)
          have VP := hide (Ph.state_ph HC.out hp)
          have VS := hide (Ph.swept_same HC.out hp)
          rw [← ec] at VB VW VG VP VS
          obtain ⟨p1, p2⟩ := Ph.som_iff.1 hp
          have HL := hide hl
          have hps : Ph.isSwept p = !(p == 4 || p == 6) := by
            have hp' : p = 1 ∨ p = 2 ∨ p = 3 ∨ p = 4 ∨ p = 5 ∨ p = 6 := by omega
            rcases hp' with h | h | h | h | h | h <;> rw [h] <;> rfl
          rw [hps] at VS
          clear ec hp hps hl
          have dc' : ((c : Int) != 0) = true := by simp; omega
          by_cases h4 : p = 4
          · rw [h4] at VP VS
            clear h4 p1 p2
            go_wp2_with fail
            refine (goesOk y HY.out.1 g p c true HN.out hw).mono ?_
            rintro e w4 ⟨rfl, hw4⟩
            clear HN hcl
            go_wp2_with fail
            refine (mayOk c HL.out true VB.out hw4).mono ?_
            rintro e w5 ⟨rfl, hw5⟩
            go_wp2_with fail
            refine (waitsOk c HL.out g false VW.out hw5).mono ?_
            rintro e w6 ⟨rfl, hw6⟩
            go_wp2_with fail
            refine (genOk c HL.out g VG.out hw6).mono ?_
            rintro e w7 ⟨rfl, hw7⟩
            go_wp2_with fail
            refine (phOk c HL.out 4 VP.out hw7).mono ?_
            rintro e w8 ⟨rfl, hw8⟩
            go_wp2_with fail
            refine (sweptOk c HL.out g false VS.out hw8).mono ?_
            rintro e w9 ⟨rfl, hw9⟩
            go_wp2
            go_roundw
            case rel => exact ⟨k + 1, c, true, by omega, by omega, rfl, rfl, by go_num, ⟨HL.out, VW.out⟩, hw9⟩
            case measure => simp [intOf]; omega
          by_cases h6 : p = 6
          · rw [h6] at VP VS
            clear h4 h6 p1 p2
            go_wp2_with fail
            refine (goesOk y HY.out.1 g p c true HN.out hw).mono ?_
            rintro e w4 ⟨rfl, hw4⟩
            clear HN hcl
            go_wp2_with fail
            refine (mayOk c HL.out true VB.out hw4).mono ?_
            rintro e w5 ⟨rfl, hw5⟩
            go_wp2_with fail
            refine (waitsOk c HL.out g false VW.out hw5).mono ?_
            rintro e w6 ⟨rfl, hw6⟩
            go_wp2_with fail
            refine (genOk c HL.out g VG.out hw6).mono ?_
            rintro e w7 ⟨rfl, hw7⟩
            go_wp2_with fail
            refine (phOk c HL.out 6 VP.out hw7).mono ?_
            rintro e w8 ⟨rfl, hw8⟩
            go_wp2_with fail
            refine (sweptOk c HL.out g false VS.out hw8).mono ?_
            rintro e w9 ⟨rfl, hw9⟩
            go_wp2
            go_roundw
            case rel => exact ⟨k + 1, c, true, by omega, by omega, rfl, rfl, by go_num, ⟨HL.out, VW.out⟩, hw9⟩
            case measure => simp [intOf]; omega
          have e4 : (p == 4) = false := by simp [h4]
          have e6 : (p == 6) = false := by simp [h6]
          have e4' : (p != 4) = true := by simp [h4]
          have e6' : (p != 6) = true := by simp [h6]
          rw [e4, e6] at VS
          go_wp2_with fail
          refine (goesOk y HY.out.1 g p c true HN.out hw).mono ?_
          rintro e w4 ⟨rfl, hw4⟩
          clear HN hcl
          go_wp2_with fail
          refine (mayOk c HL.out true VB.out hw4).mono ?_
          rintro e w5 ⟨rfl, hw5⟩
          go_wp2_with fail
          refine (waitsOk c HL.out g false VW.out hw5).mono ?_
          rintro e w6 ⟨rfl, hw6⟩
          go_wp2_with fail
          refine (genOk c HL.out g VG.out hw6).mono ?_
          rintro e w7 ⟨rfl, hw7⟩
          go_wp2_with fail
          refine (phOk c HL.out p VP.out hw7).mono ?_
          rintro e w8 ⟨rfl, hw8⟩
          go_wp2_with fail
          refine (sweptOk c HL.out g true VS.out hw8).mono ?_
          rintro e w9 ⟨rfl, hw9⟩
          go_wp2
          go_roundw
          case rel => exact ⟨k + 1, c, true, by omega, by omega, rfl, rfl, by go_num, ⟨HL.out, VW.out⟩, hw9⟩
          case measure => simp [intOf]; omega
    · cases t
      · by_cases h1 : k < len
        · have d1 : ¬ k < 60 := by omega
          go_wp2_with fail
          refine (waitsOk y HY.out.1 g _ HY.out.2 hw).mono ?_
          rintro e w4 ⟨rfl, hw4⟩
          go_wp2_with fail
          refine (awakeOk7 hw4).mono ?_
          rintro e w5 ⟨rfl, hw5⟩
          go_wp2
          go_ret
          exact ⟨rfl, hw5.below⟩
        · go_wp2_with fail
          refine (waitsOk y HY.out.1 g _ HY.out.2 hw).mono ?_
          rintro e w4 ⟨rfl, hw4⟩
          go_wp2_with fail
          refine (awakeOk7 hw4).mono ?_
          rintro e w5 ⟨rfl, hw5⟩
          go_wp2
          go_ret
          exact ⟨rfl, hw5.below⟩
      · by_cases h1 : k < len
        · have d1 : ¬ k < 60 := by omega
          go_wp2_with fail
          refine (waitsOk y HY.out.1 g _ HY.out.2 hw).mono ?_
          rintro e w4 ⟨rfl, hw4⟩
          go_wp2_with fail
          refine (awakeOk7 hw4).mono ?_
          rintro e w5 ⟨rfl, hw5⟩
          go_wp2
          go_ret
          exact ⟨rfl, hw5.below⟩
        · go_wp2_with fail
          refine (waitsOk y HY.out.1 g _ HY.out.2 hw).mono ?_
          rintro e w4 ⟨rfl, hw4⟩
          go_wp2_with fail
          refine (awakeOk7 hw4).mono ?_
          rintro e w5 ⟨rfl, hw5⟩
          go_wp2
          go_ret
          exact ⟨rfl, hw5.below⟩

set_option maxRecDepth 100000 in
theorem lifted (os : Os) (started : os.Started) (H : Type) (enc : TypeId × Value → H) :
    ReturnsInHanded {} Try.checked os 5 .any (Rows.phaseWalkSpec.pre6 enc Try.prog Try.f5 Rows.phaseWalkRow.domain false) (Rows.phaseWalkSpec.post enc Try.prog Try.f5 false true false false) := by
  refine returnsInHanded_of_change (C := Try.checked) own started (by kernel_rfl) Try.func5
    (ChangeSpec.witness6 (enc := enc) (C := Try.checked) false ⟨#[], #[.int .u16 0, .slice none 0 0], []⟩ 8 (by kernel_rfl) (by kernel_rfl) (by kernel_rfl) (by kernel_rfl)) ?_
  intro W base args ds gs before hval0 hW _ _
  have hval : ∀ (j : Nat) t v, Try.f5.params[j]? = some t → args[j]? = some v → Value.okWide Try.prog W .any base t v := hval0
  have hW' := hW
  obtain ⟨p, q, hA0, hV, rfl, hfz, hnd⟩ := hW
  have hA : DataW.TrodAll enc Try.prog W 0 (fun _ => true) true Try.f5.params.toList args.toList ds p := hA0
  rw [Try.params5] at hA hval
  obtain ⟨v0, vs0, d0, ds0, p0, q0, hargs, rfl, rfl, h0, r0⟩ := trodAll_cons hA
  obtain ⟨v1, vs1, d1, ds1, p1, q1, rfl, rfl, rfl, h1, r1⟩ := trodAll_cons r0
  obtain ⟨rfl, rfl, rfl⟩ := trodAll_nil r1
  obtain rfl : args = #[v0, v1] := by cases args; simp_all
  obtain ⟨rfl, rfl⟩ := trodVars_none hV
  obtain ⟨a0, rfl, rfl, rfl, w0⟩ := open_int Try.underlying33 (hval 0 33 v0 rfl rfl) h0
  have h1k := h1
  have lt1 : ∀ x ∈ p1, x.block < W.heap.size := fun x hx => hW'.lt x (by simp [hx])
  obtain ⟨l1_0, l1_1, l1_2, rfl, f1_0, f1_1, f1_2⟩ := open_bytes (hval 1 34 v1 rfl rfl) h1
  clear hA0 hval0
  obtain ⟨x0, hx0, rfl⟩ := u16_nat w0
  refine (walk x0 hx0 l1_0 l1_1 l1_2 f1_0 f1_1 W f1_2).mono fun e W' ⟨he, bel⟩ => ?_
  subst he
  exact ⟨_, rfl, _, _, _, [], _, [], hW', trodAll_mk1 (shut_bool Try.underlying4 _), (trodAll_cons_mk (shut_int Try.underlying33 w0) (trodAll_cons_mk (Below.trod laidOut (by kernel_rfl) (of_decide_eq_true (by kernel_rfl)) h1k bel lt1) trodAll_mk0)), rfl, bel.frame _, fun h => by cases h⟩

end Go.Proofs.Ytdhjingcnnkbiaa.phaseWalk
namespace Go.Proofs.Ytdhjingcnnkbiaa

theorem phaseWalk_holds : Rows.PhaseWalkSaid :=
  OpenClaim.holds_of_wide 5 Try.f5 rfl rfl rfl rfl rfl rfl rfl ⟨rfl, rfl, rfl, rfl, rfl⟩ rfl rfl rfl rfl rfl (by kernel_rfl) Try.func5 (by kernel_rfl)
    (of_decide_eq_true (by kernel_rfl)) (by unfold Func.isWrapper; first | (rw [if_pos (by decide +kernel)]; kernel_rfl) | (rw [if_neg (by decide +kernel)]; exact ⟨rfl, rfl⟩))
    (fun os started H enc _ => phaseWalk.lifted os started H enc)
end Go.Proofs.Ytdhjingcnnkbiaa
