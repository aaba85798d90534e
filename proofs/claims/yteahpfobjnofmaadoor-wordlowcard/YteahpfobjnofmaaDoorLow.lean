/- All bits below the lowest one that is not set are set, and there is none just if all are: the law WordLow answers true at every input, and its arguments read behind the call as they read before. Condition: the listed table of math/bits is laid as the program's text lays it (the card ties it). -/
import Derived.Test.YteahpfobjnofmaaDoorLaid
namespace Go.Proofs.YteahpfobjnofmaaDoor.wordLow
open Go.ChangeShapes Go.WideShapes Go.ChangeAt Go.RowKit

theorem bit_zero (x i : Nat) (hx : x < 18446744073709551616) (h : x.testBit i = false) : (bits BinOp.and IntKind.u64 ((x : Int) / 2 ^ i) 1 != 0) = false := by
  have e : ((x : Int) / 2 ^ i) = ((x / 2 ^ i : Nat) : Int) := by simp
  have hl : x / 2 ^ i < 18446744073709551616 := Nat.lt_of_le_of_lt (Nat.div_le_self _ _) hx
  rw [e, show (1 : Int) = ((1 : Nat) : Int) from rfl, bits_and_u64_nat _ _ hl (by omega), Nat.and_one_is_mod]
  rw [Nat.testBit_eq_decide_div_mod_eq] at h
  have : x / 2 ^ i % 2 = 0 := by
    have := of_decide_eq_false h
    omega
  rw [this]
  rfl

theorem walk (x : Nat) (hx : x < 18446744073709551616) (n : Nat) (hn : n < 256) (w : World) (hT : Tab w) :
    Calls Tryd.prog 5 #[.int .u64 (x : Int), .int .u8 (n : Int)] w fun e w' => e = .returned (.bool true) ∧ Below w.heap.size w w' := by
  have hl := low11 x hx ((n : Int) % 70) w hT
  have hk64 := Plain.low_le (Plain.inv x) (Plain.inv_lt x)
  have HT := hide hT
  clear hT
  by_cases hlt : Plain.low (Plain.inv x) < Plain.hold ((n : Int) % 70)
  · have hA : lowAns x ((n : Int) % 70) = ((Plain.low (Plain.inv x) : Int), true) := by simp [lowAns, hlt]
    rw [hA] at hl
    have hb := bit_zero x _ hx (Plain.low_unset x hx (by have := Plain.hold_le ((n : Int) % 70); omega))
    have ho := fun w => ones15 ((Plain.low (Plain.inv x) : Nat) : Int) w
    have hh : Plain.hold ((Plain.low (Plain.inv x) : Nat) : Int) = Plain.low (Plain.inv x) := by unfold Plain.hold; omega
    rw [hh] at ho
    have ha := Plain.below_low x _ hx (Nat.le_refl (Plain.low (Plain.inv x)))
    have hol := Plain.ones_lt (Plain.low (Plain.inv x)) hk64
    generalize Plain.low (Plain.inv x) = k at *
    have hK : bits BinOp.and IntKind.u64 (x : Int) (Plain.ones k : Int) = (Plain.ones k : Int) := by rw [bits_and_u64_nat _ _ hx hol, ha]
    clear ha
    generalize Plain.ones k = o at *
    have hle := Plain.hold_cast ((n : Int) % 70)
    have hmin : k < (n : Int) % 70 := by omega
    have hk63 : k < 64 := by omega
    clear hle hlt hh hA
    have HL := hide hl
    have HO := hide ho
    clear hl ho
    go_enter Tryd.func5, Tryd.ntmps5
    go_wp2_with (first | (go_at_call 11; refine HL.out.mono ?_; rintro e w1 ⟨rfl, rfl⟩) | (go_at_call 15; refine (HO.out _).mono ?_; rintro e w1 ⟨rfl, rfl⟩) | (go_at_call 26; refine (awake26 _ HT.out).mono ?_; rintro e w1 ⟨rfl, hbel⟩))
    all_goals go_ret
    all_goals exact ⟨rfl, hbel⟩
  · have hA : lowAns x ((n : Int) % 70) = (0, false) := by simp [lowAns, hlt]
    rw [hA] at hl
    have ho := fun w => ones15 ((n : Int) % 70) w
    have ha := Plain.below_low x (Plain.hold ((n : Int) % 70)) hx (by omega)
    have hol := Plain.ones_lt (Plain.hold ((n : Int) % 70)) (Plain.hold_le _)
    clear hlt hA
    generalize Plain.hold ((n : Int) % 70) = k at *
    have hK : bits BinOp.and IntKind.u64 (x : Int) (Plain.ones k : Int) = (Plain.ones k : Int) := by rw [bits_and_u64_nat _ _ hx hol, ha]
    clear ha
    generalize Plain.ones k = o at *
    have HL := hide hl
    have HO := hide ho
    clear hl ho
    go_enter Tryd.func5, Tryd.ntmps5
    go_wp2_with (first | (go_at_call 11; refine HL.out.mono ?_; rintro e w1 ⟨rfl, rfl⟩) | (go_at_call 15; refine (HO.out _).mono ?_; rintro e w1 ⟨rfl, rfl⟩) | (go_at_call 26; refine (awake26 _ HT.out).mono ?_; rintro e w1 ⟨rfl, hbel⟩))
    all_goals go_ret
    all_goals exact ⟨rfl, hbel⟩

set_option maxRecDepth 100000 in
theorem lifted (os : Os) (started : os.Started) (H : Type) (enc : TypeId × Value → H) :
    ReturnsInHanded {} Tryd.checked os 5 .any (fun w args => (Rows.wordLowSpec.pre enc Tryd.prog Tryd.f5 [] false w args ∧ laidMetH Tryd.prog laidL w) ∧ sizedMet enc Tryd.prog Tryd.f5 (OpenSpec.ofChange Rows.wordLowSpec) false w args)
      (Rows.wordLowSpec.post enc Tryd.prog Tryd.f5 false true false false) := by
  refine returnsInHanded_of_change_and (C := Tryd.checked) (X := fun w _ => laidMetH Tryd.prog laidL w) (fun _ _ _ hh h => h.of_heap hh) own started (by kernel_rfl) Tryd.func5
    (ChangeSpec.witness_shaped (enc := enc) (C := Tryd.checked) (os := os) (X := fun w _ => laidMetH Tryd.prog laidL w) false (World.doorLaid Tryd.prog 400 os) #[.int .u64 0, .int .u8 0] 8 rfl (World.shaped_of_RefB (by kernel_rfl) (by kernel_rfl)) (by kernel_rfl) (by kernel_rfl) (by kernel_rfl) (door_met os _)) ?_
  intro W base args ds gs before hval0 hW _ _ hL _
  have hval : ∀ (j : Nat) t v, Tryd.f5.params[j]? = some t → args[j]? = some v → Value.okWide Tryd.prog W .any base t v := hval0
  have hW' := hW
  obtain ⟨p, q, hA0, hV, rfl, hfz, hnd⟩ := hW
  have hA : DataW.TrodAll enc Tryd.prog W 0 (fun _ => true) true Tryd.f5.params.toList args.toList ds p := hA0
  rw [Tryd.params5] at hA hval
  obtain ⟨v0, vs0, d0, ds0, p0, q0, hargs, rfl, rfl, h0, r0⟩ := trodAll_cons hA
  obtain ⟨v1, vs1, d1, ds1, p1, q1, rfl, rfl, rfl, h1, r1⟩ := trodAll_cons r0
  obtain ⟨rfl, rfl, rfl⟩ := trodAll_nil r1
  obtain rfl : args = #[v0, v1] := by cases args; simp_all
  obtain ⟨rfl, rfl⟩ := trodVars_none hV
  obtain ⟨a0, rfl, rfl, rfl, w0⟩ := open_int Tryd.underlying22 (hval 0 22 v0 rfl rfl) h0
  obtain ⟨a1, rfl, rfl, rfl, w1⟩ := open_int Tryd.underlying5 (hval 1 5 v1 rfl rfl) h1
  clear hA0 hval0
  obtain ⟨x0, hx0, rfl⟩ := u64_nat w0
  obtain ⟨x1, hx1, rfl⟩ := u8_nat w1
  refine (walk x0 hx0 x1 hx1 W (tab_of_laid hL)).mono fun e W' ⟨he, bel⟩ => ?_
  subst he
  exact ⟨_, rfl, _, _, _, [], _, [], hW', trodAll_mk1 (shut_bool Tryd.underlying4 _), (trodAll_cons_mk (shut_int Tryd.underlying22 w0) (trodAll_cons_mk (shut_int Tryd.underlying5 w1) trodAll_mk0)), rfl, bel.frame _, fun h => by cases h⟩

theorem over : Rows.WordLowSaid :=
  OpenClaim.holds_of_wide 5 Tryd.f5 rfl rfl rfl rfl rfl rfl rfl ⟨rfl, rfl, rfl, rfl, rfl⟩ rfl rfl rfl rfl rfl (by kernel_rfl) Tryd.func5 (by kernel_rfl)
    (of_decide_eq_true (by kernel_rfl)) (by unfold Func.isWrapper; first | (rw [if_pos (by decide +kernel)]; kernel_rfl) | (rw [if_neg (by decide +kernel)]; exact ⟨rfl, rfl⟩))
    (fun os started H enc _ => lifted os started H enc)
end Go.Proofs.YteahpfobjnofmaaDoor.wordLow
namespace Go.Proofs.YteahpfobjnofmaaDoor

theorem wordLow_card : Rows.WordLowCardSaid :=
  Claim7.holds_tied_plain_at .later [] [.data] true (true, "b908dca4562f9d0eb3456803fbb934d60c23d207070fe3ba6b3324649341448f") false
    wordLow.over (fun _ h => by cases h) (by kernel_rfl) (fun _ h => by cases h) wordLow_row_tie rfl ⟨rfl, rfl⟩ (by kernel_rfl) rfl
    (fun f fn hf hfn => by
      obtain rfl : f = 5 := Option.some.inj ((show Tryd.prog.funcNamed Rows.wordLowRow.func = some 5 by kernel_rfl).symm.trans hf) |>.symm
      obtain rfl : fn = Tryd.f5 := (Option.some.inj (Tryd.func5.symm.trans hfn)).symm
      exact ⟨by kernel_rfl, fun j t ht => by
        rw [Tryd.params5] at ht
        have hm : t ∈ [22, 5] := by simpa using Array.mem_of_getElem? ht
        have hall : ([22, 5].all fun u => !Tryd.prog.wantsStandIn u) = true := by kernel_rfl
        exact (show Tryd.prog.wantsStandIn t = false by simpa using List.all_eq_true.1 hall t hm)⟩)
    (by kernel_rfl)
end Go.Proofs.YteahpfobjnofmaaDoor
