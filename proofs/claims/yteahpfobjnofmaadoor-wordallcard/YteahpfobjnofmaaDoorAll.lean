/- The lowest bits, fields, what a field is put into, how many bits are set, which, the first of them, and the first one that is not, are the document's: the law WordAll answers true at every input, and its arguments read behind the call as they read before. Condition: the listed table of math/bits is laid as the program's text lays it (the card ties it). -/
import Derived.Test.YteahpfobjnofmaaDoorLaid
import Derived.Test.YteahpfobjnofmaaDoorRefl
namespace Go.Proofs.YteahpfobjnofmaaDoor.wordAll
open Go.ChangeShapes Go.WideShapes Go.ChangeAt Go.RowKit

theorem walk (x : Nat) (hx : x < 18446744073709551616) (a : Int) (ha : -9223372036854775808 ≤ a ∧ a ≤ 9223372036854775807) (n : Int) (hn : -9223372036854775808 ≤ n ∧ n ≤ 9223372036854775807) (v : Nat) (hv : v < 18446744073709551616) (w : World) (hT : Tab w) :
    Calls Tryd.prog 3 #[.int .u64 (x : Int), .int .i64 a, .int .i64 n, .int .u64 (v : Int)] w fun e w' => e = .returned (.bool true) ∧ Below w.heap.size w w' := by
  have c9 := hide (fun w => with9 x hx a n v w ha.2)
  have c10 := hide (fun w => with10 x hx a n v hv w ha.2)
  have c11 := hide (fun w => low11 x hx n w)
  have c12 := hide (fun w => low12 x hx n w)
  have c13 := hide (fun w => nth13 x hx n w)
  have c14 := hide (fun w => nth14 x hx n hn.1 hn.2 w)
  have c15 := hide (fun w => ones15 n w)
  have c16 := hide (fun w => ones16 n w)
  have c17 := hide (fun w => field17 x hx a n w ha.2)
  have c18 := hide (fun w => field18 x hx a n w ha.2)
  have c19 := hide (fun w => count19 x hx w)
  have c20 := hide (fun w => count20 x hx w)
  have c21 := hide (fun w => first21 x hx n w)
  have c22 := hide (fun w => first22 x hx n w)
  have c24 := hide (fun w => places24R x hx w)
  have c25 := hide (fun w => places25 x hx w)
  have hl : (Plain.pls x).length ≤ 64 := Plain.cnt_le x
  have c23 := same23 (Plain.pls x) hl
  rw [show (Plain.pls x).length = Plain.cnt x from rfl] at c23
  have C23 := hide c23
  have HT := hide hT
  clear hT c23 hl ha hn
  generalize Plain.ones (Plain.hold n) = k1 at *
  generalize fieldAns x a n = k2 at *
  generalize firstAns x n = k3 at *
  generalize (withAns x a n v).1 = k4 at *
  generalize (withAns x a n v).2 = k5 at *
  generalize (lowAns x n).1 = k6 at *
  generalize (lowAns x n).2 = k7 at *
  generalize (nthAns x n).1 = k8 at *
  generalize (nthAns x n).2 = k9 at *
  generalize Plain.cnt x = c at *
  go_enter Tryd.func3, Tryd.ntmps3
  go_wp2_with fail
  refine (c9.out _).mono ?_
  rintro e w1 ⟨rfl, q1, rfl⟩
  go_wp2_with fail
  refine (c10.out _).mono ?_
  rintro e w2 ⟨rfl, rfl⟩
  go_wp2_with fail
  refine (c11.out _ (HT.out.drewN _)).mono ?_
  rintro e w3 ⟨rfl, rfl⟩
  go_wp2_with fail
  refine (c12.out _).mono ?_
  rintro e w4 ⟨rfl, rfl⟩
  go_wp2_with fail
  refine (c13.out _ (HT.out.drewN _)).mono ?_
  rintro e w5 ⟨rfl, b5⟩
  have B5 : Hid (Below w.heap.size w w5) := (below_drewN (Below.refl _ w) q1).trans b5
  clear b5
  go_wp2_with fail
  refine (c14.out _).mono ?_
  rintro e w6 ⟨rfl, b6⟩
  have B6 : Hid (Below w.heap.size w w6) := B5.out.trans (b6.mono B5.out.size)
  clear b6
  go_wp2_with fail
  refine (c15.out _).mono ?_
  rintro e w7 ⟨rfl, rfl⟩
  go_wp2_with fail
  refine (c16.out _).mono ?_
  rintro e w8 ⟨rfl, rfl⟩
  go_wp2_with fail
  refine (c17.out _).mono ?_
  rintro e w9 ⟨rfl, q2, rfl⟩
  go_wp2_with fail
  refine (c18.out _).mono ?_
  rintro e w10 ⟨rfl, rfl⟩
  go_wp2_with fail
  refine (c19.out _).mono ?_
  rintro e w11 ⟨rfl, rfl⟩
  go_wp2_with fail
  refine (c20.out _).mono ?_
  rintro e w12 ⟨rfl, b12⟩
  have B12 : Hid (Below w.heap.size w w12) := (below_drewN B6.out _).trans (b12.mono B6.out.size)
  have T12 := hide (HT.out.below HT.out.lt B12.out)
  clear b12
  go_wp2_with fail
  refine (c21.out _ T12.out).mono ?_
  rintro e w13 ⟨rfl, b13⟩
  have B13 : Hid (Below w.heap.size w w13) := B12.out.trans (b13.mono B12.out.size)
  clear b13
  go_wp2_with fail
  refine (c22.out _).mono ?_
  rintro e w14 ⟨rfl, b14⟩
  have B14 : Hid (Below w.heap.size w w14) := B13.out.trans (b14.mono B13.out.size)
  have T14 := hide (HT.out.below HT.out.lt B14.out)
  clear b14
  go_wp2_with fail
  refine (c24.out _ T14.out).mono ?_
  rintro e w15 ⟨a15, cap15, rfl, r15, b15⟩
  have B15 : Hid (Below w.heap.size w w15) := B14.out.trans (b15.mono B14.out.size)
  have R15 := hide r15
  clear b15 r15
  go_wp2_with fail
  refine (c25.out _).mono ?_
  rintro e w16 ⟨a16, cap16, rfl, r16, b16⟩
  have B16 : Hid (Below w.heap.size w w16) := B15.out.trans (b16.mono B15.out.size)
  have R16 := hide r16
  have R15' := hide (R15.out.below b16 (Nat.le_refl _))
  clear b16 r16
  go_wp2_with fail
  refine (C23.out _ _ _ _ _ _ _ R15'.out R16.out).mono ?_
  rintro e w17 ⟨rfl, q3, rfl⟩
  have T16 := hide (HT.out.below HT.out.lt B16.out)
  go_wp2_with fail
  refine (awake26 _ (T16.out.drewN _)).mono ?_
  rintro e w18 ⟨rfl, b18⟩
  go_wp2
  go_ret
  exact ⟨rfl, (below_drewN B16.out _).trans (b18.mono B16.out.size)⟩

set_option maxRecDepth 100000 in
theorem lifted (os : Os) (started : os.Started) (H : Type) (enc : TypeId × Value → H) :
    ReturnsInHanded {} Tryd.checked os 3 .any (fun w args => (Rows.wordAllSpec.pre enc Tryd.prog Tryd.f3 [] false w args ∧ laidMetH Tryd.prog laidL w) ∧ sizedMet enc Tryd.prog Tryd.f3 (OpenSpec.ofChange Rows.wordAllSpec) false w args)
      (Rows.wordAllSpec.post enc Tryd.prog Tryd.f3 false true false false) := by
  refine returnsInHanded_of_change_and (C := Tryd.checked) (X := fun w _ => laidMetH Tryd.prog laidL w) (fun _ _ _ hh h => h.of_heap hh) own started (by kernel_rfl) Tryd.func3
    (ChangeSpec.witness_shaped (enc := enc) (C := Tryd.checked) (os := os) (X := fun w _ => laidMetH Tryd.prog laidL w) false (World.doorLaid Tryd.prog 400 os) #[.int .u64 0, .int .i64 0, .int .i64 0, .int .u64 0] 8 rfl (World.shaped_of_RefB (by kernel_rfl) (by kernel_rfl)) (by kernel_rfl) (by kernel_rfl) (by kernel_rfl) (door_met os _)) ?_
  intro W base args ds gs before hval0 hW _ _ hL _
  have hval : ∀ (j : Nat) t v, Tryd.f3.params[j]? = some t → args[j]? = some v → Value.okWide Tryd.prog W .any base t v := hval0
  have hW' := hW
  obtain ⟨p, q, hA0, hV, rfl, hfz, hnd⟩ := hW
  have hA : DataW.TrodAll enc Tryd.prog W 0 (fun _ => true) true Tryd.f3.params.toList args.toList ds p := hA0
  rw [Tryd.params3] at hA hval
  obtain ⟨v0, vs0, d0, ds0, p0, q0, hargs, rfl, rfl, h0, r0⟩ := trodAll_cons hA
  obtain ⟨v1, vs1, d1, ds1, p1, q1, rfl, rfl, rfl, h1, r1⟩ := trodAll_cons r0
  obtain ⟨v2, vs2, d2, ds2, p2, q2, rfl, rfl, rfl, h2, r2⟩ := trodAll_cons r1
  obtain ⟨v3, vs3, d3, ds3, p3, q3, rfl, rfl, rfl, h3, r3⟩ := trodAll_cons r2
  obtain ⟨rfl, rfl, rfl⟩ := trodAll_nil r3
  obtain rfl : args = #[v0, v1, v2, v3] := by cases args; simp_all
  obtain ⟨rfl, rfl⟩ := trodVars_none hV
  obtain ⟨a0, rfl, rfl, rfl, w0⟩ := open_int Tryd.underlying22 (hval 0 22 v0 rfl rfl) h0
  obtain ⟨a1, rfl, rfl, rfl, w1⟩ := open_int Tryd.underlying3 (hval 1 3 v1 rfl rfl) h1
  obtain ⟨a2, rfl, rfl, rfl, w2⟩ := open_int Tryd.underlying3 (hval 2 3 v2 rfl rfl) h2
  obtain ⟨a3, rfl, rfl, rfl, w3⟩ := open_int Tryd.underlying22 (hval 3 22 v3 rfl rfl) h3
  clear hA0 hval0
  obtain ⟨x0, hx0, rfl⟩ := u64_nat w0
  have hx1 := i64_bd w1
  have hx2 := i64_bd w2
  obtain ⟨x3, hx3, rfl⟩ := u64_nat w3
  refine (walk x0 hx0 a1 hx1 a2 hx2 x3 hx3 W (tab_of_laid hL)).mono fun e W' ⟨he, bel⟩ => ?_
  subst he
  exact ⟨_, rfl, _, _, _, [], _, [], hW', trodAll_mk1 (shut_bool Tryd.underlying4 _), (trodAll_cons_mk (shut_int Tryd.underlying22 w0) (trodAll_cons_mk (shut_int Tryd.underlying3 w1) (trodAll_cons_mk (shut_int Tryd.underlying3 w2) (trodAll_cons_mk (shut_int Tryd.underlying22 w3) trodAll_mk0)))), rfl, bel.frame _, fun h => by cases h⟩

theorem over : Rows.WordAllSaid :=
  OpenClaim.holds_of_wide 3 Tryd.f3 rfl rfl rfl rfl rfl rfl rfl ⟨rfl, rfl, rfl, rfl, rfl⟩ rfl rfl rfl rfl rfl (by kernel_rfl) Tryd.func3 (by kernel_rfl)
    (of_decide_eq_true (by kernel_rfl)) (by unfold Func.isWrapper; first | (rw [if_pos (by decide +kernel)]; kernel_rfl) | (rw [if_neg (by decide +kernel)]; exact ⟨rfl, rfl⟩))
    (fun os started H enc _ => lifted os started H enc)
end Go.Proofs.YteahpfobjnofmaaDoor.wordAll
namespace Go.Proofs.YteahpfobjnofmaaDoor

theorem wordAll_card : Rows.WordAllCardSaid :=
  Claim7.holds_tied_plain_at .later [] [.data] true (true, "b908dca4562f9d0eb3456803fbb934d60c23d207070fe3ba6b3324649341448f") false
    wordAll.over (fun _ h => by cases h) (by kernel_rfl) (fun _ h => by cases h) wordAll_row_tie rfl ⟨rfl, rfl⟩ (by kernel_rfl) rfl
    (fun f fn hf hfn => by
      obtain rfl : f = 3 := Option.some.inj ((show Tryd.prog.funcNamed Rows.wordAllRow.func = some 3 by kernel_rfl).symm.trans hf) |>.symm
      obtain rfl : fn = Tryd.f3 := (Option.some.inj (Tryd.func3.symm.trans hfn)).symm
      exact ⟨by kernel_rfl, fun j t ht => by
        rw [Tryd.params3] at ht
        have hm : t ∈ [22, 3, 3, 22] := by simpa using Array.mem_of_getElem? ht
        have hall : ([22, 3, 3, 22].all fun u => !Tryd.prog.wantsStandIn u) = true := by kernel_rfl
        exact (show Tryd.prog.wantsStandIn t = false by simpa using List.all_eq_true.1 hall t hm)⟩)
    (by kernel_rfl)
end Go.Proofs.YteahpfobjnofmaaDoor
