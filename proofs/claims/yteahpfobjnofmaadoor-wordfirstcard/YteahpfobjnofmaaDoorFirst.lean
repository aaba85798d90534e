/- The first bits are so many of the word's, and all others of it are above them: the law WordFirst answers true at every input, and its arguments read behind the call as they read before. Condition: the listed table of math/bits is laid as the program's text lays it (the card ties it). -/
import Derived.Test.YteahpfobjnofmaaDoorLaid
namespace Go.Proofs.YteahpfobjnofmaaDoor.wordFirst
open Go.ChangeShapes Go.WideShapes Go.ChangeAt Go.RowKit

theorem andNot_zero (X x : Nat) (hX : X < 18446744073709551616) (hx : x < 18446744073709551616) (h : X &&& Plain.inv x = 0) : bits BinOp.andNot IntKind.u64 (X : Int) (x : Int) = 0 := by
  rw [bits_andNot_u64 X x hX hx, h]
  rfl

theorem walk (x : Nat) (hx : x < 18446744073709551616) (k : Nat) (hk : k < 256) (w : World) (hT : Tab w) :
    Calls Tryd.prog 7 #[.int .u64 (x : Int), .int .u8 (k : Int)] w fun e w' => e = .returned (.bool true) ∧ Below w.heap.size w w' := by
  have h21 := first21 x hx ((k : Int) % 70) w hT
  obtain ⟨m, hm⟩ : ∃ m, Plain.hold ((k : Int) % 70) = m := ⟨_, rfl⟩
  have hmk : (m : Int) = min ((k : Int) % 70) 64 := by rw [← hm, Plain.hold_cast]; omega
  have hF : firstAns x ((k : Int) % 70) = Plain.fst x m := by rw [← hm]; rfl
  rw [hF] at h21
  have hX := Plain.fst_lt x m hx
  have hR : x &&& Plain.inv (Plain.fst x m) < 18446744073709551616 := Nat.lt_of_le_of_lt Nat.and_le_left hx
  have k1 := andNot_zero _ _ hX hx (Plain.fst_sub x m hx)
  have k2 := bits_andNot_u64 x (Plain.fst x m) hx hX
  have c1 := fun w => count19 (Plain.fst x m) hX w
  rw [Plain.cnt_fst] at c1
  have c2 := hide (fun w => count19 x hx w)
  have p1 := hide (fun w => places24R (Plain.fst x m) hX w)
  have p2 := hide (fun w => places24R (x &&& Plain.inv (Plain.fst x m)) hR w)
  have n1 := Plain.cnt_fst x m
  have n2 := Plain.cnt_rest x m hx
  have e1 := hide (Plain.pls_fst x m)
  have e2 := hide (Plain.pls_rest x m hx)
  have hlast := hide (Plain.last_lt x m)
  have hc := Plain.cnt_le x
  have HT := hide hT
  have H21 := hide h21
  have C1 := hide c1
  clear hT h21 c1 hF hm
  generalize hXe : Plain.fst x m = X at *
  generalize hRe : x &&& Plain.inv X = R at *
  have hnX : ((Plain.cnt X : Nat) : Int) = min ((k : Int) % 70) (Plain.cnt x) := by omega
  rw [← n1] at C1
  have E1 := hide e1
  have n1' := hide n1
  clear n1 hXe hRe hmk
  generalize hcX : Plain.cnt X = nX at *
  generalize hcR : Plain.cnt R = nR at *
  generalize hcx : Plain.cnt x = c at *
  have HX := hide hcX
  have HR := hide hcR
  clear hcX hcR hcx n2
  have hq : ((k : Int) % 70 ≤ (c : Int) ∧ (((nX : Nat) : Int) != (k : Int) % 70) = false) ∨ (¬ (k : Int) % 70 ≤ (c : Int) ∧ (((nX : Nat) : Int) != (c : Int)) = false) := by
    by_cases hle : (k : Int) % 70 ≤ (c : Int)
    · exact .inl ⟨hle, by simp; omega⟩
    · exact .inr ⟨hle, by simp; omega⟩
  clear hnX
  rcases hq with ⟨hle, hq1⟩ | ⟨hle, hq1⟩
  all_goals
    go_enter Tryd.func7, Tryd.ntmps7
    go_wp2_with (first | (go_at_call 21; refine H21.out.mono ?_; rintro e w1 ⟨rfl, hb1⟩) | (go_at_call_of 19 (X : Int); refine (C1.out _).mono ?_; rintro e w2 ⟨rfl, rfl⟩) | (go_at_call_of 19 (x : Int); refine (c2.out _).mono ?_; rintro e w2 ⟨rfl, rfl⟩))
    have t1 := hide (HT.out.below HT.out.lt hb1)
    refine (p2.out _ t1.out).mono ?_
    rintro e w3 ⟨a3, cap3, rfl, hr3, hb3⟩
    have t3 := hide (t1.out.below t1.out.lt hb3)
    have B3 := hide (hb1.trans (hb3.mono hb1.size))
    have R3 := hide hr3
    clear hr3
    go_wp2_with fail
    refine (p1.out _ t3.out).mono ?_
    rintro e w4 ⟨a4, cap4, rfl, hr4, hb4⟩
    have t4 := hide (t3.out.below t3.out.lt hb4)
    have B4 := hide (B3.out.trans (hb4.mono B3.out.size))
    have R4 := hide hr4
    have R3' := hide (R3.out.below hb4 (Nat.le_refl _))
    clear hr4 hb1 hb3 hb4
    go_wp2_with fail
    have ht : ∀ u : Over w4, Tab u.w' := fun u => t4.out.below t4.out.lt u.h
    have HO := hide ht
    have hne : Nonempty (Over w4) := ⟨⟨_, Below.refl _ _⟩⟩
    clear ht
    by_cases hR0 : nR = 0
    · subst hR0
      refine over_region (by kernel_rfl) (by kernel_rfl) ?_
      repeat (go_big_quiet_step ((go_at_call 26; exact over_call _ (awake26 _ (HO.out _)))))
      refine wpQuiet_nil ?_
      rintro _ ⟨u, rfl⟩
      go_wp2
      go_ret
      exact ⟨rfl, B4.out.trans (u.h.mono B4.out.size)⟩
    · have hR1 : (((nR : Nat) : Int) == 0) = false := by simp; omega
      by_cases hX0 : nX = 0
      · subst hX0
        refine over_region (by kernel_rfl) (by kernel_rfl) ?_
        repeat (go_big_quiet_step ((go_at_call 26; exact over_call _ (awake26 _ (HO.out _)))))
        refine wpQuiet_nil ?_
        rintro _ ⟨u, rfl⟩
        go_wp2
        go_ret
        exact ⟨rfl, B4.out.trans (u.h.mono B4.out.size)⟩
      · have hX1 : (((nX : Nat) : Int) == 0) = false := by simp; omega
        have lX : (Plain.pls X).length = nX := HX.out
        have lR : (Plain.pls R).length = nR := HR.out
        obtain ⟨g4, rfl, _, hg4, hc4⟩ := R4.out (fun e => by rw [e] at lX; exact hX0 lX.symm)
        obtain ⟨g3, rfl, _, hg3, hc3⟩ := R3'.out (fun e => by rw [e] at lR; exact hR0 lR.symm)
        obtain ⟨y4, hy4⟩ : ∃ y, (Plain.pls X)[nX - 1]? = some y := ⟨_, List.getElem?_eq_getElem (by omega)⟩
        obtain ⟨y3, hy3⟩ : ∃ y, (Plain.pls R)[0]? = some y := ⟨_, List.getElem?_eq_getElem (by omega)⟩
        have k4 : ∀ u : Over w4, u.w'.cell? ⟨g4, nX - 1, none⟩ = some (.int .i64 (y4 : Int)) := fun u => (u.h.cell (p := ⟨g4, nX - 1, none⟩) hg4).trans (hc4 _ _ hy4)
        have k3 : ∀ u : Over w4, u.w'.cell? ⟨g3, 0, none⟩ = some (.int .i64 (y3 : Int)) := fun u => (u.h.cell (p := ⟨g3, 0, none⟩) hg3).trans (hc3 _ _ hy3)
        have hlt : (y4 : Int) < (y3 : Int) := by
          rw [e1.out, n1'.out] at hy4
          rw [e2.out] at hy3
          have := hlast.out y4 y3 hy4 hy3
          omega
        clear hc4 hc3 hy4 hy3 lX lR
        have hX64 : nX ≤ 64 := by rw [← HX.out]; exact Plain.cnt_le X
        have hR64 : nR ≤ 64 := by rw [← HR.out]; exact Plain.cnt_le R
        have hpos : 0 < nX := by omega
        have hposR : 0 < nR := by omega
        refine over_region (by kernel_rfl) (by kernel_rfl) ?_
        repeat (go_big_quiet_step ((go_at_call 26; exact over_call _ (awake26 _ (HO.out _)))))
        refine wpQuiet_nil ?_
        rintro _ ⟨u, rfl⟩
        go_wp2
        go_ret
        exact ⟨rfl, B4.out.trans (u.h.mono B4.out.size)⟩

set_option maxRecDepth 100000 in
theorem lifted (os : Os) (started : os.Started) (H : Type) (enc : TypeId × Value → H) :
    ReturnsInHanded {} Tryd.checked os 7 .any (fun w args => (Rows.wordFirstSpec.pre enc Tryd.prog Tryd.f7 [] false w args ∧ laidMetH Tryd.prog laidL w) ∧ sizedMet enc Tryd.prog Tryd.f7 (OpenSpec.ofChange Rows.wordFirstSpec) false w args)
      (Rows.wordFirstSpec.post enc Tryd.prog Tryd.f7 false true false false) := by
  refine returnsInHanded_of_change_and (C := Tryd.checked) (X := fun w _ => laidMetH Tryd.prog laidL w) (fun _ _ _ hh h => h.of_heap hh) own started (by kernel_rfl) Tryd.func7
    (ChangeSpec.witness_shaped (enc := enc) (C := Tryd.checked) (os := os) (X := fun w _ => laidMetH Tryd.prog laidL w) false (World.doorLaid Tryd.prog 400 os) #[.int .u64 0, .int .u8 0] 8 rfl (World.shaped_of_RefB (by kernel_rfl) (by kernel_rfl)) (by kernel_rfl) (by kernel_rfl) (by kernel_rfl) (door_met os _)) ?_
  intro W base args ds gs before hval0 hW _ _ hL _
  have hval : ∀ (j : Nat) t v, Tryd.f7.params[j]? = some t → args[j]? = some v → Value.okWide Tryd.prog W .any base t v := hval0
  have hW' := hW
  obtain ⟨p, q, hA0, hV, rfl, hfz, hnd⟩ := hW
  have hA : DataW.TrodAll enc Tryd.prog W 0 (fun _ => true) true Tryd.f7.params.toList args.toList ds p := hA0
  rw [Tryd.params7] at hA hval
  obtain ⟨v0, vs0, d0, ds0, p0, q0, hargs, rfl, rfl, h0, r0⟩ := trodAll_cons hA
  obtain ⟨v1, vs1, d1, ds1, p1, q1, rfl, rfl, rfl, h1, r1⟩ := trodAll_cons r0
  obtain ⟨rfl, rfl, rfl⟩ := trodAll_nil r1
  obtain rfl : args = #[v0, v1] := by cases args; simp_all
  obtain ⟨rfl, rfl⟩ := trodVars_none hV
  obtain ⟨a0, rfl, rfl, rfl, w0⟩ := open_int Tryd.underlying22 (hval 0 22 v0 rfl rfl) h0
  obtain ⟨a1, rfl, rfl, rfl, w1⟩ := open_int Tryd.underlying5 (hval 1 5 v1 rfl rfl) h1
  clear hA0 hval0
  obtain ⟨x0, hx0, rfl⟩ := u64_nat w0
  obtain ⟨x1, hx1, rfl⟩ := u8_nat w1
  refine (walk x0 hx0 x1 hx1 W (tab_of_laid hL)).mono fun e W' ⟨he, bel⟩ => ?_
  subst he
  exact ⟨_, rfl, _, _, _, [], _, [], hW', trodAll_mk1 (shut_bool Tryd.underlying4 _), (trodAll_cons_mk (shut_int Tryd.underlying22 w0) (trodAll_cons_mk (shut_int Tryd.underlying5 w1) trodAll_mk0)), rfl, bel.frame _, fun h => by cases h⟩

theorem over : Rows.WordFirstSaid :=
  OpenClaim.holds_of_wide 7 Tryd.f7 rfl rfl rfl rfl rfl rfl rfl ⟨rfl, rfl, rfl, rfl, rfl⟩ rfl rfl rfl rfl rfl (by kernel_rfl) Tryd.func7 (by kernel_rfl)
    (of_decide_eq_true (by kernel_rfl)) (by unfold Func.isWrapper; first | (rw [if_pos (by decide +kernel)]; kernel_rfl) | (rw [if_neg (by decide +kernel)]; exact ⟨rfl, rfl⟩))
    (fun os started H enc _ => lifted os started H enc)
end Go.Proofs.YteahpfobjnofmaaDoor.wordFirst
namespace Go.Proofs.YteahpfobjnofmaaDoor

theorem wordFirst_card : Rows.WordFirstCardSaid :=
  Claim7.holds_tied_plain_at .later [] [.data] true (true, "b908dca4562f9d0eb3456803fbb934d60c23d207070fe3ba6b3324649341448f") false
    wordFirst.over (fun _ h => by cases h) (by kernel_rfl) (fun _ h => by cases h) wordFirst_row_tie rfl ⟨rfl, rfl⟩ (by kernel_rfl) rfl
    (fun f fn hf hfn => by
      obtain rfl : f = 7 := Option.some.inj ((show Tryd.prog.funcNamed Rows.wordFirstRow.func = some 7 by kernel_rfl).symm.trans hf) |>.symm
      obtain rfl : fn = Tryd.f7 := (Option.some.inj (Tryd.func7.symm.trans hfn)).symm
      exact ⟨by kernel_rfl, fun j t ht => by
        rw [Tryd.params7] at ht
        have hm : t ∈ [22, 5] := by simpa using Array.mem_of_getElem? ht
        have hall : ([22, 5].all fun u => !Tryd.prog.wantsStandIn u) = true := by kernel_rfl
        exact (show Tryd.prog.wantsStandIn t = false by simpa using List.all_eq_true.1 hall t hm)⟩)
    (by kernel_rfl)
end Go.Proofs.YteahpfobjnofmaaDoor
