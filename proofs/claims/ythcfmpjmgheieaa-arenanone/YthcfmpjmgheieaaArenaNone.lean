/- Of no arena each call says so, and of pages and threads that may not be there is none: the law ArenaNone answers true at every input, and its arguments read behind the call as they read before. -/
import Derived.Test.YthcfmpjmgheieaaArnAwake
namespace Go.Proofs.Ythcfmpjmgheieaa.arenaNone
open Go.ChangeShapes Go.WideShapes Go.ChangeAt Go.RowKit

set_option maxHeartbeats 2000000 in
theorem walk (P : Int) (_hP : -9223372036854775808 ≤ P ∧ P ≤ 9223372036854775807) (T : Int) (_hT : -9223372036854775808 ≤ T ∧ T ≤ 9223372036854775807) (w : World) :
    Calls Try.prog 7 #[.int .i64 P, .int .i64 T] w fun e w' => e = .returned (.bool true) ∧ Below w.heap.size w w' := by
  clear _hP _hT
  have N : Hid (∀ w, Calls Try.prog 19 #[.agg #[.int .i64 P, .int .i64 T, .slice none 0 0]] w fun e w' => ∃ v : Option Addr, e = .returned (.pointer v) ∧ v.isSome = Lay.may P T ∧ Below w.heap.size w w') := hide (fun w => by
    cases hm : Lay.may P T
    · exact (anewNil P T hm none 0 0 w).mono fun _ _ ⟨e, b⟩ => ⟨none, e, rfl, b⟩
    · obtain ⟨m1, m2, m3, m4⟩ := Lay.may_iff.1 hm
      obtain ⟨pg, rfl⟩ := Int.eq_ofNat_of_zero_le (show 0 ≤ P by omega)
      exact (anew Loc.nought (Own.start w) pg T hm [] (by simp) none 0 (fun _ => ⟨rfl, rfl⟩) (fun h => absurd rfl h)).mono fun _ _ ⟨q, _, _, e, o⟩ => ⟨some ⟨q, 0, none⟩, e, rfl, o.back⟩)
  go_enter Try.func7, Try.ntmps7
  go_wp2_with fail
  refine (layoutNil _).mono ?_
  rintro e w1 ⟨rfl, hb1⟩
  go_wp2_with fail
  refine (storeNil _).mono ?_
  rintro e w2 ⟨rfl, rfl⟩
  go_wp2_with fail
  refine (runsNil _).mono ?_
  rintro e w3 ⟨rfl, rfl⟩
  go_wp2_with fail
  refine (genNil _).mono ?_
  rintro e w4 ⟨rfl, rfl⟩
  go_wp2_with fail
  refine (N.out _).mono ?_
  rintro e w5 ⟨v, rfl, hv, hb5⟩
  have HB := hide (hb1.trans (hb5.mono hb1.size))
  clear hb1 hb5 N
  have HA := fun w => hide (awake11 w)
  unfold Lay.may at hv
  cases v with
  | none =>
    by_cases h1 : 1 ≤ P
    · by_cases h2 : P ≤ 4096
      · by_cases h3 : 1 ≤ T
        · have d1 : decide (1 ≤ P) = true := by simp [h1]
          have d2 : decide (P ≤ 4096) = true := by simp [h2]
          have d3 : decide (1 ≤ T) = true := by simp [h3]
          have h4 : ¬ T ≤ 64 := fun h4 => by simp [h1, h2, h3, h4] at hv
          have d4 : decide (T ≤ 64) = false := by simp [h4]
          clear hv h1 h2 h3 h4
          go_wp2_with fail
          refine (HA _).out.mono ?_
          rintro e w6 ⟨rfl, hb6⟩
          have HB6 := hide (HB.out.trans (hb6.mono HB.out.size))
          clear hb6
          go_wp2
          go_ret
          exact ⟨rfl, HB6.out⟩
        · have d1 : decide (1 ≤ P) = true := by simp [h1]
          have d2 : decide (P ≤ 4096) = true := by simp [h2]
          have d3 : decide (1 ≤ T) = false := by simp [h3]
          clear hv h1 h2 h3
          go_wp2_with fail
          refine (HA _).out.mono ?_
          rintro e w6 ⟨rfl, hb6⟩
          have HB6 := hide (HB.out.trans (hb6.mono HB.out.size))
          clear hb6
          go_wp2
          go_ret
          exact ⟨rfl, HB6.out⟩
      · have d1 : decide (1 ≤ P) = true := by simp [h1]
        have d2 : decide (P ≤ 4096) = false := by simp [h2]
        clear hv h1 h2
        go_wp2_with fail
        refine (HA _).out.mono ?_
        rintro e w6 ⟨rfl, hb6⟩
        have HB6 := hide (HB.out.trans (hb6.mono HB.out.size))
        clear hb6
        go_wp2
        go_ret
        exact ⟨rfl, HB6.out⟩
    · have d1 : decide (1 ≤ P) = false := by simp [h1]
      clear hv h1
      go_wp2_with fail
      refine (HA _).out.mono ?_
      rintro e w6 ⟨rfl, hb6⟩
      have HB6 := hide (HB.out.trans (hb6.mono HB.out.size))
      clear hb6
      go_wp2
      go_ret
      exact ⟨rfl, HB6.out⟩
  | some ad =>
    have hm : Lay.may P T = true := by unfold Lay.may; rw [← hv]; rfl
    obtain ⟨h1, h2, h3, h4⟩ := Lay.may_iff.1 hm
    have d1 : decide (1 ≤ P) = true := by simp [h1]
    have d2 : decide (P ≤ 4096) = true := by simp [h2]
    have d3 : decide (1 ≤ T) = true := by simp [h3]
    have d4 : decide (T ≤ 64) = true := by simp [h4]
    clear hv hm h1 h2 h3 h4
    go_wp2_with fail
    refine (HA _).out.mono ?_
    rintro e w6 ⟨rfl, hb6⟩
    have HB6 := hide (HB.out.trans (hb6.mono HB.out.size))
    clear hb6
    go_wp2
    go_ret
    exact ⟨rfl, HB6.out⟩

set_option maxRecDepth 100000 in
theorem lifted (os : Os) (started : os.Started) (H : Type) (enc : TypeId × Value → H) :
    ReturnsInHanded {} Try.checked os 7 .any (Rows.arenaNoneSpec.pre6 enc Try.prog Try.f7 Rows.arenaNoneRow.domain false) (Rows.arenaNoneSpec.post enc Try.prog Try.f7 false true false false) := by
  refine returnsInHanded_of_change (C := Try.checked) own started (by kernel_rfl) Try.func7
    (ChangeSpec.witness6 (enc := enc) (C := Try.checked) false ⟨#[], #[.int .i64 0, .int .i64 0], []⟩ 8 (by kernel_rfl) (by kernel_rfl) (by kernel_rfl) (by kernel_rfl)) ?_
  intro W base args ds gs before hval0 hW _ _
  have hval : ∀ (j : Nat) t v, Try.f7.params[j]? = some t → args[j]? = some v → Value.okWide Try.prog W .any base t v := hval0
  have hW' := hW
  obtain ⟨p, q, hA0, hV, rfl, hfz, hnd⟩ := hW
  have hA : DataW.TrodAll enc Try.prog W 0 (fun _ => true) true Try.f7.params.toList args.toList ds p := hA0
  rw [Try.params7] at hA hval
  obtain ⟨v0, vs0, d0, ds0, p0, q0, hargs, rfl, rfl, h0, r0⟩ := trodAll_cons hA
  obtain ⟨v1, vs1, d1, ds1, p1, q1, rfl, rfl, rfl, h1, r1⟩ := trodAll_cons r0
  obtain ⟨rfl, rfl, rfl⟩ := trodAll_nil r1
  obtain rfl : args = #[v0, v1] := by cases args; simp_all
  obtain ⟨rfl, rfl⟩ := trodVars_none hV
  obtain ⟨a0, rfl, rfl, rfl, w0⟩ := open_int Try.underlying3 (hval 0 3 v0 rfl rfl) h0
  obtain ⟨a1, rfl, rfl, rfl, w1⟩ := open_int Try.underlying3 (hval 1 3 v1 rfl rfl) h1
  clear hA0 hval0
  have hx0 := i64_bd w0
  have hx1 := i64_bd w1
  refine (walk a0 hx0 a1 hx1 W).mono fun e W' ⟨he, bel⟩ => ?_
  subst he
  exact ⟨_, rfl, _, _, _, [], _, [], hW', trodAll_mk1 (shut_bool Try.underlying4 _), (trodAll_cons_mk (shut_int Try.underlying3 w0) (trodAll_cons_mk (shut_int Try.underlying3 w1) trodAll_mk0)), rfl, bel.frame _, fun h => by cases h⟩

end Go.Proofs.Ythcfmpjmgheieaa.arenaNone
namespace Go.Proofs.Ythcfmpjmgheieaa

theorem arenaNone_holds : Rows.ArenaNoneSaid :=
  OpenClaim.holds_of_wide 7 Try.f7 rfl rfl rfl rfl rfl rfl rfl ⟨rfl, rfl, rfl, rfl, rfl⟩ rfl rfl rfl rfl rfl (by kernel_rfl) Try.func7 (by kernel_rfl)
    (of_decide_eq_true (by kernel_rfl)) (by unfold Func.isWrapper; first | (rw [if_pos (by decide +kernel)]; kernel_rfl) | (rw [if_neg (by decide +kernel)]; exact ⟨rfl, rfl⟩))
    (fun os started H enc _ => arenaNone.lifted os started H enc)
end Go.Proofs.Ythcfmpjmgheieaa
