/- A field that is put is read again, put back as it was the word is as it was, and fields beside it stay: the law WordBack answers true at every input, and its arguments read behind the call as they read before. Condition: the listed table of math/bits is laid as the program's text lays it (the card ties it). -/
import Derived.Test.YteahpfobjnofmaaDoorLaid
namespace Go.Proofs.YteahpfobjnofmaaDoor.wordBack
open Go.ChangeShapes Go.WideShapes Go.ChangeAt Go.RowKit

theorem core (x : Nat) (hx : x < 18446744073709551616) (a : Nat) (ha : a < 256) (n : Nat) (hn : n < 256) (v : Nat) (hv : v < 18446744073709551616) (w : World) (hT : Tab w)
    (f l u : Nat) (hf : (a : Int) % 65 = (f : Int)) (hl : (n : Int) % (65 - (f : Int)) = (l : Int)) (hfl : f + l ≤ 64) (hu : v &&& Plain.ones l = u) :
    Calls Tryd.prog 4 #[.int .u64 (x : Int), .int .u8 (a : Int), .int .u8 (n : Int), .int .u64 (v : Int)] w fun e w' => e = .returned (.bool true) ∧ Below w.heap.size w w' := by
  have hul : u ≤ Plain.ones l := by rw [← hu]; exact Nat.and_le_right
  have hol := Plain.ones_lt l (by omega)
  have k1 : bits BinOp.and IntKind.u64 (v : Int) (Plain.ones l : Int) = (u : Int) := by rw [bits_and_u64_nat _ _ hv hol, hu]
  have c1 := hide (ones15N l (by omega))
  have hX := Plain.wth_lt x f l u hx
  have c2 := hide (withI x hx (f : Int) (l : Int) f l u rfl rfl hfl hul)
  have c3 := fieldI (Plain.wth x f l u) hX (f : Int) (l : Int) f l rfl rfl hfl
  rw [Plain.fld_wth x f l u hfl hul] at c3
  have c4 := fieldI (Plain.wth x f l u) hX 0 (f : Int) 0 f rfl rfl (by omega)
  rw [Plain.fld_beside x f l u 0 f (by omega) hul (by omega)] at c4
  have c5 := hide (fieldI x hx 0 (f : Int) 0 f rfl rfl (by omega))
  have c6 := fieldI (Plain.wth x f l u) hX ((f : Int) + (l : Int)) (64 - (f : Int) - (l : Int)) (f + l) (64 - f - l) (by omega) (by omega) (by omega)
  rw [Plain.fld_beside x f l u (f + l) (64 - f - l) (by omega) hul (by omega)] at c6
  have c7 := hide (fieldI x hx ((f : Int) + (l : Int)) (64 - (f : Int) - (l : Int)) (f + l) (64 - f - l) (by omega) (by omega) (by omega))
  have c8 := hide (fieldI x hx (f : Int) (l : Int) f l rfl rfl hfl)
  have c9 := withI (Plain.wth x f l u) hX (f : Int) (l : Int) f l (Plain.fld x f l) rfl rfl hfl (Plain.fld_le x f l)
  rw [Plain.wth_back x f l u hx hul] at c9
  have C3 := hide c3
  have C4 := hide c4
  have C6 := hide c6
  have C9 := hide c9
  clear c3 c4 c6 c9
  have HT := hide hT
  clear hT hu
  generalize Plain.wth x f l u = X at *
  generalize Plain.fld x f l = B at *
  generalize Plain.fld x 0 f = A at *
  generalize Plain.fld x (f + l) (64 - f - l) = C at *
  generalize Plain.ones l = o at *
  go_enter Tryd.func4, Tryd.ntmps4
  go_wp2_with fail
  refine (c1.out _).mono ?_
  rintro e w1 ⟨rfl, rfl⟩
  go_wp2_with fail
  refine (c2.out _).mono ?_
  rintro e w1 ⟨rfl, q1, rfl⟩
  go_wp2_with fail
  refine (C3.out _).mono ?_
  rintro e w1 ⟨rfl, q2, rfl⟩
  go_wp2_with fail
  refine (C4.out _).mono ?_
  rintro e w1 ⟨rfl, q3, rfl⟩
  go_wp2_with fail
  refine (c5.out _).mono ?_
  rintro e w1 ⟨rfl, q4, rfl⟩
  go_wp2_with fail
  refine (C6.out _).mono ?_
  rintro e w1 ⟨rfl, q5, rfl⟩
  go_wp2_with fail
  refine (c7.out _).mono ?_
  rintro e w1 ⟨rfl, q6, rfl⟩
  go_wp2_with fail
  refine (c8.out _).mono ?_
  rintro e w1 ⟨rfl, q7, rfl⟩
  go_wp2_with fail
  refine (C9.out _).mono ?_
  rintro e w1 ⟨rfl, q8, rfl⟩
  go_wp2_with fail
  refine (awake26 _ (HT.out.drewN _)).mono ?_
  rintro e w1 ⟨rfl, hbel⟩
  go_wp2
  go_ret
  exact ⟨rfl, (below_drewN (Below.refl _ _) _).trans hbel⟩

theorem walk (x : Nat) (hx : x < 18446744073709551616) (a : Nat) (ha : a < 256) (n : Nat) (hn : n < 256) (v : Nat) (hv : v < 18446744073709551616) (w : World) (hT : Tab w) :
    Calls Tryd.prog 4 #[.int .u64 (x : Int), .int .u8 (a : Int), .int .u8 (n : Int), .int .u64 (v : Int)] w fun e w' => e = .returned (.bool true) ∧ Below w.heap.size w w' := by
  have h1 : n % (65 - a % 65) < 65 - a % 65 := Nat.mod_lt _ (by omega)
  refine core x hx a ha n hn v hv w hT (a % 65) (n % (65 - a % 65)) _ (by omega) ?_ (by omega) rfl
  have h2 : (65 - ((a % 65 : Nat) : Int)) = ((65 - a % 65 : Nat) : Int) := by omega
  rw [h2]
  omega

set_option maxRecDepth 100000 in
theorem lifted (os : Os) (started : os.Started) (H : Type) (enc : TypeId × Value → H) :
    ReturnsInHanded {} Tryd.checked os 4 .any (fun w args => (Rows.wordBackSpec.pre enc Tryd.prog Tryd.f4 [] false w args ∧ laidMetH Tryd.prog laidL w) ∧ sizedMet enc Tryd.prog Tryd.f4 (OpenSpec.ofChange Rows.wordBackSpec) false w args)
      (Rows.wordBackSpec.post enc Tryd.prog Tryd.f4 false true false false) := by
  refine returnsInHanded_of_change_and (C := Tryd.checked) (X := fun w _ => laidMetH Tryd.prog laidL w) (fun _ _ _ hh h => h.of_heap hh) own started (by kernel_rfl) Tryd.func4
    (ChangeSpec.witness_shaped (enc := enc) (C := Tryd.checked) (os := os) (X := fun w _ => laidMetH Tryd.prog laidL w) false (World.doorLaid Tryd.prog 400 os) #[.int .u64 0, .int .u8 0, .int .u8 0, .int .u64 0] 8 rfl (World.shaped_of_RefB (by kernel_rfl) (by kernel_rfl)) (by kernel_rfl) (by kernel_rfl) (by kernel_rfl) (door_met os _)) ?_
  intro W base args ds gs before hval0 hW _ _ hL _
  have hval : ∀ (j : Nat) t v, Tryd.f4.params[j]? = some t → args[j]? = some v → Value.okWide Tryd.prog W .any base t v := hval0
  have hW' := hW
  obtain ⟨p, q, hA0, hV, rfl, hfz, hnd⟩ := hW
  have hA : DataW.TrodAll enc Tryd.prog W 0 (fun _ => true) true Tryd.f4.params.toList args.toList ds p := hA0
  rw [Tryd.params4] at hA hval
  obtain ⟨v0, vs0, d0, ds0, p0, q0, hargs, rfl, rfl, h0, r0⟩ := trodAll_cons hA
  obtain ⟨v1, vs1, d1, ds1, p1, q1, rfl, rfl, rfl, h1, r1⟩ := trodAll_cons r0
  obtain ⟨v2, vs2, d2, ds2, p2, q2, rfl, rfl, rfl, h2, r2⟩ := trodAll_cons r1
  obtain ⟨v3, vs3, d3, ds3, p3, q3, rfl, rfl, rfl, h3, r3⟩ := trodAll_cons r2
  obtain ⟨rfl, rfl, rfl⟩ := trodAll_nil r3
  obtain rfl : args = #[v0, v1, v2, v3] := by cases args; simp_all
  obtain ⟨rfl, rfl⟩ := trodVars_none hV
  obtain ⟨a0, rfl, rfl, rfl, w0⟩ := open_int Tryd.underlying22 (hval 0 22 v0 rfl rfl) h0
  obtain ⟨a1, rfl, rfl, rfl, w1⟩ := open_int Tryd.underlying5 (hval 1 5 v1 rfl rfl) h1
  obtain ⟨a2, rfl, rfl, rfl, w2⟩ := open_int Tryd.underlying5 (hval 2 5 v2 rfl rfl) h2
  obtain ⟨a3, rfl, rfl, rfl, w3⟩ := open_int Tryd.underlying22 (hval 3 22 v3 rfl rfl) h3
  clear hA0 hval0
  obtain ⟨x0, hx0, rfl⟩ := u64_nat w0
  obtain ⟨x1, hx1, rfl⟩ := u8_nat w1
  obtain ⟨x2, hx2, rfl⟩ := u8_nat w2
  obtain ⟨x3, hx3, rfl⟩ := u64_nat w3
  refine (walk x0 hx0 x1 hx1 x2 hx2 x3 hx3 W (tab_of_laid hL)).mono fun e W' ⟨he, bel⟩ => ?_
  subst he
  exact ⟨_, rfl, _, _, _, [], _, [], hW', trodAll_mk1 (shut_bool Tryd.underlying4 _), (trodAll_cons_mk (shut_int Tryd.underlying22 w0) (trodAll_cons_mk (shut_int Tryd.underlying5 w1) (trodAll_cons_mk (shut_int Tryd.underlying5 w2) (trodAll_cons_mk (shut_int Tryd.underlying22 w3) trodAll_mk0)))), rfl, bel.frame _, fun h => by cases h⟩

theorem over : Rows.WordBackSaid :=
  OpenClaim.holds_of_wide 4 Tryd.f4 rfl rfl rfl rfl rfl rfl rfl ⟨rfl, rfl, rfl, rfl, rfl⟩ rfl rfl rfl rfl rfl (by kernel_rfl) Tryd.func4 (by kernel_rfl)
    (of_decide_eq_true (by kernel_rfl)) (by unfold Func.isWrapper; first | (rw [if_pos (by decide +kernel)]; kernel_rfl) | (rw [if_neg (by decide +kernel)]; exact ⟨rfl, rfl⟩))
    (fun os started H enc _ => lifted os started H enc)
end Go.Proofs.YteahpfobjnofmaaDoor.wordBack
namespace Go.Proofs.YteahpfobjnofmaaDoor

theorem wordBack_card : Rows.WordBackCardSaid :=
  Claim7.holds_tied_plain_at .later [] [.data] true (true, "b908dca4562f9d0eb3456803fbb934d60c23d207070fe3ba6b3324649341448f") false
    wordBack.over (fun _ h => by cases h) (by kernel_rfl) (fun _ h => by cases h) wordBack_row_tie rfl ⟨rfl, rfl⟩ (by kernel_rfl) rfl
    (fun f fn hf hfn => by
      obtain rfl : f = 4 := Option.some.inj ((show Tryd.prog.funcNamed Rows.wordBackRow.func = some 4 by kernel_rfl).symm.trans hf) |>.symm
      obtain rfl : fn = Tryd.f4 := (Option.some.inj (Tryd.func4.symm.trans hfn)).symm
      exact ⟨by kernel_rfl, fun j t ht => by
        rw [Tryd.params4] at ht
        have hm : t ∈ [22, 5, 5, 22] := by simpa using Array.mem_of_getElem? ht
        have hall : ([22, 5, 5, 22].all fun u => !Tryd.prog.wantsStandIn u) = true := by kernel_rfl
        exact (show Tryd.prog.wantsStandIn t = false by simpa using List.all_eq_true.1 hall t hm)⟩)
    (by kernel_rfl)
end Go.Proofs.YteahpfobjnofmaaDoor
