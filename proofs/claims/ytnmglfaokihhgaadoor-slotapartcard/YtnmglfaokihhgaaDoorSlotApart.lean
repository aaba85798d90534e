/- Slots of a span lie in its pages, one behind the other, with no byte in common: the law SlotApart answers true at every input, and its arguments read behind the call as they read before. Condition: the listed table of package class is laid as the program's text lays it (the card ties it). -/
import Derived.Test.YtnmglfaokihhgaaDoorSltMath
import Derived.Test.YtnmglfaokihhgaaDoorOver
import Derived.Test.YtnmglfaokihhgaaDoorLaidC
namespace Go.Proofs.YtnmglfaokihhgaaDoor.slotApart
open Go.ChangeShapes Go.WideShapes Go.ChangeAt Go.RowKit

set_option maxHeartbeats 2000000 in
theorem same (page cl i j : Nat) (hpage : page < 65536) (hcl : cl < 256) (hi : i < 256) (hj : j < 256) (P C I X n s G : Int) (hP : (page : Int) % 4096 = P) (hC : (cl : Int) % 14 = C) (hI : (i : Int) % s = I) (hJ : (j : Int) % s = I)
    (hs0 : 1 ≤ s) (hs1 : s ≤ 64) (hn0 : 1 ≤ n) (hn1 : n ≤ 12288) (_hP0 : 0 ≤ P) (_hP1 : P < 4096) (hX0 : P * 8192 ≤ X) (hX1 : X ≤ 1099511627776) (hG0 : 0 ≤ G) (hG1 : G ≤ 3) (hXG : X + n ≤ (P + G) * 8192)
    (HS : Hid ((Cls.slots C : Int) = s)) (HB : Hid (Cls.begins P C I = (X, true))) (HG : Hid ((Cls.pages C : Int) = G)) (HN : Hid (Cls.bytesOf C G = n)) (HA : Hid (Cls.aparts X n X n = false)) (w : World) (hok : ClsOk w w) :
    Calls Tryd.prog 5 #[.int .u16 (page : Int), .int .u8 (cl : Int), .int .u8 (i : Int), .int .u8 (j : Int)] w fun e w' => e = .returned (.bool true) ∧ ClsOk w w' := by
  have s1 : (s == 0) = false := by simp; omega
  have s2 : decide (n < 1) = false := by simp; omega
  have s3 : decide (X < P * 8192) = false := by simp; omega
  have s4 : decide ((P + G) * 8192 < X + n) = false := by simp; omega
  have hne : Nonempty (Over w) := ⟨⟨_, Below.refl _ _⟩⟩
  have RS : Hid (∀ w, Calls Tryd.prog 16 #[.int .i64 C] w fun e w' => e = .returned (.int .i64 s) ∧ Below w.heap.size w w') := hide (fun w => by rw [← HS.out]; exact rslots C w)
  go_enter Tryd.func5, Tryd.ntmps5
  go_wp2_with fail
  refine over_region (by kernel_rfl) (by kernel_rfl) ?_
  repeat (go_big_quiet_step ((go_at_call 16; exact over_call _ (RS.out _))))
  refine wpQuiet_nil ?_
  rintro _ ⟨u, rfl⟩
  have hok1 : ClsOk w u.w' := hok.grow u.h
  generalize u.w' = w1 at *
  go_wp2_with fail
  refine (sbeginOk P C I X true HB.out hok1).mono ?_
  rintro e w2 ⟨rfl, hok2⟩
  go_wp2_with fail
  refine (sbeginOk P C I X true HB.out hok2).mono ?_
  rintro e w3 ⟨rfl, hok3⟩
  go_wp2_with fail
  refine (rpagesOk C G HG.out hok3).mono ?_
  rintro e w4 ⟨rfl, hok4⟩
  go_wp2_with fail
  refine (sbytesOk C G n HN.out hok4).mono ?_
  rintro e w5 ⟨rfl, hok5⟩
  go_wp2_with fail
  refine (rpagesOk C G HG.out hok5).mono ?_
  rintro e w6 ⟨rfl, hok6⟩
  go_wp2_with fail
  refine (sapartOk X n X n false HA.out hok6).mono ?_
  rintro e w7 ⟨rfl, hok7⟩
  go_wp2_with fail
  refine (awakeOk5 hok7).mono ?_
  rintro e w8 ⟨rfl, hok8⟩
  go_wp2
  go_ret
  exact ⟨rfl, hok8⟩

set_option maxHeartbeats 2000000 in
theorem other (page cl i j : Nat) (hpage : page < 65536) (hcl : cl < 256) (hi : i < 256) (hj : j < 256) (P C I J X Y n s G : Int) (hP : (page : Int) % 4096 = P) (hC : (cl : Int) % 14 = C) (hI : (i : Int) % s = I) (hJ : (j : Int) % s = J)
    (hs0 : 1 ≤ s) (hs1 : s ≤ 64) (hn0 : 1 ≤ n) (hn1 : n ≤ 12288) (_hP0 : 0 ≤ P) (_hP1 : P < 4096) (hX0 : P * 8192 ≤ X) (hX1 : X ≤ 1099511627776) (hG0 : 0 ≤ G) (hG1 : G ≤ 3) (hXG : X + n ≤ (P + G) * 8192) (l : Bool) (e1 : (I != J) = true) (e2 : decide (X < Y) = l) (e3 : decide (I < J) = l)
    (HS : Hid ((Cls.slots C : Int) = s)) (HB : Hid (Cls.begins P C I = (X, true))) (HD : Hid (Cls.begins P C J = (Y, true))) (HG : Hid ((Cls.pages C : Int) = G)) (HN : Hid (Cls.bytesOf C G = n)) (HA : Hid (Cls.aparts X n Y n = true)) (w : World) (hok : ClsOk w w) :
    Calls Tryd.prog 5 #[.int .u16 (page : Int), .int .u8 (cl : Int), .int .u8 (i : Int), .int .u8 (j : Int)] w fun e w' => e = .returned (.bool true) ∧ ClsOk w w' := by
  have s1 : (s == 0) = false := by simp; omega
  have s2 : decide (n < 1) = false := by simp; omega
  have s3 : decide (X < P * 8192) = false := by simp; omega
  have s4 : decide ((P + G) * 8192 < X + n) = false := by simp; omega
  have hne : Nonempty (Over w) := ⟨⟨_, Below.refl _ _⟩⟩
  have RS : Hid (∀ w, Calls Tryd.prog 16 #[.int .i64 C] w fun e w' => e = .returned (.int .i64 s) ∧ Below w.heap.size w w') := hide (fun w => by rw [← HS.out]; exact rslots C w)
  cases l <;> (
    go_enter Tryd.func5, Tryd.ntmps5
    go_wp2_with fail
    refine over_region (by kernel_rfl) (by kernel_rfl) ?_
    repeat (go_big_quiet_step ((go_at_call 16; exact over_call _ (RS.out _))))
    refine wpQuiet_nil ?_
    rintro _ ⟨u, rfl⟩
    have hok1 : ClsOk w u.w' := hok.grow u.h
    generalize u.w' = w1 at *
    go_wp2_with fail
    refine (sbeginOk P C I X true HB.out hok1).mono ?_
    rintro e w2 ⟨rfl, hok2⟩
    go_wp2_with fail
    refine (sbeginOk P C J Y true HD.out hok2).mono ?_
    rintro e w3 ⟨rfl, hok3⟩
    go_wp2_with fail
    refine (rpagesOk C G HG.out hok3).mono ?_
    rintro e w4 ⟨rfl, hok4⟩
    go_wp2_with fail
    refine (sbytesOk C G n HN.out hok4).mono ?_
    rintro e w5 ⟨rfl, hok5⟩
    go_wp2_with fail
    refine (rpagesOk C G HG.out hok5).mono ?_
    rintro e w6 ⟨rfl, hok6⟩
    go_wp2_with fail
    refine (sapartOk X n Y n true HA.out hok6).mono ?_
    rintro e w7 ⟨rfl, hok7⟩
    go_wp2_with fail
    refine (awakeOk5 hok7).mono ?_
    rintro e w8 ⟨rfl, hok8⟩
    go_wp2
    go_ret
    exact ⟨rfl, hok8⟩)

theorem walk (page : Nat) (hpage : page < 65536) (cl : Nat) (hcl : cl < 256) (i : Nat) (hi : i < 256) (j : Nat) (hj : j < 256) (w : World) (hT : ClsTab w) :
    Calls Tryd.prog 5 #[.int .u16 (page : Int), .int .u8 (cl : Int), .int .u8 (i : Int), .int .u8 (j : Int)] w fun e w' => e = .returned (.bool true) ∧ Below w.heap.size w w' := by
  have hc0 : 0 ≤ (cl : Int) % 14 := by omega
  have hc1 : (cl : Int) % 14 < 14 := by omega
  obtain ⟨C, hC⟩ : ∃ C, (cl : Int) % 14 = C := ⟨_, rfl⟩
  rw [hC] at hc0 hc1
  obtain ⟨⟨hx0, hx1⟩, ⟨hg0, hg1⟩, ⟨hs0, hs1⟩, hf⟩ := Cls.in_class hc0 hc1
  have hi0 : 0 ≤ (i : Int) % (Cls.slots C : Int) := Int.emod_nonneg _ (by omega)
  have hi1 : (i : Int) % (Cls.slots C : Int) < (Cls.slots C : Int) := Int.emod_lt_of_pos _ (by omega)
  have hj0 : 0 ≤ (j : Int) % (Cls.slots C : Int) := Int.emod_nonneg _ (by omega)
  have hj1 : (j : Int) % (Cls.slots C : Int) < (Cls.slots C : Int) := Int.emod_lt_of_pos _ (by omega)
  obtain ⟨P, hP⟩ : ∃ P, (page : Int) % 4096 = P := ⟨_, rfl⟩
  have hp0 : 0 ≤ P := by omega
  have hp1 : P < 4096 := by omega
  obtain ⟨I, hI⟩ : ∃ I, (i : Int) % (Cls.slots C : Int) = I := ⟨_, rfl⟩
  obtain ⟨J, hJ⟩ : ∃ J, (j : Int) % (Cls.slots C : Int) = J := ⟨_, rfl⟩
  rw [hI] at hi0 hi1
  rw [hJ] at hj0 hj1
  have hb := Cls.begins_at (c := C) hp0 hp1 hi0 hi1
  have hd := Cls.begins_at (c := C) hp0 hp1 hj0 hj1
  have hm := Cls.mul_bd (x := (Cls.bytes C : Int)) hi0 (by omega) (by omega) (by omega)
  have hap := Cls.aparts_slots (n := (Cls.bytes C : Int)) hp0 hp1 hi0 (by omega) hj0 (by omega) (by omega) (by omega) rfl rfl
  have hl := Cls.lt_mul (j := (Cls.slots C : Int)) (k := I) (x := (Cls.bytes C : Int)) (by omega) hi1
  have hf' : (Cls.slots C : Int) * (Cls.bytes C : Int) ≤ (Cls.pages C : Int) * 8192 := by have h := Int.ofNat_le.2 hf; rw [Int.natCast_mul, Int.natCast_mul] at h; exact h
  have hbo : Cls.bytesOf C (Cls.pages C : Int) = (Cls.bytes C : Int) := by unfold Cls.bytesOf; rw [if_pos (by omega)]
  by_cases h : I = J
  · subst h
    exact (same page cl i j hpage hcl hi hj P C I _ _ _ _ hP hC hI hJ (by omega) (by omega) (by omega) (by omega) hp0 hp1 (by omega) (by omega) (by omega) (by omega) (by omega) (hide rfl) (hide hb) (hide rfl) (hide hbo) (hide (by rw [hap.1]; simp)) w (.start hT)).mono fun _ _ ⟨he, hb⟩ => ⟨he, hb.below⟩
  · exact (other page cl i j hpage hcl hi hj P C I J _ _ _ _ _ hP hC hI hJ (by omega) (by omega) (by omega) (by omega) hp0 hp1 (by omega) (by omega) (by omega) (by omega) (by omega) _ (by simpa using h) rfl (decide_eq_decide.2 hap.2.symm) (hide rfl) (hide hb) (hide hd) (hide rfl) (hide hbo) (hide (by rw [hap.1]; simpa using h)) w (.start hT)).mono fun _ _ ⟨he, hb⟩ => ⟨he, hb.below⟩

set_option maxRecDepth 100000 in
theorem lifted (os : Os) (started : os.Started) (H : Type) (enc : TypeId × Value → H) :
    ReturnsInHanded {} Tryd.checked os 5 .any (fun w args => (Rows.slotApartSpec.pre enc Tryd.prog Tryd.f5 [] false w args ∧ laidMetH Tryd.prog laidL w) ∧ sizedMet enc Tryd.prog Tryd.f5 (OpenSpec.ofChange Rows.slotApartSpec) false w args)
      (Rows.slotApartSpec.post enc Tryd.prog Tryd.f5 false true false false) := by
  refine returnsInHanded_of_change_and (C := Tryd.checked) (X := fun w _ => laidMetH Tryd.prog laidL w) (fun _ _ _ hh h => h.of_heap hh) own started (by kernel_rfl) Tryd.func5
    (ChangeSpec.witness_shaped (enc := enc) (C := Tryd.checked) (os := os) (X := fun w _ => laidMetH Tryd.prog laidL w) false (World.doorLaid Tryd.prog 400 os) #[.int .u16 0, .int .u8 0, .int .u8 0, .int .u8 0] 8 rfl (World.shaped_of_RefB (by kernel_rfl) (by kernel_rfl)) (by kernel_rfl) (by kernel_rfl) (by kernel_rfl) (door_met os _)) ?_
  intro W base args ds gs before hval0 hW _ _ hL _
  have hval : ∀ (j : Nat) t v, Tryd.f5.params[j]? = some t → args[j]? = some v → Value.okWide Tryd.prog W .any base t v := hval0
  have hW' := hW
  obtain ⟨p, q, hA0, hV, rfl, hfz, hnd⟩ := hW
  have hA : DataW.TrodAll enc Tryd.prog W 0 (fun _ => true) true Tryd.f5.params.toList args.toList ds p := hA0
  rw [Tryd.params5] at hA hval
  obtain ⟨v0, vs0, d0, ds0, p0, q0, hargs, rfl, rfl, h0, r0⟩ := trodAll_cons hA
  obtain ⟨v1, vs1, d1, ds1, p1, q1, rfl, rfl, rfl, h1, r1⟩ := trodAll_cons r0
  obtain ⟨v2, vs2, d2, ds2, p2, q2, rfl, rfl, rfl, h2, r2⟩ := trodAll_cons r1
  obtain ⟨v3, vs3, d3, ds3, p3, q3, rfl, rfl, rfl, h3, r3⟩ := trodAll_cons r2
  obtain ⟨rfl, rfl, rfl⟩ := trodAll_nil r3
  obtain rfl : args = #[v0, v1, v2, v3] := by cases args; simp_all
  obtain ⟨rfl, rfl⟩ := trodVars_none hV
  obtain ⟨a0, rfl, rfl, rfl, w0⟩ := open_int Tryd.underlying28 (hval 0 28 v0 rfl rfl) h0
  obtain ⟨a1, rfl, rfl, rfl, w1⟩ := open_int Tryd.underlying5 (hval 1 5 v1 rfl rfl) h1
  obtain ⟨a2, rfl, rfl, rfl, w2⟩ := open_int Tryd.underlying5 (hval 2 5 v2 rfl rfl) h2
  obtain ⟨a3, rfl, rfl, rfl, w3⟩ := open_int Tryd.underlying5 (hval 3 5 v3 rfl rfl) h3
  clear hA0 hval0
  obtain ⟨x0, hx0, rfl⟩ := u16_nat w0
  obtain ⟨x1, hx1, rfl⟩ := u8_nat w1
  obtain ⟨x2, hx2, rfl⟩ := u8_nat w2
  obtain ⟨x3, hx3, rfl⟩ := u8_nat w3
  refine (walk x0 hx0 x1 hx1 x2 hx2 x3 hx3 W (tab_of_laid hL)).mono fun e W' ⟨he, bel⟩ => ?_
  subst he
  exact ⟨_, rfl, _, _, _, [], _, [], hW', trodAll_mk1 (shut_bool Tryd.underlying4 _), (trodAll_cons_mk (shut_int Tryd.underlying28 w0) (trodAll_cons_mk (shut_int Tryd.underlying5 w1) (trodAll_cons_mk (shut_int Tryd.underlying5 w2) (trodAll_cons_mk (shut_int Tryd.underlying5 w3) trodAll_mk0)))), rfl, bel.frame _, fun h => by cases h⟩

theorem over : Rows.SlotApartSaid :=
  OpenClaim.holds_of_wide 5 Tryd.f5 rfl rfl rfl rfl rfl rfl rfl ⟨rfl, rfl, rfl, rfl, rfl⟩ rfl rfl rfl rfl rfl (by kernel_rfl) Tryd.func5 (by kernel_rfl)
    (of_decide_eq_true (by kernel_rfl)) (by unfold Func.isWrapper; first | (rw [if_pos (by decide +kernel)]; kernel_rfl) | (rw [if_neg (by decide +kernel)]; exact ⟨rfl, rfl⟩))
    (fun os started H enc _ => lifted os started H enc)
end Go.Proofs.YtnmglfaokihhgaaDoor.slotApart
namespace Go.Proofs.YtnmglfaokihhgaaDoor

theorem slotApart_card : Rows.SlotApartCardSaid :=
  Claim7.holds_tied_plain_at .later [] [.data] true (true, "55182bb537bdda8404fd22694538d947dd7c899b45e29a7eaf71c92aec332654") false
    slotApart.over (fun _ h => by cases h) (by kernel_rfl) (fun _ h => by cases h) slotApart_row_tie rfl ⟨rfl, rfl⟩ (by kernel_rfl) rfl
    (fun f fn hf hfn => by
      obtain rfl : f = 5 := Option.some.inj ((show Tryd.prog.funcNamed Rows.slotApartRow.func = some 5 by kernel_rfl).symm.trans hf) |>.symm
      obtain rfl : fn = Tryd.f5 := (Option.some.inj (Tryd.func5.symm.trans hfn)).symm
      exact ⟨by kernel_rfl, fun j t ht => by
        rw [Tryd.params5] at ht
        have hm : t ∈ [28, 5, 5, 5] := by simpa using Array.mem_of_getElem? ht
        have hall : ([28, 5, 5, 5].all fun u => !Tryd.prog.wantsStandIn u) = true := by kernel_rfl
        exact (show Tryd.prog.wantsStandIn t = false by simpa using List.all_eq_true.1 hall t hm)⟩)
    (by kernel_rfl)
end Go.Proofs.YtnmglfaokihhgaaDoor
