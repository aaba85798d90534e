/- Where a slot begins it is found, and nowhere else in it: the law SlotBack answers true at every input, and its arguments read behind the call as they read before. Condition: the listed table of package class is laid as the program's text lays it (the card ties it). -/
import Derived.Test.YtnmglfaokihhgaaDoorSltMath
import Derived.Test.YtnmglfaokihhgaaDoorOver
import Derived.Test.YtnmglfaokihhgaaDoorLaidC
namespace Go.Proofs.YtnmglfaokihhgaaDoor.slotBack
open Go.ChangeShapes Go.WideShapes Go.ChangeAt Go.RowKit

set_option maxHeartbeats 2000000 in
theorem core (page cl i off : Nat) (hpage : page < 65536) (hcl : cl < 256) (hi : i < 256) (hoff : off < 65536) (P C K A n R s : Int) (hP : (page : Int) % 4096 = P) (hC : (cl : Int) % 15 = C) (hK : (i : Int) % s = K) (hR : (off : Int) % (n - 1) = R) (hs0 : 1 ≤ s) (hs1 : s ≤ 64) (hn0 : 2 ≤ n) (hn1 : n ≤ 12288) (hA0 : 0 ≤ A) (hA1 : A ≤ 1099511627776) (hR0 : 0 ≤ R) (hR1 : R < n - 1)
    (HS : Hid ((Cls.slots C : Int) = s)) (HB : Hid (Cls.begins P C K = (A, true))) (HW : Hid (Cls.which P C A = (K, true))) (HN : Hid (Cls.bytesOf C 1 = n)) (HV : Hid (Cls.which P C (A + 1 + R) = (0, false))) (w : World) (hok : ClsOk w w) :
    Calls Tryd.prog 4 #[.int .u16 (page : Int), .int .u8 (cl : Int), .int .u8 (i : Int), .int .u16 (off : Int)] w fun e w' => e = .returned (.bool true) ∧ ClsOk w w' := by
  have HA : Hid (A ≤ 9223372036854775807 ∧ A + 1 + R ≤ 9223372036854775807) := hide (by omega)
  have e1 : (s == 0) = false := by simp; omega
  have e2 : (n - 1 == 0) = false := by simp; omega
  go_enter Tryd.func4, Tryd.ntmps4
  go_wp2_with fail
  refine (rslotsOk C s HS.out (by assumption)).mono ?_
  rintro e w1 ⟨rfl, hok1⟩
  go_wp2_with fail
  refine (sbeginOk P C K A true HB.out hok1).mono ?_
  rintro e w2 ⟨rfl, hok2⟩
  go_wp2_with fail
  refine (sofOk P C A K true HA.out.1 HW.out hok2).mono ?_
  rintro e w3 ⟨rfl, hok3⟩
  go_wp2_with fail
  refine (sbytesOk C 1 n HN.out hok3).mono ?_
  rintro e w4 ⟨rfl, hok4⟩
  go_wp2_with fail
  all_goals try (exfalso; omega)
  refine (sofOk P C (A + 1 + R) 0 false HA.out.2 HV.out hok4).mono ?_
  rintro e w5 ⟨rfl, hok5⟩
  go_wp2_with fail
  refine (awakeOk5 hok5).mono ?_
  rintro e w6 ⟨rfl, hok6⟩
  go_wp2
  go_ret
  exact ⟨rfl, hok6⟩

theorem walk (page : Nat) (hpage : page < 65536) (cl : Nat) (hcl : cl < 256) (i : Nat) (hi : i < 256) (off : Nat) (hoff : off < 65536) (w : World) (hT : ClsTab w) :
    Calls Tryd.prog 4 #[.int .u16 (page : Int), .int .u8 (cl : Int), .int .u8 (i : Int), .int .u16 (off : Int)] w fun e w' => e = .returned (.bool true) ∧ Below w.heap.size w w' := by
  have hc0 : 0 ≤ (cl : Int) % 15 := by omega
  have hc1 : (cl : Int) % 15 ≤ 14 := by omega
  obtain ⟨C, hC⟩ : ∃ C, (cl : Int) % 15 = C := ⟨_, rfl⟩
  rw [hC] at hc0 hc1
  have hs := Cls.slots_pos hc0 hc1
  have hs1 := Cls.slots_bd C
  have hn := Cls.bytesOf_pos hc0 hc1
  have hx := Cls.bytes_bd C
  have hk0 : 0 ≤ (i : Int) % (Cls.slots C : Int) := Int.emod_nonneg _ (by omega)
  have hk1 : (i : Int) % (Cls.slots C : Int) < (Cls.slots C : Int) := Int.emod_lt_of_pos _ (by omega)
  have hr0 : 0 ≤ (off : Int) % (Cls.bytesOf C 1 - 1) := Int.emod_nonneg _ (by omega)
  have hr1 : (off : Int) % (Cls.bytesOf C 1 - 1) < Cls.bytesOf C 1 - 1 := Int.emod_lt_of_pos _ (by omega)
  have hb := Cls.begins_at (p := (page : Int) % 4096) (c := C) (by omega) (by omega) hk0 hk1
  have hm := Cls.mul_bd (x := (Cls.bytes C : Int)) hk0 (by omega) (by omega) (by omega)
  exact (core page cl i off hpage hcl hi hoff _ C _ _ _ _ _ rfl hC rfl rfl (by omega) (by omega) (by omega) (by omega) (by omega) (by omega) hr0 hr1 (hide rfl) (hide hb) (hide (Cls.which_is hb)) (hide rfl) (hide (Cls.back_none hc0 hc1 hb rfl hr0 hr1)) w (.start hT)).mono fun _ _ ⟨he, hb⟩ => ⟨he, hb.below⟩

set_option maxRecDepth 100000 in
theorem lifted (os : Os) (started : os.Started) (H : Type) (enc : TypeId × Value → H) :
    ReturnsInHanded {} Tryd.checked os 4 .any (fun w args => (Rows.slotBackSpec.pre enc Tryd.prog Tryd.f4 [] false w args ∧ laidMetH Tryd.prog laidL w) ∧ sizedMet enc Tryd.prog Tryd.f4 (OpenSpec.ofChange Rows.slotBackSpec) false w args)
      (Rows.slotBackSpec.post enc Tryd.prog Tryd.f4 false true false false) := by
  refine returnsInHanded_of_change_and (C := Tryd.checked) (X := fun w _ => laidMetH Tryd.prog laidL w) (fun _ _ _ hh h => h.of_heap hh) own started (by kernel_rfl) Tryd.func4
    (ChangeSpec.witness_shaped (enc := enc) (C := Tryd.checked) (os := os) (X := fun w _ => laidMetH Tryd.prog laidL w) false (World.doorLaid Tryd.prog 400 os) #[.int .u16 0, .int .u8 0, .int .u8 0, .int .u16 0] 8 rfl (World.shaped_of_RefB (by kernel_rfl) (by kernel_rfl)) (by kernel_rfl) (by kernel_rfl) (by kernel_rfl) (door_met os _)) ?_
  intro W base args ds gs before hval0 hW _ _ hL _
  have hval : ∀ (j : Nat) t v, Tryd.f4.params[j]? = some t → args[j]? = some v → Value.okWide Tryd.prog W .any base t v := hval0
  have hW' := hW
  obtain ⟨p, q, hA0, hV, rfl, hfz, hnd⟩ := hW
  have hA : DataW.TrodAll enc Tryd.prog W 0 (fun _ => true) true Tryd.f4.params.toList args.toList ds p := hA0
  rw [Tryd.params4] at hA hval
  obtain ⟨v0, vs0, d0, ds0, p0, q0, hargs, rfl, rfl, h0, r0⟩ := trodAll_cons hA
  obtain ⟨v1, vs1, d1, ds1, p1, q1, rfl, rfl, rfl, h1, r1⟩ := trodAll_cons r0
  obtain ⟨v2, vs2, d2, ds2, p2, q2, rfl, rfl, rfl, h2, r2⟩ := trodAll_cons r1
  obtain ⟨v3, vs3, d3, ds3, p3, q3, rfl, rfl, rfl, h3, r3⟩ := trodAll_cons r2
  obtain ⟨rfl, rfl, rfl⟩ := trodAll_nil r3
  obtain rfl : args = #[v0, v1, v2, v3] := by cases args; simp_all
  obtain ⟨rfl, rfl⟩ := trodVars_none hV
  obtain ⟨a0, rfl, rfl, rfl, w0⟩ := open_int Tryd.underlying28 (hval 0 28 v0 rfl rfl) h0
  obtain ⟨a1, rfl, rfl, rfl, w1⟩ := open_int Tryd.underlying5 (hval 1 5 v1 rfl rfl) h1
  obtain ⟨a2, rfl, rfl, rfl, w2⟩ := open_int Tryd.underlying5 (hval 2 5 v2 rfl rfl) h2
  obtain ⟨a3, rfl, rfl, rfl, w3⟩ := open_int Tryd.underlying28 (hval 3 28 v3 rfl rfl) h3
  clear hA0 hval0
  obtain ⟨x0, hx0, rfl⟩ := u16_nat w0
  obtain ⟨x1, hx1, rfl⟩ := u8_nat w1
  obtain ⟨x2, hx2, rfl⟩ := u8_nat w2
  obtain ⟨x3, hx3, rfl⟩ := u16_nat w3
  refine (walk x0 hx0 x1 hx1 x2 hx2 x3 hx3 W (tab_of_laid hL)).mono fun e W' ⟨he, bel⟩ => ?_
  subst he
  exact ⟨_, rfl, _, _, _, [], _, [], hW', trodAll_mk1 (shut_bool Tryd.underlying4 _), (trodAll_cons_mk (shut_int Tryd.underlying28 w0) (trodAll_cons_mk (shut_int Tryd.underlying5 w1) (trodAll_cons_mk (shut_int Tryd.underlying5 w2) (trodAll_cons_mk (shut_int Tryd.underlying28 w3) trodAll_mk0)))), rfl, bel.frame _, fun h => by cases h⟩

theorem over : Rows.SlotBackSaid :=
  OpenClaim.holds_of_wide 4 Tryd.f4 rfl rfl rfl rfl rfl rfl rfl ⟨rfl, rfl, rfl, rfl, rfl⟩ rfl rfl rfl rfl rfl (by kernel_rfl) Tryd.func4 (by kernel_rfl)
    (of_decide_eq_true (by kernel_rfl)) (by unfold Func.isWrapper; first | (rw [if_pos (by decide +kernel)]; kernel_rfl) | (rw [if_neg (by decide +kernel)]; exact ⟨rfl, rfl⟩))
    (fun os started H enc _ => lifted os started H enc)
end Go.Proofs.YtnmglfaokihhgaaDoor.slotBack
namespace Go.Proofs.YtnmglfaokihhgaaDoor

theorem slotBack_card : Rows.SlotBackCardSaid :=
  Claim7.holds_tied_plain_at .later [] [.data] true (true, "55182bb537bdda8404fd22694538d947dd7c899b45e29a7eaf71c92aec332654") false
    slotBack.over (fun _ h => by cases h) (by kernel_rfl) (fun _ h => by cases h) slotBack_row_tie rfl ⟨rfl, rfl⟩ (by kernel_rfl) rfl
    (fun f fn hf hfn => by
      obtain rfl : f = 4 := Option.some.inj ((show Tryd.prog.funcNamed Rows.slotBackRow.func = some 4 by kernel_rfl).symm.trans hf) |>.symm
      obtain rfl : fn = Tryd.f4 := (Option.some.inj (Tryd.func4.symm.trans hfn)).symm
      exact ⟨by kernel_rfl, fun j t ht => by
        rw [Tryd.params4] at ht
        have hm : t ∈ [28, 5, 5, 28] := by simpa using Array.mem_of_getElem? ht
        have hall : ([28, 5, 5, 28].all fun u => !Tryd.prog.wantsStandIn u) = true := by kernel_rfl
        exact (show Tryd.prog.wantsStandIn t = false by simpa using List.all_eq_true.1 hall t hm)⟩)
    (by kernel_rfl)
end Go.Proofs.YtnmglfaokihhgaaDoor
