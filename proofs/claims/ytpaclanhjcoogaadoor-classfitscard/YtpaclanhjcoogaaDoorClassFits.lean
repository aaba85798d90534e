/- What is wanted fits into a slot of its class, and into none of the class ahead; into as many pages as are told, if it is large, and into none fewer: the law ClassFits answers true at every input, and its argument reads behind the call as it read before. Condition: the listed table of package class is laid as the program's text lays it (the card ties it). -/
import Derived.Test.YtpaclanhjcoogaaDoorLaidC
import Derived.Test.YtpaclanhjcoogaaDoorClsOk
namespace Go.Proofs.YtpaclanhjcoogaaDoor.classFits
open Go.ChangeShapes Go.WideShapes Go.ChangeAt Go.RowKit

set_option maxHeartbeats 2000000 in
theorem none (size : Int) (h0 : size < 0) (hs : size ≤ 9223372036854775807) (w : World) (hok : ClsOk w w) : Calls Tryd.prog 4 #[.int .i64 size] w fun e w' => e = .returned (.bool true) ∧ ClsOk w w' := by
  have HO : Hid (ofAns size = .tuple #[.int .i64 0, .int .i64 0, .bool false]) := hide (by unfold ofAns; rw [if_pos h0])
  go_enter Tryd.func4, Tryd.ntmps4
  go_wp2_with (first | (go_at_call 7; refine (cofOk size hs (.tuple #[.int .i64 0, .int .i64 0, .bool false]) HO.out (by assumption)).mono ?_; rintro e w1 ⟨rfl, hok⟩) | (go_at_call 15; refine (awakeOk4 (by assumption)).mono ?_; rintro e w1 ⟨rfl, hok⟩))
  go_ret
  exact ⟨rfl, by assumption⟩

set_option maxHeartbeats 2000000 in
theorem great (size : Int) (h0 : 0 ≤ size) (hc : Cls.cls size = 14) (hs : size ≤ 9223372036854775807) (w : World) (hok : ClsOk w w) : Calls Tryd.prog 4 #[.int .i64 size] w fun e w' => e = .returned (.bool true) ∧ ClsOk w w' := by
  have HO : Hid (ofAns size = .tuple #[.int .i64 14, .int .i64 ((size - 1) / 8192 + 1), .bool true]) := hide (by unfold ofAns Cls.pgs; rw [if_neg (by omega), hc, if_pos rfl]; rfl)
  have hlt : 12288 < size := by have := Cls.cls_small size 13 (by omega); simpa [show Cls.bytes 13 = 12288 from by decide +kernel] using this
  have d : decide (12288 < size) = true := by simp; omega
  have b0 : Hid ((Cls.bytes 13 : Int) = 12288) := hide (by kernel_rfl)
  clear hc
  go_enter Tryd.func4, Tryd.ntmps4
  go_wp2_with (first | (go_at_call 7; refine (cofOk size hs (.tuple #[.int .i64 14, .int .i64 ((size - 1) / 8192 + 1), .bool true]) HO.out (by assumption)).mono ?_; rintro e w1 ⟨rfl, hok⟩) | (go_at_call 9; refine (csizeOk 13 12288 b0.out (by assumption)).mono ?_; rintro e w1 ⟨rfl, hok⟩) | (go_at_call 15; refine (awakeOk4 (by assumption)).mono ?_; rintro e w1 ⟨rfl, hok⟩))
  go_ret
  exact ⟨rfl, by assumption⟩

set_option maxHeartbeats 2000000 in
theorem first (size : Int) (h0 : 0 ≤ size) (k : Nat) (hk : k < 14) (hc : Cls.cls size = k) (hz : k = 0) (hs : size ≤ 9223372036854775807) (w : World) (hok : ClsOk w w) : Calls Tryd.prog 4 #[.int .i64 size] w fun e w' => e = .returned (.bool true) ∧ ClsOk w w' := by
  have hfit := Cls.cls_fits size (by omega)
  rw [hc] at hfit
  obtain ⟨x, hx⟩ : ∃ x, Cls.bytes (k : Int) = x := ⟨_, rfl⟩
  obtain ⟨p, hp⟩ : ∃ p, Cls.pages (k : Int) = p := ⟨_, rfl⟩
  rw [hx] at hfit
  have HO : Hid (ofAns size = .tuple #[.int .i64 (k : Int), .int .i64 (p : Int), .bool true]) := hide (by unfold ofAns Cls.pgs; rw [if_neg (by omega), hc, if_neg (by omega), hp])
  have HX : Hid ((Cls.bytes (k : Int) : Int) = x) := hide (by rw [hx])
  have HP : Hid ((Cls.pages (k : Int) : Int) = p) := hide (by rw [hp])
  have d6 : ((k : Int) == 0) = true := by simp; omega
  clear hz
  have d1 : decide (size ≤ (x : Int)) = true := by simp; omega
  have d2 : ((k : Int) == 14) = false := by simp; omega
  have d3 : decide (0 ≤ (k : Int)) = true := by simp
  have d4 : decide ((k : Int) < 14) = true := by simp; omega
  have d5 : decide (size < 0) = false := by simp; omega
  clear hx hp hc
  go_enter Tryd.func4, Tryd.ntmps4
  go_wp2_with (first | (go_at_call 7; refine (cofOk size hs (.tuple #[.int .i64 (k : Int), .int .i64 (p : Int), .bool true]) HO.out (by assumption)).mono ?_; rintro e w1 ⟨rfl, hok⟩) | (go_at_call 9; refine (csizeOk (k : Int) (x : Int) HX.out (by assumption)).mono ?_; rintro e w1 ⟨rfl, hok⟩) | (go_at_call 11; refine (cpagesOk (k : Int) (p : Int) HP.out (by assumption)).mono ?_; rintro e w1 ⟨rfl, hok⟩) | (go_at_call 15; refine (awakeOk4 (by assumption)).mono ?_; rintro e w1 ⟨rfl, hok⟩))
  go_ret
  exact ⟨rfl, by assumption⟩

set_option maxHeartbeats 2000000 in
theorem later (size : Int) (h0 : 0 ≤ size) (k : Nat) (hk : k < 14) (hc : Cls.cls size = k) (hz : 0 < k) (hs : size ≤ 9223372036854775807) (w : World) (hok : ClsOk w w) : Calls Tryd.prog 4 #[.int .i64 size] w fun e w' => e = .returned (.bool true) ∧ ClsOk w w' := by
  have hfit := Cls.cls_fits size (by omega)
  rw [hc] at hfit
  obtain ⟨x, hx⟩ : ∃ x, Cls.bytes (k : Int) = x := ⟨_, rfl⟩
  obtain ⟨p, hp⟩ : ∃ p, Cls.pages (k : Int) = p := ⟨_, rfl⟩
  rw [hx] at hfit
  have HO : Hid (ofAns size = .tuple #[.int .i64 (k : Int), .int .i64 (p : Int), .bool true]) := hide (by unfold ofAns Cls.pgs; rw [if_neg (by omega), hc, if_neg (by omega), hp])
  have HX : Hid ((Cls.bytes (k : Int) : Int) = x) := hide (by rw [hx])
  have HP : Hid ((Cls.pages (k : Int) : Int) = p) := hide (by rw [hp])
  have hsm := Cls.cls_small size (k - 1) (by omega)
  rw [show (((k - 1 : Nat)) : Int) = (k : Int) - 1 from by omega] at hsm
  obtain ⟨y, hy⟩ : ∃ y, Cls.bytes ((k : Int) - 1) = y := ⟨_, rfl⟩
  rw [hy] at hsm
  have HY : Hid ((Cls.bytes ((k : Int) - 1) : Int) = y) := hide (by rw [hy])
  have d6 : ((k : Int) == 0) = false := by simp; omega
  have d7 : decide ((y : Int) < size) = true := by simp; omega
  clear hy
  have d1 : decide (size ≤ (x : Int)) = true := by simp; omega
  have d2 : ((k : Int) == 14) = false := by simp; omega
  have d3 : decide (0 ≤ (k : Int)) = true := by simp
  have d4 : decide ((k : Int) < 14) = true := by simp; omega
  have d5 : decide (size < 0) = false := by simp; omega
  clear hx hp hc
  go_enter Tryd.func4, Tryd.ntmps4
  go_wp2_with (first | (go_at_call 7; refine (cofOk size hs (.tuple #[.int .i64 (k : Int), .int .i64 (p : Int), .bool true]) HO.out (by assumption)).mono ?_; rintro e w1 ⟨rfl, hok⟩) | (go_at_call 9; refine (csizeOk ((k : Int) - 1) (y : Int) HY.out (by assumption)).mono ?_; rintro e w1 ⟨rfl, hok⟩) | (go_at_call 9; refine (csizeOk (k : Int) (x : Int) HX.out (by assumption)).mono ?_; rintro e w1 ⟨rfl, hok⟩) | (go_at_call 11; refine (cpagesOk (k : Int) (p : Int) HP.out (by assumption)).mono ?_; rintro e w1 ⟨rfl, hok⟩) | (go_at_call 15; refine (awakeOk4 (by assumption)).mono ?_; rintro e w1 ⟨rfl, hok⟩))
  go_ret
  exact ⟨rfl, by assumption⟩

theorem walk (size : Int) (hs : -9223372036854775808 ≤ size ∧ size ≤ 9223372036854775807) (w : World) (hT : ClsTab w) :
    Calls Tryd.prog 4 #[.int .i64 size] w fun e w' => e = .returned (.bool true) ∧ Below w.heap.size w w' := by
  suffices h : Calls Tryd.prog 4 #[.int .i64 size] w fun e w' => e = .returned (.bool true) ∧ ClsOk w w' from h.mono fun _ _ ⟨he, hb⟩ => ⟨he, hb.below⟩
  have hle := Cls.cls_le size
  by_cases h : size < 0
  · exact none size h hs.2 w (.start hT)
  · by_cases h14 : Cls.cls size = 14
    · exact great size (by omega) h14 hs.2 w (.start hT)
    · by_cases hz : Cls.cls size = 0
      · exact first size (by omega) _ (by omega) rfl hz hs.2 w (.start hT)
      · exact later size (by omega) _ (by omega) rfl (by omega) hs.2 w (.start hT)

set_option maxRecDepth 100000 in
theorem lifted (os : Os) (started : os.Started) (H : Type) (enc : TypeId × Value → H) :
    ReturnsInHanded {} Tryd.checked os 4 .any (fun w args => (Rows.classFitsSpec.pre enc Tryd.prog Tryd.f4 [] false w args ∧ laidMetH Tryd.prog laidL w) ∧ sizedMet enc Tryd.prog Tryd.f4 (OpenSpec.ofChange Rows.classFitsSpec) false w args)
      (Rows.classFitsSpec.post enc Tryd.prog Tryd.f4 false true false false) := by
  refine returnsInHanded_of_change_and (C := Tryd.checked) (X := fun w _ => laidMetH Tryd.prog laidL w) (fun _ _ _ hh h => h.of_heap hh) own started (by kernel_rfl) Tryd.func4
    (ChangeSpec.witness_shaped (enc := enc) (C := Tryd.checked) (os := os) (X := fun w _ => laidMetH Tryd.prog laidL w) false (World.doorLaid Tryd.prog 400 os) #[.int .i64 0] 8 rfl (World.shaped_of_RefB (by kernel_rfl) (by kernel_rfl)) (by kernel_rfl) (by kernel_rfl) (by kernel_rfl) (door_met os _)) ?_
  intro W base args ds gs before hval0 hW _ _ hL _
  have hval : ∀ (j : Nat) t v, Tryd.f4.params[j]? = some t → args[j]? = some v → Value.okWide Tryd.prog W .any base t v := hval0
  have hW' := hW
  obtain ⟨p, q, hA0, hV, rfl, hfz, hnd⟩ := hW
  have hA : DataW.TrodAll enc Tryd.prog W 0 (fun _ => true) true Tryd.f4.params.toList args.toList ds p := hA0
  rw [Tryd.params4] at hA hval
  obtain ⟨v0, vs0, d0, ds0, p0, q0, hargs, rfl, rfl, h0, r0⟩ := trodAll_cons hA
  obtain ⟨rfl, rfl, rfl⟩ := trodAll_nil r0
  obtain rfl : args = #[v0] := by cases args; simp_all
  obtain ⟨rfl, rfl⟩ := trodVars_none hV
  obtain ⟨a0, rfl, rfl, rfl, w0⟩ := open_int Tryd.underlying3 (hval 0 3 v0 rfl rfl) h0
  clear hA0 hval0
  have hx0 := i64_bd w0
  refine (walk a0 hx0 W (tab_of_laid hL)).mono fun e W' ⟨he, bel⟩ => ?_
  subst he
  exact ⟨_, rfl, _, _, _, [], _, [], hW', trodAll_mk1 (shut_bool Tryd.underlying4 _), (trodAll_cons_mk (shut_int Tryd.underlying3 w0) trodAll_mk0), rfl, bel.frame _, fun h => by cases h⟩

theorem over : Rows.ClassFitsSaid :=
  OpenClaim.holds_of_wide 4 Tryd.f4 rfl rfl rfl rfl rfl rfl rfl ⟨rfl, rfl, rfl, rfl, rfl⟩ rfl rfl rfl rfl rfl (by kernel_rfl) Tryd.func4 (by kernel_rfl)
    (of_decide_eq_true (by kernel_rfl)) (by unfold Func.isWrapper; first | (rw [if_pos (by decide +kernel)]; kernel_rfl) | (rw [if_neg (by decide +kernel)]; exact ⟨rfl, rfl⟩))
    (fun os started H enc _ => lifted os started H enc)
end Go.Proofs.YtpaclanhjcoogaaDoor.classFits
namespace Go.Proofs.YtpaclanhjcoogaaDoor

theorem classFits_card : Rows.ClassFitsCardSaid :=
  Claim7.holds_tied_plain_at .later [] [.data] true (true, "3f5461222c4ae0409fcb4f041214539758d4cf36247f9aa17c0dc68b224529b0") false
    classFits.over (fun _ h => by cases h) (by kernel_rfl) (fun _ h => by cases h) classFits_row_tie rfl ⟨rfl, rfl⟩ (by kernel_rfl) rfl
    (fun f fn hf hfn => by
      obtain rfl : f = 4 := Option.some.inj ((show Tryd.prog.funcNamed Rows.classFitsRow.func = some 4 by kernel_rfl).symm.trans hf) |>.symm
      obtain rfl : fn = Tryd.f4 := (Option.some.inj (Tryd.func4.symm.trans hfn)).symm
      exact ⟨by kernel_rfl, fun j t ht => by
        rw [Tryd.params4] at ht
        have hm : t ∈ [3] := by simpa using Array.mem_of_getElem? ht
        have hall : ([3].all fun u => !Tryd.prog.wantsStandIn u) = true := by kernel_rfl
        exact (show Tryd.prog.wantsStandIn t = false by simpa using List.all_eq_true.1 hall t hm)⟩)
    (by kernel_rfl)
end Go.Proofs.YtpaclanhjcoogaaDoor
