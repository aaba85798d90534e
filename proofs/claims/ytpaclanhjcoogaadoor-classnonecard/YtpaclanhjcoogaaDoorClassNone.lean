/- What is no class has nothing; the large one has one slot: the law ClassNone answers true at every input, and its argument reads behind the call as it read before. Condition: the listed table of package class is laid as the program's text lays it (the card ties it). -/
import Derived.Test.YtpaclanhjcoogaaDoorLaidC
import Derived.Test.YtpaclanhjcoogaaDoorClsOk
namespace Go.Proofs.YtpaclanhjcoogaaDoor.classNone
open Go.ChangeShapes Go.WideShapes Go.ChangeAt Go.RowKit

set_option maxHeartbeats 1000000 in
theorem outside (c : Int) (h : c < 0 ∨ 14 < c) (w : World) (hok : ClsOk w w) : Calls Tryd.prog 6 #[.int .i64 c] w fun e w' => e = .returned (.bool true) ∧ ClsOk w w' := by
  have ho := Cls.row_out (c := c) (by omega)
  have b0 : Hid ((Cls.bytes c : Int) = 0) := hide (by unfold Cls.bytes; rw [ho]; rfl)
  have p0 : Hid ((Cls.pages c : Int) = 0) := hide (by unfold Cls.pages; rw [ho]; rfl)
  have s0 : Hid ((Cls.slots c : Int) = 0) := hide (by unfold Cls.slots; rw [ho]; rfl)
  clear ho
  rcases h with h | h
  · have d1 : decide (0 ≤ c) = false := by simp; omega
    have d2 : (c == 14) = false := by simp; omega
    go_enter Tryd.func6, Tryd.ntmps6
    go_wp2_with (first | (go_at_call 9; refine (csizeOk c 0 b0.out (by assumption)).mono ?_; rintro e w1 ⟨rfl, hok⟩) | (go_at_call 11; refine (cpagesOk c 0 p0.out (by assumption)).mono ?_; rintro e w1 ⟨rfl, hok⟩) | (go_at_call 13; refine (cslotsOk c 0 s0.out (by assumption)).mono ?_; rintro e w1 ⟨rfl, hok⟩) | (go_at_call 15; refine (awakeOk4 (by assumption)).mono ?_; rintro e w1 ⟨rfl, hok⟩))
    go_ret
    exact ⟨rfl, by assumption⟩
  · have d1 : decide (c < 14) = false := by simp; omega
    have d0 : decide (0 ≤ c) = true := by simp; omega
    have d2 : (c == 14) = false := by simp; omega
    go_enter Tryd.func6, Tryd.ntmps6
    go_wp2_with (first | (go_at_call 9; refine (csizeOk c 0 b0.out (by assumption)).mono ?_; rintro e w1 ⟨rfl, hok⟩) | (go_at_call 11; refine (cpagesOk c 0 p0.out (by assumption)).mono ?_; rintro e w1 ⟨rfl, hok⟩) | (go_at_call 13; refine (cslotsOk c 0 s0.out (by assumption)).mono ?_; rintro e w1 ⟨rfl, hok⟩) | (go_at_call 15; refine (awakeOk4 (by assumption)).mono ?_; rintro e w1 ⟨rfl, hok⟩))
    go_ret
    exact ⟨rfl, by assumption⟩

set_option maxHeartbeats 1000000 in
theorem large (w : World) (hok : ClsOk w w) : Calls Tryd.prog 6 #[.int .i64 14] w fun e w' => e = .returned (.bool true) ∧ ClsOk w w' := by
  have b0 : Hid ((Cls.bytes 14 : Int) = 0) := hide (by kernel_rfl)
  have p0 : Hid ((Cls.pages 14 : Int) = 0) := hide (by kernel_rfl)
  have s0 : Hid ((Cls.slots 14 : Int) = 1) := hide (by kernel_rfl)
  go_enter Tryd.func6, Tryd.ntmps6
  go_wp2_with (first | (go_at_call 9; refine (csizeOk 14 0 b0.out (by assumption)).mono ?_; rintro e w1 ⟨rfl, hok⟩) | (go_at_call 11; refine (cpagesOk 14 0 p0.out (by assumption)).mono ?_; rintro e w1 ⟨rfl, hok⟩) | (go_at_call 13; refine (cslotsOk 14 1 s0.out (by assumption)).mono ?_; rintro e w1 ⟨rfl, hok⟩) | (go_at_call 15; refine (awakeOk4 (by assumption)).mono ?_; rintro e w1 ⟨rfl, hok⟩))
  go_ret
  exact ⟨rfl, by assumption⟩

set_option maxHeartbeats 1000000 in
theorem within (k : Nat) (hk : k < 14) (w : World) (hok : ClsOk w w) : Calls Tryd.prog 6 #[.int .i64 (k : Int)] w fun e w' => e = .returned (.bool true) ∧ ClsOk w w' := by
  have hb := Cls.bytes_le hk
  obtain ⟨x, hx⟩ : ∃ x, Cls.bytes (k : Int) = x := ⟨_, rfl⟩
  rw [hx] at hb
  have HX : Hid ((Cls.bytes (k : Int) : Int) = x) := hide (by rw [hx])
  have d : decide ((0 : Int) < (x : Int)) = true := by simp; omega
  clear hx
  go_enter Tryd.func6, Tryd.ntmps6
  go_wp2_with (first | (go_at_call 9; refine (csizeOk (k : Int) (x : Int) HX.out (by assumption)).mono ?_; rintro e w1 ⟨rfl, hok⟩) | (go_at_call 15; refine (awakeOk4 (by assumption)).mono ?_; rintro e w1 ⟨rfl, hok⟩))
  go_ret
  exact ⟨rfl, by assumption⟩

theorem walk (c : Int) (hc : -9223372036854775808 ≤ c ∧ c ≤ 9223372036854775807) (w : World) (hT : ClsTab w) :
    Calls Tryd.prog 6 #[.int .i64 c] w fun e w' => e = .returned (.bool true) ∧ Below w.heap.size w w' := by
  have _ := hc
  suffices h : Calls Tryd.prog 6 #[.int .i64 c] w fun e w' => e = .returned (.bool true) ∧ ClsOk w w' from h.mono fun _ _ ⟨he, hb⟩ => ⟨he, hb.below⟩
  by_cases h : c < 0 ∨ 14 < c
  · exact outside c h w (.start hT)
  · by_cases h14 : c = 14
    · subst h14; exact large w (.start hT)
    · obtain ⟨k, rfl⟩ := Int.eq_ofNat_of_zero_le (a := c) (by omega)
      exact within k (by omega) w (.start hT)

set_option maxRecDepth 100000 in
theorem lifted (os : Os) (started : os.Started) (H : Type) (enc : TypeId × Value → H) :
    ReturnsInHanded {} Tryd.checked os 6 .any (fun w args => (Rows.classNoneSpec.pre enc Tryd.prog Tryd.f6 [] false w args ∧ laidMetH Tryd.prog laidL w) ∧ sizedMet enc Tryd.prog Tryd.f6 (OpenSpec.ofChange Rows.classNoneSpec) false w args)
      (Rows.classNoneSpec.post enc Tryd.prog Tryd.f6 false true false false) := by
  refine returnsInHanded_of_change_and (C := Tryd.checked) (X := fun w _ => laidMetH Tryd.prog laidL w) (fun _ _ _ hh h => h.of_heap hh) own started (by kernel_rfl) Tryd.func6
    (ChangeSpec.witness_shaped (enc := enc) (C := Tryd.checked) (os := os) (X := fun w _ => laidMetH Tryd.prog laidL w) false (World.doorLaid Tryd.prog 400 os) #[.int .i64 0] 8 rfl (World.shaped_of_RefB (by kernel_rfl) (by kernel_rfl)) (by kernel_rfl) (by kernel_rfl) (by kernel_rfl) (door_met os _)) ?_
  intro W base args ds gs before hval0 hW _ _ hL _
  have hval : ∀ (j : Nat) t v, Tryd.f6.params[j]? = some t → args[j]? = some v → Value.okWide Tryd.prog W .any base t v := hval0
  have hW' := hW
  obtain ⟨p, q, hA0, hV, rfl, hfz, hnd⟩ := hW
  have hA : DataW.TrodAll enc Tryd.prog W 0 (fun _ => true) true Tryd.f6.params.toList args.toList ds p := hA0
  rw [Tryd.params6] at hA hval
  obtain ⟨v0, vs0, d0, ds0, p0, q0, hargs, rfl, rfl, h0, r0⟩ := trodAll_cons hA
  obtain ⟨rfl, rfl, rfl⟩ := trodAll_nil r0
  obtain rfl : args = #[v0] := by cases args; simp_all
  obtain ⟨rfl, rfl⟩ := trodVars_none hV
  obtain ⟨a0, rfl, rfl, rfl, w0⟩ := open_int Tryd.underlying3 (hval 0 3 v0 rfl rfl) h0
  clear hA0 hval0
  have hx0 := i64_bd w0
  refine (walk a0 hx0 W (tab_of_laid hL)).mono fun e W' ⟨he, bel⟩ => ?_
  subst he
  exact ⟨_, rfl, _, _, _, [], _, [], hW', trodAll_mk1 (shut_bool Tryd.underlying4 _), (trodAll_cons_mk (shut_int Tryd.underlying3 w0) trodAll_mk0), rfl, bel.frame _, fun h => by cases h⟩

theorem over : Rows.ClassNoneSaid :=
  OpenClaim.holds_of_wide 6 Tryd.f6 rfl rfl rfl rfl rfl rfl rfl ⟨rfl, rfl, rfl, rfl, rfl⟩ rfl rfl rfl rfl rfl (by kernel_rfl) Tryd.func6 (by kernel_rfl)
    (of_decide_eq_true (by kernel_rfl)) (by unfold Func.isWrapper; first | (rw [if_pos (by decide +kernel)]; kernel_rfl) | (rw [if_neg (by decide +kernel)]; exact ⟨rfl, rfl⟩))
    (fun os started H enc _ => lifted os started H enc)
end Go.Proofs.YtpaclanhjcoogaaDoor.classNone
namespace Go.Proofs.YtpaclanhjcoogaaDoor

theorem classNone_card : Rows.ClassNoneCardSaid :=
  Claim7.holds_tied_plain_at .later [] [.data] true (true, "3f5461222c4ae0409fcb4f041214539758d4cf36247f9aa17c0dc68b224529b0") false
    classNone.over (fun _ h => by cases h) (by kernel_rfl) (fun _ h => by cases h) classNone_row_tie rfl ⟨rfl, rfl⟩ (by kernel_rfl) rfl
    (fun f fn hf hfn => by
      obtain rfl : f = 6 := Option.some.inj ((show Tryd.prog.funcNamed Rows.classNoneRow.func = some 6 by kernel_rfl).symm.trans hf) |>.symm
      obtain rfl : fn = Tryd.f6 := (Option.some.inj (Tryd.func6.symm.trans hfn)).symm
      exact ⟨by kernel_rfl, fun j t ht => by
        rw [Tryd.params6] at ht
        have hm : t ∈ [3] := by simpa using Array.mem_of_getElem? ht
        have hall : ([3].all fun u => !Tryd.prog.wantsStandIn u) = true := by kernel_rfl
        exact (show Tryd.prog.wantsStandIn t = false by simpa using List.all_eq_true.1 hall t hm)⟩)
    (by kernel_rfl)
end Go.Proofs.YtpaclanhjcoogaaDoor
