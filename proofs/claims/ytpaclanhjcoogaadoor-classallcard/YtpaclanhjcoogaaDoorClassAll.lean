/- Of any number: the bytes, pages, slots of the class; and the class and pages of so many bytes, are the document's: the law ClassAll answers true at every input, and its arguments read behind the call as they read before. Condition: the listed table of package class is laid as the program's text lays it (the card ties it). -/
import Derived.Test.YtpaclanhjcoogaaDoorLaidC
import Derived.Test.YtpaclanhjcoogaaDoorClsOk
namespace Go.Proofs.YtpaclanhjcoogaaDoor.classAll
open Go.ChangeShapes Go.WideShapes Go.ChangeAt Go.RowKit

set_option maxHeartbeats 2000000 in
theorem core (c size : Int) (hs : size ≤ 9223372036854775807) (a n : Int) (b : Bool) (HO : Hid (ofAns size = .tuple #[.int .i64 a, .int .i64 n, .bool b])) (w : World) (hok : ClsOk w w) :
    Calls Tryd.prog 3 #[.int .i64 c, .int .i64 size] w fun e w' => e = .returned (.bool true) ∧ ClsOk w w' := by
  go_enter Tryd.func3, Tryd.ntmps3
  go_wp2_with (first | (go_at_call 7; refine (cofOk size hs (.tuple #[.int .i64 a, .int .i64 n, .bool b]) HO.out (by assumption)).mono ?_; rintro e w1 ⟨rfl, hok⟩) | (go_at_call 8; refine (rofOk size hs (.tuple #[.int .i64 a, .int .i64 n, .bool b]) HO.out (by assumption)).mono ?_; rintro e w1 ⟨rfl, hok⟩) | (go_at_call 9; refine (csizeOk c _ rfl (by assumption)).mono ?_; rintro e w1 ⟨rfl, hok⟩) | (go_at_call 10; refine (rsizeOk c _ rfl (by assumption)).mono ?_; rintro e w1 ⟨rfl, hok⟩) | (go_at_call 11; refine (cpagesOk c _ rfl (by assumption)).mono ?_; rintro e w1 ⟨rfl, hok⟩) | (go_at_call 12; refine (rpagesOk c _ rfl (by assumption)).mono ?_; rintro e w1 ⟨rfl, hok⟩) | (go_at_call 13; refine (cslotsOk c _ rfl (by assumption)).mono ?_; rintro e w1 ⟨rfl, hok⟩) | (go_at_call 14; refine (rslotsOk c _ rfl (by assumption)).mono ?_; rintro e w1 ⟨rfl, hok⟩) | (go_at_call 15; refine (awakeOk4 (by assumption)).mono ?_; rintro e w1 ⟨rfl, hok⟩))
  go_ret
  exact ⟨rfl, by assumption⟩

theorem walk (c : Int) (hc : -9223372036854775808 ≤ c ∧ c ≤ 9223372036854775807) (size : Int) (hs : -9223372036854775808 ≤ size ∧ size ≤ 9223372036854775807) (w : World) (hT : ClsTab w) :
    Calls Tryd.prog 3 #[.int .i64 c, .int .i64 size] w fun e w' => e = .returned (.bool true) ∧ Below w.heap.size w w' := by
  have _ := hc
  suffices h : Calls Tryd.prog 3 #[.int .i64 c, .int .i64 size] w fun e w' => e = .returned (.bool true) ∧ ClsOk w w' from h.mono fun _ _ ⟨he, hb⟩ => ⟨he, hb.below⟩
  by_cases h : size < 0
  · exact core c size hs.2 0 0 false (hide (by unfold ofAns; rw [if_pos h])) w (.start hT)
  · exact core c size hs.2 _ _ true (hide (by unfold ofAns; rw [if_neg h])) w (.start hT)

set_option maxRecDepth 100000 in
theorem lifted (os : Os) (started : os.Started) (H : Type) (enc : TypeId × Value → H) :
    ReturnsInHanded {} Tryd.checked os 3 .any (fun w args => (Rows.classAllSpec.pre enc Tryd.prog Tryd.f3 [] false w args ∧ laidMetH Tryd.prog laidL w) ∧ sizedMet enc Tryd.prog Tryd.f3 (OpenSpec.ofChange Rows.classAllSpec) false w args)
      (Rows.classAllSpec.post enc Tryd.prog Tryd.f3 false true false false) := by
  refine returnsInHanded_of_change_and (C := Tryd.checked) (X := fun w _ => laidMetH Tryd.prog laidL w) (fun _ _ _ hh h => h.of_heap hh) own started (by kernel_rfl) Tryd.func3
    (ChangeSpec.witness_shaped (enc := enc) (C := Tryd.checked) (os := os) (X := fun w _ => laidMetH Tryd.prog laidL w) false (World.doorLaid Tryd.prog 400 os) #[.int .i64 0, .int .i64 0] 8 rfl (World.shaped_of_RefB (by kernel_rfl) (by kernel_rfl)) (by kernel_rfl) (by kernel_rfl) (by kernel_rfl) (door_met os _)) ?_
  intro W base args ds gs before hval0 hW _ _ hL _
  have hval : ∀ (j : Nat) t v, Tryd.f3.params[j]? = some t → args[j]? = some v → Value.okWide Tryd.prog W .any base t v := hval0
  have hW' := hW
  obtain ⟨p, q, hA0, hV, rfl, hfz, hnd⟩ := hW
  have hA : DataW.TrodAll enc Tryd.prog W 0 (fun _ => true) true Tryd.f3.params.toList args.toList ds p := hA0
  rw [Tryd.params3] at hA hval
  obtain ⟨v0, vs0, d0, ds0, p0, q0, hargs, rfl, rfl, h0, r0⟩ := trodAll_cons hA
  obtain ⟨v1, vs1, d1, ds1, p1, q1, rfl, rfl, rfl, h1, r1⟩ := trodAll_cons r0
  obtain ⟨rfl, rfl, rfl⟩ := trodAll_nil r1
  obtain rfl : args = #[v0, v1] := by cases args; simp_all
  obtain ⟨rfl, rfl⟩ := trodVars_none hV
  obtain ⟨a0, rfl, rfl, rfl, w0⟩ := open_int Tryd.underlying3 (hval 0 3 v0 rfl rfl) h0
  obtain ⟨a1, rfl, rfl, rfl, w1⟩ := open_int Tryd.underlying3 (hval 1 3 v1 rfl rfl) h1
  clear hA0 hval0
  have hx0 := i64_bd w0
  have hx1 := i64_bd w1
  refine (walk a0 hx0 a1 hx1 W (tab_of_laid hL)).mono fun e W' ⟨he, bel⟩ => ?_
  subst he
  exact ⟨_, rfl, _, _, _, [], _, [], hW', trodAll_mk1 (shut_bool Tryd.underlying4 _), (trodAll_cons_mk (shut_int Tryd.underlying3 w0) (trodAll_cons_mk (shut_int Tryd.underlying3 w1) trodAll_mk0)), rfl, bel.frame _, fun h => by cases h⟩

theorem over : Rows.ClassAllSaid :=
  OpenClaim.holds_of_wide 3 Tryd.f3 rfl rfl rfl rfl rfl rfl rfl ⟨rfl, rfl, rfl, rfl, rfl⟩ rfl rfl rfl rfl rfl (by kernel_rfl) Tryd.func3 (by kernel_rfl)
    (of_decide_eq_true (by kernel_rfl)) (by unfold Func.isWrapper; first | (rw [if_pos (by decide +kernel)]; kernel_rfl) | (rw [if_neg (by decide +kernel)]; exact ⟨rfl, rfl⟩))
    (fun os started H enc _ => lifted os started H enc)
end Go.Proofs.YtpaclanhjcoogaaDoor.classAll
namespace Go.Proofs.YtpaclanhjcoogaaDoor

theorem classAll_card : Rows.ClassAllCardSaid :=
  Claim7.holds_tied_plain_at .later [] [.data] true (true, "3f5461222c4ae0409fcb4f041214539758d4cf36247f9aa17c0dc68b224529b0") false
    classAll.over (fun _ h => by cases h) (by kernel_rfl) (fun _ h => by cases h) classAll_row_tie rfl ⟨rfl, rfl⟩ (by kernel_rfl) rfl
    (fun f fn hf hfn => by
      obtain rfl : f = 3 := Option.some.inj ((show Tryd.prog.funcNamed Rows.classAllRow.func = some 3 by kernel_rfl).symm.trans hf) |>.symm
      obtain rfl : fn = Tryd.f3 := (Option.some.inj (Tryd.func3.symm.trans hfn)).symm
      exact ⟨by kernel_rfl, fun j t ht => by
        rw [Tryd.params3] at ht
        have hm : t ∈ [3, 3] := by simpa using Array.mem_of_getElem? ht
        have hall : ([3, 3].all fun u => !Tryd.prog.wantsStandIn u) = true := by kernel_rfl
        exact (show Tryd.prog.wantsStandIn t = false by simpa using List.all_eq_true.1 hall t hm)⟩)
    (by kernel_rfl)
end Go.Proofs.YtpaclanhjcoogaaDoor
