/- The set bits, one by one, are the places, and behind the last one there is none: the law WordNth answers true at every input, and its argument reads behind the call as it read before. Condition: the listed table of math/bits is laid as the program's text lays it (the card ties it). -/
import Derived.Test.YteahpfobjnofmaaDoorLaid
namespace Go.Proofs.YteahpfobjnofmaaDoor.wordNth
open Go.ChangeShapes Go.WideShapes Go.ChangeAt Go.RowKit

theorem nthAt (x : Nat) (hx : x < 18446744073709551616) (k y : Nat) (hy : (Plain.pls x)[k]? = some y) (w : World) (hT : Tab w) :
    Calls Tryd.prog 13 #[.int .u64 (x : Int), .int .i64 (k : Int)] w fun e W' => e = .returned (.tuple #[.int .i64 (y : Int), .bool true]) ∧ Below w.heap.size w W' := by
  have h := nth13 x hx (k : Int) w hT
  rw [nthAns_some (x := x) (k := (k : Int)) (i := y) (by omega) hy] at h
  exact h

theorem nthEnd (x : Nat) (hx : x < 18446744073709551616) (w : World) (hT : Tab w) :
    Calls Tryd.prog 13 #[.int .u64 (x : Int), .int .i64 (Plain.cnt x : Int)] w fun e W' => e = .returned (.tuple #[.int .i64 0, .bool false]) ∧ Below w.heap.size w W' := by
  have h := nth13 x hx (Plain.cnt x : Int) w hT
  rw [nthAns_none (x := x) (k := (Plain.cnt x : Int)) (fun _ => by simp)] at h
  exact h

theorem or_key (j y : Nat) (hj : j < 18446744073709551616) (hy : y < 64) : bits BinOp.or IntKind.u64 (j : Int) (IntKind.u64.wrap (2 ^ y)) = ((j ||| 2 ^ y : Nat) : Int) := by
  have h2 : 2 ^ y < 2 ^ 64 := Nat.pow_lt_pow_right (by omega) hy
  have e : IntKind.u64.wrap ((2 : Int) ^ y) = ((2 ^ y : Nat) : Int) := by
    rw [IntKind.wrap_u64, show ((2 : Int) ^ y) = ((2 ^ y : Nat) : Int) from by simp]
    generalize 2 ^ y = z at *
    omega
  rw [e, bits_or_u64_nat j (2 ^ y) hj h2]

theorem walk (x : Nat) (hx : x < 18446744073709551616) (w : World) (hT : Tab w) :
    Calls Tryd.prog 6 #[.int .u64 (x : Int)] w fun e w' => e = .returned (.bool true) ∧ Below w.heap.size w w' := by
  have h24 := hide (places24R x hx w hT)
  have h19 := hide (fun w => count19 x hx w)
  have hend := hide (fun w => nthEnd x hx w)
  have hc := Plain.cnt_le x
  have HT := hide hT
  clear hT
  obtain ⟨c, hcx⟩ : ∃ c, Plain.cnt x = c := ⟨_, rfl⟩
  rw [hcx] at h24 h19 hend hc
  have HC := hide hcx
  clear hcx
  go_enter Tryd.func6, Tryd.ntmps6
  go_wp2_with fail
  refine h24.out.mono ?_
  rintro e w1 ⟨a, cap, rfl, hr, hb1⟩
  have B1 := hide hb1
  have R1 := hide hr
  clear hb1 hr
  go_wp2_with (go_at_call 19; refine (h19.out _).mono ?_; rintro e w2 ⟨rfl, rfl⟩)
  have T1 := hide (HT.out.below HT.out.lt B1.out)
  have hlen : (Plain.pls x).length = c := HC.out
  have HL := hide hlen
  clear hlen
  go_loopw [4, 5] (fun xv kv wr => ∃ k : Nat, k ≤ c ∧ kv = .int .i64 (k : Int) ∧ xv = .int .u64 (Plain.join ((Plain.pls x).take k) : Int) ∧ Hid (Below w.heap.size w wr ∧ RowAt wr w.heap.size a (Plain.pls x) ∧ Tab wr)) (fun _ kv _ => c - (intOf kv).toNat)
  case atStart => exact ⟨0, by omega, rfl, by simp [Plain.join], B1.out, R1.out, T1.out⟩
  case round =>
    obtain ⟨k, hk, rfl, rfl, hH⟩ := hrel
    by_cases hlt : k < c
    · obtain ⟨y, hy⟩ : ∃ y, (Plain.pls x)[k]? = some y := ⟨_, List.getElem?_eq_getElem (by rw [HL.out]; exact hlt)⟩
      obtain ⟨hB, hR, hTr⟩ := hH.out
      have h13 := hide (nthAt x hx k y hy wr hTr)
      obtain ⟨g, rfl, _, hg, hcells⟩ := hR (fun e => by have := HL.out; rw [e] at this; simp at this; omega)
      obtain ⟨hk', hye⟩ := List.getElem?_eq_some_iff.1 hy
      have hy64 : y < 64 := by rw [← hye]; exact Plain.pls_lt x k hk'
      have hjl : Plain.join ((Plain.pls x).take k) < 18446744073709551616 := Plain.join_lt _ (fun i hi => ((Plain.mem_pls x i).1 (List.mem_of_mem_take hi)).1)
      have hor := or_key (Plain.join ((Plain.pls x).take k)) y hjl hy64
      have hjn : Plain.join ((Plain.pls x).take (k + 1)) = Plain.join ((Plain.pls x).take k) ||| 2 ^ y := by rw [Plain.join_take _ _ hk', hye]
      rw [← hjn] at hor
      have hcy := hcells k y hy
      clear hjn
      generalize Plain.join ((Plain.pls x).take k) = j at *
      have hpre : 0 < k → ∃ z : Nat, (Plain.pls x)[k - 1]? = some z ∧ z < y := fun h0 => by
        obtain ⟨k1, rfl⟩ : ∃ k1, k = k1 + 1 := ⟨k - 1, by omega⟩
        refine ⟨(Plain.pls x)[k1], ?_, ?_⟩
        · rw [Nat.add_sub_cancel]; exact List.getElem?_eq_getElem (by omega)
        · rw [← hye]; exact Plain.pls_rise x k1 hk'
      have HCL := hide hcells
      have HP := hide hpre
      have HB := hide hB
      have HRr := hide hR
      have HTr := hide hTr
      clear hye hy hTr hB hR hpre hcells hk' h24 hH
      go_wp2_with fail
      refine h13.out.mono ?_
      rintro e w3 ⟨rfl, hb3⟩
      have B3 := hide (HB.out.trans (hb3.mono HB.out.size))
      have R3 := hide (HRr.out.below hb3 (Nat.le_refl _))
      have T3 := hide (HTr.out.below HTr.out.lt hb3)
      have c1 : w3.cell? ⟨g, k, none⟩ = some (.int .i64 (y : Int)) := (hb3.cell (p := ⟨g, k, none⟩) hg).trans hcy
      clear hcy
      have d1 : decide ((y : Int) < 0) = false := by simp
      have d2 : decide ((63 : Int) < (y : Int)) = false := by simp; omega
      have d3 : decide (63 < y) = false := by simp; omega
      by_cases hk0 : 0 < k
      · obtain ⟨z, hz, hzy⟩ := HP.out hk0
        have d4 : decide ((0 : Int) < (k : Int)) = true := by simp; omega
        have d5 : decide (0 < k) = true := by simp; omega
        have d6 : decide ((y : Int) ≤ (z : Int)) = false := by simp; omega
        have d7 : decide (y ≤ z) = false := by simp; omega
        have c0 : w3.cell? ⟨g, k - 1, none⟩ = some (.int .i64 (z : Int)) := (hb3.cell (p := ⟨g, k - 1, none⟩) hg).trans (HCL.out _ _ hz)
        clear hb3 hz
        go_wp2_with fail
        refine wp_region_quiet_lit (by kernel_rfl) (by kernel_rfl) ?_
        repeat (go_big_quiet_step (fail))
        refine wpQuiet_nil ?_
        rintro _ ⟨nq, rfl⟩
        go_wp2
        go_roundw
        case rel => exact ⟨k + 1, by omega, by go_num, rfl, below_drewN B3.out _, R3.out.below (below_drewN (Below.refl _ _) _) (Nat.le_refl _), T3.out.drewN _⟩
        case measure => simp [intOf]; omega
      · have hkd : decide ((0 : Int) < (k : Int)) = false := by simp; omega
        have hkd' : decide (0 < k) = false := by simp; omega
        clear hb3
        go_wp2_with fail
        refine wp_region_quiet_lit (by kernel_rfl) (by kernel_rfl) ?_
        repeat (go_big_quiet_step (fail))
        refine wpQuiet_nil ?_
        rintro _ ⟨nq, rfl⟩
        go_wp2
        go_roundw
        case rel => exact ⟨k + 1, by omega, by go_num, rfl, below_drewN B3.out _, R3.out.below (below_drewN (Below.refl _ _) _) (Nat.le_refl _), T3.out.drewN _⟩
        case measure => simp [intOf]; omega
    · obtain rfl : k = c := by omega
      have hj : Plain.join ((Plain.pls x).take k) = x := by rw [List.take_of_length_le (by rw [HL.out]; exact Nat.le_refl _), Plain.join_pls x hx]
      rw [hj]
      clear hj hlt
      obtain ⟨hB, hR, hTr⟩ := hH.out
      have HB := hide hB
      have HTr := hide hTr
      clear hB hR hTr hH h24
      go_wp2_with fail
      refine (hend.out _ HTr.out).mono ?_
      rintro e w3 ⟨rfl, hb3⟩
      have T3 := hide (HTr.out.below HTr.out.lt hb3)
      go_wp2_with fail
      refine (awake26 _ T3.out).mono ?_
      rintro e w4 ⟨rfl, hb4⟩
      go_wp2
      go_ret
      exact ⟨rfl, (HB.out.trans (hb3.mono HB.out.size)).trans (hb4.mono (Nat.le_trans HB.out.size hb3.size))⟩

set_option maxRecDepth 100000 in
theorem lifted (os : Os) (started : os.Started) (H : Type) (enc : TypeId × Value → H) :
    ReturnsInHanded {} Tryd.checked os 6 .any (fun w args => (Rows.wordNthSpec.pre enc Tryd.prog Tryd.f6 [] false w args ∧ laidMetH Tryd.prog laidL w) ∧ sizedMet enc Tryd.prog Tryd.f6 (OpenSpec.ofChange Rows.wordNthSpec) false w args)
      (Rows.wordNthSpec.post enc Tryd.prog Tryd.f6 false true false false) := by
  refine returnsInHanded_of_change_and (C := Tryd.checked) (X := fun w _ => laidMetH Tryd.prog laidL w) (fun _ _ _ hh h => h.of_heap hh) own started (by kernel_rfl) Tryd.func6
    (ChangeSpec.witness_shaped (enc := enc) (C := Tryd.checked) (os := os) (X := fun w _ => laidMetH Tryd.prog laidL w) false (World.doorLaid Tryd.prog 400 os) #[.int .u64 0] 8 rfl (World.shaped_of_RefB (by kernel_rfl) (by kernel_rfl)) (by kernel_rfl) (by kernel_rfl) (by kernel_rfl) (door_met os _)) ?_
  intro W base args ds gs before hval0 hW _ _ hL _
  have hval : ∀ (j : Nat) t v, Tryd.f6.params[j]? = some t → args[j]? = some v → Value.okWide Tryd.prog W .any base t v := hval0
  have hW' := hW
  obtain ⟨p, q, hA0, hV, rfl, hfz, hnd⟩ := hW
  have hA : DataW.TrodAll enc Tryd.prog W 0 (fun _ => true) true Tryd.f6.params.toList args.toList ds p := hA0
  rw [Tryd.params6] at hA hval
  obtain ⟨v0, vs0, d0, ds0, p0, q0, hargs, rfl, rfl, h0, r0⟩ := trodAll_cons hA
  obtain ⟨rfl, rfl, rfl⟩ := trodAll_nil r0
  obtain rfl : args = #[v0] := by cases args; simp_all
  obtain ⟨rfl, rfl⟩ := trodVars_none hV
  obtain ⟨a0, rfl, rfl, rfl, w0⟩ := open_int Tryd.underlying22 (hval 0 22 v0 rfl rfl) h0
  clear hA0 hval0
  obtain ⟨x0, hx0, rfl⟩ := u64_nat w0
  refine (walk x0 hx0 W (tab_of_laid hL)).mono fun e W' ⟨he, bel⟩ => ?_
  subst he
  exact ⟨_, rfl, _, _, _, [], _, [], hW', trodAll_mk1 (shut_bool Tryd.underlying4 _), (trodAll_cons_mk (shut_int Tryd.underlying22 w0) trodAll_mk0), rfl, bel.frame _, fun h => by cases h⟩

theorem over : Rows.WordNthSaid :=
  OpenClaim.holds_of_wide 6 Tryd.f6 rfl rfl rfl rfl rfl rfl rfl ⟨rfl, rfl, rfl, rfl, rfl⟩ rfl rfl rfl rfl rfl (by kernel_rfl) Tryd.func6 (by kernel_rfl)
    (of_decide_eq_true (by kernel_rfl)) (by unfold Func.isWrapper; first | (rw [if_pos (by decide +kernel)]; kernel_rfl) | (rw [if_neg (by decide +kernel)]; exact ⟨rfl, rfl⟩))
    (fun os started H enc _ => lifted os started H enc)
end Go.Proofs.YteahpfobjnofmaaDoor.wordNth
namespace Go.Proofs.YteahpfobjnofmaaDoor

theorem wordNth_card : Rows.WordNthCardSaid :=
  Claim7.holds_tied_plain_at .later [] [.data] true (true, "b908dca4562f9d0eb3456803fbb934d60c23d207070fe3ba6b3324649341448f") false
    wordNth.over (fun _ h => by cases h) (by kernel_rfl) (fun _ h => by cases h) wordNth_row_tie rfl ⟨rfl, rfl⟩ (by kernel_rfl) rfl
    (fun f fn hf hfn => by
      obtain rfl : f = 6 := Option.some.inj ((show Tryd.prog.funcNamed Rows.wordNthRow.func = some 6 by kernel_rfl).symm.trans hf) |>.symm
      obtain rfl : fn = Tryd.f6 := (Option.some.inj (Tryd.func6.symm.trans hfn)).symm
      exact ⟨by kernel_rfl, fun j t ht => by
        rw [Tryd.params6] at ht
        have hm : t ∈ [22] := by simpa using Array.mem_of_getElem? ht
        have hall : ([22].all fun u => !Tryd.prog.wantsStandIn u) = true := by kernel_rfl
        exact (show Tryd.prog.wantsStandIn t = false by simpa using List.all_eq_true.1 hall t hm)⟩)
    (by kernel_rfl)
end Go.Proofs.YteahpfobjnofmaaDoor
