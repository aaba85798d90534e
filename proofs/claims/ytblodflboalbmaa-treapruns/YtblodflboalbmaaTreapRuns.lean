/- Whatever is put, dropped, sought: each answer, all keys, how many, and the tree's shape, are the document's: the law TreapRuns answers true at every input, and its arguments read behind the call as they read before. -/
import Derived.Test.YtblodflboalbmaaDBoth
import Derived.Test.YtblodflboalbmaaTreOpen
import Derived.Test.YtblodflboalbmaaTreAwake
namespace Go.Proofs.Ytblodflboalbmaa.treapRuns
open Go.ChangeShapes Go.WideShapes Go.ChangeAt Go.RowKit

set_option maxHeartbeats 4000000 in
set_option maxRecDepth 100000 in
theorem walk (ao : Option Addr) (len cap : Nat) (hlc : len ≤ cap) (hcm : cap ≤ maxLen) (few : Bool) (w : World)
    (hf : ∃ f : Nat → Nat × Int × Nat, ∀ k, k < len → ((f k).1 < 256 ∧ (-9223372036854775808 ≤ (f k).2.1 ∧ (f k).2.1 ≤ 9223372036854775807) ∧ (f k).2.2 < 4294967296) ∧ At w ao (k * 3) (.int .u8 ((f k).1 : Int)) ∧ At w ao (k * 3 + 1) (.int .i64 (f k).2.1) ∧ At w ao (k * 3 + 2) (.int .u32 ((f k).2.2 : Int))) :
    Calls Try.prog 3 #[.slice ao len cap, .bool few] w fun e w' => e = .returned (.bool true) ∧ Below w.heap.size w w' := by
  obtain ⟨f, hf⟩ := hf
  have HF := hide hf
  have hlen : len ≤ 9223372036854775807 := by unfold maxLen at hcm; omega
  clear hf hcm hlc
  go_enter Try.func3, Try.ntmps3
  go_wp2_with fail
  refine (newPI Loc.nought (Own.start w)).mono ?_
  rintro x w1 ⟨rfl, h1⟩
  have H1 := hide (h1.unit.newD Loc.rt).comm
  clear h1
  go_wp2
  obtain ⟨t, ht⟩ : ∃ t, w.heap.size = t := ⟨_, rfl⟩
  obtain ⟨r, hr⟩ : ∃ r, w1.heap.size = r := ⟨_, rfl⟩
  have HT := hide ht
  rw [ht, hr] at H1
  rw [ht, hr]
  generalize (w1.alloc (.cells #[.slice none 0 0] 28)) = w2 at *
  clear ht hr w1
  go_loopg [7] 200 (fun g r7 wr => ∃ (j : Nat) (L : List (It Int)), j + g = 200 ∧ r7 = .int .i64 (j : Int) ∧ Hid (L.length ≤ j ∧ Own (Sep (RTI t L) (RD r L)) w wr))
  case atStart => exact ⟨0, [], by omega, rfl, ⟨Nat.le_refl _, H1.out⟩⟩
  case round =>
    clear H1 w2
    obtain ⟨j, L, hj, rfl, hh⟩ := hrel
    have hLj := hh.out.1
    have HO := hide hh.out.2
    clear hh
    by_cases hin : j < len ∧ j < 200
    · obtain ⟨⟨hk, hkey, hd⟩, q0, q1, q2⟩ := HF.out j hin.1
      obtain ⟨b, o, rfl, c0⟩ := q0.below HO.out.back
      obtain ⟨b', o', e', c1⟩ := q1.below HO.out.back
      cases e'
      obtain ⟨b', o', e', c2⟩ := q2.below HO.out.back
      cases e'
      rw [← Nat.add_assoc] at c1 c2
      generalize (f j).1 = kind at *
      generalize (f j).2.1 = key at *
      generalize (f j).2.2 = draw at *
      clear q0 q1 q2
      obtain ⟨hin1, hin2⟩ := hin
      have d1 : decide ((j : Int) < (len : Int)) = true := by simp; omega
      have d2 : decide (j < len) = true := by simp; omega
      have d3 : decide ((j : Int) < 200) = true := by simp; omega
      have d4 : decide (j < 200) = true := by simp; omega
      cases few
      case' false =>
        go_wp2_with fail
        refine (doT (HO.out.below (Loc.rt.sep Loc.rd) ((Below.refl _ _).alloc (Nat.le_refl _) _)) kind key draw (j : Int) (by omega)).mono ?_
      case' true =>
        go_wp2_with fail
        rw [show (draw : Int) % 4 = ((draw % 4 : Nat) : Int) from by omega]
        refine (doT (HO.out.below (Loc.rt.sep Loc.rd) ((Below.refl _ _).alloc (Nat.le_refl _) _)) kind (key.tmod 16) (draw % 4) (j : Int) (by omega)).mono ?_
      all_goals (
        rintro e w3 ⟨rfl, L', hl', h3⟩
        have H3 := hide h3
        have HRS := hide h3.ris
        clear h3 HO c0 c1 c2
        by_cases h8 : j % 8 = 0
        · have d8 : (j : Int).tmod 8 = 0 := by rw [Int.tmod_eq_emod_of_nonneg (by omega)]; omega
          go_wp2_with fail
          refine (shapePI Loc.rd H3.out (by omega)).mono ?_
          rintro e w4 ⟨v4, rfl, n4, b4, h4⟩
          have H4 := hide h4.comm
          have N4 := hide n4
          clear n4 b4 h4 H3
          go_wp2_with fail
          refine (dshapeP Loc.rt H4.out (by omega)).mono ?_
          rintro e w5 ⟨v5, rfl, n5, b5, h5⟩
          have N5 := hide n5
          have M4 := hide (N4.out.below b5)
          have H5 := hide h5.comm
          clear n5 b5 h5 H4 N4
          go_wp2_with fail
          refine (sameNodes _ _ _ _ M4.out N5.out (by rw [shp_length HRS.out]; omega)).mono ?_
          rintro e w6 ⟨rfl, al⟩
          have H6 := hide (H5.out.below (Loc.rt.sep Loc.rd) (al.below _))
          clear al H5 M4 N5
          go_wp2
          go_roundg (200 - (j + 1))
          case measure => omega
          case rel => exact ⟨j + 1, L', by omega, by go_num, ⟨by omega, H6.out⟩⟩
        · have d8 : ((j : Int).tmod 8 == 0) = false := by rw [Int.tmod_eq_emod_of_nonneg (by omega), beq_eq_false_iff_ne]; omega
          go_wp2
          go_roundg (200 - (j + 1))
          case measure => omega
          case rel => exact ⟨j + 1, L', by omega, by go_num, ⟨by omega, H3.out⟩⟩)
    · have d1 : (decide ((j : Int) < (len : Int)) = false ∧ decide (j < len) = false) ∨ (decide ((j : Int) < (len : Int)) = true ∧ decide (j < len) = true ∧ decide ((j : Int) < 200) = false ∧ decide (j < 200) = false) := by
        by_cases q : j < len
        · right; simp; omega
        · left; simp; omega
      obtain ⟨m, hm⟩ : ∃ m, L.length = m := ⟨_, rfl⟩
      have HM := hide hm
      obtain ⟨vd, hD, _⟩ := HO.out.comm.dtree Loc.rt
      obtain ⟨da, dc, rfl⟩ := hD.slice
      have HD := hide hD
      have hd : Hid (Below wr.heap.size wr wr.drew) := hide ((Alike.drewN wr 1).below _)
      have e1 : ∀ u : Mem (fun x => Below wr.heap.size wr x), u.w'.cell? ⟨r, 0, none⟩ = some (.slice da m dc) := fun u => by rw [← HM.out]; exact (HD.out.below u.h).head
      have hne : Nonempty (Mem (fun x => Below wr.heap.size wr x)) := ⟨⟨_, Below.refl _ wr⟩⟩
      have HOK : Hid (∀ x, Below wr.heap.size wr x → Own (Sep (RTI t L) (RD r L)) w x) := hide (fun x hx => HO.out.below (Loc.rt.sep Loc.rd) hx)
      have HRS := hide HO.out.ris
      have hml : m ≤ 200 := by omega
      clear hD hm
      rcases d1 with ⟨d1, d2⟩ | ⟨d1, d2, d3, d4⟩
      all_goals (
        clear hin
        go_wp2
        refine region_start (J := (fun x => Below wr.heap.size wr x)) (by kernel_rfl) ?_
        refine stretch (fuel := 20) (by kernel_rfl) (fun _ _ _ _ _ h => h) hd.out [0, 2, 3, 4, 5, 6] (by kernel_rfl) ?_
        simp only [List.filterMap_cons, List.filterMap_nil, List.getElem?_toArray, List.getElem?_cons_zero, List.getElem?_cons_succ]
        show wpQuiet _ _ _ _ [_, _, _, _, _, _] _
        repeat (go_big_quiet_step (fail))
        refine wpQuiet_nil ?_
        clear e1 hne
        refine wpAnyJ_writer (i := 1) rfl (by kernel_rfl) (fun K hK => ?_)
        go_simp
        refine (lenPI Loc.rd (HOK.out _ hd.out)).mono ?_
        rintro e w3 ⟨rfl, rfl⟩
        rw [HM.out]
        refine hK _ _ hd.out ?_
        clear hK K
        have hne : Nonempty (Mem (fun x => Below wr.heap.size wr x)) := ⟨⟨_, Below.refl _ wr⟩⟩
        refine stretch (fuel := 15) (by kernel_rfl) (fun _ _ _ _ _ h => h) hd.out [7, 8, 9, 11] (by kernel_rfl) ?_
        simp only [List.filterMap_cons, List.filterMap_nil, List.getElem?_toArray, List.getElem?_cons_zero, List.getElem?_cons_succ]
        show wpQuiet _ _ _ _ [_, _, _, _] _
        repeat (go_big_quiet_step (fail))
        refine wpQuiet_nil ?_
        refine wpAnyJ_writer (i := 10) rfl (by kernel_rfl) (fun K hK => ?_)
        go_simp
        refine (keysPI Loc.rd (HOK.out _ hd.out) (by rw [HM.out]; omega)).mono ?_
        rintro e w4 ⟨v4, rfl, n4, b4, _⟩
        have B4 : Hid (Below wr.heap.size wr w4) := hide (hd.out.trans (b4.mono hd.out.size))
        have N4 := hide n4
        clear n4 b4
        refine hK _ _ B4.out ?_
        clear hK K
        refine wpAnyJ_writer (i := 12) rfl (by kernel_rfl) (fun K hK => ?_)
        go_simp
        refine (rkeysP Loc.rt (HOK.out _ B4.out).comm (by rw [HM.out]; omega)).mono ?_
        rintro e w5 ⟨v5, rfl, n5, b5, _⟩
        have B5 : Hid (Below wr.heap.size wr w5) := hide (B4.out.trans (b5.mono B4.out.size))
        have N5 := hide n5
        have M4 := hide (N4.out.below b5)
        clear n5 b5 N4
        refine hK _ _ B5.out ?_
        clear hK K
        refine wpAnyJ_writer (i := 13) rfl (by kernel_rfl) (fun K hK => ?_)
        go_simp
        refine (sameInts _ _ _ _ M4.out N5.out (by rw [List.length_map, HM.out]; omega)).mono ?_
        rintro e w6 ⟨rfl, al⟩
        have B6 : Hid (Below wr.heap.size wr w6) := hide (B5.out.trans (al.below _))
        clear al M4 N5 B4 B5
        refine hK _ _ B6.out ?_
        clear hK K
        refine stretch (fuel := 8) (by kernel_rfl) (fun _ _ _ _ _ h => h) B6.out [14, 15, 16, 18] (by kernel_rfl) ?_
        simp only [List.filterMap_cons, List.filterMap_nil, List.getElem?_toArray, List.getElem?_cons_zero, List.getElem?_cons_succ]
        show wpQuiet _ _ _ _ [_, _, _, _] _
        repeat (go_big_quiet_step (fail))
        refine wpQuiet_nil ?_
        refine wpAnyJ_writer (i := 17) rfl (by kernel_rfl) (fun K hK => ?_)
        go_simp
        refine (shapePI Loc.rd (HOK.out _ B6.out) (by rw [HM.out]; omega)).mono ?_
        rintro e w7 ⟨v7, rfl, n7, b7, _⟩
        have B7 : Hid (Below wr.heap.size wr w7) := hide (B6.out.trans (b7.mono B6.out.size))
        have N7 := hide n7
        clear n7 b7
        refine hK _ _ B7.out ?_
        clear hK K
        refine wpAnyJ_writer (i := 19) rfl (by kernel_rfl) (fun K hK => ?_)
        go_simp
        refine (dshapeP Loc.rt (HOK.out _ B7.out).comm (by rw [HM.out]; omega)).mono ?_
        rintro e w8 ⟨v8, rfl, n8, b8, _⟩
        have B8 : Hid (Below wr.heap.size wr w8) := hide (B7.out.trans (b8.mono B7.out.size))
        have N8 := hide n8
        have M7 := hide (N7.out.below b8)
        clear n8 b8 N7
        refine hK _ _ B8.out ?_
        clear hK K
        refine wpAnyJ_writer (i := 20) rfl (by kernel_rfl) (fun K hK => ?_)
        go_simp
        refine (sameNodes _ _ _ _ M7.out N8.out (by rw [shp_length HRS.out, HM.out]; omega)).mono ?_
        rintro e w9 ⟨rfl, al⟩
        have B9 : Hid (Below wr.heap.size wr w9) := hide (B8.out.trans (al.below _))
        clear al M7 N8 B6 B7 B8
        refine hK _ _ B9.out ?_
        clear hK K
        refine stretch (fuel := 3) (by kernel_rfl) (fun _ _ _ _ _ h => h) B9.out [21, 22] (by kernel_rfl) ?_
        simp only [List.filterMap_cons, List.filterMap_nil, List.getElem?_toArray, List.getElem?_cons_zero, List.getElem?_cons_succ]
        show wpQuiet _ _ _ _ [_, _] _
        repeat (go_big_quiet_step (fail))
        refine wpQuiet_nil ?_
        refine wpAnyJ_writer (i := 23) rfl (by kernel_rfl) (fun K hK => ?_)
        go_simp
        refine (awakeT _).mono ?_
        rintro e w10 ⟨rfl, b10⟩
        have B10 : Hid (Below wr.heap.size wr w10) := hide (B9.out.trans (b10.mono B9.out.size))
        clear b10 B9
        refine hK _ _ B10.out ?_
        clear hK K
        refine stretch (fuel := 0) (by kernel_rfl) (fun _ _ _ _ _ h => h) B10.out [24, 25] (by kernel_rfl) ?_
        simp only [List.filterMap_cons, List.filterMap_nil, List.getElem?_toArray, List.getElem?_cons_zero, List.getElem?_cons_succ]
        show wpQuiet _ _ _ _ [_, _] _
        repeat (go_big_quiet_step (fail))
        refine wpQuiet_nil ?_
        refine wpAnyJ_done (by kernel_rfl) ?_
        go_wp2
        go_ret
        exact ⟨rfl, (HOK.out _ B10.out).back⟩)

set_option maxRecDepth 100000 in
theorem lifted (os : Os) (started : os.Started) (H : Type) (enc : TypeId × Value → H) :
    ReturnsInHanded {} Try.checked os 3 .any (Rows.treapRunsSpec.pre6 enc Try.prog Try.f3 Rows.treapRunsRow.domain false) (Rows.treapRunsSpec.post enc Try.prog Try.f3 false true false false) := by
  refine returnsInHanded_of_change (C := Try.checked) own started (by kernel_rfl) Try.func3
    (ChangeSpec.witness6 (enc := enc) (C := Try.checked) false ⟨#[], #[.slice none 0 0, .bool false], []⟩ 8 (by kernel_rfl) (by kernel_rfl) (by kernel_rfl) (by kernel_rfl)) ?_
  intro W base args ds gs before hval0 hW _ _
  have hval : ∀ (j : Nat) t v, Try.f3.params[j]? = some t → args[j]? = some v → Value.okWide Try.prog W .any base t v := hval0
  have hW' := hW
  obtain ⟨p, q, hA0, hV, rfl, hfz, hnd⟩ := hW
  have hA : DataW.TrodAll enc Try.prog W 0 (fun _ => true) true Try.f3.params.toList args.toList ds p := hA0
  rw [Try.params3] at hA hval
  obtain ⟨v0, vs0, d0, ds0, p0, q0, hargs, rfl, rfl, h0, r0⟩ := trodAll_cons hA
  obtain ⟨v1, vs1, d1, ds1, p1, q1, rfl, rfl, rfl, h1, r1⟩ := trodAll_cons r0
  obtain ⟨rfl, rfl, rfl⟩ := trodAll_nil r1
  obtain rfl : args = #[v0, v1] := by cases args; simp_all
  obtain ⟨rfl, rfl⟩ := trodVars_none hV
  have h0k := h0
  have lt0 : ∀ x ∈ p0, x.block < W.heap.size := fun x hx => hW'.lt x (by simp [hx])
  obtain ⟨l0_0, l0_1, l0_2, rfl, f0_0, f0_1, f0_2⟩ := open_calls (hval 0 22 v0 rfl rfl) h0
  obtain ⟨a1, rfl, rfl, rfl⟩ := open_bool Try.underlying4 (hval 1 4 v1 rfl rfl) h1
  clear hA0 hval0
  refine (walk l0_0 l0_1 l0_2 f0_0 f0_1 a1 W f0_2).mono fun e W' ⟨he, bel⟩ => ?_
  subst he
  exact ⟨_, rfl, _, _, _, [], _, [], hW', trodAll_mk1 (shut_bool Try.underlying4 _), (trodAll_cons_mk (Below.trod laidOut (by kernel_rfl) (of_decide_eq_true (by kernel_rfl)) h0k bel lt0) (trodAll_cons_mk (shut_bool Try.underlying4 _) trodAll_mk0)), rfl, bel.frame _, fun h => by cases h⟩

end Go.Proofs.Ytblodflboalbmaa.treapRuns
namespace Go.Proofs.Ytblodflboalbmaa

theorem treapRuns_holds : Rows.TreapRunsSaid :=
  OpenClaim.holds_of_wide 3 Try.f3 rfl rfl rfl rfl rfl rfl rfl ⟨rfl, rfl, rfl, rfl, rfl⟩ rfl rfl rfl rfl rfl (by kernel_rfl) Try.func3 (by kernel_rfl)
    (of_decide_eq_true (by kernel_rfl)) (by unfold Func.isWrapper; first | (rw [if_pos (by decide +kernel)]; kernel_rfl) | (rw [if_neg (by decide +kernel)]; exact ⟨rfl, rfl⟩))
    (fun os started H enc _ => treapRuns.lifted os started H enc)
end Go.Proofs.Ytblodflboalbmaa
