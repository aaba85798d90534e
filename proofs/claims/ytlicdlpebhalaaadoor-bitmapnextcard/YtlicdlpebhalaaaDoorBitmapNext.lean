/- The next one is not set, all from where it was sought to it are; sought from it on it is found again; there is none just if all are set: the law BitmapNext answers true at every input, and its arguments read behind the call as they read before. Condition: the listed table of math/bits is laid as the program's text lays it (the card ties it). -/
import Derived.Test.YtlicdlpebhalaaaDoorAwake3
import Derived.Test.YtlicdlpebhalaaaDoorRefTurn
import Derived.Test.YtlicdlpebhalaaaDoorRefl
import Derived.Test.YtlicdlpebhalaaaDoorLaid
namespace Go.Proofs.YtlicdlpebhalaaaDoor.bitmapNext
open Go.ChangeShapes Go.WideShapes Go.ChangeAt Go.RowKit

set_option maxRecDepth 100000 in
set_option maxHeartbeats 4000000 in
theorem walk (l : List Nat) (a : Option Addr) (c : Nat) (hlc : l.length ≤ c) (hcm : c ≤ maxLen) (hf : Bitm.Fit l) (hz : a = none → c = 0) (n : Int) (hn : -9223372036854775808 ≤ n ∧ n ≤ 9223372036854775807) (from_ : Int) (hfr : -9223372036854775808 ≤ from_ ∧ from_ ≤ 9223372036854775807) (w : World) (hW : WordsIn w a l) (hT : Tab w) :
    Calls Tryd.prog 7 #[.slice a l.length c, .int .i64 n, .int .i64 from_] w fun e w' => e = .returned (.bool true) ∧ Below w.heap.size w w' := by
  have HS := hide (small9 l a c hz hlc hcm w hW)
  have HF : Hid (Bitm.Fit (l.take 20)) := fun x hx => hf x (List.mem_of_mem_take hx)
  have HL : Hid ((l.take 20).length ≤ 20) := hide (by simp; omega)
  generalize l.take 20 = L at *
  generalize l.length = n0 at *
  have hpos := hT.lt
  have HT := hide (fun (x : World) (hx : Below w.heap.size w x) => hT.below hpos hx)
  clear hT hW hf hz
  go_enter Tryd.func7, Tryd.ntmps7
  go_wp2_with fail
  refine HS.out.mono ?_
  rintro e0 w1 ⟨v, he0, hown, hb1⟩
  obtain ⟨a1, c1, rfl, hw1, hz1, hlc1, hcm1⟩ := hown.words
  subst he0
  have HW := hide (fun (x : World) (hx : Below w1.heap.size w1 x) => hw1.below hx (Nat.le_refl _))
  have HZ := hide hz1
  have HB := hide (fun (x : World) (hx : Below w1.heap.size w1 x) => hb1.trans (hx.mono hb1.size))
  have H1 : Hid (Below w1.heap.size w1 w1) := Below.refl _ _
  have HO := hide hown
  clear hw1 hz1 hown hb1 HS
  have HHI := hide (fun (x : World) (hx : Below w1.heap.size w1 x) (j : Int) (h1 : -9223372036854775808 ≤ j) (h2 : j ≤ 9223372036854775807) => has15 L (by have := HL.out; omega) HF.out a1 c1 j h1 h2 x (HW.out _ hx))
  have HH := hide (fun (x : World) (hx : Below w1.heap.size w1 x) (j : Nat) (hj : j ≤ 1048576) => has15 L (by have := HL.out; omega) HF.out a1 c1 (j : Int) (by omega) (by omega) x (HW.out _ hx))
  simp only [hasAns_nat] at HH
  have HL2 : Hid (L.length ≤ 1099511627) := by show L.length ≤ _; have := HL.out; omega
  have HL3 : Hid (L.length ≤ 1099511627776) := by show L.length ≤ _; have := HL.out; omega
  obtain ⟨k, hk⟩ : ∃ k, L.length = k := ⟨_, rfl⟩
  have HK := hide hk
  have hk20 : k ≤ 20 := by have := HL.out; omega
  rw [hk] at hlc1 HH HHI ⊢
  clear hk
  go_wp2_with fail
  have c2 := next12 L HL3.out HF.out a1 c1 n from_ w1 (HT.out _ (HB.out _ H1.out)) (HW.out _ H1.out)
  have hcase : (n < 0 ∧ (heldN n k : Int) ≤ 0) ∨ (0 ≤ n ∧ n ≤ 64 * (k : Int) ∧ (heldN n k : Int) ≤ n ∧ n ≤ (heldN n k : Int)) ∨ (0 ≤ n ∧ 64 * (k : Int) < n ∧ (heldN n k : Int) ≤ 64 * (k : Int) ∧ 64 * (k : Int) ≤ (heldN n k : Int)) := by unfold heldN; omega
  have hcase2 : (from_ < 0 ∧ (from_.toNat : Int) ≤ 0) ∨ (0 ≤ from_ ∧ (from_.toNat : Int) ≤ from_ ∧ from_ ≤ (from_.toNat : Int)) := by omega
  rw [HK.out] at c2
  generalize hez : from_.toNat = z at *
  clear hez
  obtain ⟨e, he⟩ : ∃ e, heldN n k = e := ⟨_, rfl⟩
  have HE := hide he
  rw [he] at c2 hcase
  clear he
  refine c2.mono ?_
  clear c2
  rintro e1 w4 ⟨r, ok, rfl, hnx, hb4⟩
  have HN := hide hnx
  have H4 : Hid (Below w1.heap.size w1 w4) := hb4
  clear hnx hb4
  rcases hcase with ⟨q1, q2⟩ | ⟨q1, q2, q3, q4⟩ | ⟨q1, q2, q3, q4⟩ <;> rcases hcase2 with ⟨p1, p2⟩ | ⟨p1, p2, p3⟩ <;> (
    cases ok with
    | false =>
      obtain ⟨hr0, hall0⟩ := HN.out.none_ rfl
      subst hr0
      have HALL : Hid (∀ j, z ≤ j → j < e → Bitm.bit L j = true) := hide (fun j h1 h2 => by simpa using hall0 j h1 h2)
      clear hall0
      go_wp2
      go_loopw [11] (fun i wr => ∃ j : Nat, i = .int .i64 (j : Int) ∧ z ≤ j ∧ Hid (Below w4.heap.size w4 wr)) (fun i _ => e - (intOf i).toNat)
      case atStart => exact ⟨z, (by first | rfl | (congr 1; omega)), Nat.le_refl _, Below.refl _ _⟩
      case round =>
        obtain ⟨j, rfl, hlj, hBr⟩ := hrel
        have H9 : Hid (Below w1.heap.size w1 wr) := H4.out.trans (hBr.out.mono H4.out.size)
        by_cases hlt : j < e
        · have hHj := hide (HH.out _ H9.out j (by omega))
          rw [HALL.out j hlj hlt] at hHj
          first
            | (exfalso; omega)
            | (
              have hA : (j : Int) < n := by omega
              have hB : (j : Int) < 64 * (k : Int) := by omega
              go_wp2_with (go_at_call 15; refine hHj.out.mono ?_; rintro e8 w5 ⟨rfl, q5, rfl⟩)
              go_roundw
              case rel => exact ⟨j + 1, by go_num, by omega, below_drewN hBr.out _⟩
              case measure => simp [intOf]; omega)
        · skip
          first | (have hA : n ≤ (j : Int) := by omega) | (have hA : 64 * (k : Int) ≤ (j : Int) := by omega)
          go_wp2_with fail
          refine (awake22 _ (HT.out _ (HB.out _ H9.out))).mono ?_
          rintro e9 wz ⟨rfl, hbz⟩
          have HZZ : Hid (Below w.heap.size w wz) := (HB.out _ H9.out).trans (hbz.mono (HB.out _ H9.out).size)
          clear hbz
          go_wp2
          go_ret
          exact ⟨rfl, HZZ.out⟩
    | true =>
      obtain ⟨g1, g2, g3, g4⟩ := HN.out.found rfl
      have HALL : Hid (∀ j, z ≤ j → j < r → Bitm.bit L j = true) := hide (fun j h1 h2 => by simpa using g4 j h1 h2)
      have hHr := hide (HH.out _ H4.out r (by omega))
      rw [g3] at hHr
      have HG3 := hide g3
      clear g4 g3
      first
        | (exfalso; omega)
        | (
          have g1I : from_ ≤ (r : Int) := by omega
          have g2I : (r : Int) < n := by omega
          have g3I : (r : Int) < 64 * (k : Int) := by omega
          go_wp2_with (go_at_call 15; refine hHr.out.mono ?_; rintro e8 w5 ⟨rfl, q5, rfl⟩)
          have H5 : Hid (Below w1.heap.size w1 (w4.drewN q5)) := below_drewN H4.out q5
          generalize w4.drewN q5 = w5 at *
          go_loopw [12] (fun i wr => ∃ j : Nat, i = .int .i64 (j : Int) ∧ z ≤ j ∧ Hid (Below w5.heap.size w5 wr)) (fun i _ => r - (intOf i).toNat)
          case atStart => exact ⟨z, (by first | rfl | (congr 1; omega)), Nat.le_refl _, Below.refl _ _⟩
          case round =>
            obtain ⟨j, rfl, hlj, hBr⟩ := hrel
            have H9 : Hid (Below w1.heap.size w1 wr) := H5.out.trans (hBr.out.mono H5.out.size)
            by_cases hlt : j < r
            · have hHj := hide (HH.out _ H9.out j (by omega))
              rw [HALL.out j hlj hlt] at hHj
              first
                | (exfalso; omega)
                | (
                  go_wp2_with (go_at_call 15; refine hHj.out.mono ?_; rintro e8 w5 ⟨rfl, q5, rfl⟩)
                  go_roundw
                  case rel => exact ⟨j + 1, by go_num, by omega, below_drewN hBr.out _⟩
                  case measure => simp [intOf]; omega)
            · skip
              go_wp2_with fail
              have c2 := next12 L HL3.out HF.out a1 c1 n (r : Int) wr (HT.out _ (HB.out _ H9.out)) (HW.out _ H9.out)
              rw [HK.out, HE.out, Int.toNat_natCast] at c2
              refine c2.mono ?_
              clear c2
              rintro e7 w7 ⟨r2, ok2, rfl, hnx, hb7⟩
              have hself : Bitm.NextIs L false r e r true := ⟨fun _ => ⟨Nat.le_refl _, by omega, HG3.out, fun j h1 h2 => by omega⟩, (fun x => by cases x)⟩
              obtain ⟨rfl, rfl⟩ := hnx.alone hself
              clear hself
              have H7 : Hid (Below w1.heap.size w1 w7) := H9.out.trans (hb7.mono H9.out.size)
              clear hnx hb7
              go_wp2_with fail
              refine (awake22 _ (HT.out _ (HB.out _ H7.out))).mono ?_
              rintro e9 wz ⟨rfl, hbz⟩
              have HZZ : Hid (Below w.heap.size w wz) := (HB.out _ H7.out).trans (hbz.mono (HB.out _ H7.out).size)
              clear hbz
              go_wp2
              go_ret
              exact ⟨rfl, HZZ.out⟩))

set_option maxRecDepth 100000 in
theorem lifted (os : Os) (started : os.Started) (H : Type) (enc : TypeId × Value → H) :
    ReturnsInHanded {} Tryd.checked os 7 .any (fun w args => (Rows.bitmapNextSpec.pre enc Tryd.prog Tryd.f7 [] false w args ∧ laidMetH Tryd.prog laidL w) ∧ sizedMet enc Tryd.prog Tryd.f7 (OpenSpec.ofChange Rows.bitmapNextSpec) false w args)
      (Rows.bitmapNextSpec.post enc Tryd.prog Tryd.f7 false true false false) := by
  refine returnsInHanded_of_change_and (C := Tryd.checked) (X := fun w _ => laidMetH Tryd.prog laidL w) (fun _ _ _ hh h => h.of_heap hh) own started (by kernel_rfl) Tryd.func7
    (ChangeSpec.witness_shaped (enc := enc) (C := Tryd.checked) (os := os) (X := fun w _ => laidMetH Tryd.prog laidL w) false (World.doorLaid Tryd.prog 400 os) #[.slice none 0 0, .int .i64 0, .int .i64 0] 8 rfl (World.shaped_of_RefB (by kernel_rfl) (by kernel_rfl)) (by kernel_rfl) (by kernel_rfl) (by kernel_rfl) (door_met os _)) ?_
  intro W base args ds gs before hval0 hW _ _ hL _
  have hval : ∀ (j : Nat) t v, Tryd.f7.params[j]? = some t → args[j]? = some v → Value.okWide Tryd.prog W .any base t v := hval0
  have hW' := hW
  obtain ⟨p, q, hA0, hV, rfl, hfz, hnd⟩ := hW
  have hA : DataW.TrodAll enc Tryd.prog W 0 (fun _ => true) true Tryd.f7.params.toList args.toList ds p := hA0
  rw [Tryd.params7] at hA hval
  obtain ⟨v0, vs0, d0, ds0, p0, q0, hargs, rfl, rfl, h0, r0⟩ := trodAll_cons hA
  obtain ⟨v1, vs1, d1, ds1, p1, q1, rfl, rfl, rfl, h1, r1⟩ := trodAll_cons r0
  obtain ⟨v2, vs2, d2, ds2, p2, q2, rfl, rfl, rfl, h2, r2⟩ := trodAll_cons r1
  obtain ⟨rfl, rfl, rfl⟩ := trodAll_nil r2
  obtain rfl : args = #[v0, v1, v2] := by cases args; simp_all
  obtain ⟨rfl, rfl⟩ := trodVars_none hV
  have h0k := h0
  have lt0 : ∀ x ∈ p0, x.block < W.heap.size := fun x hx => hW'.lt x (by simp [hx])
  obtain ⟨l0_0, l0_1, l0_2, rfl, f0_0, f0_1, f0_2, f0_3, f0_4⟩ := open_words (hval 0 22 v0 rfl rfl) h0
  obtain ⟨a1, rfl, rfl, rfl, w1⟩ := open_int Tryd.underlying3 (hval 1 3 v1 rfl rfl) h1
  obtain ⟨a2, rfl, rfl, rfl, w2⟩ := open_int Tryd.underlying3 (hval 2 3 v2 rfl rfl) h2
  clear hA0 hval0
  have hx1 := i64_bd w1
  have hx2 := i64_bd w2
  refine (walk l0_0 l0_1 l0_2 f0_0 f0_1 f0_2 f0_3 a1 hx1 a2 hx2 W f0_4 (tab_of_laid hL)).mono fun e W' ⟨he, bel⟩ => ?_
  subst he
  exact ⟨_, rfl, _, _, _, [], _, [], hW', trodAll_mk1 (shut_bool Tryd.underlying4 _), (trodAll_cons_mk (Below.trod laidOut (by kernel_rfl) (of_decide_eq_true (by kernel_rfl)) h0k bel lt0) (trodAll_cons_mk (shut_int Tryd.underlying3 w1) (trodAll_cons_mk (shut_int Tryd.underlying3 w2) trodAll_mk0))), rfl, bel.frame _, fun h => by cases h⟩

theorem over : Rows.BitmapNextSaid :=
  OpenClaim.holds_of_wide 7 Tryd.f7 rfl rfl rfl rfl rfl rfl rfl ⟨rfl, rfl, rfl, rfl, rfl⟩ rfl rfl rfl rfl rfl (by kernel_rfl) Tryd.func7 (by kernel_rfl)
    (of_decide_eq_true (by kernel_rfl)) (by unfold Func.isWrapper; first | (rw [if_pos (by decide +kernel)]; kernel_rfl) | (rw [if_neg (by decide +kernel)]; exact ⟨rfl, rfl⟩))
    (fun os started H enc _ => lifted os started H enc)
end Go.Proofs.YtlicdlpebhalaaaDoor.bitmapNext
namespace Go.Proofs.YtlicdlpebhalaaaDoor

theorem bitmapNext_card : Rows.BitmapNextCardSaid :=
  Claim7.holds_tied_plain_at .later [] [.data] true (true, "6fc65819a77c73ce99a1c081f2558f99aa8d3c850c923daa96cdcf8d21cd8057") false
    bitmapNext.over (fun _ h => by cases h) (by kernel_rfl) (fun _ h => by cases h) bitmapNext_row_tie rfl ⟨rfl, rfl⟩ (by kernel_rfl) rfl
    (fun f fn hf hfn => by
      obtain rfl : f = 7 := Option.some.inj ((show Tryd.prog.funcNamed Rows.bitmapNextRow.func = some 7 by kernel_rfl).symm.trans hf) |>.symm
      obtain rfl : fn = Tryd.f7 := (Option.some.inj (Tryd.func7.symm.trans hfn)).symm
      exact ⟨by kernel_rfl, fun j t ht => by
        rw [Tryd.params7] at ht
        have hm : t ∈ [22, 3, 3] := by simpa using Array.mem_of_getElem? ht
        have hall : ([22, 3, 3].all fun u => !Tryd.prog.wantsStandIn u) = true := by kernel_rfl
        exact (show Tryd.prog.wantsStandIn t = false by simpa using List.all_eq_true.1 hall t hm)⟩)
    (by kernel_rfl)
end Go.Proofs.YtlicdlpebhalaaaDoor
