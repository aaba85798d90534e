/- Just those bits that were named are turned, and they are as was said; turned back as they were the list is: the law BitmapTurn answers true at every input, and its arguments read behind the call as they read before. Condition: the listed table of math/bits is laid as the program's text lays it (the card ties it). -/
import Derived.Test.YtlicdlpebhalaaaDoorAwake3
import Derived.Test.YtlicdlpebhalaaaDoorRefTurn
import Derived.Test.YtlicdlpebhalaaaDoorRefl
import Derived.Test.YtlicdlpebhalaaaDoorLaid
namespace Go.Proofs.YtlicdlpebhalaaaDoor.bitmapTurn
open Go.ChangeShapes Go.WideShapes Go.ChangeAt Go.RowKit

theorem turned_has (L : List Nat) (f g : Nat) (on : Bool) (h : f + g ≤ 64 * L.length) (i : Int) : hasAns (Bitm.turnTo L f on g) i = if (f : Int) ≤ i ∧ i < (f : Int) + (g : Int) then on else hasAns L i := by
  by_cases h0 : 0 ≤ i
  · obtain ⟨j, rfl⟩ : ∃ j : Nat, i = (j : Int) := ⟨i.toNat, by omega⟩
    rw [hasAns_nat, hasAns_nat, Bitm.turnTo_bit L f on j g h]
    by_cases h1 : f ≤ j ∧ j < f + g
    · rw [if_pos h1, if_pos (by omega)]
    · rw [if_neg h1, if_neg (by omega)]
  · rw [hasAns_neg _ _ (by omega), hasAns_neg _ _ (by omega), if_neg (by omega)]

set_option maxRecDepth 100000 in
set_option maxHeartbeats 4000000 in
theorem walk (l : List Nat) (a : Option Addr) (c : Nat) (hlc : l.length ≤ c) (hcm : c ≤ maxLen) (hf : Bitm.Fit l) (hz : a = none → c = 0) (x : Nat) (hx : x < 65536) (y : Nat) (hy : y < 65536) (on : Bool) (w : World) (hW : WordsIn w a l) (hT : Tab w) :
    Calls Tryd.prog 5 #[.slice a l.length c, .int .u16 (x : Int), .int .u16 (y : Int), .bool on] w fun e w' => e = .returned (.bool true) ∧ Below w.heap.size w w' := by
  have HS := hide (small9 l a c hz hlc hcm w hW)
  have HF : Hid (Bitm.Fit (l.take 20)) := fun x hx => hf x (List.mem_of_mem_take hx)
  have HL : Hid ((l.take 20).length ≤ 20) := hide (by simp; omega)
  generalize l.take 20 = L at *
  generalize l.length = n0 at *
  have hpos := hT.lt
  have HT := hide (fun (x : World) (hx : Below w.heap.size w x) => hT.below hpos hx)
  clear hT hW hf hz
  go_enter Tryd.func5, Tryd.ntmps5
  go_wp2_with fail
  refine HS.out.mono ?_
  rintro e0 w1 ⟨v, he0, hown, hb1⟩
  obtain ⟨a1, c1, rfl, hw1, hz1, hlc1, hcm1⟩ := hown.words
  subst he0
  have HW := hide (fun (x : World) (hx : Below w1.heap.size w1 x) => hw1.below hx (Nat.le_refl _))
  have HZ := hide hz1
  have HB := hide (fun (x : World) (hx : Below w1.heap.size w1 x) => hb1.trans (hx.mono hb1.size))
  have H1 : Hid (Below w1.heap.size w1 w1) := Below.refl _ _
  have HO := hide hown
  clear hw1 hz1 hown hb1 HS
  have HHI := hide (fun (x : World) (hx : Below w1.heap.size w1 x) (j : Int) (h1 : -9223372036854775808 ≤ j) (h2 : j ≤ 9223372036854775807) => has15 L (by have := HL.out; omega) HF.out a1 c1 j h1 h2 x (HW.out _ hx))
  have HH := hide (fun (x : World) (hx : Below w1.heap.size w1 x) (j : Nat) (hj : j ≤ 1048576) => has15 L (by have := HL.out; omega) HF.out a1 c1 (j : Int) (by omega) (by omega) x (HW.out _ hx))
  simp only [hasAns_nat] at HH
  have HL2 : Hid (L.length ≤ 1099511627) := by show L.length ≤ _; have := HL.out; omega
  have HL3 : Hid (L.length ≤ 1099511627776) := by show L.length ≤ _; have := HL.out; omega
  obtain ⟨k, hk⟩ : ∃ k, L.length = k := ⟨_, rfl⟩
  have HK := hide hk
  have hk20 : k ≤ 20 := by have := HL.out; omega
  rw [hk] at hlc1 HH HHI ⊢
  clear hk
  have hfm : (x : Int) % (64 * (k : Int) + 1) = ((x % (64 * k + 1) : Nat) : Int) := by simp
  have hf0 : x % (64 * k + 1) ≤ 64 * k := by have := Nat.mod_lt x (show 0 < 64 * k + 1 by omega); omega
  generalize x % (64 * k + 1) = f at *
  have hgm : (y : Int) % (64 * (k : Int) - (f : Int) + 1) = ((y % (64 * k - f + 1) : Nat) : Int) := by
    rw [show (64 * (k : Int) - (f : Int) + 1) = ((64 * k - f + 1 : Nat) : Int) from by omega]; simp
  have hg0 : y % (64 * k - f + 1) ≤ 64 * k - f := by have := Nat.mod_lt y (show 0 < 64 * k - f + 1 by omega); omega
  generalize y % (64 * k - f + 1) = g at *
  have hfg : f + g ≤ 64 * k := by omega
  have c2 := turn10In 3 (Nat.le_refl _) L HL3.out HF.out a1 c1 HZ.out f g (by rw [HK.out]; exact hfg) on w1 (HW.out _ H1.out)
  rw [HK.out] at c2
  have C2 := hide (callsIn_wide.1 c2)
  clear c2
  go_wp2_with fail
  refine C2.out.mono ?_
  clear C2
  rintro e1 w2 ⟨v2, he1, ho2, hb2⟩
  have H2 : Hid (Below w1.heap.size w1 w2) := hb2
  obtain ⟨a2, c2, rfl, hw2, _⟩ := ho2.words
  subst he1
  have hXL : (Bitm.turnTo L f on g).length = k := by rw [Bitm.turnTo_len, HK.out]
  have HXF := hide (Bitm.turnTo_fit HF.out f on g)
  have HTH := hide (turned_has L f g on (by rw [HK.out]; exact hfg))
  obtain ⟨XL, hXX⟩ : ∃ XL, Bitm.turnTo L f on g = XL := ⟨_, rfl⟩
  rw [hXX] at hXL HXF HTH hw2 ⊢
  have HXH := hide (fun (x : World) (hx : Below w2.heap.size w2 x) (j : Int) (h1 : -9223372036854775808 ≤ j) (h2 : j ≤ 9223372036854775807) => has15 XL (by omega) HXF.out a2 c2 j h1 h2 x (hw2.below hx (Nat.le_refl _)))
  rw [hXL] at HXH ⊢
  clear hXL hXX hw2 hb2 ho2
  go_wp2
  go_loopw [14] (fun i wr => ∃ t : Int, i = .int .i64 t ∧ -1 ≤ t ∧ t ≤ 64 * (k : Int) + 1 ∧ Hid (Below w2.heap.size w2 wr)) (fun i _ => (64 * (k : Int) + 1 - intOf i).toNat)
  case atStart => exact ⟨-1, rfl, by omega, by omega, Below.refl _ _⟩
  case round =>
    obtain ⟨t, rfl, ht1, ht2, hBr⟩ := hrel
    have H9 : Hid (Below w1.heap.size w1 wr) := H2.out.trans (hBr.out.mono H2.out.size)
    by_cases hlt : t ≤ 64 * (k : Int)
    · have cA := hide (HHI.out _ H9.out t (by omega) (by omega))
      have cB := fun q => hide (HXH.out _ (below_drewN hBr.out q) t (by omega) (by omega))
      have hth := HTH.out t
      by_cases h1 : (f : Int) ≤ t
      · by_cases h2 : t < (f : Int) + (g : Int)
        · rw [if_pos ⟨h1, h2⟩] at hth
          rw [hth] at cB
          clear hth
          generalize hasAns L t = hl0 at *
          go_wp2_with fail
          refine cA.out.mono ?_
          rintro e8 w5 ⟨rfl, q5, rfl⟩
          go_wp2_with fail
          refine (cB q5).out.mono ?_
          rintro e8 w6 ⟨rfl, q6, rfl⟩
          go_wp2
          go_roundw
          case rel => exact ⟨t + 1, by go_num, by omega, by omega, below_drewN hBr.out _⟩
          case measure => simp [intOf]; omega
        · rw [if_neg (fun h => h2 h.2)] at hth
          rw [hth] at cB
          clear hth
          generalize hasAns L t = hl0 at *
          go_wp2_with fail
          refine cA.out.mono ?_
          rintro e8 w5 ⟨rfl, q5, rfl⟩
          go_wp2_with fail
          refine (cB q5).out.mono ?_
          rintro e8 w6 ⟨rfl, q6, rfl⟩
          go_wp2
          go_roundw
          case rel => exact ⟨t + 1, by go_num, by omega, by omega, below_drewN hBr.out _⟩
          case measure => simp [intOf]; omega
      · rw [if_neg (fun h => h1 h.1)] at hth
        rw [hth] at cB
        clear hth
        generalize hasAns L t = hl0 at *
        go_wp2_with fail
        refine cA.out.mono ?_
        rintro e8 w5 ⟨rfl, q5, rfl⟩
        go_wp2_with fail
        refine (cB q5).out.mono ?_
        rintro e8 w6 ⟨rfl, q6, rfl⟩
        go_wp2
        go_roundw
        case rel => exact ⟨t + 1, by go_num, by omega, by omega, below_drewN hBr.out _⟩
        case measure => simp [intOf]; omega
    · have c3 := turn10 L HL3.out HF.out a1 c1 HZ.out (f : Int) (64 * (k : Int) - (f : Int) + 1) (by omega) (by omega) (by omega) (by omega) on wr (HW.out _ H9.out)
      rw [HK.out, turnOk_no _ _ _ (by omega)] at c3
      go_wp2_with fail
      refine c3.mono ?_
      clear c3
      rintro e1 w7 ⟨v7, he7, ho7, hb7⟩
      have H7 : Hid (Below w1.heap.size w1 w7) := H9.out.trans (hb7.mono H9.out.size)
      obtain ⟨a7, c7, rfl, _⟩ := ho7.words
      subst he7
      clear ho7 hb7
      go_wp2_with fail
      refine (awake22 _ (HT.out _ (HB.out _ H7.out))).mono ?_
      rintro e9 wz ⟨rfl, hbz⟩
      have HZZ : Hid (Below w.heap.size w wz) := (HB.out _ H7.out).trans (hbz.mono (HB.out _ H7.out).size)
      clear hbz
      go_wp2
      go_ret
      exact ⟨rfl, HZZ.out⟩

set_option maxRecDepth 100000 in
theorem lifted (os : Os) (started : os.Started) (H : Type) (enc : TypeId × Value → H) :
    ReturnsInHanded {} Tryd.checked os 5 .any (fun w args => (Rows.bitmapTurnSpec.pre enc Tryd.prog Tryd.f5 [] false w args ∧ laidMetH Tryd.prog laidL w) ∧ sizedMet enc Tryd.prog Tryd.f5 (OpenSpec.ofChange Rows.bitmapTurnSpec) false w args)
      (Rows.bitmapTurnSpec.post enc Tryd.prog Tryd.f5 false true false false) := by
  refine returnsInHanded_of_change_and (C := Tryd.checked) (X := fun w _ => laidMetH Tryd.prog laidL w) (fun _ _ _ hh h => h.of_heap hh) own started (by kernel_rfl) Tryd.func5
    (ChangeSpec.witness_shaped (enc := enc) (C := Tryd.checked) (os := os) (X := fun w _ => laidMetH Tryd.prog laidL w) false (World.doorLaid Tryd.prog 400 os) #[.slice none 0 0, .int .u16 0, .int .u16 0, .bool false] 8 rfl (World.shaped_of_RefB (by kernel_rfl) (by kernel_rfl)) (by kernel_rfl) (by kernel_rfl) (by kernel_rfl) (door_met os _)) ?_
  intro W base args ds gs before hval0 hW _ _ hL _
  have hval : ∀ (j : Nat) t v, Tryd.f5.params[j]? = some t → args[j]? = some v → Value.okWide Tryd.prog W .any base t v := hval0
  have hW' := hW
  obtain ⟨p, q, hA0, hV, rfl, hfz, hnd⟩ := hW
  have hA : DataW.TrodAll enc Tryd.prog W 0 (fun _ => true) true Tryd.f5.params.toList args.toList ds p := hA0
  rw [Tryd.params5] at hA hval
  obtain ⟨v0, vs0, d0, ds0, p0, q0, hargs, rfl, rfl, h0, r0⟩ := trodAll_cons hA
  obtain ⟨v1, vs1, d1, ds1, p1, q1, rfl, rfl, rfl, h1, r1⟩ := trodAll_cons r0
  obtain ⟨v2, vs2, d2, ds2, p2, q2, rfl, rfl, rfl, h2, r2⟩ := trodAll_cons r1
  obtain ⟨v3, vs3, d3, ds3, p3, q3, rfl, rfl, rfl, h3, r3⟩ := trodAll_cons r2
  obtain ⟨rfl, rfl, rfl⟩ := trodAll_nil r3
  obtain rfl : args = #[v0, v1, v2, v3] := by cases args; simp_all
  obtain ⟨rfl, rfl⟩ := trodVars_none hV
  have h0k := h0
  have lt0 : ∀ x ∈ p0, x.block < W.heap.size := fun x hx => hW'.lt x (by simp [hx])
  obtain ⟨l0_0, l0_1, l0_2, rfl, f0_0, f0_1, f0_2, f0_3, f0_4⟩ := open_words (hval 0 22 v0 rfl rfl) h0
  obtain ⟨a1, rfl, rfl, rfl, w1⟩ := open_int Tryd.underlying44 (hval 1 44 v1 rfl rfl) h1
  obtain ⟨a2, rfl, rfl, rfl, w2⟩ := open_int Tryd.underlying44 (hval 2 44 v2 rfl rfl) h2
  obtain ⟨a3, rfl, rfl, rfl⟩ := open_bool Tryd.underlying4 (hval 3 4 v3 rfl rfl) h3
  clear hA0 hval0
  obtain ⟨x1, hx1, rfl⟩ := u16_nat w1
  obtain ⟨x2, hx2, rfl⟩ := u16_nat w2
  refine (walk l0_0 l0_1 l0_2 f0_0 f0_1 f0_2 f0_3 x1 hx1 x2 hx2 a3 W f0_4 (tab_of_laid hL)).mono fun e W' ⟨he, bel⟩ => ?_
  subst he
  exact ⟨_, rfl, _, _, _, [], _, [], hW', trodAll_mk1 (shut_bool Tryd.underlying4 _), (trodAll_cons_mk (Below.trod laidOut (by kernel_rfl) (of_decide_eq_true (by kernel_rfl)) h0k bel lt0) (trodAll_cons_mk (shut_int Tryd.underlying44 w1) (trodAll_cons_mk (shut_int Tryd.underlying44 w2) (trodAll_cons_mk (shut_bool Tryd.underlying4 _) trodAll_mk0)))), rfl, bel.frame _, fun h => by cases h⟩

theorem over : Rows.BitmapTurnSaid :=
  OpenClaim.holds_of_wide 5 Tryd.f5 rfl rfl rfl rfl rfl rfl rfl ⟨rfl, rfl, rfl, rfl, rfl⟩ rfl rfl rfl rfl rfl (by kernel_rfl) Tryd.func5 (by kernel_rfl)
    (of_decide_eq_true (by kernel_rfl)) (by unfold Func.isWrapper; first | (rw [if_pos (by decide +kernel)]; kernel_rfl) | (rw [if_neg (by decide +kernel)]; exact ⟨rfl, rfl⟩))
    (fun os started H enc _ => lifted os started H enc)
end Go.Proofs.YtlicdlpebhalaaaDoor.bitmapTurn
namespace Go.Proofs.YtlicdlpebhalaaaDoor

theorem bitmapTurn_card : Rows.BitmapTurnCardSaid :=
  Claim7.holds_tied_plain_at .later [] [.data] true (true, "6fc65819a77c73ce99a1c081f2558f99aa8d3c850c923daa96cdcf8d21cd8057") false
    bitmapTurn.over (fun _ h => by cases h) (by kernel_rfl) (fun _ h => by cases h) bitmapTurn_row_tie rfl ⟨rfl, rfl⟩ (by kernel_rfl) rfl
    (fun f fn hf hfn => by
      obtain rfl : f = 5 := Option.some.inj ((show Tryd.prog.funcNamed Rows.bitmapTurnRow.func = some 5 by kernel_rfl).symm.trans hf) |>.symm
      obtain rfl : fn = Tryd.f5 := (Option.some.inj (Tryd.func5.symm.trans hfn)).symm
      exact ⟨by kernel_rfl, fun j t ht => by
        rw [Tryd.params5] at ht
        have hm : t ∈ [22, 44, 44, 4] := by simpa using Array.mem_of_getElem? ht
        have hall : ([22, 44, 44, 4].all fun u => !Tryd.prog.wantsStandIn u) = true := by kernel_rfl
        exact (show Tryd.prog.wantsStandIn t = false by simpa using List.all_eq_true.1 hall t hm)⟩)
    (by kernel_rfl)
end Go.Proofs.YtlicdlpebhalaaaDoor
