/- Of any list, and any numbers: whether a bit is set, the next one that is not, the list with bits turned, how many are set, the runs that are not, are the document's: the law BitmapAll answers true at every input, and its arguments read behind the call as they read before. Condition: the listed table of math/bits is laid as the program's text lays it (the card ties it). -/
import Derived.Test.YtlicdlpebhalaaaDoorAwake3
import Derived.Test.YtlicdlpebhalaaaDoorRefTurn
import Derived.Test.YtlicdlpebhalaaaDoorRefl
import Derived.Test.YtlicdlpebhalaaaDoorLaid
namespace Go.Proofs.YtlicdlpebhalaaaDoor.bitmapAll
open Go.ChangeShapes Go.WideShapes Go.ChangeAt Go.RowKit

set_option maxRecDepth 100000 in
set_option maxHeartbeats 4000000 in
theorem walk (l : List Nat) (a : Option Addr) (c : Nat) (hlc : l.length ≤ c) (hcm : c ≤ maxLen) (hf : Bitm.Fit l) (hz : a = none → c = 0) (p : Int) (hp : -9223372036854775808 ≤ p ∧ p ≤ 9223372036854775807) (n : Int) (hn : -9223372036854775808 ≤ n ∧ n ≤ 9223372036854775807) (i : Int) (hi : -9223372036854775808 ≤ i ∧ i ≤ 9223372036854775807) (on : Bool) (w : World) (hW : WordsIn w a l) (hT : Tab w) :
    Calls Tryd.prog 3 #[.slice a l.length c, .int .i64 p, .int .i64 n, .int .i64 i, .bool on] w fun e w' => e = .returned (.bool true) ∧ Below w.heap.size w w' := by
  have HS := hide (small9 l a c hz hlc hcm w hW)
  have HF : Hid (Bitm.Fit (l.take 20)) := fun x hx => hf x (List.mem_of_mem_take hx)
  have HL : Hid ((l.take 20).length ≤ 20) := hide (by simp; omega)
  generalize l.take 20 = L at *
  generalize l.length = n0 at *
  have hpos := hT.lt
  have HT := hide (fun (x : World) (hx : Below w.heap.size w x) => hT.below hpos hx)
  clear hT hW hf hz
  go_enter Tryd.func3, Tryd.ntmps3
  go_wp2_with fail
  refine HS.out.mono ?_
  rintro e w1 ⟨v, he, hown, hb1⟩
  obtain ⟨a1, c1, rfl, hw1, hz1, hlc1, hcm1⟩ := hown.words
  subst he
  have HW := hide (fun (x : World) (hx : Below w1.heap.size w1 x) => hw1.below hx (Nat.le_refl _))
  have HZ := hide hz1
  have HB := hide (fun (x : World) (hx : Below w1.heap.size w1 x) => hb1.trans (hx.mono hb1.size))
  have H1 : Hid (Below w1.heap.size w1 w1) := Below.refl _ _
  clear hw1 hz1 hown hb1 HS
  obtain ⟨k, hk⟩ : ∃ k, L.length = k := ⟨_, rfl⟩
  have HK := hide hk
  have hk20 : k ≤ 20 := by have := HL.out; omega
  rw [hk] at hlc1 ⊢
  clear hk
  go_wp2_with fail
  have c2 := turn10 L (by have := HL.out; omega) HF.out a1 c1 HZ.out p n hp.1 hp.2 hn.1 hn.2 on w1 (HW.out _ H1.out)
  rw [HK.out] at c2
  refine c2.mono ?_
  clear c2
  rintro e w2 ⟨v2, he, ho2, hb2⟩
  have H2 : Hid (Below w1.heap.size w1 w2) := hb2
  obtain ⟨a2, k2, rfl, hw2, _⟩ := ho2.words
  subst he
  have HW2 := hide hw2
  clear ho2 hw2 hb2
  go_wp2_with fail
  have c2 := rturn11 L (by have := HL.out; omega) HF.out a1 c1 HZ.out p n hp.1 hp.2 hn.1 hn.2 on w2 (HW.out _ H2.out)
  rw [HK.out] at c2
  refine c2.mono ?_
  clear c2
  rintro e w3 ⟨v3, he, ho3, hb3⟩
  have H3 : Hid (Below w1.heap.size w1 w3) := H2.out.trans (hb3.mono H2.out.size)
  have HW2' := hide (HW2.out.below hb3 (Nat.le_refl _))
  obtain ⟨a3, k3, rfl, hw3, _⟩ := ho3.words
  subst he
  have HW3 := hide hw3
  clear ho3 hw3 hb3 HW2
  go_wp2_with fail
  have c2 := next12 L (by have := HL.out; omega) HF.out a1 c1 n p w3 (HT.out _ (HB.out _ H3.out)) (HW.out _ H3.out)
  rw [HK.out] at c2
  refine c2.mono ?_
  clear c2
  rintro e w4 ⟨r, ok, rfl, hnx, hb4⟩
  have HN := hide hnx
  have H4 : Hid (Below w1.heap.size w1 w4) := H3.out.trans (hb4.mono H3.out.size)
  have HW2 := hide (HW2'.out.below hb4 (Nat.le_refl _))
  have HW3' := hide (HW3.out.below hb4 (Nat.le_refl _))
  clear hnx hb4 HW2' HW3
  go_wp2_with fail
  have c2 := rnext13 L (by have := HL.out; omega) HF.out a1 c1 n p hp.2 w4 (HW.out _ H4.out)
  rw [HK.out] at c2
  refine c2.mono ?_
  clear c2
  rintro e w5 ⟨⟨r', ok', rfl, hnx⟩, rfl⟩
  obtain ⟨rfl, rfl⟩ := HN.out.alone hnx
  clear hnx HN
  have htl : (turnL L p n on).length ≤ 20 := by
    unfold turnL
    split
    · rw [Bitm.turnTo_len]; exact HL.out
    · simp
  obtain ⟨TL, hTL⟩ : ∃ TL, turnL L p n on = TL := ⟨_, rfl⟩
  rw [hTL] at htl HW2 HW3' ⊢
  obtain ⟨tk, htk⟩ : ∃ tk, TL.length = tk := ⟨_, rfl⟩
  have HTK := hide htk
  rw [htk] at htl ⊢
  clear htk hTL
  generalize turnOk k p n = tok at *
  go_wp2_with fail
  have c2 := sameWords14 TL (by rw [HTK.out]; omega) a2 a3 k2 k3 w5 HW2.out HW3'.out
  rw [HTK.out] at c2
  refine c2.mono ?_
  clear c2 HW2 HW3'
  rintro e w6 ⟨rfl, q6, rfl⟩
  have H6 : Hid (Below w1.heap.size w1 (w5.drewN q6)) := below_drewN H4.out q6
  generalize w5.drewN q6 = w6 at *
  go_wp2_with fail
  have c2 := has15 L (by have := HL.out; omega) HF.out a1 c1 i hi.1 hi.2 w6 (HW.out _ H6.out)
  rw [HK.out] at c2
  refine c2.mono ?_
  clear c2
  rintro e w7 ⟨rfl, q7, rfl⟩
  have H7 : Hid (Below w1.heap.size w1 (w6.drewN q7)) := below_drewN H6.out q7
  generalize w6.drewN q7 = w7 at *
  go_wp2_with fail
  have c2 := rhas16 L (by have := HL.out; omega) HF.out a1 c1 i hi.1 hi.2 w7 (HW.out _ H7.out)
  rw [HK.out] at c2
  refine c2.mono ?_
  clear c2
  rintro e w8 ⟨rfl, rfl⟩
  generalize hasAns L i = hb at *
  go_wp2_with fail
  have c2 := count17 L (by have := HL.out; omega) HF.out a1 c1 n w8 (HW.out _ H7.out)
  rw [HK.out] at c2
  refine c2.mono ?_
  clear c2
  rintro e w9 ⟨rfl, hb9⟩
  have H9 : Hid (Below w1.heap.size w1 w9) := H7.out.trans (hb9.mono H7.out.size)
  clear hb9
  go_wp2_with fail
  have c2 := countAll18 L (by have := HL.out; omega) HF.out a1 c1 n w9 (HW.out _ H9.out)
  rw [HK.out] at c2
  refine c2.mono ?_
  clear c2
  rintro e w10 ⟨rfl, rfl⟩
  generalize Bitm.countTo L (heldN n k) = cn at *
  go_wp2_with fail
  have c2 := runs20 L (by have := HL.out; omega) HF.out a1 c1 n w10 (HT.out _ (HB.out _ H9.out)) (HW.out _ H9.out)
  rw [HK.out] at c2
  refine c2.mono ?_
  clear c2
  rintro e w11 ⟨v11, he, hp11, hb11⟩
  have H11 : Hid (Below w1.heap.size w1 w11) := H9.out.trans (hb11.mono H9.out.size)
  have HP11 := hide hp11
  obtain ⟨a11, c11, hv11, _⟩ := hp11
  subst hv11
  subst he
  clear hb11
  go_wp2_with fail
  have c2 := rruns21 L (by have := HL.out; omega) HF.out a1 c1 n w11 (HW.out _ H11.out)
  rw [HK.out] at c2
  refine c2.mono ?_
  clear c2
  rintro e w12 ⟨v12, he, hp12, hb12⟩
  have H12 : Hid (Below w1.heap.size w1 w12) := H11.out.trans (hb12.mono H11.out.size)
  have HP11' := hide (HP11.out.below hb12 (Nat.le_refl _))
  have HP12 := hide hp12
  obtain ⟨a12, c12, hv12, _⟩ := hp12
  subst hv12
  subst he
  have hrl := Bitm.runs_len L (heldN n k)
  have hhl := heldN_le n k
  clear hb12 HP11
  generalize Bitm.runsTo L (heldN n k) = RL at *
  go_wp2_with fail
  refine (sameRuns19 RL (by omega) _ _ w12 HP11'.out HP12.out).mono ?_
  rintro e w13 ⟨rfl, q13, rfl⟩
  have H13 : Hid (Below w1.heap.size w1 (w12.drewN q13)) := below_drewN H12.out q13
  generalize w12.drewN q13 = w13 at *
  go_wp2_with fail
  refine (awake22 _ (HT.out _ (HB.out _ H13.out))).mono ?_
  rintro e w14 ⟨rfl, hb14⟩
  have H14 : Hid (Below w.heap.size w w14) := (HB.out _ H13.out).trans (hb14.mono (HB.out _ H13.out).size)
  clear hb14
  go_wp2
  go_ret
  exact ⟨rfl, H14.out⟩

set_option maxRecDepth 100000 in
theorem lifted (os : Os) (started : os.Started) (H : Type) (enc : TypeId × Value → H) :
    ReturnsInHanded {} Tryd.checked os 3 .any (fun w args => (Rows.bitmapAllSpec.pre enc Tryd.prog Tryd.f3 [] false w args ∧ laidMetH Tryd.prog laidL w) ∧ sizedMet enc Tryd.prog Tryd.f3 (OpenSpec.ofChange Rows.bitmapAllSpec) false w args)
      (Rows.bitmapAllSpec.post enc Tryd.prog Tryd.f3 false true false false) := by
  refine returnsInHanded_of_change_and (C := Tryd.checked) (X := fun w _ => laidMetH Tryd.prog laidL w) (fun _ _ _ hh h => h.of_heap hh) own started (by kernel_rfl) Tryd.func3
    (ChangeSpec.witness_shaped (enc := enc) (C := Tryd.checked) (os := os) (X := fun w _ => laidMetH Tryd.prog laidL w) false (World.doorLaid Tryd.prog 400 os) #[.slice none 0 0, .int .i64 0, .int .i64 0, .int .i64 0, .bool false] 8 rfl (World.shaped_of_RefB (by kernel_rfl) (by kernel_rfl)) (by kernel_rfl) (by kernel_rfl) (by kernel_rfl) (door_met os _)) ?_
  intro W base args ds gs before hval0 hW _ _ hL _
  have hval : ∀ (j : Nat) t v, Tryd.f3.params[j]? = some t → args[j]? = some v → Value.okWide Tryd.prog W .any base t v := hval0
  have hW' := hW
  obtain ⟨p, q, hA0, hV, rfl, hfz, hnd⟩ := hW
  have hA : DataW.TrodAll enc Tryd.prog W 0 (fun _ => true) true Tryd.f3.params.toList args.toList ds p := hA0
  rw [Tryd.params3] at hA hval
  obtain ⟨v0, vs0, d0, ds0, p0, q0, hargs, rfl, rfl, h0, r0⟩ := trodAll_cons hA
  obtain ⟨v1, vs1, d1, ds1, p1, q1, rfl, rfl, rfl, h1, r1⟩ := trodAll_cons r0
  obtain ⟨v2, vs2, d2, ds2, p2, q2, rfl, rfl, rfl, h2, r2⟩ := trodAll_cons r1
  obtain ⟨v3, vs3, d3, ds3, p3, q3, rfl, rfl, rfl, h3, r3⟩ := trodAll_cons r2
  obtain ⟨v4, vs4, d4, ds4, p4, q4, rfl, rfl, rfl, h4, r4⟩ := trodAll_cons r3
  obtain ⟨rfl, rfl, rfl⟩ := trodAll_nil r4
  obtain rfl : args = #[v0, v1, v2, v3, v4] := by cases args; simp_all
  obtain ⟨rfl, rfl⟩ := trodVars_none hV
  have h0k := h0
  have lt0 : ∀ x ∈ p0, x.block < W.heap.size := fun x hx => hW'.lt x (by simp [hx])
  obtain ⟨l0_0, l0_1, l0_2, rfl, f0_0, f0_1, f0_2, f0_3, f0_4⟩ := open_words (hval 0 22 v0 rfl rfl) h0
  obtain ⟨a1, rfl, rfl, rfl, w1⟩ := open_int Tryd.underlying3 (hval 1 3 v1 rfl rfl) h1
  obtain ⟨a2, rfl, rfl, rfl, w2⟩ := open_int Tryd.underlying3 (hval 2 3 v2 rfl rfl) h2
  obtain ⟨a3, rfl, rfl, rfl, w3⟩ := open_int Tryd.underlying3 (hval 3 3 v3 rfl rfl) h3
  obtain ⟨a4, rfl, rfl, rfl⟩ := open_bool Tryd.underlying4 (hval 4 4 v4 rfl rfl) h4
  clear hA0 hval0
  have hx1 := i64_bd w1
  have hx2 := i64_bd w2
  have hx3 := i64_bd w3
  refine (walk l0_0 l0_1 l0_2 f0_0 f0_1 f0_2 f0_3 a1 hx1 a2 hx2 a3 hx3 a4 W f0_4 (tab_of_laid hL)).mono fun e W' ⟨he, bel⟩ => ?_
  subst he
  exact ⟨_, rfl, _, _, _, [], _, [], hW', trodAll_mk1 (shut_bool Tryd.underlying4 _), (trodAll_cons_mk (Below.trod laidOut (by kernel_rfl) (of_decide_eq_true (by kernel_rfl)) h0k bel lt0) (trodAll_cons_mk (shut_int Tryd.underlying3 w1) (trodAll_cons_mk (shut_int Tryd.underlying3 w2) (trodAll_cons_mk (shut_int Tryd.underlying3 w3) (trodAll_cons_mk (shut_bool Tryd.underlying4 _) trodAll_mk0))))), rfl, bel.frame _, fun h => by cases h⟩

theorem over : Rows.BitmapAllSaid :=
  OpenClaim.holds_of_wide 3 Tryd.f3 rfl rfl rfl rfl rfl rfl rfl ⟨rfl, rfl, rfl, rfl, rfl⟩ rfl rfl rfl rfl rfl (by kernel_rfl) Tryd.func3 (by kernel_rfl)
    (of_decide_eq_true (by kernel_rfl)) (by unfold Func.isWrapper; first | (rw [if_pos (by decide +kernel)]; kernel_rfl) | (rw [if_neg (by decide +kernel)]; exact ⟨rfl, rfl⟩))
    (fun os started H enc _ => lifted os started H enc)
end Go.Proofs.YtlicdlpebhalaaaDoor.bitmapAll
namespace Go.Proofs.YtlicdlpebhalaaaDoor

theorem bitmapAll_card : Rows.BitmapAllCardSaid :=
  Claim7.holds_tied_plain_at .later [] [.data] true (true, "6fc65819a77c73ce99a1c081f2558f99aa8d3c850c923daa96cdcf8d21cd8057") false
    bitmapAll.over (fun _ h => by cases h) (by kernel_rfl) (fun _ h => by cases h) bitmapAll_row_tie rfl ⟨rfl, rfl⟩ (by kernel_rfl) rfl
    (fun f fn hf hfn => by
      obtain rfl : f = 3 := Option.some.inj ((show Tryd.prog.funcNamed Rows.bitmapAllRow.func = some 3 by kernel_rfl).symm.trans hf) |>.symm
      obtain rfl : fn = Tryd.f3 := (Option.some.inj (Tryd.func3.symm.trans hfn)).symm
      exact ⟨by kernel_rfl, fun j t ht => by
        rw [Tryd.params3] at ht
        have hm : t ∈ [22, 3, 3, 3, 4] := by simpa using Array.mem_of_getElem? ht
        have hall : ([22, 3, 3, 3, 4].all fun u => !Tryd.prog.wantsStandIn u) = true := by kernel_rfl
        exact (show Tryd.prog.wantsStandIn t = false by simpa using List.all_eq_true.1 hall t hm)⟩)
    (by kernel_rfl)
end Go.Proofs.YtlicdlpebhalaaaDoor
