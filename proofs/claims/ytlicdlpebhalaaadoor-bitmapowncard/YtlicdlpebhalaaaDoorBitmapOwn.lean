/- What is handed in is as it was; what is told is new memory: the law BitmapOwn answers true at every input, and its arguments read behind the call as they read before. Condition: the listed table of math/bits is laid as the program's text lays it (the card ties it). -/
import Derived.Test.YtlicdlpebhalaaaDoorAwake3
import Derived.Test.YtlicdlpebhalaaaDoorRefTurn
import Derived.Test.YtlicdlpebhalaaaDoorRefl
import Derived.Test.YtlicdlpebhalaaaDoorLaid
namespace Go.Proofs.YtlicdlpebhalaaaDoor.bitmapOwn
open Go.ChangeShapes Go.WideShapes Go.ChangeAt Go.RowKit

theorem smallSome (l : List Nat) (a : Option Addr) (c : Nat) (hz : a = none → c = 0) (hc : l.length ≤ c) (hc2 : c ≤ maxLen) (w : World) (h : WordsIn w a l) :
    Calls Tryd.prog 9 #[.slice a l.length c] w fun e w' => ∃ v, e = .returned v ∧ ((∃ g nn cap, v = .slice (some ⟨g, 0, none⟩) nn cap) ∧ WordsOwn w' w.heap.size v (l.take 20)) ∧ Below w.heap.size w w' := by
  obtain ⟨i0, hi, hz0, hz1, hz2⟩ := info_parts infoU64
  unfold maxLen at hc2
  cases a with
  | none =>
    obtain rfl := words_none h
    obtain rfl := hz rfl
    clear hz h
    have HO := hide (owned_empty w)
    go_enter Tryd.func9, Tryd.ntmps9
    go_wp2_with (at_builtin; refine wpList_append_own_none _ rfl _ _ 22 rfl w.heap.size 39 i0 1 Tryd.underlying22 hi _ 0 [] rfl HO.out rfl ?_)
    go_ret
    exact ⟨_, rfl, ⟨⟨_, _, _, rfl⟩, HO.out⟩, (Below.refl w.heap.size w).alloc (Nat.le_refl _) _⟩
  | some ad =>
    have HO := hide (owned_empty w)
    have HN := hide (fun m => words_news (h.alloc (.cells #[] 39)) m)
    obtain ⟨n, hn⟩ : ∃ n, l.length = n := ⟨_, rfl⟩
    have HL : Hid ((l.take 20).length = min n 20) := by show (l.take 20).length = _; rw [List.length_take]; omega
    rw [hn] at hc ⊢
    clear hz hn h
    by_cases h20 : n ≤ 20
    · have HM : Hid (min n 20 = n) := by show min n 20 = n; omega
      go_enter Tryd.func9, Tryd.ntmps9
      go_wp2_with (at_builtin; refine wpList_append_own _ rfl _ _ 22 rfl w.heap.size 39 i0 (.int .u64 0) 1 8 Tryd.underlying22 hi hz0 hz1 hz2 rfl (by decide) _ 0 [] rfl HO.out ad n c (wordVals (l.take 20)) rfl (by rw [wordVals_length, HL.out, HM.out, Nat.mul_one]) (HN.out 20) (words_one _) (by unfold maxLen; omega) (by omega) (by simp) ?_; intro v' w3 hown' hgrow' hnil; have HNIL := hide hnil; clear hnil)
      go_ret
      have hO : WordsOwn w3 w.heap.size v' (l.take 20) := by
        have := HL.out
        rw [HM.out] at this
        rw [WordsOwn, this]
        simpa using hown'
      refine ⟨_, rfl, ⟨?_, hO⟩, below_new hgrow'⟩
      rcases hO.2 with ⟨e, _⟩ | ⟨g, cap, _, e, _⟩
      · have := (HNIL.out.1 e).1; cases this
      · exact ⟨g, _, cap, e⟩
    · have HM : Hid (min n 20 = 20) := by show min n 20 = 20; omega
      go_enter Tryd.func9, Tryd.ntmps9
      go_wp2_with (at_builtin; refine wpList_append_own _ rfl _ _ 22 rfl w.heap.size 39 i0 (.int .u64 0) 1 8 Tryd.underlying22 hi hz0 hz1 hz2 rfl (by decide) _ 0 [] rfl HO.out ad 20 c (wordVals (l.take 20)) rfl (by rw [wordVals_length, HL.out, HM.out, Nat.mul_one]) (HN.out 20) (words_one _) (by unfold maxLen; omega) (by omega) (by simp) ?_; intro v' w3 hown' hgrow' hnil; have HNIL := hide hnil; clear hnil)
      go_ret
      have hO : WordsOwn w3 w.heap.size v' (l.take 20) := by
        have := HL.out
        rw [HM.out] at this
        rw [WordsOwn, this]
        simpa using hown'
      refine ⟨_, rfl, ⟨?_, hO⟩, below_new hgrow'⟩
      rcases hO.2 with ⟨e, _⟩ | ⟨g, cap, _, e, _⟩
      · have := (HNIL.out.1 e).1; cases this
      · exact ⟨g, _, cap, e⟩

theorem row_below {w w' : World} {base n : Nat} {t : TypeId} {size : Nat} {v : Value} {xs : List Value} (h : w.ownsRow base t size v n xs) (hb : Below w.heap.size w w') : w'.ownsRow base t size v n xs :=
  h.kept (row := none) ⟨hb.os, hb.tape, hb.output, hb.size, fun k hk _ => hb.block k hk⟩ (by
    rcases h.2 with ⟨rfl, _⟩ | ⟨g, cap, cur, rfl, _⟩
    · exact .inl rfl
    · exact .inr (by simp [Value.ownBlock]))

/-- The first j words of X turned over. -/
def flip (X : List Nat) (j : Nat) : List Nat := (X.take j).map Plain.inv ++ X.drop j
theorem flip_zero (X : List Nat) : flip X 0 = X := by simp [flip]
theorem flip_all (X : List Nat) : flip X X.length = X.map Plain.inv := by simp [flip]
theorem flip_len (X : List Nat) (j : Nat) : (flip X j).length = X.length := by simp [flip]; omega
theorem flip_get (X : List Nat) (j : Nat) (h : j < X.length) : (flip X j).getD j 0 = X.getD j 0 := by
  unfold flip
  rw [List.getD_eq_getElem?_getD, List.getElem?_append_right (by simp; omega), List.getElem?_drop]
  simp only [List.length_map, List.length_take]
  rw [show j + (j - min j X.length) = j from by omega, List.getD_eq_getElem?_getD]
theorem flip_succ (X : List Nat) (j : Nat) (h : j < X.length) : flip X (j + 1) = (flip X j).set j (Plain.inv (X.getD j 0)) := by
  unfold flip
  have hd : X.drop j = X[j] :: X.drop (j + 1) := List.drop_eq_getElem_cons h
  have hx : X.getD j 0 = X[j] := by rw [List.getD_eq_getElem?_getD, List.getElem?_eq_getElem h]; rfl
  have hl : (List.map Plain.inv (X.take j)).length = j := by simp; omega
  rw [hx, hd, List.set_append_right _ _ (by rw [hl]; exact Nat.le_refl _), hl, Nat.sub_self, List.set_cons_zero, List.take_add_one, List.getElem?_eq_getElem h, List.map_append, List.append_assoc]
  rfl
theorem map_inv_get (X : List Nat) (j : Nat) (h : j < X.length) : (X.map Plain.inv).getD j 0 = Plain.inv (X.getD j 0) := by
  rw [List.getD_eq_getElem?_getD, List.getElem?_map, List.getD_eq_getElem?_getD, List.getElem?_eq_getElem h]
  rfl

theorem turnL_fit {L : List Nat} (h : Bitm.Fit L) (p q : Int) (on : Bool) : Bitm.Fit (turnL L p q on) := by
  unfold turnL
  split
  · exact Bitm.turnTo_fit h _ _ _
  · intro x hx; cases hx
theorem turnL_len (L : List Nat) (p q : Int) (on : Bool) : (turnL L p q on).length ≤ L.length := by
  unfold turnL
  split
  · rw [Bitm.turnTo_len]; exact Nat.le_refl _
  · simp
theorem turnL_no (L : List Nat) (p q : Int) (on : Bool) (h : turnOk L.length p q = false) : (turnL L p q on).length = 0 := by
  unfold turnL
  rw [h]
  rfl

set_option maxRecDepth 100000 in
set_option maxHeartbeats 4000000 in
theorem walk (l : List Nat) (a : Option Addr) (c : Nat) (hlc : l.length ≤ c) (hcm : c ≤ maxLen) (hf : Bitm.Fit l) (hz : a = none → c = 0) (x : Nat) (hx : x < 65536) (y : Nat) (hy : y < 65536) (on : Bool) (w : World) (hW : WordsIn w a l) (hT : Tab w) :
    Calls Tryd.prog 8 #[.slice a l.length c, .int .u16 (x : Int), .int .u16 (y : Int), .bool on] w fun e w' => e = .returned (.bool true) ∧ Below w.heap.size w w' := by
  have HS := hide (smallSome l a c hz hlc hcm w hW)
  have HF : Hid (Bitm.Fit (l.take 20)) := fun x hx => hf x (List.mem_of_mem_take hx)
  have HL : Hid ((l.take 20).length ≤ 20) := hide (by simp; omega)
  generalize l.take 20 = L at *
  generalize l.length = n0 at *
  have hpos := hT.lt
  have HT := hide (fun (x : World) (hx : Below w.heap.size w x) => hT.below hpos hx)
  clear hT hW hf hz
  go_enter Tryd.func8, Tryd.ntmps8
  go_wp2_with fail
  refine HS.out.mono ?_
  rintro e0 w1 ⟨v, he0, ⟨⟨g1, nn1, c1, rfl⟩, hown⟩, hb1⟩
  obtain ⟨a1, c1', hvv, hw1, hz1, hlc1, hcm1⟩ := hown.words
  cases hvv
  subst he0
  have HW := hide (fun (x : World) (hx : Below w1.heap.size w1 x) => hw1.below hx (Nat.le_refl _))
  have HZ := hide hz1
  have HB := hide (fun (x : World) (hx : Below w1.heap.size w1 x) => hb1.trans (hx.mono hb1.size))
  have H1 : Hid (Below w1.heap.size w1 w1) := Below.refl _ _
  have HO := hide hown
  clear hw1 hz1 hown hb1 HS
  have HHI := hide (fun (x : World) (hx : Below w1.heap.size w1 x) (j : Int) (h1 : -9223372036854775808 ≤ j) (h2 : j ≤ 9223372036854775807) => has15 L (by have := HL.out; omega) HF.out (some ⟨g1, 0, none⟩) c1 j h1 h2 x (HW.out _ hx))
  have HH := hide (fun (x : World) (hx : Below w1.heap.size w1 x) (j : Nat) (hj : j ≤ 1048576) => has15 L (by have := HL.out; omega) HF.out (some ⟨g1, 0, none⟩) c1 (j : Int) (by omega) (by omega) x (HW.out _ hx))
  simp only [hasAns_nat] at HH
  have HL2 : Hid (L.length ≤ 1099511627) := by show L.length ≤ _; have := HL.out; omega
  have HL3 : Hid (L.length ≤ 1099511627776) := by show L.length ≤ _; have := HL.out; omega
  obtain ⟨k, hk⟩ : ∃ k, L.length = k := ⟨_, rfl⟩
  have HK := hide hk
  have hk20 : k ≤ 20 := by have := HL.out; omega
  rw [hk] at hlc1 HH HHI ⊢
  clear hk
  have hpm : (x : Int) % 1300 = ((x % 1300 : Nat) : Int) := by simp
  have hqm : (y : Int) % 1300 = ((y % 1300 : Nat) : Int) := by simp
  have hp0 : x % 1300 < 1300 := by omega
  have hq0 : y % 1300 < 1300 := by omega
  generalize x % 1300 = p at *
  generalize y % 1300 = q at *
  obtain ⟨i0, hi, hz0, hz1, hz2⟩ := info_parts infoU64
  have HEM := hide (owned_empty w1)
  have HNW := hide (words_news ((HW.out _ H1.out).alloc (.cells #[] 39)) L.length)
  rw [List.take_length] at HNW
  have CT := hide (fun (z : World) (hz : Below w1.heap.size w1 z) => (show Calls Tryd.prog 10 #[.slice (some ⟨g1, 0, none⟩) k c1, .int .i64 (p : Int), .int .i64 (q : Int), .bool on] z fun e w' => ∃ v, e = .returned (.tuple #[v, .bool (turnOk k (p : Int) (q : Int))]) ∧ WordsOwn w' z.heap.size v (turnL L (p : Int) (q : Int) on) ∧ Below z.heap.size z w' from by
    have c2 := turn10 L HL3.out HF.out (some ⟨g1, 0, none⟩) c1 HZ.out (p : Int) (q : Int) (by omega) (by omega) (by omega) (by omega) on z (HW.out _ hz)
    rw [HK.out] at c2
    exact c2))
  have HXF := hide (turnL_fit HF.out (p : Int) (q : Int) on)
  have hXl : (turnL L (p : Int) (q : Int) on).length ≤ 20 := Nat.le_trans (turnL_len L _ _ on) HL.out
  have hXn := turnL_no L (p : Int) (q : Int) on
  rw [HK.out] at hXn
  generalize turnL L (p : Int) (q : Int) on = X at *
  generalize turnOk k (p : Int) (q : Int) = tok at *
  obtain ⟨n2, hn2⟩ : ∃ n2, X.length = n2 := ⟨_, rfl⟩
  have HN2 := hide hn2
  rw [hn2] at hXl hXn
  clear hn2
  go_wp2_with (at_builtin; refine wpList_append_own _ rfl _ _ 22 rfl w1.heap.size 39 i0 (.int .u64 0) 1 8 Tryd.underlying22 hi hz0 hz1 hz2 rfl (by decide) _ 0 [] rfl HEM.out ⟨g1, 0, none⟩ k c1 (wordVals L) rfl (by rw [wordVals_length, HK.out, Nat.mul_one]) HNW.out (words_one _) (by unfold maxLen; omega) (by omega) (by simp) ?_; intro v3 w3 hown' hgrow' hnil3; have HB3 := hide (below_new hgrow'); have hO3 : WordsOwn w3 w1.heap.size v3 L := (by rw [WordsOwn, HK.out]; simpa using hown'); obtain ⟨a3, c3, hv3, hw3, _⟩ := hO3.words; rw [HK.out] at hv3; subst hv3; have HW3 := hide (fun (z : World) (hz : Below w3.heap.size w3 z) => hw3.below hz (Nat.le_refl _)); clear hown' hgrow' hnil3 hO3 hw3)
  refine (CT.out w3 HB3.out).mono ?_
  rintro e4 w4 ⟨v4, he4, ho4, hb4⟩
  obtain ⟨a4, c4, hv4, _⟩ := ho4.words
  have hO4 := ho4
  rw [WordsOwn, HN2.out, hv4, HN2.out] at hO4
  rw [HN2.out] at hv4
  subst hv4
  subst he4
  have HO4 := hide hO4
  have H4 : Hid (Below w3.heap.size w3 w4) := hb4
  have H34 := hide (fun (z : World) (hz : Below w3.heap.size w3 z) => HB3.out.trans (hz.mono HB3.out.size))
  clear ho4 hO4 hb4
  have c5 := runs20 L HL2.out HF.out (some ⟨g1, 0, none⟩) c1 (y : Int) w4 (HT.out _ (HB.out _ (H34.out _ H4.out))) (HW.out _ (H34.out _ H4.out))
  rw [HK.out] at c5
  go_wp2_with fail
  refine c5.mono ?_
  clear c5
  rintro e5 w5 ⟨v5, he5, hp5, hb5⟩
  obtain ⟨a5, c5, hv5, _⟩ := hp5
  subst hv5
  subst he5
  have HO5 : Hid (w5.ownsRow w3.heap.size 39 1 (.slice a4 n2 c4) n2 (wordVals X)) := hide (row_below HO4.out hb5)
  have H5 : Hid (Below w3.heap.size w3 w5) := H4.out.trans (hb5.mono H4.out.size)
  clear hb5 HO4 H4
  generalize (Bitm.runsTo L (heldN (y : Int) k)).length = rl at *
  have c6 := next12 L HL3.out HF.out (some ⟨g1, 0, none⟩) c1 (y : Int) (x : Int) w5 (HT.out _ (HB.out _ (H34.out _ H5.out))) (HW.out _ (H34.out _ H5.out))
  rw [HK.out] at c6
  go_wp2_with fail
  refine c6.mono ?_
  clear c6
  rintro e6 w6 ⟨r6, ok6, rfl, _, hb6⟩
  have HO6 : Hid (w6.ownsRow w3.heap.size 39 1 (.slice a4 n2 c4) n2 (wordVals X)) := hide (row_below HO5.out hb6)
  have H6 : Hid (Below w3.heap.size w3 w6) := H5.out.trans (hb6.mono H5.out.size)
  clear hb6 HO5 H5
  have CS := hide (fun (z : World) (hz : Below w3.heap.size w3 z) => (show Calls Tryd.prog 14 #[.slice (some ⟨g1, 0, none⟩) k c1, .slice a3 k c3] z fun e W' => e = .returned (.bool true) ∧ ∃ q, W' = z.drewN q from by
    have c7 := sameWords14 L HL3.out (some ⟨g1, 0, none⟩) a3 c1 c3 z (HW.out _ (H34.out _ hz)) (HW3.out _ hz)
    rw [HK.out] at c7
    exact c7))
  have hn20 : tok = false → ((n2 : Int) != 0) = false := fun h => by have := hXn h; simp; omega
  clear hXn
  have hF0 := flip_zero X
  have HF0 := hide hF0
  clear hF0
  cases tok <;> (
    first | (have hn2b := hn20 rfl) | skip
    clear hn20
    go_wp2_with fail
    refine (CS.out w6 H6.out).mono ?_
    rintro e7 w7 ⟨rfl, q7, rfl⟩
    have HO7 : Hid ((w6.drewN q7).ownsRow w3.heap.size 39 1 (.slice a4 n2 c4) n2 (wordVals X)) := HO6.out
    have H7 : Hid (Below w3.heap.size w3 (w6.drewN q7)) := below_drewN H6.out q7
    generalize w6.drewN q7 = w7 at *
    go_wp2
    go_loopw [12] (fun i wr => ∃ j : Nat, i = .int .i64 (j : Int) ∧ j ≤ n2 ∧ Hid (wr.ownsRow w3.heap.size 39 1 (.slice a4 n2 c4) n2 (wordVals (flip X j)) ∧ Below w3.heap.size w3 wr)) (fun i _ => n2 - (intOf i).toNat)
    case atStart => exact ⟨0, rfl, Nat.zero_le _, by rw [HF0.out]; exact HO7.out, H7.out⟩
    case round =>
      obtain ⟨j, rfl, hjn, hH⟩ := hrel
      generalize wr = V at *
      obtain ⟨hrow, hB⟩ := hH.out
      have HBV := hide hB
      by_cases hlt : j < n2
      · have hjX : j < X.length := by rw [HN2.out]; exact hlt
        have hrow2 := hrow.2
        rcases hrow2 with ⟨_, h00⟩ | ⟨g4, cap4, cur4, hv4, hgb4, _⟩
        · omega
        · cases hv4
          have e2 := hrow.cellAt j (by omega)
          have e3 := fun z => hrow.frozenAt z
          have hst := fun u => (hrow.stored j u).1
          rw [← List.getElem?_toArray, wordVals_get _ _ (by rw [flip_len]; exact hjX), flip_get X j hjX] at e2
          have hyl := Bitm.getD_fit HXF.out j
          have hik : bits BinOp.xor IntKind.u64 (if IntKind.u64.signed = true then -1 else IntKind.u64.max) ((X.getD j 0 : Nat) : Int) = (Plain.inv (X.getD j 0) : Int) := inv_key (X.getD j 0) hyl
          have hik' := inv_key (X.getD j 0) hyl
          have HFS := hide (flip_succ X j hjX)
          have HSTT := hide hst
          clear hst hrow hH hB
          generalize X.getD j 0 = y0 at *
          go_wp2
          go_roundw
          case rel =>
            refine ⟨j + 1, by go_num, by omega, ?_, HBV.out.setCell (p := ⟨g4, j, none⟩) (by simp; omega) _⟩
            rw [HFS.out, ← wordVals_put]
            exact HSTT.out _
          case measure => simp [intOf]; omega
      · obtain rfl : j = n2 := by omega
        have HOV : Hid (V.ownsRow w3.heap.size 39 1 (.slice a4 j c4) j (wordVals (X.map Plain.inv))) := hide (by have h := hrow; rw [show flip X j = X.map Plain.inv from by rw [← HN2.out]; exact flip_all X] at h; exact h)
        clear hrow hB hH
        go_wp2_with fail
        refine (CT.out V (H34.out _ HBV.out)).mono ?_
        rintro e8 w8 ⟨v8, he8, ho8, hb8⟩
        obtain ⟨a8, c8, hv8, hw8, _⟩ := ho8.words
        rw [HN2.out] at hv8
        subst hv8
        subst he8
        have HW8 := hide hw8
        have HO8 : Hid (w8.ownsRow w3.heap.size 39 1 (.slice a4 j c4) j (wordVals (X.map Plain.inv))) := hide (row_below HOV.out hb8)
        have H8 : Hid (Below w3.heap.size w3 w8) := HBV.out.trans (hb8.mono HBV.out.size)
        clear hb8 ho8 hw8 HOV
        go_wp2
        go_loopw [15] (fun i wr => ∃ j2 q : Nat, i = .int .i64 (j2 : Int) ∧ j2 ≤ j ∧ wr = w8.drewN q) (fun i _ => j - (intOf i).toNat)
        case atStart => exact ⟨0, 0, rfl, Nat.zero_le _, rfl⟩
        case round =>
          obtain ⟨j2, q9, rfl, hj2, rfl⟩ := hrel
          by_cases hlt2 : j2 < j
          · have hjX : j2 < X.length := by rw [HN2.out]; exact hlt2
            have hrow2 := HO8.out.2
            rcases hrow2 with ⟨_, h00⟩ | ⟨g4, cap4, cur4, hv4, hgb4, _⟩
            · omega
            · cases hv4
              have e2 := HO8.out.cellAt j2 (by omega)
              rw [← List.getElem?_toArray, wordVals_get _ _ (by rw [List.length_map]; exact hjX), map_inv_get X j2 hjX] at e2
              obtain ⟨g8, o8, rfl, hg8, e8c⟩ := HW8.out.word (q := j2) hjX
              have hyl := Bitm.getD_fit HXF.out j2
              have hik : bits BinOp.xor IntKind.u64 (if IntKind.u64.signed = true then -1 else IntKind.u64.max) ((X.getD j2 0 : Nat) : Int) = (Plain.inv (X.getD j2 0) : Int) := inv_key (X.getD j2 0) hyl
              have hik' := inv_key (X.getD j2 0) hyl
              generalize X.getD j2 0 = y0 at *
              go_wp2_with fail
              go_quiet (fail)
              go_wp2
              go_roundw
              case rel => exact ⟨j2 + 1, _, by go_num, by omega, rfl⟩
              case measure => simp [intOf]; omega
          · obtain rfl : j2 = j := by omega
            go_wp2_with fail
            refine (CS.out _ (below_drewN H8.out _)).mono ?_
            rintro e9 w9 ⟨rfl, q10, rfl⟩
            have H9 : Hid (Below w1.heap.size w1 ((w8.drewN q9).drewN q10)) := H34.out _ (below_drewN (below_drewN H8.out _) _)
            generalize (w8.drewN q9).drewN q10 = w9 at *
            go_wp2_with fail
            refine (awake22 _ (HT.out _ (HB.out _ H9.out))).mono ?_
            rintro e9 wz ⟨rfl, hbz⟩
            have HZZ : Hid (Below w.heap.size w wz) := (HB.out _ H9.out).trans (hbz.mono (HB.out _ H9.out).size)
            clear hbz
            go_wp2
            go_ret
            exact ⟨rfl, HZZ.out⟩)

set_option maxRecDepth 100000 in
theorem lifted (os : Os) (started : os.Started) (H : Type) (enc : TypeId × Value → H) :
    ReturnsInHanded {} Tryd.checked os 8 .any (fun w args => (Rows.bitmapOwnSpec.pre enc Tryd.prog Tryd.f8 [] false w args ∧ laidMetH Tryd.prog laidL w) ∧ sizedMet enc Tryd.prog Tryd.f8 (OpenSpec.ofChange Rows.bitmapOwnSpec) false w args)
      (Rows.bitmapOwnSpec.post enc Tryd.prog Tryd.f8 false true false false) := by
  refine returnsInHanded_of_change_and (C := Tryd.checked) (X := fun w _ => laidMetH Tryd.prog laidL w) (fun _ _ _ hh h => h.of_heap hh) own started (by kernel_rfl) Tryd.func8
    (ChangeSpec.witness_shaped (enc := enc) (C := Tryd.checked) (os := os) (X := fun w _ => laidMetH Tryd.prog laidL w) false (World.doorLaid Tryd.prog 400 os) #[.slice none 0 0, .int .u16 0, .int .u16 0, .bool false] 8 rfl (World.shaped_of_RefB (by kernel_rfl) (by kernel_rfl)) (by kernel_rfl) (by kernel_rfl) (by kernel_rfl) (door_met os _)) ?_
  intro W base args ds gs before hval0 hW _ _ hL _
  have hval : ∀ (j : Nat) t v, Tryd.f8.params[j]? = some t → args[j]? = some v → Value.okWide Tryd.prog W .any base t v := hval0
  have hW' := hW
  obtain ⟨p, q, hA0, hV, rfl, hfz, hnd⟩ := hW
  have hA : DataW.TrodAll enc Tryd.prog W 0 (fun _ => true) true Tryd.f8.params.toList args.toList ds p := hA0
  rw [Tryd.params8] at hA hval
  obtain ⟨v0, vs0, d0, ds0, p0, q0, hargs, rfl, rfl, h0, r0⟩ := trodAll_cons hA
  obtain ⟨v1, vs1, d1, ds1, p1, q1, rfl, rfl, rfl, h1, r1⟩ := trodAll_cons r0
  obtain ⟨v2, vs2, d2, ds2, p2, q2, rfl, rfl, rfl, h2, r2⟩ := trodAll_cons r1
  obtain ⟨v3, vs3, d3, ds3, p3, q3, rfl, rfl, rfl, h3, r3⟩ := trodAll_cons r2
  obtain ⟨rfl, rfl, rfl⟩ := trodAll_nil r3
  obtain rfl : args = #[v0, v1, v2, v3] := by cases args; simp_all
  obtain ⟨rfl, rfl⟩ := trodVars_none hV
  have h0k := h0
  have lt0 : ∀ x ∈ p0, x.block < W.heap.size := fun x hx => hW'.lt x (by simp [hx])
  obtain ⟨l0_0, l0_1, l0_2, rfl, f0_0, f0_1, f0_2, f0_3, f0_4⟩ := open_words (hval 0 22 v0 rfl rfl) h0
  obtain ⟨a1, rfl, rfl, rfl, w1⟩ := open_int Tryd.underlying44 (hval 1 44 v1 rfl rfl) h1
  obtain ⟨a2, rfl, rfl, rfl, w2⟩ := open_int Tryd.underlying44 (hval 2 44 v2 rfl rfl) h2
  obtain ⟨a3, rfl, rfl, rfl⟩ := open_bool Tryd.underlying4 (hval 3 4 v3 rfl rfl) h3
  clear hA0 hval0
  obtain ⟨x1, hx1, rfl⟩ := u16_nat w1
  obtain ⟨x2, hx2, rfl⟩ := u16_nat w2
  refine (walk l0_0 l0_1 l0_2 f0_0 f0_1 f0_2 f0_3 x1 hx1 x2 hx2 a3 W f0_4 (tab_of_laid hL)).mono fun e W' ⟨he, bel⟩ => ?_
  subst he
  exact ⟨_, rfl, _, _, _, [], _, [], hW', trodAll_mk1 (shut_bool Tryd.underlying4 _), (trodAll_cons_mk (Below.trod laidOut (by kernel_rfl) (of_decide_eq_true (by kernel_rfl)) h0k bel lt0) (trodAll_cons_mk (shut_int Tryd.underlying44 w1) (trodAll_cons_mk (shut_int Tryd.underlying44 w2) (trodAll_cons_mk (shut_bool Tryd.underlying4 _) trodAll_mk0)))), rfl, bel.frame _, fun h => by cases h⟩

theorem over : Rows.BitmapOwnSaid :=
  OpenClaim.holds_of_wide 8 Tryd.f8 rfl rfl rfl rfl rfl rfl rfl ⟨rfl, rfl, rfl, rfl, rfl⟩ rfl rfl rfl rfl rfl (by kernel_rfl) Tryd.func8 (by kernel_rfl)
    (of_decide_eq_true (by kernel_rfl)) (by unfold Func.isWrapper; first | (rw [if_pos (by decide +kernel)]; kernel_rfl) | (rw [if_neg (by decide +kernel)]; exact ⟨rfl, rfl⟩))
    (fun os started H enc _ => lifted os started H enc)
end Go.Proofs.YtlicdlpebhalaaaDoor.bitmapOwn
namespace Go.Proofs.YtlicdlpebhalaaaDoor

theorem bitmapOwn_card : Rows.BitmapOwnCardSaid :=
  Claim7.holds_tied_plain_at .later [] [.data] true (true, "6fc65819a77c73ce99a1c081f2558f99aa8d3c850c923daa96cdcf8d21cd8057") false
    bitmapOwn.over (fun _ h => by cases h) (by kernel_rfl) (fun _ h => by cases h) bitmapOwn_row_tie rfl ⟨rfl, rfl⟩ (by kernel_rfl) rfl
    (fun f fn hf hfn => by
      obtain rfl : f = 8 := Option.some.inj ((show Tryd.prog.funcNamed Rows.bitmapOwnRow.func = some 8 by kernel_rfl).symm.trans hf) |>.symm
      obtain rfl : fn = Tryd.f8 := (Option.some.inj (Tryd.func8.symm.trans hfn)).symm
      exact ⟨by kernel_rfl, fun j t ht => by
        rw [Tryd.params8] at ht
        have hm : t ∈ [22, 44, 44, 4] := by simpa using Array.mem_of_getElem? ht
        have hall : ([22, 44, 44, 4].all fun u => !Tryd.prog.wantsStandIn u) = true := by kernel_rfl
        exact (show Tryd.prog.wantsStandIn t = false by simpa using List.all_eq_true.1 hall t hm)⟩)
    (by kernel_rfl)
end Go.Proofs.YtlicdlpebhalaaaDoor
