/- Whatever the words of a page hold, what they say is the document's: the law RecordWords answers true at every input, the listed table of package class being as it is. -/
import Derived.Test.YtgdliebllmgibaaDoorRecAwake
import Derived.Test.YtgdliebllmgibaaDoorRecPlay
import Derived.Test.YtgdliebllmgibaaDoorPlayNew
import Derived.Test.YtgdliebllmgibaaDoorLaidK
namespace Go.Proofs.YtgdliebllmgibaaDoor.recordWords
open Go.ChangeShapes Go.WideShapes Go.ChangeAt Go.RowKit

theorem words91 : (Lay.words ((9 : Nat) : Int) 1).toNat = (Lay.words 9 1).toNat ∧ (Lay.words 9 1).toNat ≤ 65536 := ⟨rfl, by decide⟩

set_option maxRecDepth 100000 in
set_option maxHeartbeats 16000000 in
theorem mainC (st : Nat) (hst : st < 18446744073709551616) (ba : Nat) (hba : ba < 18446744073709551616) (al : Nat) (hal : al < 18446744073709551616) (mk : Nat) (hmk : mk < 18446744073709551616) (pg : Nat) (hpg : pg < 256) (h1 : ba / 256 ≤ 4096) (h2 : ba % 256 ≤ 14) (w : World) (hCT : ClsTab w) :
    Calls Tryd.prog 4 #[.int .u64 (st : Int), .int .u64 (ba : Int), .int .u64 (al : Int), .int .u64 (mk : Int), .int .u8 (pg : Int)] w fun e w' => e = .returned (.bool true) ∧ Below w.heap.size w w' := by
  obtain ⟨p, hp⟩ : ∃ p : Nat, pg % 9 = p := ⟨_, rfl⟩
  have hp9 : p < 9 := by omega
  have hpi : (pg : Int) % 9 = (p : Int) := by omega
  obtain ⟨st', hst'⟩ : ∃ x : Nat, st % 17179869184 = x := ⟨_, rfl⟩
  have hsti : (st : Int) % 17179869184 = (st' : Int) := by omega
  have hst9 : st' < 18446744073709551616 := by omega
  have d4096_0 : decide (ba / 256 > 4096) = false := by simp; omega
  have d4096_1 : decide (4096 < ba / 256) = false := by simp; omega
  have d4096_2 : decide ((ba : Int) / 256 > (4096 : Int)) = false := by simp; omega
  have d4096_3 : decide ((4096 : Int) < (ba : Int) / 256) = false := by simp; omega
  have d14_0 : decide (ba % 256 > 14) = false := by simp; omega
  have d14_1 : decide (14 < ba % 256) = false := by simp; omega
  have d14_2 : decide ((ba : Int) % 256 > (14 : Int)) = false := by simp; omega
  have d14_3 : decide ((14 : Int) < (ba : Int) % 256) = false := by simp; omega
  have HA := hide (fun (u : World) (ho : Own Nought w u) => plArenas Loc.nought ho 9 1 (by decide))
  have HAW := hide (fun u (hu : Below w.heap.size w u) => awake14 u (hCT.grown hu))
  obtain ⟨s0, hs0⟩ : ∃ s0, St.first (Lay.words ((9 : Nat) : Int) 1).toNat = s0 := ⟨_, rfl⟩
  have hl0 : s0.words.length = (Lay.words 9 1).toNat := by rw [← hs0]; decide
  rw [hs0] at HA
  generalize ([(kOf 0 (9 : Nat), ([] : List Nat).getD 0 0, ())] : RL) = rl at *
  rw [show ((9 : Nat) : Int) = 9 from rfl] at HA
  obtain ⟨i0, hi0⟩ : ∃ i0, Rec.at5 1 p = i0 := ⟨_, rfl⟩
  have HW : Hid (∀ (k : Int) (j : Nat), k = 9 + (j : Int) → j < 5 → (Lay.page 9 1 k (p : Int)).1 = ((i0 + j : Nat) : Int)) := hide (fun k j hk hj => by rw [page5 (by decide) p (by omega) k j hk hj, hi0])
  have hat := (at_lt (P := 9) (T := 1) (by decide) p (by omega)).2
  rw [hi0, ← hl0] at hat
  obtain ⟨n, hn⟩ : ∃ n, s0.words.length = n := ⟨_, rfl⟩
  rw [hn] at hat hl0
  have HL : Hid (∀ s : St, s.words.length = n → ∀ j, j < 5 → i0 + j < s.words.length) := hide (fun s hs j hj => by rw [hs]; exact hat j hj)
  have HL9 : Hid (n ≤ 65536) := hide (by rw [hl0]; exact words91.2)
  have HN := hide hl0
  obtain ⟨s1, e1⟩ : ∃ s1, s0.put (i0 + 0) st' = s1 := ⟨_, rfl⟩
  obtain ⟨s2, e2⟩ : ∃ s2, s1.put (i0 + 1) ba = s2 := ⟨_, rfl⟩
  obtain ⟨s3, e3⟩ : ∃ s3, s2.put (i0 + 3) al = s3 := ⟨_, rfl⟩
  obtain ⟨s4, e4⟩ : ∃ s4, s3.put (i0 + 4) mk = s4 := ⟨_, rfl⟩
  have l1 : s1.words.length = n := by rw [← e1, put_words, List.length_set, hn]
  have l2 : s2.words.length = n := by rw [← e2, put_words, List.length_set, l1]
  have l3 : s3.words.length = n := by rw [← e3, put_words, List.length_set, l2]
  have l4 : s4.words.length = n := by rw [← e4, put_words, List.length_set, l3]
  have HQ : Hid ((∀ (u : World) (q p r a p' r' : Nat) (s : St), Own (Sep (AX q 9 1 p r s 9 [] 1 rl) (Sep (MX a 9 1 p' r' s 9 [] 1 rl) Nought)) w u → u.cell? ⟨a, 2, none⟩ = some (.int .i64 9) ∧ u.cell? ⟨a, 3, none⟩ = some (.int .i64 1))) := hide (fun u q p r a p' r' s hu => by
    obtain ⟨b', hM⟩ := MAt.of (hu.cast (R' := Sep (MX a 9 1 p' r' s 9 [] 1 rl) (Sep (AX q 9 1 p r s 9 [] 1 rl) Nought)) (by ac_rfl))
    exact ⟨cell_of_heap hM.hd, cell_of_heap hM.hd⟩)
  obtain ⟨x, ok, hx⟩ : ∃ x ok, Rec.read s4.words 9 1 (p : Int) = (x, ok) := ⟨_, _, rfl⟩
  obtain ⟨ls, hls⟩ : ∃ ls, Rec.upto s4.words 9 1 9 = ls := ⟨_, rfl⟩
  have hlsl : ls.length ≤ 1099511627776 := by rw [← hls]; have := Rec.upto_len s4.words 9 1 9; omega
  have HX := hide hx
  have HLS := hide hls
  have HLL := hide hlsl
  have HE := hide (And.intro e1 (And.intro e2 (And.intro e3 e4)))
  have LEN := hide (And.intro hn (And.intro l1 (And.intro l2 (And.intro l3 l4))))
  have lA : ∀ {q p r a p' r' : Nat} {s : St}, Loc (Sep (AX q 9 1 p r s 9 [] 1 rl) (Sep (MX a 9 1 p' r' s 9 [] 1 rl) Nought)) := Loc.ax.sep (Loc.mx.sep Loc.nought)
  clear hs0 hl0 hi0 hat hn e1 e2 e3 e4 l1 l2 l3 l4 hx hls hlsl hCT hp hst'
  have HB1 := hide (grown1 w (.cells #[.int .i64 9, .int .i64 1, .slice none 0 0] 29))
  go_enter Tryd.func4, Tryd.ntmps4
  go_wp2_with fail
  refine (HA.out _ ((Own.start w).below Loc.nought HB1.out)).mono ?_
  rintro e w2 ⟨q, pp, r, a, p', r', rfl, o2⟩
  have O2 := hide o2
  clear o2 HB1 HA
  go_upto_region 6 with fail
  go_upto_region 8 with fail
  have q2 : w2.cell? ⟨a, 2, none⟩ = some (.int .i64 9) := (HQ.out _ _ _ _ _ _ _ _ O2.out).1
  have q3 : w2.cell? ⟨a, 3, none⟩ = some (.int .i64 1) := (HQ.out _ _ _ _ _ _ _ _ O2.out).2
  go_wp2_with fail
  clear q2 q3
  refine (plWord 9 1 9 _ _).mono ?_
  rintro e wa2 ⟨rfl, b2⟩
  rw [HW.out 9 0 rfl (by omega)]
  have Oa2 := hide (O2.out.below lA b2)
  clear b2 O2
  go_wp2_with fail
  refine (plPut Loc.nought Oa2.out (i0 + 0) (HL.out _ LEN.out.1 0 (by omega)) (by rw [LEN.out.1]; exact HL9.out) st' (by omega) _ rfl).mono ?_
  rintro e w3 ⟨rfl, o3⟩
  have O3 := hide o3
  clear o3 Oa2
  have q2 : w3.cell? ⟨a, 2, none⟩ = some (.int .i64 9) := (HQ.out _ _ _ _ _ _ _ _ O3.out).1
  have q3 : w3.cell? ⟨a, 3, none⟩ = some (.int .i64 1) := (HQ.out _ _ _ _ _ _ _ _ O3.out).2
  go_wp2_with fail
  clear q2 q3
  refine (plWord 9 1 10 _ _).mono ?_
  rintro e wa3 ⟨rfl, b3⟩
  rw [HW.out 10 1 rfl (by omega)]
  have Oa3 := hide (O3.out.below lA b3)
  clear b3 O3
  go_wp2_with fail
  refine (plPut Loc.nought Oa3.out (i0 + 1) (HL.out _ (by rw [put_words, List.length_set]; exact LEN.out.1) 1 (by omega)) (by rw [put_words, List.length_set, LEN.out.1]; exact HL9.out) ba (by omega) _ rfl).mono ?_
  rintro e w4 ⟨rfl, o4⟩
  have O4 := hide o4
  clear o4 Oa3
  have q2 : w4.cell? ⟨a, 2, none⟩ = some (.int .i64 9) := (HQ.out _ _ _ _ _ _ _ _ O4.out).1
  have q3 : w4.cell? ⟨a, 3, none⟩ = some (.int .i64 1) := (HQ.out _ _ _ _ _ _ _ _ O4.out).2
  go_wp2_with fail
  clear q2 q3
  refine (plWord 9 1 12 _ _).mono ?_
  rintro e wa4 ⟨rfl, b4⟩
  rw [HW.out 12 3 rfl (by omega)]
  have Oa4 := hide (O4.out.below lA b4)
  clear b4 O4
  go_wp2_with fail
  refine (plPut Loc.nought Oa4.out (i0 + 3) (HL.out _ (by rw [put_words, List.length_set, put_words, List.length_set]; exact LEN.out.1) 3 (by omega)) (by rw [put_words, List.length_set, put_words, List.length_set, LEN.out.1]; exact HL9.out) al (by omega) _ rfl).mono ?_
  rintro e w5 ⟨rfl, o5⟩
  have O5 := hide o5
  clear o5 Oa4
  have q2 : w5.cell? ⟨a, 2, none⟩ = some (.int .i64 9) := (HQ.out _ _ _ _ _ _ _ _ O5.out).1
  have q3 : w5.cell? ⟨a, 3, none⟩ = some (.int .i64 1) := (HQ.out _ _ _ _ _ _ _ _ O5.out).2
  go_wp2_with fail
  clear q2 q3
  refine (plWord 9 1 13 _ _).mono ?_
  rintro e wa5 ⟨rfl, b5⟩
  rw [HW.out 13 4 rfl (by omega)]
  have Oa5 := hide (O5.out.below lA b5)
  clear b5 O5
  go_wp2_with fail
  refine (plPut Loc.nought Oa5.out (i0 + 4) (HL.out _ (by rw [put_words, List.length_set, put_words, List.length_set, put_words, List.length_set]; exact LEN.out.1) 4 (by omega)) (by rw [put_words, List.length_set, put_words, List.length_set, put_words, List.length_set, LEN.out.1]; exact HL9.out) mk (by omega) _ rfl).mono ?_
  rintro e w6 ⟨rfl, o6⟩
  have O6 := hide o6
  clear o6 Oa5
  have HEE := HE.out
  obtain ⟨e1, e2, e3, e4⟩ := HEE
  have O6' : Hid (Own (Sep (AX q 9 1 pp r s4 9 [] 1 rl) (Sep (MX a 9 1 p' r' s4 9 [] 1 rl) Nought)) w w6) := hide (by have := O6.out; rw [e1, e2, e3, e4] at this; exact this)
  clear O6 e1 e2 e3 e4
  have hl4 : s4.words.length = (Lay.words 9 1).toNat := by rw [LEN.out.2.2.2.2, HN.out]
  have HL4 := hide hl4
  clear hl4
  go_wp2_with fail
  refine (readA (ArW.of O6'.out) HL4.out (p : Int) x ok HX.out).mono ?_
  rintro e w7 ⟨rfl, b7⟩
  have O7 := hide ((O6'.out.below lA b7).below lA (grown1 w7 (.cells #[.int .i64 x.page, .int .i64 x.pages, .int .i64 x.cls, .int .i64 x.gen, .int .i64 x.ph, .int .u64 (x.alloc : Int), .int .u64 (x.mark : Int)] 45)))
  have hb16 := hide (heap_alloc_at w7 (.cells #[.int .i64 x.page, .int .i64 x.pages, .int .i64 x.cls, .int .i64 x.gen, .int .i64 x.ph, .int .u64 (x.alloc : Int), .int .u64 (x.mark : Int)] 45))
  clear b7 O6'
  unfold spanV spanC
  obtain ⟨b, hM⟩ := MAt.of (O7.out.cast (R' := Sep (MX a 9 1 p' r' s4 9 [] 1 rl) (Sep (AX q 9 1 pp r s4 9 [] 1 rl) Nought)) (by ac_rfl))
  have HM7 := hide hM
  clear hM
  go_wp2_with fail
  generalize w7.alloc (.cells #[.int .i64 x.page, .int .i64 x.pages, .int .i64 x.cls, .int .i64 x.gen, .int .i64 x.ph, .int .u64 (x.alloc : Int), .int .u64 (x.mark : Int)] 45) = w8 at *
  generalize w7.heap.size = b16 at *
  refine (rread HM7.out HL4.out (p : Int) x ok HX.out).mono ?_
  rintro e w9 ⟨rfl, b9⟩
  have O9 := hide ((O7.out.below lA b9).below lA (grown1 w9 (.cells #[.int .i64 x.page, .int .i64 x.pages, .int .i64 x.cls, .int .i64 x.gen, .int .i64 x.ph, .int .u64 (x.alloc : Int), .int .u64 (x.mark : Int)] 45)))
  have hb18 := hide (heap_alloc_at w9 (.cells #[.int .i64 x.page, .int .i64 x.pages, .int .i64 x.cls, .int .i64 x.gen, .int .i64 x.ph, .int .u64 (x.alloc : Int), .int .u64 (x.mark : Int)] 45))
  have hb16' := hide (heap_alloc_old (o := (.cells #[.int .i64 x.page, .int .i64 x.pages, .int .i64 x.cls, .int .i64 x.gen, .int .i64 x.ph, .int .u64 (x.alloc : Int), .int .u64 (x.mark : Int)] 45)) ((b9.block _ (lt_of_heap hb16.out)).trans hb16.out))
  have HM9 := hide (HM7.out.below (b9.trans ((grown1 w9 (.cells #[.int .i64 x.page, .int .i64 x.pages, .int .i64 x.cls, .int .i64 x.gen, .int .i64 x.ph, .int .u64 (x.alloc : Int), .int .u64 (x.mark : Int)] 45)).mono b9.size)))
  clear b9 O7 hb16 HM7
  unfold spanV spanC
  go_upto_region 11 with fail
  generalize w9.alloc (.cells #[.int .i64 x.page, .int .i64 x.pages, .int .i64 x.cls, .int .i64 x.gen, .int .i64 x.ph, .int .u64 (x.alloc : Int), .int .u64 (x.mark : Int)] 45) = w10 at *
  generalize w9.heap.size = b18 at *
  have x0 : w10.cell? ⟨b16, 0, none⟩ = some (.int .i64 x.page) := cell_of_heap hb16'.out
  have x1 : w10.cell? ⟨b16, 1, none⟩ = some (.int .i64 x.pages) := cell_of_heap hb16'.out
  have x2 : w10.cell? ⟨b16, 2, none⟩ = some (.int .i64 x.cls) := cell_of_heap hb16'.out
  have x3 : w10.cell? ⟨b16, 3, none⟩ = some (.int .i64 x.gen) := cell_of_heap hb16'.out
  have x4 : w10.cell? ⟨b16, 4, none⟩ = some (.int .i64 x.ph) := cell_of_heap hb16'.out
  have x5 : w10.cell? ⟨b16, 5, none⟩ = some (.int .u64 (x.alloc : Int)) := cell_of_heap hb16'.out
  have x6 : w10.cell? ⟨b16, 6, none⟩ = some (.int .u64 (x.mark : Int)) := cell_of_heap hb16'.out
  have y0 : w10.cell? ⟨b18, 0, none⟩ = some (.int .i64 x.page) := cell_of_heap hb18.out
  have y1 : w10.cell? ⟨b18, 1, none⟩ = some (.int .i64 x.pages) := cell_of_heap hb18.out
  have y2 : w10.cell? ⟨b18, 2, none⟩ = some (.int .i64 x.cls) := cell_of_heap hb18.out
  have y3 : w10.cell? ⟨b18, 3, none⟩ = some (.int .i64 x.gen) := cell_of_heap hb18.out
  have y4 : w10.cell? ⟨b18, 4, none⟩ = some (.int .i64 x.ph) := cell_of_heap hb18.out
  have y5 : w10.cell? ⟨b18, 5, none⟩ = some (.int .u64 (x.alloc : Int)) := cell_of_heap hb18.out
  have y6 : w10.cell? ⟨b18, 6, none⟩ = some (.int .u64 (x.mark : Int)) := cell_of_heap hb18.out
  go_wp2_with fail
  clear x0 x1 x2 x3 x4 x5 x6 y0 y1 y2 y3 y4 y5 y6
  refine (listA (ArW.of O9.out) HL4.out 9 rfl (by omega) ls HLS.out).mono ?_
  rintro e w11 ⟨v1, rfl, hv1, b11⟩
  have O11 := hide (O9.out.below lA b11)
  have HV1 := hide hv1
  have HM11 := hide (HM9.out.below b11)
  clear hv1 b11 O9 HM9 hb16' hb18
  go_wp2_with fail
  refine (rspans HM11.out HL4.out 9 rfl (by omega) ls HLS.out).mono ?_
  rintro e w12 ⟨v2, rfl, hv2, b12⟩
  have O12 := hide (O11.out.below lA b12)
  have HV2 := hide hv2
  have HV1' := hide (HV1.out.below b12)
  clear hv2 b12 O11 HM11 HV1
  go_wp2_with fail
  refine (sameSpans _ v1 v2 ls HV1'.out HV2.out HLL.out).mono ?_
  rintro e w13 ⟨rfl, nn, rfl⟩
  have HB13 := hide ((O12.out.below lA ((Alike.drewN w12 nn).below _)).back)
  clear O12 HV1' HV2
  generalize w12.drewN nn = w13 at *
  go_wp2_with fail
  refine (HAW.out _ HB13.out).mono ?_
  rintro e w14 ⟨rfl, b14⟩
  have HB14 := hide (HB13.out.trans (b14.mono HB13.out.size))
  clear b14 HB13
  go_wp2
  go_ret
  exact ⟨rfl, HB14.out⟩

set_option maxRecDepth 100000 in
set_option maxHeartbeats 16000000 in
theorem mainA (st : Nat) (hst : st < 18446744073709551616) (ba : Nat) (hba : ba < 18446744073709551616) (al : Nat) (hal : al < 18446744073709551616) (mk : Nat) (hmk : mk < 18446744073709551616) (pg : Nat) (hpg : pg < 256) (h1 : 4096 < ba / 256) (w : World) (hCT : ClsTab w) :
    Calls Tryd.prog 4 #[.int .u64 (st : Int), .int .u64 (ba : Int), .int .u64 (al : Int), .int .u64 (mk : Int), .int .u8 (pg : Int)] w fun e w' => e = .returned (.bool true) ∧ Below w.heap.size w w' := by
  obtain ⟨p, hp⟩ : ∃ p : Nat, pg % 9 = p := ⟨_, rfl⟩
  have hp9 : p < 9 := by omega
  have hpi : (pg : Int) % 9 = (p : Int) := by omega
  obtain ⟨st', hst'⟩ : ∃ x : Nat, st % 17179869184 = x := ⟨_, rfl⟩
  have hsti : (st : Int) % 17179869184 = (st' : Int) := by omega
  have hst9 : st' < 18446744073709551616 := by omega
  have d4096_0 : decide (ba / 256 > 4096) = true := by simp; omega
  have d4096_1 : decide (4096 < ba / 256) = true := by simp; omega
  have d4096_2 : decide ((ba : Int) / 256 > (4096 : Int)) = true := by simp; omega
  have d4096_3 : decide ((4096 : Int) < (ba : Int) / 256) = true := by simp; omega
  obtain ⟨bb, hbb⟩ : ∃ x : Nat, ba % 256 % 15 = x := ⟨_, rfl⟩
  have hbi : (ba : Int) % 256 % 15 = (bb : Int) := by omega
  have hbb9 : bb < 18446744073709551616 := by omega
  have HA := hide (fun (u : World) (ho : Own Nought w u) => plArenas Loc.nought ho 9 1 (by decide))
  have HAW := hide (fun u (hu : Below w.heap.size w u) => awake14 u (hCT.grown hu))
  obtain ⟨s0, hs0⟩ : ∃ s0, St.first (Lay.words ((9 : Nat) : Int) 1).toNat = s0 := ⟨_, rfl⟩
  have hl0 : s0.words.length = (Lay.words 9 1).toNat := by rw [← hs0]; decide
  rw [hs0] at HA
  generalize ([(kOf 0 (9 : Nat), ([] : List Nat).getD 0 0, ())] : RL) = rl at *
  rw [show ((9 : Nat) : Int) = 9 from rfl] at HA
  obtain ⟨i0, hi0⟩ : ∃ i0, Rec.at5 1 p = i0 := ⟨_, rfl⟩
  have HW : Hid (∀ (k : Int) (j : Nat), k = 9 + (j : Int) → j < 5 → (Lay.page 9 1 k (p : Int)).1 = ((i0 + j : Nat) : Int)) := hide (fun k j hk hj => by rw [page5 (by decide) p (by omega) k j hk hj, hi0])
  have hat := (at_lt (P := 9) (T := 1) (by decide) p (by omega)).2
  rw [hi0, ← hl0] at hat
  obtain ⟨n, hn⟩ : ∃ n, s0.words.length = n := ⟨_, rfl⟩
  rw [hn] at hat hl0
  have HL : Hid (∀ s : St, s.words.length = n → ∀ j, j < 5 → i0 + j < s.words.length) := hide (fun s hs j hj => by rw [hs]; exact hat j hj)
  have HL9 : Hid (n ≤ 65536) := hide (by rw [hl0]; exact words91.2)
  have HN := hide hl0
  obtain ⟨s1, e1⟩ : ∃ s1, s0.put (i0 + 0) st' = s1 := ⟨_, rfl⟩
  obtain ⟨s2, e2⟩ : ∃ s2, s1.put (i0 + 1) bb = s2 := ⟨_, rfl⟩
  obtain ⟨s3, e3⟩ : ∃ s3, s2.put (i0 + 3) al = s3 := ⟨_, rfl⟩
  obtain ⟨s4, e4⟩ : ∃ s4, s3.put (i0 + 4) mk = s4 := ⟨_, rfl⟩
  have l1 : s1.words.length = n := by rw [← e1, put_words, List.length_set, hn]
  have l2 : s2.words.length = n := by rw [← e2, put_words, List.length_set, l1]
  have l3 : s3.words.length = n := by rw [← e3, put_words, List.length_set, l2]
  have l4 : s4.words.length = n := by rw [← e4, put_words, List.length_set, l3]
  have HQ : Hid ((∀ (u : World) (q p r a p' r' : Nat) (s : St), Own (Sep (AX q 9 1 p r s 9 [] 1 rl) (Sep (MX a 9 1 p' r' s 9 [] 1 rl) Nought)) w u → u.cell? ⟨a, 2, none⟩ = some (.int .i64 9) ∧ u.cell? ⟨a, 3, none⟩ = some (.int .i64 1))) := hide (fun u q p r a p' r' s hu => by
    obtain ⟨b', hM⟩ := MAt.of (hu.cast (R' := Sep (MX a 9 1 p' r' s 9 [] 1 rl) (Sep (AX q 9 1 p r s 9 [] 1 rl) Nought)) (by ac_rfl))
    exact ⟨cell_of_heap hM.hd, cell_of_heap hM.hd⟩)
  obtain ⟨x, ok, hx⟩ : ∃ x ok, Rec.read s4.words 9 1 (p : Int) = (x, ok) := ⟨_, _, rfl⟩
  obtain ⟨ls, hls⟩ : ∃ ls, Rec.upto s4.words 9 1 9 = ls := ⟨_, rfl⟩
  have hlsl : ls.length ≤ 1099511627776 := by rw [← hls]; have := Rec.upto_len s4.words 9 1 9; omega
  have HX := hide hx
  have HLS := hide hls
  have HLL := hide hlsl
  have HE := hide (And.intro e1 (And.intro e2 (And.intro e3 e4)))
  have LEN := hide (And.intro hn (And.intro l1 (And.intro l2 (And.intro l3 l4))))
  have lA : ∀ {q p r a p' r' : Nat} {s : St}, Loc (Sep (AX q 9 1 p r s 9 [] 1 rl) (Sep (MX a 9 1 p' r' s 9 [] 1 rl) Nought)) := Loc.ax.sep (Loc.mx.sep Loc.nought)
  clear hs0 hl0 hi0 hat hn e1 e2 e3 e4 l1 l2 l3 l4 hx hls hlsl hCT hp hst'
  have HB1 := hide (grown1 w (.cells #[.int .i64 9, .int .i64 1, .slice none 0 0] 29))
  go_enter Tryd.func4, Tryd.ntmps4
  go_wp2_with fail
  refine (HA.out _ ((Own.start w).below Loc.nought HB1.out)).mono ?_
  rintro e w2 ⟨q, pp, r, a, p', r', rfl, o2⟩
  have O2 := hide o2
  clear o2 HB1 HA
  go_upto_region 6 with fail
  go_upto_region 8 with fail
  have q2 : w2.cell? ⟨a, 2, none⟩ = some (.int .i64 9) := (HQ.out _ _ _ _ _ _ _ _ O2.out).1
  have q3 : w2.cell? ⟨a, 3, none⟩ = some (.int .i64 1) := (HQ.out _ _ _ _ _ _ _ _ O2.out).2
  go_wp2_with fail
  clear q2 q3
  refine (plWord 9 1 9 _ _).mono ?_
  rintro e wa2 ⟨rfl, b2⟩
  rw [HW.out 9 0 rfl (by omega)]
  have Oa2 := hide (O2.out.below lA b2)
  clear b2 O2
  go_wp2_with fail
  refine (plPut Loc.nought Oa2.out (i0 + 0) (HL.out _ LEN.out.1 0 (by omega)) (by rw [LEN.out.1]; exact HL9.out) st' (by omega) _ rfl).mono ?_
  rintro e w3 ⟨rfl, o3⟩
  have O3 := hide o3
  clear o3 Oa2
  have q2 : w3.cell? ⟨a, 2, none⟩ = some (.int .i64 9) := (HQ.out _ _ _ _ _ _ _ _ O3.out).1
  have q3 : w3.cell? ⟨a, 3, none⟩ = some (.int .i64 1) := (HQ.out _ _ _ _ _ _ _ _ O3.out).2
  go_wp2_with fail
  clear q2 q3
  refine (plWord 9 1 10 _ _).mono ?_
  rintro e wa3 ⟨rfl, b3⟩
  rw [HW.out 10 1 rfl (by omega)]
  have Oa3 := hide (O3.out.below lA b3)
  clear b3 O3
  go_wp2_with fail
  refine (plPut Loc.nought Oa3.out (i0 + 1) (HL.out _ (by rw [put_words, List.length_set]; exact LEN.out.1) 1 (by omega)) (by rw [put_words, List.length_set, LEN.out.1]; exact HL9.out) bb (by omega) _ rfl).mono ?_
  rintro e w4 ⟨rfl, o4⟩
  have O4 := hide o4
  clear o4 Oa3
  have q2 : w4.cell? ⟨a, 2, none⟩ = some (.int .i64 9) := (HQ.out _ _ _ _ _ _ _ _ O4.out).1
  have q3 : w4.cell? ⟨a, 3, none⟩ = some (.int .i64 1) := (HQ.out _ _ _ _ _ _ _ _ O4.out).2
  go_wp2_with fail
  clear q2 q3
  refine (plWord 9 1 12 _ _).mono ?_
  rintro e wa4 ⟨rfl, b4⟩
  rw [HW.out 12 3 rfl (by omega)]
  have Oa4 := hide (O4.out.below lA b4)
  clear b4 O4
  go_wp2_with fail
  refine (plPut Loc.nought Oa4.out (i0 + 3) (HL.out _ (by rw [put_words, List.length_set, put_words, List.length_set]; exact LEN.out.1) 3 (by omega)) (by rw [put_words, List.length_set, put_words, List.length_set, LEN.out.1]; exact HL9.out) al (by omega) _ rfl).mono ?_
  rintro e w5 ⟨rfl, o5⟩
  have O5 := hide o5
  clear o5 Oa4
  have q2 : w5.cell? ⟨a, 2, none⟩ = some (.int .i64 9) := (HQ.out _ _ _ _ _ _ _ _ O5.out).1
  have q3 : w5.cell? ⟨a, 3, none⟩ = some (.int .i64 1) := (HQ.out _ _ _ _ _ _ _ _ O5.out).2
  go_wp2_with fail
  clear q2 q3
  refine (plWord 9 1 13 _ _).mono ?_
  rintro e wa5 ⟨rfl, b5⟩
  rw [HW.out 13 4 rfl (by omega)]
  have Oa5 := hide (O5.out.below lA b5)
  clear b5 O5
  go_wp2_with fail
  refine (plPut Loc.nought Oa5.out (i0 + 4) (HL.out _ (by rw [put_words, List.length_set, put_words, List.length_set, put_words, List.length_set]; exact LEN.out.1) 4 (by omega)) (by rw [put_words, List.length_set, put_words, List.length_set, put_words, List.length_set, LEN.out.1]; exact HL9.out) mk (by omega) _ rfl).mono ?_
  rintro e w6 ⟨rfl, o6⟩
  have O6 := hide o6
  clear o6 Oa5
  have HEE := HE.out
  obtain ⟨e1, e2, e3, e4⟩ := HEE
  have O6' : Hid (Own (Sep (AX q 9 1 pp r s4 9 [] 1 rl) (Sep (MX a 9 1 p' r' s4 9 [] 1 rl) Nought)) w w6) := hide (by have := O6.out; rw [e1, e2, e3, e4] at this; exact this)
  clear O6 e1 e2 e3 e4
  have hl4 : s4.words.length = (Lay.words 9 1).toNat := by rw [LEN.out.2.2.2.2, HN.out]
  have HL4 := hide hl4
  clear hl4
  go_wp2_with fail
  refine (readA (ArW.of O6'.out) HL4.out (p : Int) x ok HX.out).mono ?_
  rintro e w7 ⟨rfl, b7⟩
  have O7 := hide ((O6'.out.below lA b7).below lA (grown1 w7 (.cells #[.int .i64 x.page, .int .i64 x.pages, .int .i64 x.cls, .int .i64 x.gen, .int .i64 x.ph, .int .u64 (x.alloc : Int), .int .u64 (x.mark : Int)] 45)))
  have hb16 := hide (heap_alloc_at w7 (.cells #[.int .i64 x.page, .int .i64 x.pages, .int .i64 x.cls, .int .i64 x.gen, .int .i64 x.ph, .int .u64 (x.alloc : Int), .int .u64 (x.mark : Int)] 45))
  clear b7 O6'
  unfold spanV spanC
  obtain ⟨b, hM⟩ := MAt.of (O7.out.cast (R' := Sep (MX a 9 1 p' r' s4 9 [] 1 rl) (Sep (AX q 9 1 pp r s4 9 [] 1 rl) Nought)) (by ac_rfl))
  have HM7 := hide hM
  clear hM
  go_wp2_with fail
  generalize w7.alloc (.cells #[.int .i64 x.page, .int .i64 x.pages, .int .i64 x.cls, .int .i64 x.gen, .int .i64 x.ph, .int .u64 (x.alloc : Int), .int .u64 (x.mark : Int)] 45) = w8 at *
  generalize w7.heap.size = b16 at *
  refine (rread HM7.out HL4.out (p : Int) x ok HX.out).mono ?_
  rintro e w9 ⟨rfl, b9⟩
  have O9 := hide ((O7.out.below lA b9).below lA (grown1 w9 (.cells #[.int .i64 x.page, .int .i64 x.pages, .int .i64 x.cls, .int .i64 x.gen, .int .i64 x.ph, .int .u64 (x.alloc : Int), .int .u64 (x.mark : Int)] 45)))
  have hb18 := hide (heap_alloc_at w9 (.cells #[.int .i64 x.page, .int .i64 x.pages, .int .i64 x.cls, .int .i64 x.gen, .int .i64 x.ph, .int .u64 (x.alloc : Int), .int .u64 (x.mark : Int)] 45))
  have hb16' := hide (heap_alloc_old (o := (.cells #[.int .i64 x.page, .int .i64 x.pages, .int .i64 x.cls, .int .i64 x.gen, .int .i64 x.ph, .int .u64 (x.alloc : Int), .int .u64 (x.mark : Int)] 45)) ((b9.block _ (lt_of_heap hb16.out)).trans hb16.out))
  have HM9 := hide (HM7.out.below (b9.trans ((grown1 w9 (.cells #[.int .i64 x.page, .int .i64 x.pages, .int .i64 x.cls, .int .i64 x.gen, .int .i64 x.ph, .int .u64 (x.alloc : Int), .int .u64 (x.mark : Int)] 45)).mono b9.size)))
  clear b9 O7 hb16 HM7
  unfold spanV spanC
  go_upto_region 11 with fail
  generalize w9.alloc (.cells #[.int .i64 x.page, .int .i64 x.pages, .int .i64 x.cls, .int .i64 x.gen, .int .i64 x.ph, .int .u64 (x.alloc : Int), .int .u64 (x.mark : Int)] 45) = w10 at *
  generalize w9.heap.size = b18 at *
  have x0 : w10.cell? ⟨b16, 0, none⟩ = some (.int .i64 x.page) := cell_of_heap hb16'.out
  have x1 : w10.cell? ⟨b16, 1, none⟩ = some (.int .i64 x.pages) := cell_of_heap hb16'.out
  have x2 : w10.cell? ⟨b16, 2, none⟩ = some (.int .i64 x.cls) := cell_of_heap hb16'.out
  have x3 : w10.cell? ⟨b16, 3, none⟩ = some (.int .i64 x.gen) := cell_of_heap hb16'.out
  have x4 : w10.cell? ⟨b16, 4, none⟩ = some (.int .i64 x.ph) := cell_of_heap hb16'.out
  have x5 : w10.cell? ⟨b16, 5, none⟩ = some (.int .u64 (x.alloc : Int)) := cell_of_heap hb16'.out
  have x6 : w10.cell? ⟨b16, 6, none⟩ = some (.int .u64 (x.mark : Int)) := cell_of_heap hb16'.out
  have y0 : w10.cell? ⟨b18, 0, none⟩ = some (.int .i64 x.page) := cell_of_heap hb18.out
  have y1 : w10.cell? ⟨b18, 1, none⟩ = some (.int .i64 x.pages) := cell_of_heap hb18.out
  have y2 : w10.cell? ⟨b18, 2, none⟩ = some (.int .i64 x.cls) := cell_of_heap hb18.out
  have y3 : w10.cell? ⟨b18, 3, none⟩ = some (.int .i64 x.gen) := cell_of_heap hb18.out
  have y4 : w10.cell? ⟨b18, 4, none⟩ = some (.int .i64 x.ph) := cell_of_heap hb18.out
  have y5 : w10.cell? ⟨b18, 5, none⟩ = some (.int .u64 (x.alloc : Int)) := cell_of_heap hb18.out
  have y6 : w10.cell? ⟨b18, 6, none⟩ = some (.int .u64 (x.mark : Int)) := cell_of_heap hb18.out
  go_wp2_with fail
  clear x0 x1 x2 x3 x4 x5 x6 y0 y1 y2 y3 y4 y5 y6
  refine (listA (ArW.of O9.out) HL4.out 9 rfl (by omega) ls HLS.out).mono ?_
  rintro e w11 ⟨v1, rfl, hv1, b11⟩
  have O11 := hide (O9.out.below lA b11)
  have HV1 := hide hv1
  have HM11 := hide (HM9.out.below b11)
  clear hv1 b11 O9 HM9 hb16' hb18
  go_wp2_with fail
  refine (rspans HM11.out HL4.out 9 rfl (by omega) ls HLS.out).mono ?_
  rintro e w12 ⟨v2, rfl, hv2, b12⟩
  have O12 := hide (O11.out.below lA b12)
  have HV2 := hide hv2
  have HV1' := hide (HV1.out.below b12)
  clear hv2 b12 O11 HM11 HV1
  go_wp2_with fail
  refine (sameSpans _ v1 v2 ls HV1'.out HV2.out HLL.out).mono ?_
  rintro e w13 ⟨rfl, nn, rfl⟩
  have HB13 := hide ((O12.out.below lA ((Alike.drewN w12 nn).below _)).back)
  clear O12 HV1' HV2
  generalize w12.drewN nn = w13 at *
  go_wp2_with fail
  refine (HAW.out _ HB13.out).mono ?_
  rintro e w14 ⟨rfl, b14⟩
  have HB14 := hide (HB13.out.trans (b14.mono HB13.out.size))
  clear b14 HB13
  go_wp2
  go_ret
  exact ⟨rfl, HB14.out⟩

set_option maxRecDepth 100000 in
set_option maxHeartbeats 16000000 in
theorem mainB (st : Nat) (hst : st < 18446744073709551616) (ba : Nat) (hba : ba < 18446744073709551616) (al : Nat) (hal : al < 18446744073709551616) (mk : Nat) (hmk : mk < 18446744073709551616) (pg : Nat) (hpg : pg < 256) (h1 : ba / 256 ≤ 4096) (h2 : 14 < ba % 256) (w : World) (hCT : ClsTab w) :
    Calls Tryd.prog 4 #[.int .u64 (st : Int), .int .u64 (ba : Int), .int .u64 (al : Int), .int .u64 (mk : Int), .int .u8 (pg : Int)] w fun e w' => e = .returned (.bool true) ∧ Below w.heap.size w w' := by
  obtain ⟨p, hp⟩ : ∃ p : Nat, pg % 9 = p := ⟨_, rfl⟩
  have hp9 : p < 9 := by omega
  have hpi : (pg : Int) % 9 = (p : Int) := by omega
  obtain ⟨st', hst'⟩ : ∃ x : Nat, st % 17179869184 = x := ⟨_, rfl⟩
  have hsti : (st : Int) % 17179869184 = (st' : Int) := by omega
  have hst9 : st' < 18446744073709551616 := by omega
  have d4096_0 : decide (ba / 256 > 4096) = false := by simp; omega
  have d4096_1 : decide (4096 < ba / 256) = false := by simp; omega
  have d4096_2 : decide ((ba : Int) / 256 > (4096 : Int)) = false := by simp; omega
  have d4096_3 : decide ((4096 : Int) < (ba : Int) / 256) = false := by simp; omega
  have d14_0 : decide (ba % 256 > 14) = true := by simp; omega
  have d14_1 : decide (14 < ba % 256) = true := by simp; omega
  have d14_2 : decide ((ba : Int) % 256 > (14 : Int)) = true := by simp; omega
  have d14_3 : decide ((14 : Int) < (ba : Int) % 256) = true := by simp; omega
  obtain ⟨bb, hbb⟩ : ∃ x : Nat, ba % 256 % 15 = x := ⟨_, rfl⟩
  have hbi : (ba : Int) % 256 % 15 = (bb : Int) := by omega
  have hbb9 : bb < 18446744073709551616 := by omega
  have HA := hide (fun (u : World) (ho : Own Nought w u) => plArenas Loc.nought ho 9 1 (by decide))
  have HAW := hide (fun u (hu : Below w.heap.size w u) => awake14 u (hCT.grown hu))
  obtain ⟨s0, hs0⟩ : ∃ s0, St.first (Lay.words ((9 : Nat) : Int) 1).toNat = s0 := ⟨_, rfl⟩
  have hl0 : s0.words.length = (Lay.words 9 1).toNat := by rw [← hs0]; decide
  rw [hs0] at HA
  generalize ([(kOf 0 (9 : Nat), ([] : List Nat).getD 0 0, ())] : RL) = rl at *
  rw [show ((9 : Nat) : Int) = 9 from rfl] at HA
  obtain ⟨i0, hi0⟩ : ∃ i0, Rec.at5 1 p = i0 := ⟨_, rfl⟩
  have HW : Hid (∀ (k : Int) (j : Nat), k = 9 + (j : Int) → j < 5 → (Lay.page 9 1 k (p : Int)).1 = ((i0 + j : Nat) : Int)) := hide (fun k j hk hj => by rw [page5 (by decide) p (by omega) k j hk hj, hi0])
  have hat := (at_lt (P := 9) (T := 1) (by decide) p (by omega)).2
  rw [hi0, ← hl0] at hat
  obtain ⟨n, hn⟩ : ∃ n, s0.words.length = n := ⟨_, rfl⟩
  rw [hn] at hat hl0
  have HL : Hid (∀ s : St, s.words.length = n → ∀ j, j < 5 → i0 + j < s.words.length) := hide (fun s hs j hj => by rw [hs]; exact hat j hj)
  have HL9 : Hid (n ≤ 65536) := hide (by rw [hl0]; exact words91.2)
  have HN := hide hl0
  obtain ⟨s1, e1⟩ : ∃ s1, s0.put (i0 + 0) st' = s1 := ⟨_, rfl⟩
  obtain ⟨s2, e2⟩ : ∃ s2, s1.put (i0 + 1) bb = s2 := ⟨_, rfl⟩
  obtain ⟨s3, e3⟩ : ∃ s3, s2.put (i0 + 3) al = s3 := ⟨_, rfl⟩
  obtain ⟨s4, e4⟩ : ∃ s4, s3.put (i0 + 4) mk = s4 := ⟨_, rfl⟩
  have l1 : s1.words.length = n := by rw [← e1, put_words, List.length_set, hn]
  have l2 : s2.words.length = n := by rw [← e2, put_words, List.length_set, l1]
  have l3 : s3.words.length = n := by rw [← e3, put_words, List.length_set, l2]
  have l4 : s4.words.length = n := by rw [← e4, put_words, List.length_set, l3]
  have HQ : Hid ((∀ (u : World) (q p r a p' r' : Nat) (s : St), Own (Sep (AX q 9 1 p r s 9 [] 1 rl) (Sep (MX a 9 1 p' r' s 9 [] 1 rl) Nought)) w u → u.cell? ⟨a, 2, none⟩ = some (.int .i64 9) ∧ u.cell? ⟨a, 3, none⟩ = some (.int .i64 1))) := hide (fun u q p r a p' r' s hu => by
    obtain ⟨b', hM⟩ := MAt.of (hu.cast (R' := Sep (MX a 9 1 p' r' s 9 [] 1 rl) (Sep (AX q 9 1 p r s 9 [] 1 rl) Nought)) (by ac_rfl))
    exact ⟨cell_of_heap hM.hd, cell_of_heap hM.hd⟩)
  obtain ⟨x, ok, hx⟩ : ∃ x ok, Rec.read s4.words 9 1 (p : Int) = (x, ok) := ⟨_, _, rfl⟩
  obtain ⟨ls, hls⟩ : ∃ ls, Rec.upto s4.words 9 1 9 = ls := ⟨_, rfl⟩
  have hlsl : ls.length ≤ 1099511627776 := by rw [← hls]; have := Rec.upto_len s4.words 9 1 9; omega
  have HX := hide hx
  have HLS := hide hls
  have HLL := hide hlsl
  have HE := hide (And.intro e1 (And.intro e2 (And.intro e3 e4)))
  have LEN := hide (And.intro hn (And.intro l1 (And.intro l2 (And.intro l3 l4))))
  have lA : ∀ {q p r a p' r' : Nat} {s : St}, Loc (Sep (AX q 9 1 p r s 9 [] 1 rl) (Sep (MX a 9 1 p' r' s 9 [] 1 rl) Nought)) := Loc.ax.sep (Loc.mx.sep Loc.nought)
  clear hs0 hl0 hi0 hat hn e1 e2 e3 e4 l1 l2 l3 l4 hx hls hlsl hCT hp hst'
  have HB1 := hide (grown1 w (.cells #[.int .i64 9, .int .i64 1, .slice none 0 0] 29))
  go_enter Tryd.func4, Tryd.ntmps4
  go_wp2_with fail
  refine (HA.out _ ((Own.start w).below Loc.nought HB1.out)).mono ?_
  rintro e w2 ⟨q, pp, r, a, p', r', rfl, o2⟩
  have O2 := hide o2
  clear o2 HB1 HA
  go_upto_region 6 with fail
  go_upto_region 8 with fail
  have q2 : w2.cell? ⟨a, 2, none⟩ = some (.int .i64 9) := (HQ.out _ _ _ _ _ _ _ _ O2.out).1
  have q3 : w2.cell? ⟨a, 3, none⟩ = some (.int .i64 1) := (HQ.out _ _ _ _ _ _ _ _ O2.out).2
  go_wp2_with fail
  clear q2 q3
  refine (plWord 9 1 9 _ _).mono ?_
  rintro e wa2 ⟨rfl, b2⟩
  rw [HW.out 9 0 rfl (by omega)]
  have Oa2 := hide (O2.out.below lA b2)
  clear b2 O2
  go_wp2_with fail
  refine (plPut Loc.nought Oa2.out (i0 + 0) (HL.out _ LEN.out.1 0 (by omega)) (by rw [LEN.out.1]; exact HL9.out) st' (by omega) _ rfl).mono ?_
  rintro e w3 ⟨rfl, o3⟩
  have O3 := hide o3
  clear o3 Oa2
  have q2 : w3.cell? ⟨a, 2, none⟩ = some (.int .i64 9) := (HQ.out _ _ _ _ _ _ _ _ O3.out).1
  have q3 : w3.cell? ⟨a, 3, none⟩ = some (.int .i64 1) := (HQ.out _ _ _ _ _ _ _ _ O3.out).2
  go_wp2_with fail
  clear q2 q3
  refine (plWord 9 1 10 _ _).mono ?_
  rintro e wa3 ⟨rfl, b3⟩
  rw [HW.out 10 1 rfl (by omega)]
  have Oa3 := hide (O3.out.below lA b3)
  clear b3 O3
  go_wp2_with fail
  refine (plPut Loc.nought Oa3.out (i0 + 1) (HL.out _ (by rw [put_words, List.length_set]; exact LEN.out.1) 1 (by omega)) (by rw [put_words, List.length_set, LEN.out.1]; exact HL9.out) bb (by omega) _ rfl).mono ?_
  rintro e w4 ⟨rfl, o4⟩
  have O4 := hide o4
  clear o4 Oa3
  have q2 : w4.cell? ⟨a, 2, none⟩ = some (.int .i64 9) := (HQ.out _ _ _ _ _ _ _ _ O4.out).1
  have q3 : w4.cell? ⟨a, 3, none⟩ = some (.int .i64 1) := (HQ.out _ _ _ _ _ _ _ _ O4.out).2
  go_wp2_with fail
  clear q2 q3
  refine (plWord 9 1 12 _ _).mono ?_
  rintro e wa4 ⟨rfl, b4⟩
  rw [HW.out 12 3 rfl (by omega)]
  have Oa4 := hide (O4.out.below lA b4)
  clear b4 O4
  go_wp2_with fail
  refine (plPut Loc.nought Oa4.out (i0 + 3) (HL.out _ (by rw [put_words, List.length_set, put_words, List.length_set]; exact LEN.out.1) 3 (by omega)) (by rw [put_words, List.length_set, put_words, List.length_set, LEN.out.1]; exact HL9.out) al (by omega) _ rfl).mono ?_
  rintro e w5 ⟨rfl, o5⟩
  have O5 := hide o5
  clear o5 Oa4
  have q2 : w5.cell? ⟨a, 2, none⟩ = some (.int .i64 9) := (HQ.out _ _ _ _ _ _ _ _ O5.out).1
  have q3 : w5.cell? ⟨a, 3, none⟩ = some (.int .i64 1) := (HQ.out _ _ _ _ _ _ _ _ O5.out).2
  go_wp2_with fail
  clear q2 q3
  refine (plWord 9 1 13 _ _).mono ?_
  rintro e wa5 ⟨rfl, b5⟩
  rw [HW.out 13 4 rfl (by omega)]
  have Oa5 := hide (O5.out.below lA b5)
  clear b5 O5
  go_wp2_with fail
  refine (plPut Loc.nought Oa5.out (i0 + 4) (HL.out _ (by rw [put_words, List.length_set, put_words, List.length_set, put_words, List.length_set]; exact LEN.out.1) 4 (by omega)) (by rw [put_words, List.length_set, put_words, List.length_set, put_words, List.length_set, LEN.out.1]; exact HL9.out) mk (by omega) _ rfl).mono ?_
  rintro e w6 ⟨rfl, o6⟩
  have O6 := hide o6
  clear o6 Oa5
  have HEE := HE.out
  obtain ⟨e1, e2, e3, e4⟩ := HEE
  have O6' : Hid (Own (Sep (AX q 9 1 pp r s4 9 [] 1 rl) (Sep (MX a 9 1 p' r' s4 9 [] 1 rl) Nought)) w w6) := hide (by have := O6.out; rw [e1, e2, e3, e4] at this; exact this)
  clear O6 e1 e2 e3 e4
  have hl4 : s4.words.length = (Lay.words 9 1).toNat := by rw [LEN.out.2.2.2.2, HN.out]
  have HL4 := hide hl4
  clear hl4
  go_wp2_with fail
  refine (readA (ArW.of O6'.out) HL4.out (p : Int) x ok HX.out).mono ?_
  rintro e w7 ⟨rfl, b7⟩
  have O7 := hide ((O6'.out.below lA b7).below lA (grown1 w7 (.cells #[.int .i64 x.page, .int .i64 x.pages, .int .i64 x.cls, .int .i64 x.gen, .int .i64 x.ph, .int .u64 (x.alloc : Int), .int .u64 (x.mark : Int)] 45)))
  have hb16 := hide (heap_alloc_at w7 (.cells #[.int .i64 x.page, .int .i64 x.pages, .int .i64 x.cls, .int .i64 x.gen, .int .i64 x.ph, .int .u64 (x.alloc : Int), .int .u64 (x.mark : Int)] 45))
  clear b7 O6'
  unfold spanV spanC
  obtain ⟨b, hM⟩ := MAt.of (O7.out.cast (R' := Sep (MX a 9 1 p' r' s4 9 [] 1 rl) (Sep (AX q 9 1 pp r s4 9 [] 1 rl) Nought)) (by ac_rfl))
  have HM7 := hide hM
  clear hM
  go_wp2_with fail
  generalize w7.alloc (.cells #[.int .i64 x.page, .int .i64 x.pages, .int .i64 x.cls, .int .i64 x.gen, .int .i64 x.ph, .int .u64 (x.alloc : Int), .int .u64 (x.mark : Int)] 45) = w8 at *
  generalize w7.heap.size = b16 at *
  refine (rread HM7.out HL4.out (p : Int) x ok HX.out).mono ?_
  rintro e w9 ⟨rfl, b9⟩
  have O9 := hide ((O7.out.below lA b9).below lA (grown1 w9 (.cells #[.int .i64 x.page, .int .i64 x.pages, .int .i64 x.cls, .int .i64 x.gen, .int .i64 x.ph, .int .u64 (x.alloc : Int), .int .u64 (x.mark : Int)] 45)))
  have hb18 := hide (heap_alloc_at w9 (.cells #[.int .i64 x.page, .int .i64 x.pages, .int .i64 x.cls, .int .i64 x.gen, .int .i64 x.ph, .int .u64 (x.alloc : Int), .int .u64 (x.mark : Int)] 45))
  have hb16' := hide (heap_alloc_old (o := (.cells #[.int .i64 x.page, .int .i64 x.pages, .int .i64 x.cls, .int .i64 x.gen, .int .i64 x.ph, .int .u64 (x.alloc : Int), .int .u64 (x.mark : Int)] 45)) ((b9.block _ (lt_of_heap hb16.out)).trans hb16.out))
  have HM9 := hide (HM7.out.below (b9.trans ((grown1 w9 (.cells #[.int .i64 x.page, .int .i64 x.pages, .int .i64 x.cls, .int .i64 x.gen, .int .i64 x.ph, .int .u64 (x.alloc : Int), .int .u64 (x.mark : Int)] 45)).mono b9.size)))
  clear b9 O7 hb16 HM7
  unfold spanV spanC
  go_upto_region 11 with fail
  generalize w9.alloc (.cells #[.int .i64 x.page, .int .i64 x.pages, .int .i64 x.cls, .int .i64 x.gen, .int .i64 x.ph, .int .u64 (x.alloc : Int), .int .u64 (x.mark : Int)] 45) = w10 at *
  generalize w9.heap.size = b18 at *
  have x0 : w10.cell? ⟨b16, 0, none⟩ = some (.int .i64 x.page) := cell_of_heap hb16'.out
  have x1 : w10.cell? ⟨b16, 1, none⟩ = some (.int .i64 x.pages) := cell_of_heap hb16'.out
  have x2 : w10.cell? ⟨b16, 2, none⟩ = some (.int .i64 x.cls) := cell_of_heap hb16'.out
  have x3 : w10.cell? ⟨b16, 3, none⟩ = some (.int .i64 x.gen) := cell_of_heap hb16'.out
  have x4 : w10.cell? ⟨b16, 4, none⟩ = some (.int .i64 x.ph) := cell_of_heap hb16'.out
  have x5 : w10.cell? ⟨b16, 5, none⟩ = some (.int .u64 (x.alloc : Int)) := cell_of_heap hb16'.out
  have x6 : w10.cell? ⟨b16, 6, none⟩ = some (.int .u64 (x.mark : Int)) := cell_of_heap hb16'.out
  have y0 : w10.cell? ⟨b18, 0, none⟩ = some (.int .i64 x.page) := cell_of_heap hb18.out
  have y1 : w10.cell? ⟨b18, 1, none⟩ = some (.int .i64 x.pages) := cell_of_heap hb18.out
  have y2 : w10.cell? ⟨b18, 2, none⟩ = some (.int .i64 x.cls) := cell_of_heap hb18.out
  have y3 : w10.cell? ⟨b18, 3, none⟩ = some (.int .i64 x.gen) := cell_of_heap hb18.out
  have y4 : w10.cell? ⟨b18, 4, none⟩ = some (.int .i64 x.ph) := cell_of_heap hb18.out
  have y5 : w10.cell? ⟨b18, 5, none⟩ = some (.int .u64 (x.alloc : Int)) := cell_of_heap hb18.out
  have y6 : w10.cell? ⟨b18, 6, none⟩ = some (.int .u64 (x.mark : Int)) := cell_of_heap hb18.out
  go_wp2_with fail
  clear x0 x1 x2 x3 x4 x5 x6 y0 y1 y2 y3 y4 y5 y6
  refine (listA (ArW.of O9.out) HL4.out 9 rfl (by omega) ls HLS.out).mono ?_
  rintro e w11 ⟨v1, rfl, hv1, b11⟩
  have O11 := hide (O9.out.below lA b11)
  have HV1 := hide hv1
  have HM11 := hide (HM9.out.below b11)
  clear hv1 b11 O9 HM9 hb16' hb18
  go_wp2_with fail
  refine (rspans HM11.out HL4.out 9 rfl (by omega) ls HLS.out).mono ?_
  rintro e w12 ⟨v2, rfl, hv2, b12⟩
  have O12 := hide (O11.out.below lA b12)
  have HV2 := hide hv2
  have HV1' := hide (HV1.out.below b12)
  clear hv2 b12 O11 HM11 HV1
  go_wp2_with fail
  refine (sameSpans _ v1 v2 ls HV1'.out HV2.out HLL.out).mono ?_
  rintro e w13 ⟨rfl, nn, rfl⟩
  have HB13 := hide ((O12.out.below lA ((Alike.drewN w12 nn).below _)).back)
  clear O12 HV1' HV2
  generalize w12.drewN nn = w13 at *
  go_wp2_with fail
  refine (HAW.out _ HB13.out).mono ?_
  rintro e w14 ⟨rfl, b14⟩
  have HB14 := hide (HB13.out.trans (b14.mono HB13.out.size))
  clear b14 HB13
  go_wp2
  go_ret
  exact ⟨rfl, HB14.out⟩

theorem walk (st : Nat) (hst : st < 18446744073709551616) (ba : Nat) (hba : ba < 18446744073709551616) (al : Nat) (hal : al < 18446744073709551616) (mk : Nat) (hmk : mk < 18446744073709551616) (pg : Nat) (hpg : pg < 256) (w : World) (hT : ClsTab w) :
    Calls Tryd.prog 4 #[.int .u64 (st : Int), .int .u64 (ba : Int), .int .u64 (al : Int), .int .u64 (mk : Int), .int .u8 (pg : Int)] w fun e w' => e = .returned (.bool true) ∧ Below w.heap.size w w' := by
  by_cases h1 : ba / 256 ≤ 4096
  · by_cases h2 : ba % 256 ≤ 14
    · exact mainC st hst ba hba al hal mk hmk pg hpg h1 h2 w hT
    · exact mainB st hst ba hba al hal mk hmk pg hpg h1 (by omega) w hT
  · exact mainA st hst ba hba al hal mk hmk pg hpg (by omega) w hT

set_option maxRecDepth 100000 in
theorem lifted (os : Os) (started : os.Started) (H : Type) (enc : TypeId × Value → H) :
    ReturnsInHanded {} Tryd.checked os 4 .any (fun w args => (Rows.recordWordsSpec.pre enc Tryd.prog Tryd.f4 [] false w args ∧ laidMetH Tryd.prog laidK w) ∧ sizedMet enc Tryd.prog Tryd.f4 (OpenSpec.ofChange Rows.recordWordsSpec) false w args)
      (Rows.recordWordsSpec.post enc Tryd.prog Tryd.f4 false true false false) := by
  refine returnsInHanded_of_change_and (C := Tryd.checked) (X := fun w _ => laidMetH Tryd.prog laidK w) (fun _ _ _ hh h => h.of_heap hh) own started (by kernel_rfl) Tryd.func4
    (ChangeSpec.witness_shaped (enc := enc) (C := Tryd.checked) (os := os) (X := fun w _ => laidMetH Tryd.prog laidK w) false (World.doorLaid Tryd.prog 400 os) #[.int .u64 0, .int .u64 0, .int .u64 0, .int .u64 0, .int .u8 0] 8 rfl (World.shaped_of_RefB (by kernel_rfl) (by kernel_rfl)) (by kernel_rfl) (by kernel_rfl) (by kernel_rfl) (door_met os _)) ?_
  intro W base args ds gs before hval0 hW _ _ hL _
  have hval : ∀ (j : Nat) t v, Tryd.f4.params[j]? = some t → args[j]? = some v → Value.okWide Tryd.prog W .any base t v := hval0
  have hW' := hW
  obtain ⟨p, q, hA0, hV, rfl, hfz, hnd⟩ := hW
  have hA : DataW.TrodAll enc Tryd.prog W 0 (fun _ => true) true Tryd.f4.params.toList args.toList ds p := hA0
  rw [Tryd.params4] at hA hval
  obtain ⟨v0, vs0, d0, ds0, p0, q0, hargs, rfl, rfl, h0, r0⟩ := trodAll_cons hA
  obtain ⟨v1, vs1, d1, ds1, p1, q1, rfl, rfl, rfl, h1, r1⟩ := trodAll_cons r0
  obtain ⟨v2, vs2, d2, ds2, p2, q2, rfl, rfl, rfl, h2, r2⟩ := trodAll_cons r1
  obtain ⟨v3, vs3, d3, ds3, p3, q3, rfl, rfl, rfl, h3, r3⟩ := trodAll_cons r2
  obtain ⟨v4, vs4, d4, ds4, p4, q4, rfl, rfl, rfl, h4, r4⟩ := trodAll_cons r3
  obtain ⟨rfl, rfl, rfl⟩ := trodAll_nil r4
  obtain rfl : args = #[v0, v1, v2, v3, v4] := by cases args; simp_all
  obtain ⟨rfl, rfl⟩ := trodVars_none hV
  obtain ⟨a0, rfl, rfl, rfl, w0⟩ := open_int Tryd.underlying22 (hval 0 22 v0 rfl rfl) h0
  obtain ⟨a1, rfl, rfl, rfl, w1⟩ := open_int Tryd.underlying22 (hval 1 22 v1 rfl rfl) h1
  obtain ⟨a2, rfl, rfl, rfl, w2⟩ := open_int Tryd.underlying22 (hval 2 22 v2 rfl rfl) h2
  obtain ⟨a3, rfl, rfl, rfl, w3⟩ := open_int Tryd.underlying22 (hval 3 22 v3 rfl rfl) h3
  obtain ⟨a4, rfl, rfl, rfl, w4⟩ := open_int Tryd.underlying5 (hval 4 5 v4 rfl rfl) h4
  clear hA0 hval0
  obtain ⟨x0, hx0, rfl⟩ := u64_nat w0
  obtain ⟨x1, hx1, rfl⟩ := u64_nat w1
  obtain ⟨x2, hx2, rfl⟩ := u64_nat w2
  obtain ⟨x3, hx3, rfl⟩ := u64_nat w3
  obtain ⟨x4, hx4, rfl⟩ := u8_nat w4
  refine (walk x0 hx0 x1 hx1 x2 hx2 x3 hx3 x4 hx4 W (tab_of_laid hL)).mono fun e W' ⟨he, bel⟩ => ?_
  subst he
  exact ⟨_, rfl, _, _, _, [], _, [], hW', trodAll_mk1 (shut_bool Tryd.underlying4 _), (trodAll_cons_mk (shut_int Tryd.underlying22 w0) (trodAll_cons_mk (shut_int Tryd.underlying22 w1) (trodAll_cons_mk (shut_int Tryd.underlying22 w2) (trodAll_cons_mk (shut_int Tryd.underlying22 w3) (trodAll_cons_mk (shut_int Tryd.underlying5 w4) trodAll_mk0))))), rfl, bel.frame _, fun h => by cases h⟩

theorem over : Rows.RecordWordsSaid :=
  OpenClaim.holds_of_wide 4 Tryd.f4 rfl rfl rfl rfl rfl rfl rfl ⟨rfl, rfl, rfl, rfl, rfl⟩ rfl rfl rfl rfl rfl (by kernel_rfl) Tryd.func4 (by kernel_rfl)
    (of_decide_eq_true (by kernel_rfl)) (by unfold Func.isWrapper; first | (rw [if_pos (by decide +kernel)]; kernel_rfl) | (rw [if_neg (by decide +kernel)]; exact ⟨rfl, rfl⟩))
    (fun os started H enc _ => lifted os started H enc)
end Go.Proofs.YtgdliebllmgibaaDoor.recordWords
namespace Go.Proofs.YtgdliebllmgibaaDoor

theorem recordWords_card : Rows.RecordWordsCardSaid :=
  Claim7.holds_tied_plain_at .later [] [.data] true (true, "2b4b426070f714df14b02f4cdba6f47ab81da080f822b34171151bea08b4b8d4") false
    recordWords.over (fun _ h => by cases h) (by kernel_rfl) (fun _ h => by cases h) recordWords_row_tie rfl ⟨rfl, rfl⟩ (by kernel_rfl) rfl
    (fun f fn hf hfn => by
      obtain rfl : f = 4 := Option.some.inj ((show Tryd.prog.funcNamed Rows.recordWordsRow.func = some 4 by kernel_rfl).symm.trans hf) |>.symm
      obtain rfl : fn = Tryd.f4 := (Option.some.inj (Tryd.func4.symm.trans hfn)).symm
      exact ⟨by kernel_rfl, fun j t ht => by
        rw [Tryd.params4] at ht
        have hm : t ∈ [22, 22, 22, 22, 5] := by simpa using Array.mem_of_getElem? ht
        have hall : ([22, 22, 22, 22, 5].all fun u => !Tryd.prog.wantsStandIn u) = true := by kernel_rfl
        exact (show Tryd.prog.wantsStandIn t = false by simpa using List.all_eq_true.1 hall t hm)⟩)
    (by kernel_rfl)
end Go.Proofs.YtgdliebllmgibaaDoor
