/- Alone, what is pushed last is popped first, and an empty stack has nothing, which one load tells: the law StackOrder answers true at every input, and its arguments read behind the call as they read before. -/
import Derived.Test.YtigokeocphbffaaStkInts
namespace Go.Proofs.Ytigokeocphbffaa.stackOrder
open Go.ChangeShapes Go.WideShapes Go.ChangeAt Go.RowKit

def layO (P T : Int) : Obj := .cells #[.int .i64 P, .int .i64 T] 26 (0, 0)

set_option maxRecDepth 100000 in
set_option maxHeartbeats 16000000 in
theorem main (a : Nat) (ha : a < 256) (b : Nat) (hb : b < 256) (ao : Option Addr) (len cap : Nat) (_hcap : len ≤ cap ∧ cap ≤ maxLen) (w : World) (hB : BytesIn w ao len) (n h : Nat) (hn : 1 + a % 60 = n) (hh : 8 + b % 60 = h) :
    Calls Try.prog 4 #[.int .u8 (a : Int), .int .u8 (b : Int), .slice ao len cap] w fun e w' => e = .returned (.bool true) ∧ Below w.heap.size w w' := by
  have hf := didField0
  have n1 : 1 ≤ n ∧ n ≤ 60 := by omega
  have h1 : 8 ≤ h ∧ h < 68 := by omega
  have hnI : 1 + (a : Int) % 60 = (n : Int) := by omega
  have hhI : 8 + (b : Int) % 60 = (h : Int) := by omega
  have hm : Lay.may (n : Int) 1 = true := Lay.may_iff.2 ⟨by omega, by omega, by omega, by omega⟩
  have A1 := fun (R : Res) (w0 u : World) (l : Loc R) (ho : Own R w0 u) => @anew R w0 u l ho n 1 hm [] (by simp) none 0 (fun _ => ⟨rfl, rfl⟩) (fun h => absurd rfl h)
  have S0 : Stk (n : Int) 1 h (St.first (Lay.words (n : Int) 1).toNat).words 0 [] := by
    refine ⟨hm, h1.2, St.first_len _, ?_, trivial, List.nodup_nil⟩
    rw [St.first_last _ _ (by omega)]
    show 0 = Tg.head 0 (-1)
    decide
  generalize St.first (Lay.words (n : Int) 1).toNat = s0 at *
  generalize ([(kOf 0 n, ([] : List Nat).getD 0 0, ())] : RL) = rl at *
  have HA1 := hide A1
  have HS0 := hide S0
  have HM := hide hm
  have HBY := hide hB
  have HH := hide (fun u => lawHead (b : Int) (by omega) (by omega) u)
  rw [hhI] at HH
  have bx := heap_alloc_at w (.cells #[.int .i64 (n : Int), .int .i64 1] 26)
  have HB1 := hide (grown1 w (.cells #[.int .i64 (n : Int), .int .i64 1] 26))
  have O1 := hide (Own.boNew (m := w.heap.size) (o := layO n 1) Loc.nought (Own.start w) bx (Nat.le_refl _) HB1.out)
  clear A1 S0 hm hB bx HB1 hn hh hhI
  go_enter Try.func4, Try.ntmps4
  go_wp2_with fail
  generalize w.alloc (.cells #[.int .i64 (n : Int), .int .i64 1] 26) = w1 at *
  generalize hbl : w.heap.size = bl at *
  have lB : Loc (Sep (BO bl (layO n 1)) Nought) := Loc.bo.sep Loc.nought
  refine (HA1.out _ _ _ lB O1.out).mono ?_
  rintro e w2 ⟨qa, pa, ra, rfl, o2⟩
  have O2 := hide o2
  clear o2 HA1 O1
  go_wp2_with fail
  refine (HH.out _).mono ?_
  rintro e w3 ⟨rfl, rfl⟩
  have I0 : Hid (Own (Sep (IV (.slice none 0 0) []) (Sep (AX qa (n : Int) 1 pa ra s0 n [] 1 rl) (Sep (BO bl (layO n 1)) Nought))) w w3) := hide (Own.ivNew (Loc.ax.sep lB) O2.out (intsNil w3) (fun a m c e => by cases e) (Below.refl _ _))
  clear O2
  go_wp2
  go_loopw [11, 12] (fun v i wr => ∃ (k : Nat) (L : List Int) (s : St), i = .int .i64 (k : Int) ∧ k ≤ 60 ∧ Hid (L.length ≤ k ∧ (L = [] → v = .slice none 0 0) ∧ Stk (n : Int) 1 h s.words L.length L ∧ Own (Sep (IV v L) (Sep (AX qa (n : Int) 1 pa ra s n [] 1 rl) (Sep (BO bl (layO n 1)) Nought))) w wr)) (fun _ i _ => 60 - (intOf i).toNat)
  case atStart => exact ⟨0, [], s0, rfl, by omega, by simp, fun _ => rfl, HS0.out, I0.out⟩
  case round =>
    obtain ⟨k, L, s, rfl, hk, hH⟩ := hrel
    obtain ⟨hL, hv0, hS, hO⟩ := hH.out
    clear I0 HS0 hH
    obtain ⟨va, vc, hva, -⟩ := (hO.iv (R := Sep (AX qa (n : Int) 1 pa ra s n [] 1 rl) (Sep (BO bl (layO n 1)) Nought)) rfl)
    subst hva
    have HO := hide hO
    have HS := hide hS
    have HV0 := hide hv0
    have l0 : wr.cell? ⟨bl, 0, none⟩ = some (.int .i64 (n : Int)) := cell_of_heap (hO.has (m := bl) (o := layO n 1) (R := Sep (IV (.slice va L.length vc) L) (Sep (AX qa (n : Int) 1 pa ra s n [] 1 rl) Nought)) (by ac_rfl))
    have l1 : wr.cell? ⟨bl, 1, none⟩ = some (.int .i64 1) := cell_of_heap (hO.has (m := bl) (o := layO n 1) (R := Sep (IV (.slice va L.length vc) L) (Sep (AX qa (n : Int) 1 pa ra s n [] 1 rl) Nought)) (by ac_rfl))
    by_cases hlt : k < len ∧ k < 60
    · obtain ⟨hk1, hk2⟩ := hlt
      have d1 : decide ((k : Int) < (len : Int)) = true := by simp; exact hk1
      have d2 : decide ((k : Int) < 60) = true := by simp; omega
      obtain ⟨bb, oo, x, rfl, hx⟩ := HBY.out k hk1
      have cb : wr.cell? ⟨bb, oo + k, none⟩ = some (.int .u8 (x : Int)) := (hO.back.cell (p := ⟨bb, oo + k, none⟩) hx.lt).trans hx.cell
      have hx256 := hx.hx
      obtain ⟨y, hy⟩ : ∃ y, x % n = y := ⟨_, rfl⟩
      have hyn : y < n := by rw [← hy]; exact Nat.mod_lt _ (by omega)
      have hyI : (x : Int) % (n : Int) = (y : Int) := by rw [← hy]; simp
      have hV := hide (hO.iv (R := Sep (AX qa (n : Int) 1 pa ra s n [] 1 rl) (Sep (BO bl (layO n 1)) Nought)) rfl)
      clear hO hS hv0 hx hy
      by_cases hmem : (y : Int) ∈ L
      · have HHAS := hide (lawHas wr _ L hV.out (by omega) (y : Int) true (by simpa using hmem))
        clear hmem hV l0 l1
        go_wp2_with fail
        refine HHAS.out.mono ?_
        rintro e w5 ⟨rfl, rfl⟩
        go_wp2
        go_roundw
        case rel => exact ⟨k + 1, L, s, by go_num, by omega, by omega, HV0.out, HS.out, HO.out⟩
        case measure => simp [intOf]; omega
      · have HHAS := hide (lawHas wr _ L hV.out (by omega) (y : Int) false (by simpa using hmem))
        have HMEM := hide hmem
        have hhd : Lay.isHead (n : Int) 1 (h : Int) = true := Lay.isHead_iff.2 ⟨HM.out, by omega, by omega⟩
        have hok : (Lay.page (n : Int) 1 11 (y : Int)).2 = true := by rw [next_in HM.out (by omega) (by omega)]
        have NP := hide (fun u => newPushYes (n : Int) 1 (h : Int) (y : Int) hhd hok u)
        have hne : (Lay.page (n : Int) 1 11 (y : Int)).1.toNat ≠ h := by rw [knx_at HM.out (by omega) (by omega)]; have := knx_in (T := 1) HM.out (p := (y : Int)) (by omega) (by omega); omega
        obtain ⟨M1, s1, M2, s2, M3, s3, e1, a1, b1, k1, e2, a2, b2, k2, e3, a3, b3, k3⟩ := push_three (n : Int) 1 h (y : Int) s hne
        have lA := HS.out.len
        have lb1 : s1.words.length = (Lay.words (n : Int) 1).toNat := by rw [b1]; exact lA
        have lb2 : s2.words.length = (Lay.words (n : Int) 1).toNat := by rw [b2, List.length_set]; exact lA
        have hw90 : h < (Lay.words (n : Int) 1).toNat := by have := Lay.words_bd HM.out; omega
        have hwb : s.words.getD h 0 < 18446744073709551616 := by
          rw [HS.out.head]
          have := HS.out.tops
          exact Tg.head_lt _ _ (by omega) (by omega) (by omega)
        have ST3 : Hid (Stk (n : Int) 1 h s3.words (L.length + 1) ((y : Int) :: L)) := hide (by rw [b3]; exact HS.out.push (by omega) (by omega) hmem (by omega))
        clear hhd hmem hne
        go_wp2_with fail
        refine HHAS.out.mono ?_
        rintro e w5 ⟨rfl, rfl⟩
        go_wp2_with fail
        refine (NP.out _).mono ?_
        rintro e w6 ⟨m, rfl, g1, g2, g3⟩
        have O6 := hide (Own.boNew (o := pushM (n : Int) 1 h ⟨0, 0, y⟩) (Loc.iv.sep (Loc.ax.sep lB)) HO.out g1 g2 g3)
        clear g1 g2 g3 l0 l1 HHAS NP cb hV
        have lZ : Loc (Sep (IV (.slice va L.length vc) L) (Sep (BO bl (layO n 1)) Nought)) := Loc.iv.sep lB
        have PP : ∀ j, j < 3 → ∀ (u : World), Own (Sep (BO m (pushM (n : Int) 1 h (four ⟨0, 0, y⟩ M1 M2 M3 j))) (Sep (AX qa (n : Int) 1 pa ra (four s s1 s2 s3 j) n [] 1 rl) (Sep (IV (.slice va L.length vc) L) (Sep (BO bl (layO n 1)) Nought)))) w u →
            Hid (Calls Try.prog 12 #[.pointer (some ⟨m, 0, none⟩)] u fun e u' => e = .returned (.bool false) ∧ u' = u) ∧
            ∃ kk : Int, (kk == 4) = false ∧ Hid (Calls Try.prog 11 #[.pointer (some ⟨m, 0, none⟩), .pointer (some ⟨qa, 0, none⟩)] u fun e u' => (∃ i1 i2 i3, e = .returned (.agg #[.int .i64 kk, .int .i64 i1, .int .u64 i2, .int .u64 i3])) ∧ Own (Sep (BO m (pushM (n : Int) 1 h (four ⟨0, 0, y⟩ M1 M2 M3 (j + 1)))) (Sep (AX qa (n : Int) 1 pa ra (four s s1 s2 s3 (j + 1)) n [] 1 rl) (Sep (IV (.slice va L.length vc) L) (Sep (BO bl (layO n 1)) Nought)))) w u') := by
          intro j hj u ho
          match j, hj with
          | 0, _ => exact ⟨pushDone _ _ _ _ _ _ _ _ (Own.boAt ho) false rfl, 1, rfl, (pushE lZ ho e1 k1 (by show h < s.words.length; rw [lA]; exact hw90) (by show (0 : Nat) < _; decide) (.inl rfl) hok lA).mono fun e u' ⟨h1, h2⟩ => ⟨⟨_, _, _, h1⟩, h2⟩⟩
          | 1, _ => exact ⟨pushDone _ _ _ _ _ _ _ _ (Own.boAt ho) false (by show (M1.g == 3) = false; rw [a1]; rfl), 2, rfl, (pushE lZ ho e2 k2 (by show h < s1.words.length; rw [lb1]; exact hw90) (by show M1.was < _; rw [a1]; exact hwb) (.inr (.inl (by show M1.g = 1; rw [a1]))) (by show (Lay.page (n : Int) 1 11 M1.page).2 = true; rw [a1]; exact hok) lb1).mono fun e u' ⟨h1, h2⟩ => ⟨⟨_, _, _, h1⟩, h2⟩⟩
          | 2, _ => exact ⟨pushDone _ _ _ _ _ _ _ _ (Own.boAt ho) false (by show (M2.g == 3) = false; rw [a2]; rfl), 3, rfl, (pushE lZ ho e3 k3 (by show h < s2.words.length; rw [lb2]; exact hw90) (by show M2.was < _; rw [a2]; exact hwb) (.inr (.inr (by show M2.g = 2; rw [a2]))) (by show (Lay.page (n : Int) 1 11 M2.page).2 = true; rw [a2]; exact hok) lb2).mono fun e u' ⟨h1, h2⟩ => ⟨⟨_, _, _, h1⟩, h2⟩⟩
        have I1 : Hid (Own (Sep (BO m (pushM (n : Int) 1 h (four ⟨0, 0, y⟩ M1 M2 M3 0))) (Sep (AX qa (n : Int) 1 pa ra (four s s1 s2 s3 0) n [] 1 rl) (Sep (IV (.slice va L.length vc) L) (Sep (BO bl (layO n 1)) Nought)))) w w6) := hide (O6.out.cast (by simp only [four]; ac_rfl))
        have hm3 : (four ⟨0, 0, y⟩ M1 M2 M3 3 : PushS).g = 3 := by show M3.g = 3; rw [a3]
        have hs3 : four s s1 s2 s3 3 = s3 := rfl
        have HM3 := hide hm3
        have HS3 := hide hs3
        generalize (four ⟨0, 0, y⟩ M1 M2 M3 : Nat → PushS) = FM at *
        generalize four s s1 s2 s3 = FS at *
        have HPP := hide PP
        clear PP O6 hm3 hs3 e1 a1 b1 k1 e2 a2 b2 k2 e3 a3 b3 k3 lA lb1 lb2 hw90 hwb hok HO
        go_wp2
        go_loopw [15] (fun v wr => ∃ j : Nat, v = .int .i64 (j : Int) ∧ j ≤ 3 ∧ Hid (Own (Sep (BO m (pushM (n : Int) 1 h (FM j))) (Sep (AX qa (n : Int) 1 pa ra (FS j) n [] 1 rl) (Sep (IV (.slice va L.length vc) L) (Sep (BO bl (layO n 1)) Nought)))) w wr)) (fun v _ => 3 - (intOf v).toNat)
        case atStart => exact ⟨0, rfl, by omega, I1.out⟩
        case round =>
          obtain ⟨j, rfl, hj, hJ⟩ := hrel
          by_cases hlt2 : j < 3
          · obtain ⟨T1, kk, hkk, T3⟩ := HPP.out j hlt2 _ hJ.out
            clear I1 HPP hJ
            go_wp2_with fail
            refine T1.out.mono ?_
            rintro e w13 ⟨rfl, rfl⟩
            go_wp2_with fail
            refine T3.out.mono ?_
            rintro e w15 ⟨⟨i1, i2, i3, rfl⟩, h15⟩
            have H15 := hide h15
            clear h15 T1 T3
            go_wp2
            go_roundw
            case rel => exact ⟨j + 1, by go_num, by omega, H15.out⟩
            case measure => simp [intOf]; omega
          · have hj3 : j = 3 := by omega
            subst hj3
            have o15 := hJ.out
            rw [HS3.out] at o15
            have HD := hide (pushDone _ _ _ _ _ _ _ _ (Own.boAt o15) true (by rw [HM3.out]; rfl))
            have O15 := hide (o15.drop)
            clear I1 HPP hJ HM3 HS3 o15
            go_wp2_with fail
            refine HD.out.mono ?_
            rintro e w16 ⟨rfl, rfl⟩
            have hIV := hide (O15.out.iv (R := Sep (AX qa (n : Int) 1 pa ra s3 n [] 1 rl) (Sep (BO bl (layO n 1)) Nought)) (by ac_rfl))
            obtain ⟨i0, hi, hz0, hz1, hz2⟩ := info_parts infoI12
            have hG := grown1 w16 (.cells #[.int .i64 (y : Int)] 3)
            have HSRC := hide (srcInts (hIV.out.below hG) HV0.out)
            have HOWN := hide (owns_oneI w16 (y : Int))
            have HG := hide hG
            clear hG HD hIV
            go_wp2_with (at_builtin; refine wpAppendSrc _ rfl _ _ 54 rfl w16.heap.size 3 i0 (.int .i64 0) 1 8 Try.underlying54 hi hz0 hz1 hz2 rfl (by decide) _ 1 _ rfl HOWN.out L.length _ HSRC.out (by simp [intVals]) (ints_one L) (by unfold maxLen; omega) (by omega) (by simp) ?_; intro v' w17 hown' hgrow')
            have hb17 : Below w16.heap.size w16 w17 := HG.out.trans (below_from (by simp) HOWN.out hgrow')
            have HIV : Hid (IntsV w17 v' ((y : Int) :: L)) := hide (ints_of_owns (by
              have e : intVals ((y : Int) :: L) = intVals [(y : Int)] ++ intVals L := rfl
              rw [e]; exact hown'))
            have O17 := hide (Own.ivNew (l := (y : Int) :: L) (Loc.ax.sep lB) (Own.drop (O15.out.cast (R' := Sep (IV (.slice va L.length vc) L) (Sep (AX qa (n : Int) 1 pa ra s3 n [] 1 rl) (Sep (BO bl (layO n 1)) Nought))) (by ac_rfl))) HIV.out (owns_new hown') hb17)
            clear hown' hgrow' hb17 HSRC HOWN HG O15
            go_wp2
            go_roundw
            case rel => exact ⟨k + 1, (y : Int) :: L, s3, by go_num, by omega, by rw [List.length_cons]; omega, fun e => (by cases e), ST3.out, O17.out⟩
            case measure => simp [intOf]; omega
    · have d1 : (decide ((k : Int) < (len : Int)) && decide ((k : Int) < 60)) = false := by
        by_cases q1 : k < len
        · have : ¬ k < 60 := fun q => hlt ⟨q1, q⟩
          simp; omega
        · simp; omega
      have LST := hide (hS.list n rfl)
      have LEN := hide hS.len
      have hhd : Lay.isHead (n : Int) 1 (h : Int) = true := Lay.isHead_iff.2 ⟨HM.out, by omega, by omega⟩
      have HHD := hide hhd
      have hL60 : L.length ≤ 60 := by omega
      have NPOP := hide (fun u => newPopYes (n : Int) 1 (h : Int) hhd u)
      clear hO hS hv0 hhd
      by_cases q1 : k < len
      · have q2 : decide ((k : Int) < (len : Int)) = true := by simp; exact q1
        have q3 : decide ((k : Int) < 60) = false := by simp; omega
        have q2N : decide (k < len) = true := by simp; exact q1
        have q3N : decide (k < 60) = false := by simp; omega
        clear q1 hlt d1
        go_wp2_with fail
        refine (stackList (HO.out.cast (R' := Sep (AX qa (n : Int) 1 pa ra s n [] 1 rl) (Sep (IV (.slice va L.length vc) L) (Sep (BO bl (layO n 1)) Nought))) (by ac_rfl)) h HHD.out LEN.out n rfl L LST.out).mono ?_
        rintro e w8 ⟨v8, rfl, hv8, b8⟩
        have HV8 := hide hv8
        have O8 := hide (HO.out.below (Loc.iv.sep (Loc.ax.sep lB)) b8)
        clear hv8 b8 LST LEN HO
        go_wp2_with fail
        refine (sameInts _ v8 _ L HV8.out (O8.out.iv (R := Sep (AX qa (n : Int) 1 pa ra s n [] 1 rl) (Sep (BO bl (layO n 1)) Nought)) rfl) (by omega)).mono ?_
        rintro e w9 ⟨rfl, h9⟩
        have O9 := hide (O8.out.below (Loc.iv.sep (Loc.ax.sep lB)) (h9.below _))
        have S9 : Hid (Stk (n : Int) 1 h s.words (L.length + min 0 L.length) (L.drop 0)) := hide (by simpa using HS.out)
        clear h9 HV8 O8 HV0 HS l0 l1 HBY
        have HAW := hide (fun u => awake12 u)
        go_wp2
        go_loopw [16] (fun v wr => ∃ (k : Nat) (s : St), v = .int .i64 (k : Int) ∧ k ≤ L.length + 1 ∧ Hid (Stk (n : Int) 1 h s.words (L.length + min k L.length) (L.drop k) ∧ Own (Sep (IV (.slice va L.length vc) L) (Sep (AX qa (n : Int) 1 pa ra s n [] 1 rl) (Sep (BO bl (layO n 1)) Nought))) w wr)) (fun v _ => L.length + 1 - (intOf v).toNat)
        case atStart => exact ⟨0, s, rfl, by omega, S9.out, O9.out⟩
        case round =>
          clear S9 O9
          clear s hL
          obtain ⟨k, s, rfl, hk, hH⟩ := hrel
          obtain ⟨hS, hO⟩ := hH.out
          have HO3 := hide hO
          have l0 : wr.cell? ⟨bl, 0, none⟩ = some (.int .i64 (n : Int)) := cell_of_heap (hO.has (m := bl) (o := layO n 1) (R := Sep (IV (.slice va L.length vc) L) (Sep (AX qa (n : Int) 1 pa ra s n [] 1 rl) Nought)) (by ac_rfl))
          have l1 : wr.cell? ⟨bl, 1, none⟩ = some (.int .i64 1) := cell_of_heap (hO.has (m := bl) (o := layO n 1) (R := Sep (IV (.slice va L.length vc) L) (Sep (AX qa (n : Int) 1 pa ra s n [] 1 rl) Nought)) (by ac_rfl))
          have hIV := hO.iv (R := Sep (AX qa (n : Int) 1 pa ra s n [] 1 rl) (Sep (BO bl (layO n 1)) Nought)) rfl
          have hw90 : h < (Lay.words (n : Int) 1).toNat := by have := Lay.words_bd HM.out; omega
          have lZ : Loc (Sep (IV (.slice va L.length vc) L) (Sep (BO bl (layO n 1)) Nought)) := Loc.iv.sep lB
          have lZ2 : Loc (Sep (AX qa (n : Int) 1 pa ra s n [] 1 rl) (Sep (IV (.slice va L.length vc) L) (Sep (BO bl (layO n 1)) Nought))) := Loc.ax.sep lZ
          obtain ⟨tt, htt⟩ : ∃ tt, L.length + min k L.length = tt := ⟨_, rfl⟩
          rw [htt] at hS
          have n0 := hS.len
          by_cases hle : k ≤ L.length
          · have dle : decide ((k : Int) ≤ (L.length : Int)) = true := by simp; exact hle
            by_cases hke : k = L.length
            · have dk : ((k : Int) == (L.length : Int)) = true := by simp [hke]
              have dkN : (k == L.length) = true := by simp [hke]
              have hd0 : L.drop k = [] := by rw [hke]; simp
              rw [hd0] at hS
              obtain ⟨s1, q0, ww⟩ := pop_zero hS
              have SN : Hid (Stk (n : Int) 1 h s1.words (L.length + min (k + 1) L.length) (L.drop (k + 1))) := hide (by
                rw [ww, show L.drop (k + 1) = [] from by rw [hke]; simp, show L.length + min (k + 1) L.length = tt by omega]
                exact hS)
              have lZ2 : Loc (Sep (AX qa (n : Int) 1 pa ra s1 n [] 1 rl) (Sep (IV (.slice va L.length vc) L) (Sep (BO bl (layO n 1)) Nought))) := Loc.ax.sep lZ
              clear hH hO hS hIV hd0 ww
              go_wp2_with fail
              refine (NPOP.out _).mono ?_
              rintro e w12 ⟨m, rfl, g1, g2, g3⟩
              have O12 := hide (Own.boNew (o := popM (n : Int) 1 h ⟨0, 0, 0, 0⟩) (Loc.iv.sep (Loc.ax.sep lB)) HO3.out g1 g2 g3)
              clear g1 g2 g3 l0 l1 HO3 NPOP
              have ZZ : ∀ j, j < 1 → ∀ (u : World), Own (Sep (BO m (popM (n : Int) 1 h (four (⟨0, 0, 0, 0⟩ : PopS) ⟨3, Tg.head tt (-1), -1, 0⟩ ⟨3, Tg.head tt (-1), -1, 0⟩ ⟨3, Tg.head tt (-1), -1, 0⟩ j))) (Sep (AX qa (n : Int) 1 pa ra (four s s1 s1 s1 j) n [] 1 rl) (Sep (IV (.slice va L.length vc) L) (Sep (BO bl (layO n 1)) Nought)))) w u →
                  Hid (Calls Try.prog 14 #[.pointer (some ⟨m, 0, none⟩)] u fun e u' => e = .returned (.bool false) ∧ u' = u) ∧ Hid (Calls Try.prog 15 #[.pointer (some ⟨m, 0, none⟩)] u fun e u' => e = .returned (.int .i64 (-1)) ∧ u' = u) ∧
                  Hid (Calls Try.prog 13 #[.pointer (some ⟨m, 0, none⟩), .pointer (some ⟨qa, 0, none⟩)] u fun e u' => (∃ v, e = .returned v) ∧ Own (Sep (BO m (popM (n : Int) 1 h (four (⟨0, 0, 0, 0⟩ : PopS) ⟨3, Tg.head tt (-1), -1, 0⟩ ⟨3, Tg.head tt (-1), -1, 0⟩ ⟨3, Tg.head tt (-1), -1, 0⟩ (j + 1)))) (Sep (AX qa (n : Int) 1 pa ra (four s s1 s1 s1 (j + 1)) n [] 1 rl) (Sep (IV (.slice va L.length vc) L) (Sep (BO bl (layO n 1)) Nought)))) w u') := by
                intro j hj u ho
                match j, hj with
                | 0, _ => exact ⟨popDone _ _ _ _ _ _ _ _ _ (Own.boAt ho) false rfl, popPageNo _ _ _ _ _ _ _ _ _ (Own.boAt ho) (by show ¬ ((0 : Int) = 3); decide), (popE lZ ho q0 rfl (by show h < (s).words.length; omega) (by show (0 : Nat) < _; decide) (.inl rfl) (fun hh => absurd hh (by show ¬ ((0 : Int) = 1); decide)) n0).mono fun e u' ⟨h1, h2⟩ => ⟨⟨_, h1⟩, h2⟩⟩
              have I1 : Hid (Own (Sep (BO m (popM (n : Int) 1 h (four (⟨0, 0, 0, 0⟩ : PopS) ⟨3, Tg.head tt (-1), -1, 0⟩ ⟨3, Tg.head tt (-1), -1, 0⟩ ⟨3, Tg.head tt (-1), -1, 0⟩ 0))) (Sep (AX qa (n : Int) 1 pa ra (four s s1 s1 s1 0) n [] 1 rl) (Sep (IV (.slice va L.length vc) L) (Sep (BO bl (layO n 1)) Nought)))) w w12) := hide (O12.out.cast (by simp only [four]; ac_rfl))
              have hzN : four (⟨0, 0, 0, 0⟩ : PopS) ⟨3, Tg.head tt (-1), -1, 0⟩ ⟨3, Tg.head tt (-1), -1, 0⟩ ⟨3, Tg.head tt (-1), -1, 0⟩ 1 = ⟨3, Tg.head tt (-1), -1, 0⟩ := rfl
              have htN : four s s1 s1 s1 1 = s1 := rfl
              have HZN := hide hzN
              have HTN := hide htN
              clear hzN htN
              generalize (four (⟨0, 0, 0, 0⟩ : PopS) ⟨3, Tg.head tt (-1), -1, 0⟩ ⟨3, Tg.head tt (-1), -1, 0⟩ ⟨3, Tg.head tt (-1), -1, 0⟩) = FZ at *
              generalize (four s s1 s1 s1) = FT at *
              have HZZ := hide ZZ
              clear ZZ O12 q0 n0
              go_wp2
              go_loopw [20] (fun v wr => ∃ j : Nat, v = .int .i64 (j : Int) ∧ j ≤ 1 ∧ Hid (Own (Sep (BO m (popM (n : Int) 1 h (FZ j))) (Sep (AX qa (n : Int) 1 pa ra (FT j) n [] 1 rl) (Sep (IV (.slice va L.length vc) L) (Sep (BO bl (layO n 1)) Nought)))) w wr)) (fun v _ => 1 - (intOf v).toNat)
              case atStart => exact ⟨0, rfl, by omega, I1.out⟩
              case round =>
                obtain ⟨j, rfl, hj, hJ⟩ := hrel
                by_cases hlt2 : j < 1
                · obtain ⟨T1, T2, T3⟩ := HZZ.out j hlt2 _ hJ.out
                  clear I1 HZZ hJ
                  go_wp2_with fail
                  refine T1.out.mono ?_
                  rintro e w13 ⟨rfl, rfl⟩
                  go_wp2_with fail
                  refine T2.out.mono ?_
                  rintro e w14 ⟨rfl, rfl⟩
                  go_wp2_with fail
                  refine T3.out.mono ?_
                  rintro e w15 ⟨⟨v, rfl⟩, h15⟩
                  have H15 := hide h15
                  clear h15 T1 T2 T3
                  go_wp2
                  go_roundw
                  case rel => exact ⟨j + 1, by go_num, by omega, H15.out⟩
                  case measure => simp [intOf]; omega
                · have hjN : j = 1 := by omega
                  subst hjN
                  have o15 := hJ.out
                  rw [HZN.out, HTN.out] at o15
                  have O15 := hide o15
                  have HD := hide (popDone _ _ _ _ _ _ _ _ _ (Own.boAt o15) true rfl)
                  have HPG := hide (popPage _ _ _ _ _ _ _ _ (Own.boAt o15))
                  have HNO := hide (popNo wr m (some ⟨qa, 0, none⟩) (fun u hu => mayDone u m _ _ _ _ (.pop ((hu.block _ (lt_of_heap (Own.boAt o15))).trans (Own.boAt o15))) _))
                  clear I1 HZZ hJ HZN HTN o15
                  unfold noDid at HNO
                  go_wp2_with fail
                  refine HD.out.mono ?_
                  rintro e w16 ⟨rfl, rfl⟩
                  go_wp2_with fail
                  refine HPG.out.mono ?_
                  rintro e w17 ⟨rfl, rfl⟩
                  go_wp2_with fail
                  refine HNO.out.mono ?_
                  rintro e w18 ⟨rfl, b18⟩
                  have O18 := hide (Own.drop (O15.out.below (Loc.bo.sep lZ2) b18))
                  clear O15 HD HPG HNO b18
                  go_wp2
                  go_roundw
                  case rel => exact ⟨k + 1, s1, by go_num, by omega, SN.out, O18.out.cast (by ac_rfl)⟩
                  case measure => simp [intOf]; omega
            · have hkl : k < L.length := by omega
              have dk : ((k : Int) == (L.length : Int)) = false := by rw [beq_eq_false_iff_ne]; omega
              have dkN : (k == L.length) = false := by rw [beq_eq_false_iff_ne]; exact hke
              obtain ⟨pp, hpp⟩ : ∃ pp, L.getD k 0 = pp := ⟨_, rfl⟩
              have hdr : L.drop k = pp :: L.drop (k + 1) := by
                rw [List.drop_eq_getElem_cons hkl, ← hpp, List.getD_eq_getElem?_getD, List.getElem?_eq_getElem hkl]; rfl
              obtain ⟨_, _, hva2, hcells⟩ := hIV
              obtain ⟨gg, hga, _, hcel⟩ := hcells (fun e => by rw [e] at hkl; simp at hkl)
              cases hva2
              subst hga
              have cin : wr.cell? ⟨gg, k, none⟩ = some (.int .i64 pp) := by rw [hcel k hkl, hpp]
              rw [hdr] at hS
              obtain ⟨s1, s2, s3, q0, q1, q2, n1', n2', SS⟩ := pop_three hS (by omega)
              have n1 := n1'
              have n2 := n2'
              have hbp := hS.chain.1
              have okp : (Lay.page (n : Int) 1 11 pp).2 = true := by rw [next_in HM.out hbp.1 hbp.2]
              have hwb : Tg.head tt pp < 18446744073709551616 := Tg.head_lt _ _ (by omega) (by omega) (by omega)
              have SN : Hid (Stk (n : Int) 1 h s3.words (L.length + min (k + 1) L.length) (L.drop (k + 1))) := hide (by
                rw [show L.length + min (k + 1) L.length = tt + 1 by omega]
                exact SS)
              have lZ2 : Loc (Sep (AX qa (n : Int) 1 pa ra s3 n [] 1 rl) (Sep (IV (.slice (some ⟨gg, 0, none⟩) L.length vc) L) (Sep (BO bl (layO n 1)) Nought))) := Loc.ax.sep lZ
              have CIN := hide hcel
              clear hH hO hS hcel hcells hdr SS n1' n2' hbp
              go_wp2_with fail
              refine (NPOP.out _).mono ?_
              rintro e w12 ⟨m, rfl, g1, g2, g3⟩
              have O12 := hide (Own.boNew (o := popM (n : Int) 1 h ⟨0, 0, 0, 0⟩) (Loc.iv.sep (Loc.ax.sep lB)) HO3.out g1 g2 g3)
              have cin2 : w12.cell? ⟨gg, k, none⟩ = some (.int .i64 pp) := by have := g3.cell (block_lt_of_cell cin); exact this.trans cin
              clear g1 g2 g3 l0 l1 HO3 NPOP cin
              have ZZ : ∀ j, j < 3 → ∀ (u : World), Own (Sep (BO m (popM (n : Int) 1 h (four (⟨0, 0, 0, 0⟩ : PopS) ⟨1, Tg.head tt pp, pp, 0⟩ ⟨2, Tg.head tt pp, pp, top (L.drop (k + 1))⟩ ⟨3, Tg.head tt pp, pp, top (L.drop (k + 1))⟩ j))) (Sep (AX qa (n : Int) 1 pa ra (four s s1 s2 s3 j) n [] 1 rl) (Sep (IV (.slice (some ⟨gg, 0, none⟩) L.length vc) L) (Sep (BO bl (layO n 1)) Nought)))) w u →
                  Hid (Calls Try.prog 14 #[.pointer (some ⟨m, 0, none⟩)] u fun e u' => e = .returned (.bool false) ∧ u' = u) ∧ Hid (Calls Try.prog 15 #[.pointer (some ⟨m, 0, none⟩)] u fun e u' => e = .returned (.int .i64 (-1)) ∧ u' = u) ∧
                  Hid (Calls Try.prog 13 #[.pointer (some ⟨m, 0, none⟩), .pointer (some ⟨qa, 0, none⟩)] u fun e u' => (∃ v, e = .returned v) ∧ Own (Sep (BO m (popM (n : Int) 1 h (four (⟨0, 0, 0, 0⟩ : PopS) ⟨1, Tg.head tt pp, pp, 0⟩ ⟨2, Tg.head tt pp, pp, top (L.drop (k + 1))⟩ ⟨3, Tg.head tt pp, pp, top (L.drop (k + 1))⟩ (j + 1)))) (Sep (AX qa (n : Int) 1 pa ra (four s s1 s2 s3 (j + 1)) n [] 1 rl) (Sep (IV (.slice (some ⟨gg, 0, none⟩) L.length vc) L) (Sep (BO bl (layO n 1)) Nought)))) w u') := by
                intro j hj u ho
                match j, hj with
                | 0, _ => exact ⟨popDone _ _ _ _ _ _ _ _ _ (Own.boAt ho) false rfl, popPageNo _ _ _ _ _ _ _ _ _ (Own.boAt ho) (by show ¬ ((0 : Int) = 3); decide), (popE lZ ho q0 rfl (by show h < (s).words.length; omega) (by show (0 : Nat) < _; decide) (.inl rfl) (fun hh => absurd hh (by show ¬ ((0 : Int) = 1); decide)) n0).mono fun e u' ⟨h1, h2⟩ => ⟨⟨_, h1⟩, h2⟩⟩
                | 1, _ => exact ⟨popDone _ _ _ _ _ _ _ _ _ (Own.boAt ho) false rfl, popPageNo _ _ _ _ _ _ _ _ _ (Own.boAt ho) (by show ¬ ((1 : Int) = 3); decide), (popE lZ ho q1 rfl (by show h < (s1).words.length; omega) hwb (.inr (.inl rfl)) (fun _ => okp) n1).mono fun e u' ⟨h1, h2⟩ => ⟨⟨_, h1⟩, h2⟩⟩
                | 2, _ => exact ⟨popDone _ _ _ _ _ _ _ _ _ (Own.boAt ho) false rfl, popPageNo _ _ _ _ _ _ _ _ _ (Own.boAt ho) (by show ¬ ((2 : Int) = 3); decide), (popE lZ ho q2 rfl (by show h < (s2).words.length; omega) hwb (.inr (.inr rfl)) (fun hh => absurd hh (by show ¬ ((2 : Int) = 1); decide)) n2).mono fun e u' ⟨h1, h2⟩ => ⟨⟨_, h1⟩, h2⟩⟩
              have I1 : Hid (Own (Sep (BO m (popM (n : Int) 1 h (four (⟨0, 0, 0, 0⟩ : PopS) ⟨1, Tg.head tt pp, pp, 0⟩ ⟨2, Tg.head tt pp, pp, top (L.drop (k + 1))⟩ ⟨3, Tg.head tt pp, pp, top (L.drop (k + 1))⟩ 0))) (Sep (AX qa (n : Int) 1 pa ra (four s s1 s2 s3 0) n [] 1 rl) (Sep (IV (.slice (some ⟨gg, 0, none⟩) L.length vc) L) (Sep (BO bl (layO n 1)) Nought)))) w w12) := hide (O12.out.cast (by simp only [four]; ac_rfl))
              have hzN : four (⟨0, 0, 0, 0⟩ : PopS) ⟨1, Tg.head tt pp, pp, 0⟩ ⟨2, Tg.head tt pp, pp, top (L.drop (k + 1))⟩ ⟨3, Tg.head tt pp, pp, top (L.drop (k + 1))⟩ 3 = ⟨3, Tg.head tt pp, pp, top (L.drop (k + 1))⟩ := rfl
              have htN : four s s1 s2 s3 3 = s3 := rfl
              have HZN := hide hzN
              have HTN := hide htN
              clear hzN htN
              generalize (four (⟨0, 0, 0, 0⟩ : PopS) ⟨1, Tg.head tt pp, pp, 0⟩ ⟨2, Tg.head tt pp, pp, top (L.drop (k + 1))⟩ ⟨3, Tg.head tt pp, pp, top (L.drop (k + 1))⟩) = FZ at *
              generalize (four s s1 s2 s3) = FT at *
              have HZZ := hide ZZ
              clear ZZ O12 q0 n0 q1 n1 q2 n2 hwb okp
              go_wp2
              go_loopw [20] (fun v wr => ∃ j : Nat, v = .int .i64 (j : Int) ∧ j ≤ 3 ∧ Hid (Own (Sep (BO m (popM (n : Int) 1 h (FZ j))) (Sep (AX qa (n : Int) 1 pa ra (FT j) n [] 1 rl) (Sep (IV (.slice (some ⟨gg, 0, none⟩) L.length vc) L) (Sep (BO bl (layO n 1)) Nought)))) w wr)) (fun v _ => 3 - (intOf v).toNat)
              case atStart => exact ⟨0, rfl, by omega, I1.out⟩
              case round =>
                obtain ⟨j, rfl, hj, hJ⟩ := hrel
                by_cases hlt2 : j < 3
                · obtain ⟨T1, T2, T3⟩ := HZZ.out j hlt2 _ hJ.out
                  clear I1 HZZ hJ
                  go_wp2_with fail
                  refine T1.out.mono ?_
                  rintro e w13 ⟨rfl, rfl⟩
                  go_wp2_with fail
                  refine T2.out.mono ?_
                  rintro e w14 ⟨rfl, rfl⟩
                  go_wp2_with fail
                  refine T3.out.mono ?_
                  rintro e w15 ⟨⟨v, rfl⟩, h15⟩
                  have H15 := hide h15
                  clear h15 T1 T2 T3
                  go_wp2
                  go_roundw
                  case rel => exact ⟨j + 1, by go_num, by omega, H15.out⟩
                  case measure => simp [intOf]; omega
                · have hjN : j = 3 := by omega
                  subst hjN
                  have o15 := hJ.out
                  rw [HZN.out, HTN.out] at o15
                  have O15 := hide o15
                  have HD := hide (popDone _ _ _ _ _ _ _ _ _ (Own.boAt o15) true rfl)
                  have HPG := hide (popPage _ _ _ _ _ _ _ _ (Own.boAt o15))
                  have HNO := hide (popNo wr m (some ⟨qa, 0, none⟩) (fun u hu => mayDone u m _ _ _ _ (.pop ((hu.block _ (lt_of_heap (Own.boAt o15))).trans (Own.boAt o15))) _))
                  clear I1 HZZ hJ HZN HTN o15
                  unfold noDid at HNO
                  go_wp2_with fail
                  refine HD.out.mono ?_
                  rintro e w16 ⟨rfl, rfl⟩
                  go_wp2_with fail
                  refine HPG.out.mono ?_
                  rintro e w17 ⟨rfl, rfl⟩
                  go_wp2_with fail
                  refine HNO.out.mono ?_
                  rintro e w18 ⟨rfl, b18⟩
                  have O18 := hide (Own.drop (O15.out.below (Loc.bo.sep lZ2) b18))
                  clear O15 HD HPG HNO b18
                  go_wp2
                  go_roundw
                  case rel => exact ⟨k + 1, s3, by go_num, by omega, SN.out, O18.out.cast (by ac_rfl)⟩
                  case measure => simp [intOf]; omega
          · have dle : decide ((k : Int) ≤ (L.length : Int)) = false := by simp; omega
            have hd0 : L.drop k = [] := List.drop_eq_nil_of_le (by omega)
            rw [hd0] at hS
            have LST := hide (hS.list n rfl)
            have LEN := hide hS.len
            clear hH hO hS hIV hd0 l0 l1 lZ2
            go_wp2_with fail
            refine (stackList (HO3.out.cast (R' := Sep (AX qa (n : Int) 1 pa ra s n [] 1 rl) (Sep (IV (.slice va L.length vc) L) (Sep (BO bl (layO n 1)) Nought))) (by ac_rfl)) h HHD.out LEN.out n rfl [] LST.out).mono ?_
            rintro e w8 ⟨v8, rfl, ⟨va8, vc8, rfl, _⟩, b8⟩
            have HB8 := hide (HO3.out.back.trans (b8.mono HO3.out.back.size))
            clear b8 HO3
            go_wp2_with fail
            refine (HAW.out _).mono ?_
            rintro e w9 ⟨rfl, b9⟩
            have HB9 := hide (HB8.out.trans (b9.mono HB8.out.size))
            clear b9 HB8
            go_wp2
            go_ret
            exact ⟨rfl, HB9.out⟩
      · have q2 : decide ((k : Int) < (len : Int)) = false := by simp; omega
        have q2N : decide (k < len) = false := by simp; omega
        clear q1 hlt d1
        go_wp2_with fail
        refine (stackList (HO.out.cast (R' := Sep (AX qa (n : Int) 1 pa ra s n [] 1 rl) (Sep (IV (.slice va L.length vc) L) (Sep (BO bl (layO n 1)) Nought))) (by ac_rfl)) h HHD.out LEN.out n rfl L LST.out).mono ?_
        rintro e w8 ⟨v8, rfl, hv8, b8⟩
        have HV8 := hide hv8
        have O8 := hide (HO.out.below (Loc.iv.sep (Loc.ax.sep lB)) b8)
        clear hv8 b8 LST LEN HO
        go_wp2_with fail
        refine (sameInts _ v8 _ L HV8.out (O8.out.iv (R := Sep (AX qa (n : Int) 1 pa ra s n [] 1 rl) (Sep (BO bl (layO n 1)) Nought)) rfl) (by omega)).mono ?_
        rintro e w9 ⟨rfl, h9⟩
        have O9 := hide (O8.out.below (Loc.iv.sep (Loc.ax.sep lB)) (h9.below _))
        have S9 : Hid (Stk (n : Int) 1 h s.words (L.length + min 0 L.length) (L.drop 0)) := hide (by simpa using HS.out)
        clear h9 HV8 O8 HV0 HS l0 l1 HBY
        have HAW := hide (fun u => awake12 u)
        go_wp2
        go_loopw [16] (fun v wr => ∃ (k : Nat) (s : St), v = .int .i64 (k : Int) ∧ k ≤ L.length + 1 ∧ Hid (Stk (n : Int) 1 h s.words (L.length + min k L.length) (L.drop k) ∧ Own (Sep (IV (.slice va L.length vc) L) (Sep (AX qa (n : Int) 1 pa ra s n [] 1 rl) (Sep (BO bl (layO n 1)) Nought))) w wr)) (fun v _ => L.length + 1 - (intOf v).toNat)
        case atStart => exact ⟨0, s, rfl, by omega, S9.out, O9.out⟩
        case round =>
          clear S9 O9
          clear s hL
          obtain ⟨k, s, rfl, hk, hH⟩ := hrel
          obtain ⟨hS, hO⟩ := hH.out
          have HO3 := hide hO
          have l0 : wr.cell? ⟨bl, 0, none⟩ = some (.int .i64 (n : Int)) := cell_of_heap (hO.has (m := bl) (o := layO n 1) (R := Sep (IV (.slice va L.length vc) L) (Sep (AX qa (n : Int) 1 pa ra s n [] 1 rl) Nought)) (by ac_rfl))
          have l1 : wr.cell? ⟨bl, 1, none⟩ = some (.int .i64 1) := cell_of_heap (hO.has (m := bl) (o := layO n 1) (R := Sep (IV (.slice va L.length vc) L) (Sep (AX qa (n : Int) 1 pa ra s n [] 1 rl) Nought)) (by ac_rfl))
          have hIV := hO.iv (R := Sep (AX qa (n : Int) 1 pa ra s n [] 1 rl) (Sep (BO bl (layO n 1)) Nought)) rfl
          have hw90 : h < (Lay.words (n : Int) 1).toNat := by have := Lay.words_bd HM.out; omega
          have lZ : Loc (Sep (IV (.slice va L.length vc) L) (Sep (BO bl (layO n 1)) Nought)) := Loc.iv.sep lB
          have lZ2 : Loc (Sep (AX qa (n : Int) 1 pa ra s n [] 1 rl) (Sep (IV (.slice va L.length vc) L) (Sep (BO bl (layO n 1)) Nought))) := Loc.ax.sep lZ
          obtain ⟨tt, htt⟩ : ∃ tt, L.length + min k L.length = tt := ⟨_, rfl⟩
          rw [htt] at hS
          have n0 := hS.len
          by_cases hle : k ≤ L.length
          · have dle : decide ((k : Int) ≤ (L.length : Int)) = true := by simp; exact hle
            by_cases hke : k = L.length
            · have dk : ((k : Int) == (L.length : Int)) = true := by simp [hke]
              have dkN : (k == L.length) = true := by simp [hke]
              have hd0 : L.drop k = [] := by rw [hke]; simp
              rw [hd0] at hS
              obtain ⟨s1, q0, ww⟩ := pop_zero hS
              have SN : Hid (Stk (n : Int) 1 h s1.words (L.length + min (k + 1) L.length) (L.drop (k + 1))) := hide (by
                rw [ww, show L.drop (k + 1) = [] from by rw [hke]; simp, show L.length + min (k + 1) L.length = tt by omega]
                exact hS)
              have lZ2 : Loc (Sep (AX qa (n : Int) 1 pa ra s1 n [] 1 rl) (Sep (IV (.slice va L.length vc) L) (Sep (BO bl (layO n 1)) Nought))) := Loc.ax.sep lZ
              clear hH hO hS hIV hd0 ww
              go_wp2_with fail
              refine (NPOP.out _).mono ?_
              rintro e w12 ⟨m, rfl, g1, g2, g3⟩
              have O12 := hide (Own.boNew (o := popM (n : Int) 1 h ⟨0, 0, 0, 0⟩) (Loc.iv.sep (Loc.ax.sep lB)) HO3.out g1 g2 g3)
              clear g1 g2 g3 l0 l1 HO3 NPOP
              have ZZ : ∀ j, j < 1 → ∀ (u : World), Own (Sep (BO m (popM (n : Int) 1 h (four (⟨0, 0, 0, 0⟩ : PopS) ⟨3, Tg.head tt (-1), -1, 0⟩ ⟨3, Tg.head tt (-1), -1, 0⟩ ⟨3, Tg.head tt (-1), -1, 0⟩ j))) (Sep (AX qa (n : Int) 1 pa ra (four s s1 s1 s1 j) n [] 1 rl) (Sep (IV (.slice va L.length vc) L) (Sep (BO bl (layO n 1)) Nought)))) w u →
                  Hid (Calls Try.prog 14 #[.pointer (some ⟨m, 0, none⟩)] u fun e u' => e = .returned (.bool false) ∧ u' = u) ∧ Hid (Calls Try.prog 15 #[.pointer (some ⟨m, 0, none⟩)] u fun e u' => e = .returned (.int .i64 (-1)) ∧ u' = u) ∧
                  Hid (Calls Try.prog 13 #[.pointer (some ⟨m, 0, none⟩), .pointer (some ⟨qa, 0, none⟩)] u fun e u' => (∃ v, e = .returned v) ∧ Own (Sep (BO m (popM (n : Int) 1 h (four (⟨0, 0, 0, 0⟩ : PopS) ⟨3, Tg.head tt (-1), -1, 0⟩ ⟨3, Tg.head tt (-1), -1, 0⟩ ⟨3, Tg.head tt (-1), -1, 0⟩ (j + 1)))) (Sep (AX qa (n : Int) 1 pa ra (four s s1 s1 s1 (j + 1)) n [] 1 rl) (Sep (IV (.slice va L.length vc) L) (Sep (BO bl (layO n 1)) Nought)))) w u') := by
                intro j hj u ho
                match j, hj with
                | 0, _ => exact ⟨popDone _ _ _ _ _ _ _ _ _ (Own.boAt ho) false rfl, popPageNo _ _ _ _ _ _ _ _ _ (Own.boAt ho) (by show ¬ ((0 : Int) = 3); decide), (popE lZ ho q0 rfl (by show h < (s).words.length; omega) (by show (0 : Nat) < _; decide) (.inl rfl) (fun hh => absurd hh (by show ¬ ((0 : Int) = 1); decide)) n0).mono fun e u' ⟨h1, h2⟩ => ⟨⟨_, h1⟩, h2⟩⟩
              have I1 : Hid (Own (Sep (BO m (popM (n : Int) 1 h (four (⟨0, 0, 0, 0⟩ : PopS) ⟨3, Tg.head tt (-1), -1, 0⟩ ⟨3, Tg.head tt (-1), -1, 0⟩ ⟨3, Tg.head tt (-1), -1, 0⟩ 0))) (Sep (AX qa (n : Int) 1 pa ra (four s s1 s1 s1 0) n [] 1 rl) (Sep (IV (.slice va L.length vc) L) (Sep (BO bl (layO n 1)) Nought)))) w w12) := hide (O12.out.cast (by simp only [four]; ac_rfl))
              have hzN : four (⟨0, 0, 0, 0⟩ : PopS) ⟨3, Tg.head tt (-1), -1, 0⟩ ⟨3, Tg.head tt (-1), -1, 0⟩ ⟨3, Tg.head tt (-1), -1, 0⟩ 1 = ⟨3, Tg.head tt (-1), -1, 0⟩ := rfl
              have htN : four s s1 s1 s1 1 = s1 := rfl
              have HZN := hide hzN
              have HTN := hide htN
              clear hzN htN
              generalize (four (⟨0, 0, 0, 0⟩ : PopS) ⟨3, Tg.head tt (-1), -1, 0⟩ ⟨3, Tg.head tt (-1), -1, 0⟩ ⟨3, Tg.head tt (-1), -1, 0⟩) = FZ at *
              generalize (four s s1 s1 s1) = FT at *
              have HZZ := hide ZZ
              clear ZZ O12 q0 n0
              go_wp2
              go_loopw [20] (fun v wr => ∃ j : Nat, v = .int .i64 (j : Int) ∧ j ≤ 1 ∧ Hid (Own (Sep (BO m (popM (n : Int) 1 h (FZ j))) (Sep (AX qa (n : Int) 1 pa ra (FT j) n [] 1 rl) (Sep (IV (.slice va L.length vc) L) (Sep (BO bl (layO n 1)) Nought)))) w wr)) (fun v _ => 1 - (intOf v).toNat)
              case atStart => exact ⟨0, rfl, by omega, I1.out⟩
              case round =>
                obtain ⟨j, rfl, hj, hJ⟩ := hrel
                by_cases hlt2 : j < 1
                · obtain ⟨T1, T2, T3⟩ := HZZ.out j hlt2 _ hJ.out
                  clear I1 HZZ hJ
                  go_wp2_with fail
                  refine T1.out.mono ?_
                  rintro e w13 ⟨rfl, rfl⟩
                  go_wp2_with fail
                  refine T2.out.mono ?_
                  rintro e w14 ⟨rfl, rfl⟩
                  go_wp2_with fail
                  refine T3.out.mono ?_
                  rintro e w15 ⟨⟨v, rfl⟩, h15⟩
                  have H15 := hide h15
                  clear h15 T1 T2 T3
                  go_wp2
                  go_roundw
                  case rel => exact ⟨j + 1, by go_num, by omega, H15.out⟩
                  case measure => simp [intOf]; omega
                · have hjN : j = 1 := by omega
                  subst hjN
                  have o15 := hJ.out
                  rw [HZN.out, HTN.out] at o15
                  have O15 := hide o15
                  have HD := hide (popDone _ _ _ _ _ _ _ _ _ (Own.boAt o15) true rfl)
                  have HPG := hide (popPage _ _ _ _ _ _ _ _ (Own.boAt o15))
                  have HNO := hide (popNo wr m (some ⟨qa, 0, none⟩) (fun u hu => mayDone u m _ _ _ _ (.pop ((hu.block _ (lt_of_heap (Own.boAt o15))).trans (Own.boAt o15))) _))
                  clear I1 HZZ hJ HZN HTN o15
                  unfold noDid at HNO
                  go_wp2_with fail
                  refine HD.out.mono ?_
                  rintro e w16 ⟨rfl, rfl⟩
                  go_wp2_with fail
                  refine HPG.out.mono ?_
                  rintro e w17 ⟨rfl, rfl⟩
                  go_wp2_with fail
                  refine HNO.out.mono ?_
                  rintro e w18 ⟨rfl, b18⟩
                  have O18 := hide (Own.drop (O15.out.below (Loc.bo.sep lZ2) b18))
                  clear O15 HD HPG HNO b18
                  go_wp2
                  go_roundw
                  case rel => exact ⟨k + 1, s1, by go_num, by omega, SN.out, O18.out.cast (by ac_rfl)⟩
                  case measure => simp [intOf]; omega
            · have hkl : k < L.length := by omega
              have dk : ((k : Int) == (L.length : Int)) = false := by rw [beq_eq_false_iff_ne]; omega
              have dkN : (k == L.length) = false := by rw [beq_eq_false_iff_ne]; exact hke
              obtain ⟨pp, hpp⟩ : ∃ pp, L.getD k 0 = pp := ⟨_, rfl⟩
              have hdr : L.drop k = pp :: L.drop (k + 1) := by
                rw [List.drop_eq_getElem_cons hkl, ← hpp, List.getD_eq_getElem?_getD, List.getElem?_eq_getElem hkl]; rfl
              obtain ⟨_, _, hva2, hcells⟩ := hIV
              obtain ⟨gg, hga, _, hcel⟩ := hcells (fun e => by rw [e] at hkl; simp at hkl)
              cases hva2
              subst hga
              have cin : wr.cell? ⟨gg, k, none⟩ = some (.int .i64 pp) := by rw [hcel k hkl, hpp]
              rw [hdr] at hS
              obtain ⟨s1, s2, s3, q0, q1, q2, n1', n2', SS⟩ := pop_three hS (by omega)
              have n1 := n1'
              have n2 := n2'
              have hbp := hS.chain.1
              have okp : (Lay.page (n : Int) 1 11 pp).2 = true := by rw [next_in HM.out hbp.1 hbp.2]
              have hwb : Tg.head tt pp < 18446744073709551616 := Tg.head_lt _ _ (by omega) (by omega) (by omega)
              have SN : Hid (Stk (n : Int) 1 h s3.words (L.length + min (k + 1) L.length) (L.drop (k + 1))) := hide (by
                rw [show L.length + min (k + 1) L.length = tt + 1 by omega]
                exact SS)
              have lZ2 : Loc (Sep (AX qa (n : Int) 1 pa ra s3 n [] 1 rl) (Sep (IV (.slice (some ⟨gg, 0, none⟩) L.length vc) L) (Sep (BO bl (layO n 1)) Nought))) := Loc.ax.sep lZ
              have CIN := hide hcel
              clear hH hO hS hcel hcells hdr SS n1' n2' hbp
              go_wp2_with fail
              refine (NPOP.out _).mono ?_
              rintro e w12 ⟨m, rfl, g1, g2, g3⟩
              have O12 := hide (Own.boNew (o := popM (n : Int) 1 h ⟨0, 0, 0, 0⟩) (Loc.iv.sep (Loc.ax.sep lB)) HO3.out g1 g2 g3)
              have cin2 : w12.cell? ⟨gg, k, none⟩ = some (.int .i64 pp) := by have := g3.cell (block_lt_of_cell cin); exact this.trans cin
              clear g1 g2 g3 l0 l1 HO3 NPOP cin
              have ZZ : ∀ j, j < 3 → ∀ (u : World), Own (Sep (BO m (popM (n : Int) 1 h (four (⟨0, 0, 0, 0⟩ : PopS) ⟨1, Tg.head tt pp, pp, 0⟩ ⟨2, Tg.head tt pp, pp, top (L.drop (k + 1))⟩ ⟨3, Tg.head tt pp, pp, top (L.drop (k + 1))⟩ j))) (Sep (AX qa (n : Int) 1 pa ra (four s s1 s2 s3 j) n [] 1 rl) (Sep (IV (.slice (some ⟨gg, 0, none⟩) L.length vc) L) (Sep (BO bl (layO n 1)) Nought)))) w u →
                  Hid (Calls Try.prog 14 #[.pointer (some ⟨m, 0, none⟩)] u fun e u' => e = .returned (.bool false) ∧ u' = u) ∧ Hid (Calls Try.prog 15 #[.pointer (some ⟨m, 0, none⟩)] u fun e u' => e = .returned (.int .i64 (-1)) ∧ u' = u) ∧
                  Hid (Calls Try.prog 13 #[.pointer (some ⟨m, 0, none⟩), .pointer (some ⟨qa, 0, none⟩)] u fun e u' => (∃ v, e = .returned v) ∧ Own (Sep (BO m (popM (n : Int) 1 h (four (⟨0, 0, 0, 0⟩ : PopS) ⟨1, Tg.head tt pp, pp, 0⟩ ⟨2, Tg.head tt pp, pp, top (L.drop (k + 1))⟩ ⟨3, Tg.head tt pp, pp, top (L.drop (k + 1))⟩ (j + 1)))) (Sep (AX qa (n : Int) 1 pa ra (four s s1 s2 s3 (j + 1)) n [] 1 rl) (Sep (IV (.slice (some ⟨gg, 0, none⟩) L.length vc) L) (Sep (BO bl (layO n 1)) Nought)))) w u') := by
                intro j hj u ho
                match j, hj with
                | 0, _ => exact ⟨popDone _ _ _ _ _ _ _ _ _ (Own.boAt ho) false rfl, popPageNo _ _ _ _ _ _ _ _ _ (Own.boAt ho) (by show ¬ ((0 : Int) = 3); decide), (popE lZ ho q0 rfl (by show h < (s).words.length; omega) (by show (0 : Nat) < _; decide) (.inl rfl) (fun hh => absurd hh (by show ¬ ((0 : Int) = 1); decide)) n0).mono fun e u' ⟨h1, h2⟩ => ⟨⟨_, h1⟩, h2⟩⟩
                | 1, _ => exact ⟨popDone _ _ _ _ _ _ _ _ _ (Own.boAt ho) false rfl, popPageNo _ _ _ _ _ _ _ _ _ (Own.boAt ho) (by show ¬ ((1 : Int) = 3); decide), (popE lZ ho q1 rfl (by show h < (s1).words.length; omega) hwb (.inr (.inl rfl)) (fun _ => okp) n1).mono fun e u' ⟨h1, h2⟩ => ⟨⟨_, h1⟩, h2⟩⟩
                | 2, _ => exact ⟨popDone _ _ _ _ _ _ _ _ _ (Own.boAt ho) false rfl, popPageNo _ _ _ _ _ _ _ _ _ (Own.boAt ho) (by show ¬ ((2 : Int) = 3); decide), (popE lZ ho q2 rfl (by show h < (s2).words.length; omega) hwb (.inr (.inr rfl)) (fun hh => absurd hh (by show ¬ ((2 : Int) = 1); decide)) n2).mono fun e u' ⟨h1, h2⟩ => ⟨⟨_, h1⟩, h2⟩⟩
              have I1 : Hid (Own (Sep (BO m (popM (n : Int) 1 h (four (⟨0, 0, 0, 0⟩ : PopS) ⟨1, Tg.head tt pp, pp, 0⟩ ⟨2, Tg.head tt pp, pp, top (L.drop (k + 1))⟩ ⟨3, Tg.head tt pp, pp, top (L.drop (k + 1))⟩ 0))) (Sep (AX qa (n : Int) 1 pa ra (four s s1 s2 s3 0) n [] 1 rl) (Sep (IV (.slice (some ⟨gg, 0, none⟩) L.length vc) L) (Sep (BO bl (layO n 1)) Nought)))) w w12) := hide (O12.out.cast (by simp only [four]; ac_rfl))
              have hzN : four (⟨0, 0, 0, 0⟩ : PopS) ⟨1, Tg.head tt pp, pp, 0⟩ ⟨2, Tg.head tt pp, pp, top (L.drop (k + 1))⟩ ⟨3, Tg.head tt pp, pp, top (L.drop (k + 1))⟩ 3 = ⟨3, Tg.head tt pp, pp, top (L.drop (k + 1))⟩ := rfl
              have htN : four s s1 s2 s3 3 = s3 := rfl
              have HZN := hide hzN
              have HTN := hide htN
              clear hzN htN
              generalize (four (⟨0, 0, 0, 0⟩ : PopS) ⟨1, Tg.head tt pp, pp, 0⟩ ⟨2, Tg.head tt pp, pp, top (L.drop (k + 1))⟩ ⟨3, Tg.head tt pp, pp, top (L.drop (k + 1))⟩) = FZ at *
              generalize (four s s1 s2 s3) = FT at *
              have HZZ := hide ZZ
              clear ZZ O12 q0 n0 q1 n1 q2 n2 hwb okp
              go_wp2
              go_loopw [20] (fun v wr => ∃ j : Nat, v = .int .i64 (j : Int) ∧ j ≤ 3 ∧ Hid (Own (Sep (BO m (popM (n : Int) 1 h (FZ j))) (Sep (AX qa (n : Int) 1 pa ra (FT j) n [] 1 rl) (Sep (IV (.slice (some ⟨gg, 0, none⟩) L.length vc) L) (Sep (BO bl (layO n 1)) Nought)))) w wr)) (fun v _ => 3 - (intOf v).toNat)
              case atStart => exact ⟨0, rfl, by omega, I1.out⟩
              case round =>
                obtain ⟨j, rfl, hj, hJ⟩ := hrel
                by_cases hlt2 : j < 3
                · obtain ⟨T1, T2, T3⟩ := HZZ.out j hlt2 _ hJ.out
                  clear I1 HZZ hJ
                  go_wp2_with fail
                  refine T1.out.mono ?_
                  rintro e w13 ⟨rfl, rfl⟩
                  go_wp2_with fail
                  refine T2.out.mono ?_
                  rintro e w14 ⟨rfl, rfl⟩
                  go_wp2_with fail
                  refine T3.out.mono ?_
                  rintro e w15 ⟨⟨v, rfl⟩, h15⟩
                  have H15 := hide h15
                  clear h15 T1 T2 T3
                  go_wp2
                  go_roundw
                  case rel => exact ⟨j + 1, by go_num, by omega, H15.out⟩
                  case measure => simp [intOf]; omega
                · have hjN : j = 3 := by omega
                  subst hjN
                  have o15 := hJ.out
                  rw [HZN.out, HTN.out] at o15
                  have O15 := hide o15
                  have HD := hide (popDone _ _ _ _ _ _ _ _ _ (Own.boAt o15) true rfl)
                  have HPG := hide (popPage _ _ _ _ _ _ _ _ (Own.boAt o15))
                  have HNO := hide (popNo wr m (some ⟨qa, 0, none⟩) (fun u hu => mayDone u m _ _ _ _ (.pop ((hu.block _ (lt_of_heap (Own.boAt o15))).trans (Own.boAt o15))) _))
                  clear I1 HZZ hJ HZN HTN o15
                  unfold noDid at HNO
                  go_wp2_with fail
                  refine HD.out.mono ?_
                  rintro e w16 ⟨rfl, rfl⟩
                  go_wp2_with fail
                  refine HPG.out.mono ?_
                  rintro e w17 ⟨rfl, rfl⟩
                  go_wp2_with fail
                  refine HNO.out.mono ?_
                  rintro e w18 ⟨rfl, b18⟩
                  have O18 := hide (Own.drop (O15.out.below (Loc.bo.sep lZ2) b18))
                  clear O15 HD HPG HNO b18
                  go_wp2
                  go_roundw
                  case rel => exact ⟨k + 1, s3, by go_num, by omega, SN.out, O18.out.cast (by ac_rfl)⟩
                  case measure => simp [intOf]; omega
          · have dle : decide ((k : Int) ≤ (L.length : Int)) = false := by simp; omega
            have hd0 : L.drop k = [] := List.drop_eq_nil_of_le (by omega)
            rw [hd0] at hS
            have LST := hide (hS.list n rfl)
            have LEN := hide hS.len
            clear hH hO hS hIV hd0 l0 l1 lZ2
            go_wp2_with fail
            refine (stackList (HO3.out.cast (R' := Sep (AX qa (n : Int) 1 pa ra s n [] 1 rl) (Sep (IV (.slice va L.length vc) L) (Sep (BO bl (layO n 1)) Nought))) (by ac_rfl)) h HHD.out LEN.out n rfl [] LST.out).mono ?_
            rintro e w8 ⟨v8, rfl, ⟨va8, vc8, rfl, _⟩, b8⟩
            have HB8 := hide (HO3.out.back.trans (b8.mono HO3.out.back.size))
            clear b8 HO3
            go_wp2_with fail
            refine (HAW.out _).mono ?_
            rintro e w9 ⟨rfl, b9⟩
            have HB9 := hide (HB8.out.trans (b9.mono HB8.out.size))
            clear b9 HB8
            go_wp2
            go_ret
            exact ⟨rfl, HB9.out⟩

theorem walk (a : Nat) (ha : a < 256) (b : Nat) (hb : b < 256) (ao : Option Addr) (len cap : Nat) (hlc : len ≤ cap) (hcm : cap ≤ maxLen) (w : World) (hB : BytesIn w ao len) :
    Calls Try.prog 4 #[.int .u8 (a : Int), .int .u8 (b : Int), .slice ao len cap] w fun e w' => e = .returned (.bool true) ∧ Below w.heap.size w w' :=
  main a ha b hb ao len cap ⟨hlc, hcm⟩ w hB _ _ rfl rfl

set_option maxRecDepth 100000 in
theorem lifted (os : Os) (started : os.Started) (H : Type) (enc : TypeId × Value → H) :
    ReturnsInHanded {} Try.checked os 4 .any (Rows.stackOrderSpec.pre6 enc Try.prog Try.f4 Rows.stackOrderRow.domain false) (Rows.stackOrderSpec.post enc Try.prog Try.f4 false true false false) := by
  refine returnsInHanded_of_change (C := Try.checked) own started (by kernel_rfl) Try.func4
    (ChangeSpec.witness6 (enc := enc) (C := Try.checked) false ⟨#[], #[.int .u8 0, .int .u8 0, .slice none 0 0], []⟩ 8 (by kernel_rfl) (by kernel_rfl) (by kernel_rfl) (by kernel_rfl)) ?_
  intro W base args ds gs before hval0 hW _ _
  have hval : ∀ (j : Nat) t v, Try.f4.params[j]? = some t → args[j]? = some v → Value.okWide Try.prog W .any base t v := hval0
  have hW' := hW
  obtain ⟨p, q, hA0, hV, rfl, hfz, hnd⟩ := hW
  have hA : DataW.TrodAll enc Try.prog W 0 (fun _ => true) true Try.f4.params.toList args.toList ds p := hA0
  rw [Try.params4] at hA hval
  obtain ⟨v0, vs0, d0, ds0, p0, q0, hargs, rfl, rfl, h0, r0⟩ := trodAll_cons hA
  obtain ⟨v1, vs1, d1, ds1, p1, q1, rfl, rfl, rfl, h1, r1⟩ := trodAll_cons r0
  obtain ⟨v2, vs2, d2, ds2, p2, q2, rfl, rfl, rfl, h2, r2⟩ := trodAll_cons r1
  obtain ⟨rfl, rfl, rfl⟩ := trodAll_nil r2
  obtain rfl : args = #[v0, v1, v2] := by cases args; simp_all
  obtain ⟨rfl, rfl⟩ := trodVars_none hV
  obtain ⟨a0, rfl, rfl, rfl, w0⟩ := open_int Try.underlying5 (hval 0 5 v0 rfl rfl) h0
  obtain ⟨a1, rfl, rfl, rfl, w1⟩ := open_int Try.underlying5 (hval 1 5 v1 rfl rfl) h1
  have h2k := h2
  have lt2 : ∀ x ∈ p2, x.block < W.heap.size := fun x hx => hW'.lt x (by simp [hx])
  obtain ⟨l2_0, l2_1, l2_2, rfl, f2_0, f2_1, f2_2⟩ := open_bytes (hval 2 22 v2 rfl rfl) h2
  clear hA0 hval0
  obtain ⟨x0, hx0, rfl⟩ := u8_nat w0
  obtain ⟨x1, hx1, rfl⟩ := u8_nat w1
  refine (walk x0 hx0 x1 hx1 l2_0 l2_1 l2_2 f2_0 f2_1 W f2_2).mono fun e W' ⟨he, bel⟩ => ?_
  subst he
  exact ⟨_, rfl, _, _, _, [], _, [], hW', trodAll_mk1 (shut_bool Try.underlying4 _), (trodAll_cons_mk (shut_int Try.underlying5 w0) (trodAll_cons_mk (shut_int Try.underlying5 w1) (trodAll_cons_mk (Below.trod laidOut (by kernel_rfl) (of_decide_eq_true (by kernel_rfl)) h2k bel lt2) trodAll_mk0))), rfl, bel.frame _, fun h => by cases h⟩

end Go.Proofs.Ytigokeocphbffaa.stackOrder
namespace Go.Proofs.Ytigokeocphbffaa

theorem stackOrder_holds : Rows.StackOrderSaid :=
  OpenClaim.holds_of_wide 4 Try.f4 rfl rfl rfl rfl rfl rfl rfl ⟨rfl, rfl, rfl, rfl, rfl⟩ rfl rfl rfl rfl rfl (by kernel_rfl) Try.func4 (by kernel_rfl)
    (of_decide_eq_true (by kernel_rfl)) (by unfold Func.isWrapper; first | (rw [if_pos (by decide +kernel)]; kernel_rfl) | (rw [if_neg (by decide +kernel)]; exact ⟨rfl, rfl⟩))
    (fun os started H enc _ => stackOrder.lifted os started H enc)
end Go.Proofs.Ytigokeocphbffaa
