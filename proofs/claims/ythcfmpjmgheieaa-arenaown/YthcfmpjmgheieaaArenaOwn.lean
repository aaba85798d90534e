/- Who turns its store, or its runs, turns the arena; another arena has nothing in common with it: the law ArenaOwn answers true at every input, and its arguments read behind the call as they read before. -/
import Derived.Test.YthcfmpjmgheieaaArnOwn
namespace Go.Proofs.Ythcfmpjmgheieaa.arenaOwn
open Go.ChangeShapes Go.WideShapes Go.ChangeAt Go.RowKit

set_option maxHeartbeats 4000000 in
set_option maxRecDepth 100000 in
theorem walk (x0 : Nat) (_hx0 : x0 < 256) (x1 : Nat) (_hx1 : x1 < 256) (g : Nat) (_hg : g < 18446744073709551616) (v : Nat) (hv : v < 18446744073709551616) (k : Nat) (hk : k < 256) (w : World) :
    Calls Try.prog 6 #[.int .u8 (x0 : Int), .int .u8 (x1 : Int), .int .u64 (g : Int), .int .u64 (v : Int), .int .u8 (k : Int)] w fun e w' => e = .returned (.bool true) ∧ Below w.heap.size w w' := by
  obtain ⟨pg, hpg⟩ : ∃ pg : Nat, 1 + x0 % 100 = pg := ⟨_, rfl⟩
  obtain ⟨T, hT⟩ : ∃ T : Nat, 1 + x1 % 8 = T := ⟨_, rfl⟩
  obtain ⟨G, hG⟩ : ∃ G : Nat, 1 + g % 2147483648 = G := ⟨_, rfl⟩
  have p1 : 1 ≤ pg := by omega
  have p2 : pg ≤ 100 := by omega
  have hm : Lay.may (pg : Int) (T : Int) = true := Lay.may_iff.2 (by omega)
  obtain ⟨n, hn, n1, n2⟩ := Lay.words_nat hm
  have n3 : 2 ≤ n := by
    obtain ⟨q1, q2, q3, q4⟩ := Lay.may_iff.1 hm
    obtain ⟨q5, q6, _⟩ := Lay.maps_bd q1 q2
    have := hn
    unfold Lay.words Lay.total at this
    simp only [hm, if_true] at this
    omega
  have G1 : G < 9223372036854775808 := by omega
  have epg : Hid ((1 : Int) + (x0 : Int) % 100 = (pg : Int)) := hide (by omega)
  have eT : Hid ((1 : Int) + (x1 : Int) % 8 = (T : Int)) := hide (by omega)
  have eG : Hid ((1 : Int) + (g : Int) % 2147483648 = (G : Int)) := hide (by omega)
  have HM := hide hm
  have HNN := hide hn
  have T1 : T ≤ 8 := by omega
  clear hpg hT hG hm hn
  go_enter Try.func6, Try.ntmps6
  go_wp2
  rw [epg.out, eT.out]
  obtain ⟨B, hB⟩ : ∃ B, w.heap.size = B := ⟨_, rfl⟩
  have HB0 := hide hB
  have HO0 : Hid (Own (BO B (.cells #[.int .i64 (pg : Int), .int .i64 (T : Int), .slice none 0 0] 40 (0, 0))) w (w.alloc (.cells #[.int .i64 (pg : Int), .int .i64 (T : Int), .slice none 0 0] 40 (0, 0)))) := hide (by
    have := Own.fresh (R1 := BO B (.cells #[.int .i64 (pg : Int), .int .i64 (T : Int), .slice none 0 0] 40 (0, 0))) Loc.nought (Own.start w) (w' := w.alloc (.cells #[.int .i64 (pg : Int), .int .i64 (T : Int), .slice none 0 0] 40 (0, 0))) (G := fun x => x = B) ⟨by rw [← hB]; exact heap_alloc_at _ _, fun _ => Iff.rfl⟩ (fun x hx => by rw [hx, hB]; exact Nat.le_refl _) (grown1 w _)
    exact this.unit)
  rw [hB]
  clear hB
  generalize (w.alloc (.cells #[.int .i64 (pg : Int), .int .i64 (T : Int), .slice none 0 0] 40 (0, 0))) = W0 at *
  obtain ⟨OO, hOO⟩ : ∃ OO : Obj, OO = (.cells #[.int .i64 (pg : Int), .int .i64 (T : Int), .slice none 0 0] 40 (0, 0)) := ⟨_, rfl⟩
  rw [← hOO] at HO0
  have HOO := hide hOO
  clear hOO
  have UC : ∀ u : Mem (BkAt B OO), u.w'.cell? ⟨B, 0, none⟩ = some (.int .i64 (pg : Int)) := fun u => cell_of_heap (by rw [← HOO.out]; exact u.h)
  have UC1 : ∀ u : Mem (BkAt B OO), u.w'.cell? ⟨B, 1, none⟩ = some (.int .i64 (T : Int)) := fun u => cell_of_heap (by rw [← HOO.out]; exact u.h)
  have UC2 : ∀ u : Mem (BkAt B OO), u.w'.cell? ⟨B, 2, none⟩ = some (.slice none 0 0) := fun u => cell_of_heap (by rw [← HOO.out]; exact u.h)
  have HO1 := hide (HO0.out.below Loc.bo ((Alike.drewN W0 1).below _))
  have JB : Hid (BkAt B OO W0.drew) := hide (by obtain ⟨_, h, _⟩ := HO1.out; exact h.1)
  have hne : Nonempty (Mem (BkAt B OO)) := ⟨⟨_, JB.out⟩⟩
  refine region_start (J := BkAt B OO) (by kernel_rfl) ?_
  refine stretch (fuel := 4) (by kernel_rfl) (fun _ _ _ _ _ h => h) JB.out [0, 2] (by kernel_rfl) ?_
  simp only [List.filterMap_cons, List.filterMap_nil, List.getElem?_toArray, List.getElem?_cons_zero, List.getElem?_cons_succ]
  show wpQuiet _ _ _ _ [_, _] _
  repeat (go_big_quiet_step (fail))
  refine wpQuiet_nil ?_
  refine wpAnyJ_writer (i := 1) rfl (by kernel_rfl) (fun K hK => ?_)
  go_simp
  have NA := anew Loc.bo HO1.out pg T HM.out [] (by simp) none 0 (fun _ => ⟨rfl, rfl⟩) (fun h => absurd rfl h)
  rw [HNN.out] at NA
  simp only [List.length_nil, Int.toNat_natCast] at NA
  refine NA.mono ?_
  rintro e w1 ⟨q, p, r, rfl, o1⟩
  have O1 := hide o1
  refine hK _ _ (Own.bo1 o1) ?_
  clear hK K NA o1
  refine wpAnyJ_writer (i := 3) rfl (by kernel_rfl) (fun K hK => ?_)
  go_simp
  have NA := anew (Loc.ax.sep Loc.bo) O1.out pg T HM.out [] (by simp) none 0 (fun _ => ⟨rfl, rfl⟩) (fun h => absurd rfl h)
  rw [HNN.out] at NA
  simp only [List.length_nil, Int.toNat_natCast] at NA
  refine NA.mono ?_
  rintro e w2 ⟨q', p', r', rfl, o2⟩
  have O2 := hide (o2.cast (R' := Sep (AX q pg T p r (St.first n) pg [] 1 [(kOf 0 pg, ([] : List Nat).getD 0 0, ())]) (Sep (AX q' pg T p' r' (St.first n) pg [] 1 [(kOf 0 pg, ([] : List Nat).getD 0 0, ())]) (BO B OO))) (by ac_rfl))
  refine hK _ _ (Own.bo O2.out) ?_
  clear hK K NA o2 O1
  refine stretch (fuel := 0) (by kernel_rfl) (fun _ _ _ _ _ h => h) (Own.bo O2.out) [4, 5] (by kernel_rfl) ?_
  simp only [List.filterMap_cons, List.filterMap_nil, List.getElem?_toArray, List.getElem?_cons_zero, List.getElem?_cons_succ]
  show wpQuiet _ _ _ _ [_, _] _
  repeat (go_big_quiet_step (fail))
  refine wpQuiet_nil ?_
  refine wpAnyJ_done (by kernel_rfl) ?_
  clear hne JB HO1 HO0
  obtain ⟨L, hL⟩ : ∃ L : RL, [(kOf 0 pg, ([] : List Nat).getD 0 0, ())] = L := ⟨_, rfl⟩
  obtain ⟨s, hs⟩ : ∃ s, St.first n = s := ⟨_, rfl⟩
  rw [hL, hs] at O2
  have s1 : Hid (s.words.length = n) := hide (by rw [← hs]; exact St.first_len n)
  have s2 : Hid (s.words.getD 0 0 = 1) := hide (by rw [← hs]; exact St.first_zero n n1)
  have s3 : Hid (s.words.getD (n - 1) 0 = 0) := hide (by rw [← hs]; exact St.first_last n _ (by omega))
  have F1 : Fit 1 pg [] 1 L := by rw [← hL]; exact Fit.new p1 (by omega) (by simp)
  have HF := hide (F1.fine (by omega))
  obtain ⟨j, hj⟩ : ∃ j, k % pg = j := ⟨_, rfl⟩
  have j1 : j < pg := by rw [← hj]; exact Nat.mod_lt _ (by omega)
  have a1 : Hid (takeA (1 + (j : Int)) L = (0, 0)) := hide (by rw [← hL]; exact one_take (by omega) (by omega))
  have a2 : Hid (totL (takeS [] (1 + (j : Int)) 1 L).2 = (pg : Int) - 1 - (j : Int)) := hide (by rw [← hL, one_left (by omega) (by omega) (by omega)]; omega)
  have a3 : Hid (totL L = (pg : Int)) := hide (by rw [← hL]; exact one_tot)
  have HF2 := hide ((F1.take (1 + (j : Int))).fine (by omega))
  obtain ⟨L', hL'⟩ : ∃ L', (takeS [] (1 + (j : Int)) 1 L).2 = L' := ⟨_, rfl⟩
  obtain ⟨dn', hdn'⟩ : ∃ dn', (takeS [] (1 + (j : Int)) 1 L).1 = dn' := ⟨_, rfl⟩
  have HLL := hide hL'
  have HDD := hide hdn'
  rw [hL'] at a2
  rw [hL', hdn'] at HF2
  have HJ := hide hj
  have lX : Loc (Sep (AX q' pg T p' r' s pg [] 1 L) (BO B OO)) := Loc.ax.sep Loc.bo
  obtain ⟨m, hm⟩ : ∃ m, n = m + 1 := ⟨n - 1, by omega⟩
  subst hm
  rw [show m + 1 - 1 = m by omega] at s3
  clear hL hs F1 hj hL' hdn'
  go_wp2_with fail
  refine (storeX O2.out).mono ?_
  rintro e w3 ⟨rfl, rfl⟩
  go_wp2_with fail
  refine (runsX O2.out).mono ?_
  rintro e w3 ⟨rfl, rfl⟩
  go_wp2_with fail
  refine (storeX O2.out).mono ?_
  rintro e w3 ⟨rfl, rfl⟩
  go_wp2_with fail
  refine (lenX O2.out).mono ?_
  rintro e w3 ⟨rfl, rfl⟩
  rw [s1.out]
  go_wp2_with fail
  refine (storeX O2.out).mono ?_
  rintro e w3 ⟨rfl, rfl⟩
  go_wp2_with fail
  try rw [eG.out]
  refine (putX lX O2.out 0 (by rw [s1.out]; omega) G (by omega)).mono ?_
  rintro e w3 ⟨rfl, o3⟩
  have O3 := hide o3
  clear o3 O2
  go_wp2_with fail
  refine (storeX O3.out).mono ?_
  rintro e w4 ⟨rfl, rfl⟩
  go_wp2_with fail
  refine (putX lX O3.out m (by rw [put_len, s1.out]; omega) v hv).mono ?_
  rintro e w5 ⟨rfl, o5⟩
  obtain ⟨t, ht⟩ : ∃ t, (s.put 0 G).put m v = t := ⟨_, rfl⟩
  have t1 : Hid (t.words.length = m + 1) := hide (by rw [← ht, put_len, put_len, s1.out])
  have t2 : Hid (t.words.getD 0 0 = G) := hide (by rw [← ht, put_other _ _ _ _ (by omega), put_same _ _ _ (by rw [s1.out]; omega)])
  have t3 : Hid (t.words.getD m 0 = v) := hide (by rw [← ht, put_same _ _ _ (by rw [put_len, s1.out]; omega)])
  rw [ht] at o5
  have O5 := hide (o5.below (Loc.ax.sep lX) ((Alike.drewN w5 1).below _))
  clear o5 O3 ht
  go_wp2
  have hne : Nonempty (Mem (BkAt B OO)) := ⟨⟨_, Own.bo O5.out⟩⟩
  have pz : ((pg : Int) == 0) = false := by rw [beq_eq_false_iff_ne]; omega
  have pz2 : (pg == 0) = false := by rw [beq_eq_false_iff_ne]; omega
  have ekj : (k : Int) % (pg : Int) = (j : Int) := by rw [← HJ.out]; simp
  refine region_start (J := BkAt B OO) (by kernel_rfl) ?_
  refine stretch (fuel := 7) (by kernel_rfl) (fun _ _ _ _ _ h => h) (Own.bo O5.out) [0, 2, 3, 4, 5, 6, 7] (by kernel_rfl) ?_
  simp only [List.filterMap_cons, List.filterMap_nil, List.getElem?_toArray, List.getElem?_cons_zero, List.getElem?_cons_succ]
  show wpQuiet _ _ _ _ [_, _, _, _, _, _, _] _
  repeat (go_big_quiet_step (fail))
  refine wpQuiet_nil ?_
  refine wpAnyJ_writer (i := 1) rfl (by kernel_rfl) (fun K hK => ?_)
  go_simp
  refine (runsX O5.out).mono ?_
  rintro e w6 ⟨rfl, rfl⟩
  refine hK _ _ (Own.bo O5.out) ?_
  clear hK K
  refine wpAnyJ_writer (i := 8) rfl (by kernel_rfl) (fun K hK => ?_)
  go_simp
  refine (takeX lX O5.out HF.out (1 + (j : Int))).mono ?_
  rintro e w7 ⟨rfl, o7⟩
  rw [a1.out]
  rw [HLL.out, HDD.out] at o7
  have O7 := hide o7
  refine hK _ _ (Own.bo o7) ?_
  clear hK K o7 O5
  refine stretch (fuel := 0) (by kernel_rfl) (fun _ _ _ _ _ h => h) (Own.bo O7.out) [9, 10, 11, 12, 13] (by kernel_rfl) ?_
  simp only [List.filterMap_cons, List.filterMap_nil, List.getElem?_toArray, List.getElem?_cons_zero, List.getElem?_cons_succ]
  show wpQuiet _ _ _ _ [_, _, _, _, _] _
  repeat (go_big_quiet_step (fail))
  refine wpQuiet_nil ?_
  refine wpAnyJ_done (by kernel_rfl) ?_
  go_wp2_with fail
  refine (genX O7.out (by rw [t1.out]; omega) G t2.out G1).mono ?_
  rintro e w8 ⟨rfl, b8⟩
  have O8 := hide (O7.out.below (Loc.ax.sep lX) b8)
  clear b8 O7
  go_wp2_with fail
  refine (storeX O8.out).mono ?_
  rintro e w9 ⟨rfl, rfl⟩
  go_wp2_with fail
  refine (loadX lX O8.out m (by rw [t1.out]; omega)).mono ?_
  rintro e w10 ⟨rfl, o10⟩
  rw [t3.out]
  have O10 := hide (o10.cast (R' := Sep (AX q' pg T p' r' s pg [] 1 L) (Sep (AX q pg T p r (t.load m) pg [] dn' L') (BO B OO))) (by ac_rfl))
  have lY : Loc (Sep (AX q pg T p r (t.load m) pg [] dn' L') (BO B OO)) := Loc.ax.sep Loc.bo
  clear o10 O8
  go_wp2_with fail
  refine (storeX O10.out).mono ?_
  rintro e w11 ⟨rfl, rfl⟩
  go_wp2_with fail
  refine (loadX lY O10.out m (by rw [s1.out]; omega)).mono ?_
  rintro e w12 ⟨rfl, o12⟩
  rw [s3.out]
  have z1 : Hid ((s.load m).words.length = m + 1) := hide (by rw [load_words, s1.out])
  have z2 : Hid ((s.load m).words.getD 0 0 = 1) := hide (by rw [load_words, s2.out])
  generalize s.load m = s' at *
  generalize t.load m = t' at *
  have O12 := hide (o12.below (Loc.ax.sep lY) ((Alike.drewN w12 1).below _))
  clear o12 O10
  go_wp2
  have HAW := fun w => hide (awake11 w)
  refine region_start (J := BkAt B OO) (by kernel_rfl) ?_
  refine stretch (fuel := 30) (by kernel_rfl) (fun _ _ _ _ _ h => h) (Own.bo O12.out) [0, 1, 2, 3, 4, 5, 6, 7, 8, 9, 10, 11, 12, 13, 14, 15, 16] (by kernel_rfl) ?_
  simp only [List.filterMap_cons, List.filterMap_nil, List.getElem?_toArray, List.getElem?_cons_zero, List.getElem?_cons_succ]
  show wpQuiet _ _ _ _ [_, _, _, _, _, _, _, _, _, _, _, _, _, _, _, _, _] _
  repeat (go_big_quiet_step (fail))
  refine wpQuiet_nil ?_
  refine wpAnyJ_writer (i := 17) rfl (by kernel_rfl) (fun K hK => ?_)
  go_simp
  refine (genX O12.out (by rw [z1.out]; omega) 1 z2.out (by omega)).mono ?_
  rintro e w13 ⟨rfl, b13⟩
  have O13 := hide (O12.out.below (Loc.ax.sep lY) b13)
  refine hK _ _ (Own.bo O13.out) ?_
  clear hK K b13 O12
  refine stretch (fuel := 16) (by kernel_rfl) (fun _ _ _ _ _ h => h) (Own.bo O13.out) [18, 19, 20, 21, 24, 25, 26, 27, 28, 29, 30, 31, 32] (by kernel_rfl) ?_
  simp only [List.filterMap_cons, List.filterMap_nil, List.getElem?_toArray, List.getElem?_cons_zero, List.getElem?_cons_succ]
  show wpQuiet _ _ _ _ [_, _, _, _, _, _, _, _, _, _, _, _, _] _
  repeat (go_big_quiet_step (fail))
  refine wpQuiet_nil ?_
  refine wpAnyJ_writer (i := 22) rfl (by kernel_rfl) (fun K hK => ?_)
  go_simp
  have O14 := hide (O13.out.cast (R' := Sep (AX q pg T p r t' pg [] dn' L') (Sep (AX q' pg T p' r' s' pg [] 1 L) (BO B OO))) (by ac_rfl))
  have lZ : Loc (Sep (AX q' pg T p' r' s' pg [] 1 L) (BO B OO)) := Loc.ax.sep Loc.bo
  refine (runsX O14.out).mono ?_
  rintro e w14 ⟨rfl, rfl⟩
  refine hK _ _ (Own.bo O14.out) ?_
  clear hK K O13
  refine wpAnyJ_writer (i := 23) rfl (by kernel_rfl) (fun K hK => ?_)
  go_simp
  refine (totalX lZ O14.out HF2.out).mono ?_
  rintro e w15 ⟨rfl, o15⟩
  rw [a2.out]
  have O15 := hide (o15.cast (R' := Sep (AX q' pg T p' r' s' pg [] 1 L) (Sep (AX q pg T p r t' pg [] dn' L') (BO B OO))) (by ac_rfl))
  have lW : Loc (Sep (AX q pg T p r t' pg [] dn' L') (BO B OO)) := Loc.ax.sep Loc.bo
  refine hK _ _ (Own.bo O15.out) ?_
  clear hK K O14 o15
  refine stretch (fuel := 8) (by kernel_rfl) (fun _ _ _ _ _ h => h) (Own.bo O15.out) [33, 34, 35, 36, 39, 40] (by kernel_rfl) ?_
  simp only [List.filterMap_cons, List.filterMap_nil, List.getElem?_toArray, List.getElem?_cons_zero, List.getElem?_cons_succ]
  show wpQuiet _ _ _ _ [_, _, _, _, _, _] _
  repeat (go_big_quiet_step (fail))
  refine wpQuiet_nil ?_
  refine wpAnyJ_writer (i := 37) rfl (by kernel_rfl) (fun K hK => ?_)
  go_simp
  refine (runsX O15.out).mono ?_
  rintro e w16 ⟨rfl, rfl⟩
  refine hK _ _ (Own.bo O15.out) ?_
  clear hK K
  refine wpAnyJ_writer (i := 38) rfl (by kernel_rfl) (fun K hK => ?_)
  go_simp
  refine (totalX lW O15.out HF.out).mono ?_
  rintro e w17 ⟨rfl, o17⟩
  rw [a3.out]
  have O17 := hide o17
  refine hK _ _ (Own.bo O17.out) ?_
  clear hK K O15 o17
  refine stretch (fuel := 3) (by kernel_rfl) (fun _ _ _ _ _ h => h) (Own.bo O17.out) [41, 42, 43] (by kernel_rfl) ?_
  simp only [List.filterMap_cons, List.filterMap_nil, List.getElem?_toArray, List.getElem?_cons_zero, List.getElem?_cons_succ]
  show wpQuiet _ _ _ _ [_, _, _] _
  repeat (go_big_quiet_step (fail))
  refine wpQuiet_nil ?_
  refine wpAnyJ_writer (i := 44) rfl (by kernel_rfl) (fun K hK => ?_)
  go_simp
  refine (HAW _).out.mono ?_
  rintro e w18 ⟨rfl, b18⟩
  have O18 := hide (O17.out.below (Loc.ax.sep lW) b18)
  refine hK _ _ (Own.bo O18.out) ?_
  clear hK K b18 O17
  refine stretch (fuel := 0) (by kernel_rfl) (fun _ _ _ _ _ h => h) (Own.bo O18.out) [45, 46] (by kernel_rfl) ?_
  simp only [List.filterMap_cons, List.filterMap_nil, List.getElem?_toArray, List.getElem?_cons_zero, List.getElem?_cons_succ]
  show wpQuiet _ _ _ _ [_, _] _
  repeat (go_big_quiet_step (fail))
  refine wpQuiet_nil ?_
  refine wpAnyJ_done (by kernel_rfl) ?_
  go_wp2
  go_ret
  exact ⟨rfl, O18.out.back⟩

set_option maxRecDepth 100000 in
theorem lifted (os : Os) (started : os.Started) (H : Type) (enc : TypeId × Value → H) :
    ReturnsInHanded {} Try.checked os 6 .any (Rows.arenaOwnSpec.pre6 enc Try.prog Try.f6 Rows.arenaOwnRow.domain false) (Rows.arenaOwnSpec.post enc Try.prog Try.f6 false true false false) := by
  refine returnsInHanded_of_change (C := Try.checked) own started (by kernel_rfl) Try.func6
    (ChangeSpec.witness6 (enc := enc) (C := Try.checked) false ⟨#[], #[.int .u8 0, .int .u8 0, .int .u64 0, .int .u64 0, .int .u8 0], []⟩ 8 (by kernel_rfl) (by kernel_rfl) (by kernel_rfl) (by kernel_rfl)) ?_
  intro W base args ds gs before hval0 hW _ _
  have hval : ∀ (j : Nat) t v, Try.f6.params[j]? = some t → args[j]? = some v → Value.okWide Try.prog W .any base t v := hval0
  have hW' := hW
  obtain ⟨p, q, hA0, hV, rfl, hfz, hnd⟩ := hW
  have hA : DataW.TrodAll enc Try.prog W 0 (fun _ => true) true Try.f6.params.toList args.toList ds p := hA0
  rw [Try.params6] at hA hval
  obtain ⟨v0, vs0, d0, ds0, p0, q0, hargs, rfl, rfl, h0, r0⟩ := trodAll_cons hA
  obtain ⟨v1, vs1, d1, ds1, p1, q1, rfl, rfl, rfl, h1, r1⟩ := trodAll_cons r0
  obtain ⟨v2, vs2, d2, ds2, p2, q2, rfl, rfl, rfl, h2, r2⟩ := trodAll_cons r1
  obtain ⟨v3, vs3, d3, ds3, p3, q3, rfl, rfl, rfl, h3, r3⟩ := trodAll_cons r2
  obtain ⟨v4, vs4, d4, ds4, p4, q4, rfl, rfl, rfl, h4, r4⟩ := trodAll_cons r3
  obtain ⟨rfl, rfl, rfl⟩ := trodAll_nil r4
  obtain rfl : args = #[v0, v1, v2, v3, v4] := by cases args; simp_all
  obtain ⟨rfl, rfl⟩ := trodVars_none hV
  obtain ⟨a0, rfl, rfl, rfl, w0⟩ := open_int Try.underlying5 (hval 0 5 v0 rfl rfl) h0
  obtain ⟨a1, rfl, rfl, rfl, w1⟩ := open_int Try.underlying5 (hval 1 5 v1 rfl rfl) h1
  obtain ⟨a2, rfl, rfl, rfl, w2⟩ := open_int Try.underlying57 (hval 2 57 v2 rfl rfl) h2
  obtain ⟨a3, rfl, rfl, rfl, w3⟩ := open_int Try.underlying57 (hval 3 57 v3 rfl rfl) h3
  obtain ⟨a4, rfl, rfl, rfl, w4⟩ := open_int Try.underlying5 (hval 4 5 v4 rfl rfl) h4
  clear hA0 hval0
  obtain ⟨x0, hx0, rfl⟩ := u8_nat w0
  obtain ⟨x1, hx1, rfl⟩ := u8_nat w1
  obtain ⟨x2, hx2, rfl⟩ := u64_nat w2
  obtain ⟨x3, hx3, rfl⟩ := u64_nat w3
  obtain ⟨x4, hx4, rfl⟩ := u8_nat w4
  refine (walk x0 hx0 x1 hx1 x2 hx2 x3 hx3 x4 hx4 W).mono fun e W' ⟨he, bel⟩ => ?_
  subst he
  exact ⟨_, rfl, _, _, _, [], _, [], hW', trodAll_mk1 (shut_bool Try.underlying4 _), (trodAll_cons_mk (shut_int Try.underlying5 w0) (trodAll_cons_mk (shut_int Try.underlying5 w1) (trodAll_cons_mk (shut_int Try.underlying57 w2) (trodAll_cons_mk (shut_int Try.underlying57 w3) (trodAll_cons_mk (shut_int Try.underlying5 w4) trodAll_mk0))))), rfl, bel.frame _, fun h => by cases h⟩

end Go.Proofs.Ythcfmpjmgheieaa.arenaOwn
namespace Go.Proofs.Ythcfmpjmgheieaa

theorem arenaOwn_holds : Rows.ArenaOwnSaid :=
  OpenClaim.holds_of_wide 6 Try.f6 rfl rfl rfl rfl rfl rfl rfl ⟨rfl, rfl, rfl, rfl, rfl⟩ rfl rfl rfl rfl rfl (by kernel_rfl) Try.func6 (by kernel_rfl)
    (of_decide_eq_true (by kernel_rfl)) (by unfold Func.isWrapper; first | (rw [if_pos (by decide +kernel)]; kernel_rfl) | (rw [if_neg (by decide +kernel)]; exact ⟨rfl, rfl⟩))
    (fun os started H enc _ => arenaOwn.lifted os started H enc)
end Go.Proofs.Ythcfmpjmgheieaa
