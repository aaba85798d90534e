/- slices.SortFunc and slices.SortedFunc of runs; List. -/
import Derived.Test.YtgenkjmcddjaoaaGreatRunRow
import Derived.Shelf.SlSortCmp.NoneTotal
import Derived.Shelf.Lay
import Derived.Ground.SlsfProg
namespace Go.Proofs.YtgenkjmcddjaoaaGreat
open Go.RowKit Go.Shelf

shelf_lay_g SlLaysF0.n6 Slsf 6 at Tryz 115 as Tryz.sortRun

theorem nan60 (x : Int) (w : World) : Calls Tryz.prog 119 #[.int .i64 x] w fun e w' => e = .returned (.bool false) ∧ w' = w := by
  go_enter Tryz.func119, Tryz.ntmps119
  go_wp2
  go_ret
  exact ⟨rfl, rfl⟩

/-- Which comes first? -/
def cmpI (x y : Int) : Int := if x < y then -1 else if y < x then 1 else 0
set_option maxHeartbeats 1000000 in
theorem compare45 (x y : Int) (w : World) : Calls Tryz.prog 73 #[.int .i64 x, .int .i64 y] w fun e w' => e = .returned (.int .i64 (cmpI x y)) ∧ w' = w := by
  have HN := fun x w => hide (nan60 x w)
  have E : Hid (cmpI x y = if x < y then -1 else if y < x then 1 else 0) := hide rfl
  by_cases h1 : x < y
  · rw [E.out, if_pos h1]
    clear E
    go_enter Tryz.func73, Tryz.ntmps73
    go_wp2_with (go_at_call 119; refine (HN _ _).out.mono ?_; rintro e w1 ⟨rfl, rfl⟩)
    go_ret
    exact ⟨rfl, rfl⟩
  · by_cases h2 : y < x
    · rw [E.out, if_neg h1, if_pos h2]
      clear E
      go_enter Tryz.func73, Tryz.ntmps73
      go_wp2_with (go_at_call 119; refine (HN _ _).out.mono ?_; rintro e w1 ⟨rfl, rfl⟩)
      go_ret
      exact ⟨rfl, rfl⟩
    · rw [E.out, if_neg h1, if_neg h2]
      clear E
      go_enter Tryz.func73, Tryz.ntmps73
      go_wp2_with (go_at_call 119; refine (HN _ _).out.mono ?_; rintro e w1 ⟨rfl, rfl⟩)
      go_ret
      exact ⟨rfl, rfl⟩

def encR (x : Int × Int) : List Value := [.int .i64 x.1, .int .i64 x.2]
def cmpR (x y : Int × Int) : Int := cmpI x.1 y.1
theorem ltR (x y : Int × Int) : ltOf cmpR x y = decide (x.1 < y.1) := by
  unfold ltOf cmpR cmpI
  by_cases h1 : x.1 < y.1
  · simp [h1]
  · by_cases h2 : y.1 < x.1 <;> simp [h1, h2]
theorem swoR : Sort.SWO (ltOf cmpR) where
  irrefl x := by rw [ltR]; simp
  trans x y z h1 h2 := by rw [ltR] at *; simp at *; omega
  ntrans x y z h1 h2 := by rw [ltR] at *; simp at *; omega

theorem less44 (x y : Int × Int) (W : World) : Calls Tryz.prog 72 #[.agg #[.int .i64 x.1, .int .i64 x.2], .agg #[.int .i64 y.1, .int .i64 y.2]] W fun e w' => e = .returned (.int .i64 (cmpR x y)) ∧ ∃ q os', w' = Sort.grow (W.drewN q) os' := by
  obtain ⟨a, b⟩ := x
  obtain ⟨c, d⟩ := y
  have HC := fun w => hide (compare45 a c w)
  have E : Hid (cmpR (a, b) (c, d) = cmpI a c) := hide rfl
  rw [E.out]
  clear E
  generalize cmpI a c = r at *
  go_enter Tryz.func72, Tryz.ntmps72
  go_wp2_with (go_at_call 73; refine (HC _).out.mono ?_; rintro e w' ⟨rfl, rfl⟩)
  go_ret
  exact ⟨rfl, 0, _, by rw [Sort.alloc_eq_grow, Sort.alloc_eq_grow, Sort.grow_grow]; rfl⟩
theorem lays44 (blk off size : Nat) (w : World) : CmpLays Tryz.prog 72 #[] encR 2 cmpR blk off size w :=
  fun _ _ _ _ x y => less44 x y _

theorem sort59 (blk cap : Nat) (d : Array (Int × Int)) (w : World) (hH : Sort.HoldsK encR 2 w blk 0 d) (hblk : blk < w.heap.size) (hsz : d.size < 4611686018427387904) :
    Calls Tryz.prog 115 #[.slice (some ⟨blk, 0, none⟩) d.size cap, .func (.func 72) #[] #[]] w fun e w' => e = .returned (.tuple #[]) ∧ ∃ d' n os, Sort.PermIn 0 d.size d d' ∧ Sort.SortedIn (ltOf cmpR) 0 d.size d' ∧ w' = sortWorldK encR 2 w blk 0 n d' os :=
  AnyQ.slices_SortFunc Tryz.sortRun 2 Tryz.isAgg132 Tryz.sizeOf132 encR (fun _ => rfl) (fun x v hv => by simp [encR] at hv; rcases hv with rfl | rfl <;> rfl) cmpR swoR 72 #[] blk 0 cap d w
    (enters_of Tryz.func72 (by kernel_rfl) rfl) (lays44 blk 0 d.size w) hH hblk hsz
theorem sortNone59 (w : World) :
    Calls Tryz.prog 115 #[.slice none 0 0, .func (.func 72) #[] #[]] w fun e w' => e = .returned (.tuple #[]) ∧ w' = w :=
  AnyF.slices_SortFunc_none { Tryz.sortRun with } none 0 _ w

/-- A value that is such a list of runs. -/
def RunsV (W : World) (v : Value) (l : List (Int × Int)) : Prop := ∃ a c, v = .slice a l.length c ∧ (l ≠ [] → ∃ g, a = some ⟨g, 0, none⟩ ∧ g < W.heap.size ∧ ∀ i, i < l.length → W.cell? ⟨g, i * 2, none⟩ = some (.int .i64 (l.getD i (0, 0)).1) ∧ W.cell? ⟨g, i * 2 + 1, none⟩ = some (.int .i64 (l.getD i (0, 0)).2))
theorem RunsV.kept {W W' : World} {v : Value} {l : List (Int × Int)} {M : Nat → Prop} (h : RunsV W v l) (ho : Only M W W') (hM : ∀ a m c, v = .slice (some a) m c → ¬ M a.block) : RunsV W' v l := by
  obtain ⟨a, c, e, h⟩ := h
  refine ⟨a, c, e, fun hne => ?_⟩
  obtain ⟨g, e2, h2, h3⟩ := h hne
  have hg : ¬ M g := hM ⟨g, 0, none⟩ l.length c (by rw [e, e2])
  exact ⟨g, e2, Nat.lt_of_lt_of_le h2 ho.size, fun i hi => ⟨(ho.cell (p := ⟨g, i * 2, none⟩) h2 hg).trans (h3 i hi).1, (ho.cell (p := ⟨g, i * 2 + 1, none⟩) h2 hg).trans (h3 i hi).2⟩⟩
theorem RunsV.below {W W' : World} {v : Value} {l : List (Int × Int)} (h : RunsV W v l) (hb : Below W.heap.size W W') : RunsV W' v l := h.kept (Below.only hb (fun _ => False)) (fun _ _ _ _ h => h)

theorem holds_of_owns {W : World} {base g cap n : Nat} {l : List (Int × Int)} (h : W.ownsRow base 132 2 (.slice (some ⟨g, 0, none⟩) n cap) n (pairsI l)) (hl : l.length = n) : Sort.HoldsK encR 2 W g 0 l.toArray := by
  intro j hj
  rw [Sort.size_flatK] at hj
  simp only [List.size_toArray] at hj
  have hd : j / 2 < l.length := by omega
  rw [Sort.get_flatK _ _ _ _ (by simpa using hj), Nat.zero_add]
  refine ⟨?_, h.frozenAt j⟩
  rw [World.ownsRow.cellAt h j (by omega)]
  have hg : (l.toArray[j / 2]!) = l.getD (j / 2) (0, 0) := by simp [List.getD, hd]
  rw [hg]
  obtain ⟨q1, q2⟩ := pairsI_get l (j / 2) hd
  rcases Nat.mod_two_eq_zero_or_one j with e | e
  · rw [show j = j / 2 * 2 from by omega, q1]
    simp [encR]
  · rw [show j = j / 2 * 2 + 1 from by omega, q2, show (j / 2 * 2 + 1) / 2 = j / 2 from by omega, show (j / 2 * 2 + 1) % 2 = 1 from by omega]
    simp [encR]
theorem runs_of_holds {W : World} {g cap : Nat} {l : List (Int × Int)} (h : Sort.HoldsK encR 2 W g 0 l.toArray) (hg : g < W.heap.size) : RunsV W (.slice (some ⟨g, 0, none⟩) l.length cap) l := by
  refine ⟨_, _, rfl, fun _ => ⟨g, rfl, hg, fun i hi => ?_⟩⟩
  have e : (l.toArray[i]!) = l.getD i (0, 0) := by simp [List.getD, hi]
  have h0 := (Sort.HoldsK.cell h (i := i) (c := 0) (by simpa using hi) (by decide)).1
  have h1 := (Sort.HoldsK.cell h (i := i) (c := 1) (by simpa using hi) (by decide)).1
  rw [e] at h0 h1
  simp only [Nat.zero_add, Nat.add_zero] at h0 h1
  exact ⟨h0, h1⟩
theorem sorted_below {w : World} {b g n : Nat} {os : Array Obj} (d : Array (Int × Int)) (hb : b ≤ g) (hw : b ≤ w.heap.size) : Below b w (sortWorldK encR 2 w g 0 n d os) := by
  refine ⟨rfl, rfl, rfl, ?_, fun k hk => ?_⟩
  · simp [sortWorldK, Sort.grow, Sort.putRowK, Sort.putRow, Sort.mapBlock, Sort.ahead]
  · have : g ≠ k := by omega
    unfold sortWorldK
    rw [Sort.heap_grow_old _ _ (by simp [Sort.putRowK, Sort.putRow, Sort.mapBlock, Sort.ahead]; omega)]
    simp [Sort.putRowK, Sort.putRow, Sort.mapBlock, Sort.ahead, Array.getElem?_modify, this]

attribute [local go_sem] Oper.semAt_some

set_option maxHeartbeats 1000000 in
theorem sorted43 (n : Nat) (hn : 5 ≤ n) (gf : Nat) (lb : Array Value) (eg : ∀ args w, (callFunc gf args).run Tryz.prog w = .ok (.enter gf args) w) (K : List Int) (hKl : K.length ≤ 100000) (w : World)
    (hseq : SeqR Fence.wide (n - 1 - 1 - 1) Tryz.prog gf lb (fun k => #[.agg (runVal k)]) K w) :
    CallsIn Fence.wide n Tryz.prog 70 #[.func (.func gf) #[] lb, .func (.func 72) #[] #[]] w fun e w' =>
      ∃ v l, e = .returned v ∧ RunsV w' v l ∧ l.Perm (K.map rOf) ∧ (l.Pairwise fun x y => x.1 ≤ y.1) ∧ (∀ a m c, v = .slice (some a) m c → w.heap.size ≤ a.block) ∧ Below w.heap.size w w' := by
  have h1 : 1 ≤ n := by omega
  have H := hide (collect58 (n - 1) (by omega) gf lb eg K hKl w hseq)
  have HNO := fun m w => hide ((callsIn_wide (n := m)).2 (sortNone59 w))
  have HSO := fun m blk cap (d : Array (Int × Int)) w hH hb hs => hide ((callsIn_wide (n := m)).2 (sort59 blk cap d w hH hb hs))
  have HLK : Hid ((K.map rOf).length = K.length) := hide (List.length_map ..)
  clear hseq
  refine callsIn_of_wp Tryz.func70 rfl trivial ?_ rfl
  simp only [Tryz.ntmps70, List.size_toArray, List.length_cons, List.length_nil, Nat.reduceAdd, Nat.reduceSub, Array.replicate_succ, Array.replicate_zero, List.push_toArray, List.append_toArray, List.nil_append, List.cons_append]
  gi_wp2_with (refine ⟨trivial, ?_⟩; gi_at_call 114; refine H.out.mono ?_; rintro e w1 ⟨v, rfl, hrow, hb1⟩)
  have hb1' : Below w.heap.size w w1 := hb1
  rcases hrow.2 with ⟨rfl, h0⟩ | ⟨g, cap, cur, rfl, hg, hcur, _⟩
  · have HK0 : Hid (K = []) := hide (List.length_eq_zero_iff.1 h0)
    clear hrow h0 hb1
    gi_wp2_with (refine ⟨trivial, ?_⟩; gi_at_call 115; refine (HNO _ _).out.mono ?_; rintro e w2 ⟨rfl, rfl⟩)
    go_ret
    exact ⟨_, [], rfl, ⟨none, 0, rfl, fun h => absurd rfl h⟩, by rw [HK0.out]; exact List.Perm.refl _, List.Pairwise.nil, fun a m c e => by simp at e, hb1'⟩
  · have hgl : g < w1.heap.size := (Array.getElem?_eq_some_iff.1 hcur).1
    have HH := holds_of_owns hrow HLK.out
    have HS := hide (HSO (n - 1) g cap (K.map rOf).toArray w1 HH hgl (by simp; omega))
    have HHH := hide HH
    have hsz : (K.map rOf).toArray.size = K.length := by simp
    rw [hsz] at HS
    clear hrow hcur hb1 HH
    obtain ⟨m, hm⟩ : ∃ m, K.length = m := ⟨_, rfl⟩
    rw [hm] at HS hsz ⊢
    gi_wp2_with (refine ⟨trivial, ?_⟩; gi_at_call 115; refine HS.out.out.mono ?_; rintro e w2 ⟨rfl, d', nn, os, hp, hs, rfl⟩)
    have hw1 : w.heap.size ≤ w1.heap.size := hb1'.size
    have HB := hide (hb1'.trans (sorted_below (n := nn) (os := os) d' hg hw1))
    obtain ⟨p1, p2, p3⟩ := hp
    have HD := hide (holdsK_sortWorldK encR 2 w1 g 0 nn (K.map rOf).toArray d' os hgl HHH.out (by rw [p1, hsz]))
    have HL := hide (lt_sortWorldK encR 2 w1 g 0 nn d' os hgl)
    generalize sortWorldK encR 2 w1 g 0 nn d' os = W at *
    have HDS : Hid (d'.toList.length = m) := hide (by simpa using p1.trans hsz)
    have HP : Hid (d'.toList.Perm (K.map rOf)) := hide (by
      have e1 : d'.extract 0 m = d' := by rw [← hsz, ← p1]; exact Array.extract_size
      have e2 : (K.map rOf).toArray.extract 0 m = (K.map rOf).toArray := by rw [← hsz]; exact Array.extract_size
      rw [e1, e2] at p3
      simpa using p3)
    have HPW : Hid (d'.toList.Pairwise fun x y => x.1 ≤ y.1) := hide (by
      rw [List.pairwise_iff_getElem]
      intro i j hi hj hij
      have hm' := HDS.out
      have q := hs i j (Nat.zero_le _) hij (by omega)
      rw [ltR] at q
      simp only [Array.length_toList] at hi hj
      simp only [hi, hj, getElem!_pos] at q
      simp only [Array.getElem_toList]
      simpa using q)
    clear hs p1 p2 p3 HHH HS
    gi_wp2
    go_ret
    refine ⟨_, d'.toList, rfl, ?_, HP.out, HPW.out, fun a m c e => by cases e; exact hg, HB.out⟩
    rw [← HDS.out]
    exact runs_of_holds (by simpa using HD.out) HL.out

theorem list22 (w : World) (r t : Nat) (T : Tr Unit) (pg : Nat) (a : Option Addr) (c : Nat) (ds : List Nat) (dn : Nat) (L : RL) (h : RAt w r t T pg a c ds dn L) (hf : Fine pg ds dn L) :
    Calls Tryz.prog 43 #[.pointer (some ⟨r, 0, none⟩)] w fun e w' => ∃ v, e = .returned v ∧ RunsV w' v (runsOf L) ∧ (∀ a m c, v = .slice (some a) m c → w.heap.size ≤ a.block) ∧ Below w.heap.size w w' := by
  refine (callsIn_wide (n := 9)).1 ?_
  have h91 : (1 : Nat) ≤ 9 := by omega
  have HRI := fun n w => hide (all39 n (some ⟨r, 0, none⟩) w)
  have hbR : Below w.heap.size w (w.alloc (.cells #[.pointer (some ⟨r, 0, none⟩)] 104)) := (Below.refl _ w).alloc (Nat.le_refl _) _
  have hseq := allSeqR 5 (by omega) w.heap.size r t T pg a c ds dn L _ (h.below hbR) hf (by simp) (by simp)
  have HS := hide (sorted43 8 (by omega) 116 #[.pointer (some ⟨w.heap.size, 0, none⟩)] (enters_of Tryz.func116 (by kernel_rfl) rfl) (L.map (·.1)) (by rw [List.length_map]; exact hf.len) _ hseq)
  have HG := hide hf.good
  clear h hf hseq
  refine callsIn_of_wp Tryz.func43 rfl trivial ?_ rfl
  simp only [Tryz.ntmps43, List.size_toArray, List.length_cons, List.length_nil, Nat.reduceAdd, Nat.reduceSub, Array.replicate_succ, Array.replicate_zero, List.push_toArray, List.append_toArray, List.nil_append, List.cons_append]
  gi_wp2_with (first | (refine ⟨trivial, ?_⟩; gi_at_call 71; refine (HRI _ _).out.mono ?_; rintro e w2 ⟨rfl, rfl⟩) | (refine ⟨trivial, ?_⟩; gi_at_call 70; refine HS.out.mono ?_; rintro e w3 ⟨v, l, rfl, hv, hp, hpw, hnew, hb⟩))
  go_ret
  refine ⟨v, rfl, ?_, fun a m c e => by have := hnew a m c e; simp at this; omega, hbR.trans (hb.mono hbR.size)⟩
  rw [← runsOf_is HG.out hp hpw]
  exact hv
end Go.Proofs.YtgenkjmcddjaoaaGreat
