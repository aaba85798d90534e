/- The document's New. The document's runs: Put, where it answers an error. The document's runs: Put, where it is laid. The document's tree of runs, by the program's. How many pages are free: the document's count is the tree's. Which pages are free behind a take, behind a put. What the document's Put joins is what the program's joins. The document's runs beside other things: each call answers as the program's does. The document's layouts: May, maps, Words. Words that are held against each other. The document's arena. -/
import Derived.Test.YtafamfjgehnddaaPX
import Derived.Test.YtafamfjgehnddaaPS
import Derived.Deep.CutRange
import Derived.Deep.CutBlock
import Derived.Test.YtafamfjgehnddaaLayFns
import Derived.Test.YtafamfjgehnddaaOver
import Derived.Test.YtafamfjgehnddaaStoreMade
namespace Go.Proofs.Ytafamfjgehnddaa
open Go.RowKit

theorem oper_make {P : Program} (w : World) {o : Oper} {a : Act} {Q : Exit → Act → World → Prop} {K : Act → World → Prop}
    (l c : Operand) (t : TypeId) (hop : o.op = Op.makeSlice t l c)
    (base : Nat) (e : TypeId) (i : TypeInfo) (z : Value) (size : Nat) (h1 : P.underlying t = some (.slice e)) (h2 : P.info? e = some i) (h3 : i.zero = some z) (h4 : i.size = size)
    (kl kc : IntKind) (n : Nat) (hl : a.eval l = .int kl (n : Int)) (hc : a.eval c = .int kc (n : Int)) (b2 : i.bytes * n ≤ 281474976710656) (b3 : n ≤ maxLen) (b4 : base ≤ w.heap.size)
    (hK : ∀ w', w'.ownsRow base e size (.slice (some ⟨w.heap.size, 0, none⟩) n n) n (madeCells z.cells (n * size)).toList → w.grownBy w' none → K (a.put o.dst (.slice (some ⟨w.heap.size, 0, none⟩) n n)) w') :
    Oper.wp P o a w K Q := by
  obtain ⟨w', hrun, r1, r2⟩ := run_make_full (P := P) w base t e i z size h1 h2 h3 h4 kl kc n b2 b3 b4
  unfold Oper.wp
  simp [execOp, hop, hl, hc, hrun, Result.andThen]
  exact hK _ r1 r2

theorem infoBool : (Try.prog.info? 4).map (fun i => (i.zero, i.size, i.bytes)) = some (some (.bool false), 1, 1) := by kernel_rfl
theorem made_bool (n : Nat) : (madeCells (Value.bool false).cells (n * 1)).toList = (freeVals (fun _ => false) n).toList := by
  have e : (Value.bool false).cells = #[Value.bool false] := by kernel_rfl
  rw [e]
  simp only [madeCells, freeVals, Nat.mul_one, Array.toList_map, Array.toList_range]
  apply List.ext_getElem
  · simp
  · intro i h1 h2; simp [Nat.mod_one]
theorem owned_all {w : World} {base g n : Nat} {e : TypeId} {xs : List Value} (h : w.ownsRow base e 1 (.slice (some ⟨g, 0, none⟩) n n) n xs) : w.heap[g]? = some (.cells xs.toArray e (0, 0)) := by
  obtain ⟨hl, h | ⟨g', cap, cur, hv, hb, hh, h1, h2, h3, h4⟩⟩ := h
  · cases h.1
  · cases hv
    rw [hh]
    have : cur.toList = xs := by rw [← h4, List.take_of_length_le (by simp; omega)]
    rw [← this]

/-- The row of free pages lies at gf, the draws at v, apart. -/
structure XRows (U : World) (S gf pg : Nat) (v : Value) (n : Nat) (ds : List Nat) : Prop where
  free : U.heap[gf]? = some (.cells (freeVals (fun _ => false) pg) 4 (0, 0))
  draws : U.ownsRow S 38 1 v n (drawVals ds)
  ne : v.ownBlock ≠ some gf
  lo : S ≤ gf
theorem XAt.new {U : World} {S gf pg : Nat} {v : Value} {ds : List Nat} (h : XRows U S gf pg v ds.length ds) : ∃ va vc, v = .slice va ds.length vc ∧
    XAt (U.alloc (.cells #[.slice (some ⟨gf, 0, none⟩) pg pg, .slice none 0 0, .slice va ds.length vc, .int .i64 0] 164)) U.heap.size gf (.slice none 0 0) va vc pg (fun _ => false) ds 0 [] ∧ (∀ k, XF U.heap.size gf (.slice none 0 0) va ds k → S ≤ k ∨ k = U.heap.size) := by
  obtain ⟨va, vc, rfl, hz, hd, hg⟩ := draws_of_owns h.draws
  have hb : Below U.heap.size U (U.alloc (.cells #[.slice (some ⟨gf, 0, none⟩) pg pg, .slice none 0 0, .slice va ds.length vc, .int .i64 0] 164)) := (Below.refl _ U).alloc (Nat.le_refl _) _
  have hgl := lt_of_heap h.free
  refine ⟨va, vc, rfl, ⟨heap_alloc_at _ _, heap_alloc_old h.free, World.ownsRow_nil _ _ _ _, List.Pairwise.nil, hd.kept (Below.only hb (fun _ => False)) (fun _ _ _ h => h), by omega, by simp [Value.ownBlock], by simp [Value.ownBlock], fun hne g e => ?_⟩, fun k hk => ?_⟩
  · obtain ⟨g', e', hg', _⟩ := hd hne
    rw [e] at e'; cases e'
    refine ⟨by omega, fun q => h.ne ?_, by simp [Value.ownBlock]⟩
    rw [e, q]; rfl
  · rcases hk with rfl | rfl | hk | ⟨hne, e⟩
    · exact .inr rfl
    · exact .inl h.lo
    · simp [Value.ownBlock] at hk
    · exact .inl (hg _ e).2.2

def XBegun (w wc : World) (S x pg : Nat) (ds : List Nat) : Prop := ∃ gf va vc, XAt wc x gf (.slice none 0 0) va vc pg (fun _ => false) ds 0 [] ∧ (∀ k, XF x gf (.slice none 0 0) va ds k → S ≤ k) ∧ Below S w wc
theorem src_draws {w U : World} {a : Option Addr} {ds : List Nat} {c : Nat} (hz : a = none → ds = [] ∧ c = 0) (hd : DrawsIn w a ds) (hb : Below w.heap.size w U) : Src U (.slice a ds.length c) ds.length (drawVals ds) := by
  cases a with
  | none => obtain ⟨rfl, rfl⟩ := hz rfl; exact .inl ⟨rfl, rfl, rfl⟩
  | some ad =>
    refine .inr ⟨ad, c, rfl, fun j u hj => ?_⟩
    have hjl : j < ds.length := by have := (List.getElem?_eq_some_iff.1 hj).1; rwa [drawVals_length] at this
    obtain ⟨g, o, e, hg, hc⟩ := hd (fun e => by rw [e] at hjl; simp at hjl)
    cases e
    have hu : u = .int .u32 ((ds.getD j 0 : Nat) : Int) := by simpa [drawVals, List.getD, hjl, eq_comm] using hj
    have ea : (⟨g, o, none⟩ : Addr).add j = ⟨g, o + j, none⟩ := by unfold Addr.add; split <;> simp_all
    rw [ea, hu, ← hc j hjl]
    exact hb.cell (p := ⟨g, o + j, none⟩) hg
theorem drawVals_one (ds : List Nat) : ∀ u ∈ drawVals ds, u.oneCell' = true := by
  intro u hu
  simp [drawVals] at hu
  obtain ⟨_, _, rfl⟩ := hu
  rfl

theorem xnewNil (w : World) (p : Int) (a : Option Addr) (k c : Nat) (hp : p < 1 ∨ 4096 < p) :
    Calls Try.prog 87 #[.int .i64 p, .slice a k c] w fun e w' => e = .returned (.pointer none) ∧ Below w.heap.size w w' := by
  by_cases h1 : p < 1
  · clear hp
    go_enter Try.func87, Try.ntmps87
    go_wp2
    go_ret
    exact ⟨rfl, Below.refl _ _⟩
  · have h2 : 4096 < p := by omega
    clear hp
    go_enter Try.func87, Try.ntmps87
    go_wp2
    go_ret
    exact ⟨rfl, Below.refl _ _⟩

set_option maxRecDepth 100000 in
set_option maxHeartbeats 4000000 in
theorem xnew (w : World) (pg : Nat) (h1 : 1 ≤ pg) (h2 : pg ≤ 4096) (ds : List Nat) (hl : ds.length ≤ 1000000000) (a : Option Addr) (c : Nat) (hz : a = none → ds = [] ∧ c = 0) (hd : DrawsIn w a ds) :
    Calls Try.prog 87 #[.int .i64 (pg : Int), .slice a ds.length c] w fun e w' => ∃ x gf vt va vc fb, e = .returned (.pointer (some ⟨x, 0, none⟩)) ∧ (∀ p, p < pg → fb p = true) ∧ XAt w' x gf vt va vc pg fb ds 1 [(8192 * (pg : Int) + 0, ds.getD 0 0, 0)] ∧ (∀ k, XF x gf vt va ds k → w.heap.size ≤ k) ∧ Below w.heap.size w w' := by
  obtain ⟨i0, hi, hz0, hz1, hz2⟩ := info_parts infoU32
  obtain ⟨j0, hj, hy0, hy1, hy2⟩ := info_parts infoBool
  have HX : Hid (∀ U, Below w.heap.size w U → Src U (.slice a ds.length c) ds.length (drawVals ds)) := hide (fun U hU => src_draws hz hd hU)
  obtain ⟨S, hS⟩ : ∃ S, w.heap.size = S := ⟨_, rfl⟩
  obtain ⟨n, hn⟩ : ∃ n, ds.length = n := ⟨_, rfl⟩
  have HS := hide hS
  have HN := hide hn
  have HDL : Hid ((drawVals ds).length = n * 1) := hide (by rw [drawVals_length, hn, Nat.mul_one])
  have HD1 := hide (drawVals_one ds)
  rw [hn] at HX hl ⊢
  rw [hS] at HX ⊢
  clear hz hd hS hn
  go_enter Try.func87, Try.ntmps87
  go_upto_region 3 with fail
  go_cut [5] from 13 (fun r wc => ∃ x : Nat, r = .pointer (some ⟨x, 0, none⟩) ∧ Hid (XBegun w wc S x pg ds))
  case first =>
    have hB0 : Below S w w.drew := (Alike.drewN w 1).below _
    have hS0 : S ≤ w.drew.heap.size := by show S ≤ w.heap.size; rw [HS.out]; exact Nat.le_refl _
    refine startL 7 (J := fun _ => True) (by kernel_rfl) ?_
    refine stretchL (fuel := 6) (by kernel_rfl) (fun _ _ _ _ _ h => h) trivial [0, 3] (by kernel_rfl) ?_
    simp only [List.filterMap_cons, List.filterMap_nil, List.getElem?_toArray, List.getElem?_cons_zero, List.getElem?_cons_succ]
    show wpQuiet _ _ _ _ [_, _] _
    repeat (go_big_quiet_step (fail))
    refine wpQuiet_nil ?_
    refine twoL (i := 1) (j := 2) rfl rfl (by kernel_rfl) rfl rfl (fun K hK => ?_) (fun K hK => ?_)
    · refine oper_make _ _ _ 35 rfl S 4 j0 (.bool false) 1 Try.underlying35 hj hy0 hy1 .i64 .i64 pg rfl rfl (by rw [hy2]; omega) (by unfold maxLen; omega) hS0 ?_
      intro wm hown hgrow
      rw [made_bool] at hown
      have hrow := owned_all hown
      rw [Array.toArray_toList] at hrow
      have b1 : Below S w wm := hB0.trans (((Below.refl _ w.drew).grown hgrow (Nat.le_refl _) (by simp)).mono hS0)
      have s1 : S ≤ wm.heap.size := Nat.le_trans hS0 hgrow.size
      have g1 := lt_of_heap hrow
      generalize w.drew.heap.size = g at *
      refine hK _ _ (fun _ => trivial) ?_
      clear hK K
      simp only [Act.put, List.getElem_toArray, List.getElem_cons_succ, List.getElem_cons_zero, List.setIfInBounds_toArray, List.set_cons_succ, List.set_cons_zero]
      refine writerL (i := 2) rfl (by kernel_rfl) rfl (fun K hK => ?_)
      go_simp
      have own2 : (wm.alloc (.cells #[] 38)).ownsRow S 38 1 (.slice (some ⟨wm.heap.size, 0, none⟩) 0 0) 0 [] := ⟨rfl, .inr ⟨wm.heap.size, 0, #[], rfl, s1, heap_alloc_at _ _, Nat.le_refl _, Nat.zero_le _, rfl, rfl⟩⟩
      have b2 : Below S w (wm.alloc (.cells #[] 38)) := b1.alloc s1 _
      have s2 : S ≤ (wm.alloc (.cells #[] 38)).heap.size := by simp; omega
      have r2 : (wm.alloc (.cells #[] 38)).heap[g]? = some (.cells (freeVals (fun _ => false) pg) 4 (0, 0)) := heap_alloc_old hrow
      have z2 : (wm.alloc (.cells #[] 38)).heap.size = wm.heap.size + 1 := by simp
      refine hK _ _ (fun _ => trivial) ?_
      clear hK K
      generalize wm.alloc (.cells #[] 38) = u2 at *
      refine writerL (i := 4) rfl (by kernel_rfl) rfl (fun K hK => ?_)
      refine oper_append _ _ _ 73 rfl S 38 i0 (.int .u32 0) 1 4 Try.underlying73 hi hz0 hz1 hz2 rfl (by decide) (.slice (some ⟨wm.heap.size, 0, none⟩) 0 0) 0 [] rfl own2 n (drawVals ds) (HX.out _ b2) HDL.out HD1.out (by unfold maxLen; omega) (by omega) s2 ?_
      intro v4 u4 own4 hgr hat
      have b4 : Below S w u4 := b2.trans (grown_below own2 hgr s2)
      have s4 : S ≤ u4.heap.size := Nat.le_trans s2 hgr.size
      rw [List.nil_append, Nat.zero_add] at own4
      have XR : XRows u4 S g pg v4 n ds := ⟨(hgr.block g (by omega) (by simp [Value.ownBlock]; omega)).trans r2, own4, by rcases hat with e | e <;> rw [e] <;> simp [Value.ownBlock] <;> omega, hS0⟩
      have bU := b4
      have sU := s4
      refine hK _ _ (fun _ => trivial) ?_
      clear hK K
      simp only [Act.put, List.getElem_toArray, List.getElem_cons_succ, List.getElem_cons_zero, List.setIfInBounds_toArray, List.set_cons_succ, List.set_cons_zero]
      rw [← HN.out] at XR
      obtain ⟨va, vc, rfl, hX, hF⟩ := XAt.new XR
      refine writerL (i := 5) rfl (by kernel_rfl) rfl (fun K hK => ?_)
      go_simp
      refine hK _ _ (fun _ => trivial) ?_
      clear hK K
      refine writerL (i := 6) rfl (by kernel_rfl) rfl (fun K hK => ?_)
      go_simp
      refine hK _ _ (fun _ => trivial) ?_
      clear hK K
      refine writerL (i := 7) rfl (by kernel_rfl) rfl (fun K hK => ?_)
      go_simp
      refine hK _ _ (fun h => absurd rfl h) ?_
      clear hK K
      refine doneL (by kernel_rfl) ?_
      have HZ : Hid (XBegun w _ S _ pg ds) := hide ⟨_, _, _, hX, fun k hk => (hF k hk).elim (fun q => q) (fun q => by rw [q]; exact sU), bU.alloc sU _⟩
      clear hX hF XR bU
      try clear z1
      go_wp2
      go_meet
      exact ⟨_, rfl, HZ⟩
    · go_simp
      have b1 : Below S w (w.alloc (.cells #[] 38)).drew := ((Below.refl S w).alloc (by have := HS.out; omega) (.cells #[] 38)).trans ((Alike.drewN _ 1).below _)
      have s1 : S ≤ (w.alloc (.cells #[] 38)).drew.heap.size := by show S ≤ (w.alloc (.cells #[] 38)).heap.size; simp; have := HS.out; omega
      have own1 : (w.alloc (.cells #[] 38)).drew.ownsRow S 38 1 (.slice (some ⟨w.heap.size, 0, none⟩) 0 0) 0 [] := ownsRow_alike (w := w.alloc (.cells #[] 38)) ⟨rfl, .inr ⟨w.heap.size, 0, #[], rfl, by have := HS.out; omega, heap_alloc_at _ _, Nat.le_refl _, Nat.zero_le _, rfl, rfl⟩⟩ ⟨rfl, rfl, rfl, rfl⟩
      have z1 : (w.alloc (.cells #[] 38)).drew.heap.size = w.heap.size + 1 := by show (w.alloc (.cells #[] 38)).heap.size = _; simp
      refine hK _ _ (fun _ => trivial) ?_
      clear hK K
      generalize (w.alloc (.cells #[] 38)).drew = u1 at *
      generalize w.heap.size = e0 at *
      refine twoL (i := 1) (j := 4) rfl rfl (by kernel_rfl) rfl rfl (fun K hK => ?_) (fun K hK => ?_)
      · refine oper_make _ _ _ 35 rfl S 4 j0 (.bool false) 1 Try.underlying35 hj hy0 hy1 .i64 .i64 pg rfl rfl (by rw [hy2]; omega) (by unfold maxLen; omega) s1 ?_
        intro wm hown hgrow
        rw [made_bool] at hown
        have hrow := owned_all hown
        rw [Array.toArray_toList] at hrow
        have b2 : Below S w wm := b1.trans (((Below.refl _ u1).grown hgrow (Nat.le_refl _) (by simp)).mono s1)
        have s2 : S ≤ wm.heap.size := Nat.le_trans s1 hgrow.size
        have g1 := lt_of_heap hrow
        have own2 : wm.ownsRow S 38 1 (.slice (some ⟨e0, 0, none⟩) 0 0) 0 [] := ownsRow_kept own1 (Nat.le_refl _) (fun y hy hl => hgrow.block y hl (by simp))
        generalize u1.heap.size = g at *
        have z3 : e0 < g := by omega
        clear z1
        refine hK _ _ (fun _ => trivial) ?_
        clear hK K
        simp only [Act.put, List.getElem_toArray, List.getElem_cons_succ, List.getElem_cons_zero, List.setIfInBounds_toArray, List.set_cons_succ, List.set_cons_zero]
        refine writerL (i := 4) rfl (by kernel_rfl) rfl (fun K hK => ?_)
        refine oper_append _ _ _ 73 rfl S 38 i0 (.int .u32 0) 1 4 Try.underlying73 hi hz0 hz1 hz2 rfl (by decide) (.slice (some ⟨e0, 0, none⟩) 0 0) 0 [] rfl own2 n (drawVals ds) (HX.out _ b2) HDL.out HD1.out (by unfold maxLen; omega) (by omega) s2 ?_
        intro v4 u4 own4 hgr hat
        have b4 : Below S w u4 := b2.trans (grown_below own2 hgr s2)
        have s4 : S ≤ u4.heap.size := Nat.le_trans s2 hgr.size
        rw [List.nil_append, Nat.zero_add] at own4
        have XR : XRows u4 S g pg v4 n ds := ⟨(hgr.block _ (by omega) (by simp [Value.ownBlock]; omega)).trans hrow, own4, by rcases hat with e | e <;> rw [e] <;> simp [Value.ownBlock] <;> omega, s1⟩
        have bU := b4
        have sU := s4
        refine hK _ _ (fun _ => trivial) ?_
        clear hK K
        simp only [Act.put, List.getElem_toArray, List.getElem_cons_succ, List.getElem_cons_zero, List.setIfInBounds_toArray, List.set_cons_succ, List.set_cons_zero]
        rw [← HN.out] at XR
        obtain ⟨va, vc, rfl, hX, hF⟩ := XAt.new XR
        refine writerL (i := 5) rfl (by kernel_rfl) rfl (fun K hK => ?_)
        go_simp
        refine hK _ _ (fun _ => trivial) ?_
        clear hK K
        refine writerL (i := 6) rfl (by kernel_rfl) rfl (fun K hK => ?_)
        go_simp
        refine hK _ _ (fun _ => trivial) ?_
        clear hK K
        refine writerL (i := 7) rfl (by kernel_rfl) rfl (fun K hK => ?_)
        go_simp
        refine hK _ _ (fun h => absurd rfl h) ?_
        clear hK K
        refine doneL (by kernel_rfl) ?_
        have HZ : Hid (XBegun w _ S _ pg ds) := hide ⟨_, _, _, hX, fun k hk => (hF k hk).elim (fun q => q) (fun q => by rw [q]; exact sU), bU.alloc sU _⟩
        clear hX hF XR bU
        try clear z1
        go_wp2
        go_meet
        exact ⟨_, rfl, HZ⟩
      · refine oper_append _ _ _ 73 rfl S 38 i0 (.int .u32 0) 1 4 Try.underlying73 hi hz0 hz1 hz2 rfl (by decide) (.slice (some ⟨e0, 0, none⟩) 0 0) 0 [] rfl own1 n (drawVals ds) (HX.out _ b1) HDL.out HD1.out (by unfold maxLen; omega) (by omega) s1 ?_
        intro v4 u4 own4 hgr hat
        have b4 : Below S w u4 := b1.trans (grown_below own1 hgr s1)
        have s4 : S ≤ u4.heap.size := Nat.le_trans s1 hgr.size
        rw [List.nil_append, Nat.zero_add] at own4
        refine hK _ _ (fun _ => trivial) ?_
        clear hK K
        simp only [Act.put, List.getElem_toArray, List.getElem_cons_succ, List.getElem_cons_zero, List.setIfInBounds_toArray, List.set_cons_succ, List.set_cons_zero]
        refine writerL (i := 1) rfl (by kernel_rfl) rfl (fun K hK => ?_)
        refine oper_make _ _ _ 35 rfl S 4 j0 (.bool false) 1 Try.underlying35 hj hy0 hy1 .i64 .i64 pg rfl rfl (by rw [hy2]; omega) (by unfold maxLen; omega) s4 ?_
        intro wm hown hgrow
        rw [made_bool] at hown
        have hrow := owned_all hown
        rw [Array.toArray_toList] at hrow
        have bU : Below S w wm := b4.trans (((Below.refl _ u4).grown hgrow (Nat.le_refl _) (by simp)).mono s4)
        have sU : S ≤ wm.heap.size := Nat.le_trans s4 hgrow.size
        have XR : XRows wm S u4.heap.size pg v4 n ds := ⟨hrow, ownsRow_kept own4 (Nat.le_refl _) (fun y hy hl => hgrow.block y hl (by simp)), fun q => by have := (own_lt own4 q).2; omega, s4⟩
        refine hK _ _ (fun _ => trivial) ?_
        clear hK K
        simp only [Act.put, List.getElem_toArray, List.getElem_cons_succ, List.getElem_cons_zero, List.setIfInBounds_toArray, List.set_cons_succ, List.set_cons_zero]
        rw [← HN.out] at XR
        obtain ⟨va, vc, rfl, hX, hF⟩ := XAt.new XR
        refine writerL (i := 5) rfl (by kernel_rfl) rfl (fun K hK => ?_)
        go_simp
        refine hK _ _ (fun _ => trivial) ?_
        clear hK K
        refine writerL (i := 6) rfl (by kernel_rfl) rfl (fun K hK => ?_)
        go_simp
        refine hK _ _ (fun _ => trivial) ?_
        clear hK K
        refine writerL (i := 7) rfl (by kernel_rfl) rfl (fun K hK => ?_)
        go_simp
        refine hK _ _ (fun h => absurd rfl h) ?_
        clear hK K
        refine doneL (by kernel_rfl) ?_
        have HZ : Hid (XBegun w _ S _ pg ds) := hide ⟨_, _, _, hX, fun k hk => (hF k hk).elim (fun q => q) (fun q => by rw [q]; exact sU), bU.alloc sU _⟩
        clear hX hF XR bU
        try clear z1
        go_wp2
        go_meet
        exact ⟨_, rfl, HZ⟩
  case rest =>
    obtain ⟨x, rfl, hc⟩ := hcut
    obtain ⟨gf, va, vc, hX, hF, hB⟩ := hc.out
    clear hc HX HDL HD1 hi hz0 hz1 hz2 hj hy0 hy1 hy2
    have hX1 : XTurned wc wc x gf (.slice none 0 0) va vc pg (markF (fun _ => false) 0 0 true) ds 0 [] := by rw [markF_nil]; exact XTurned.same hX (Below.refl _ _)
    have HX1 := hide hX1
    have HF := hide hF
    have HB := hide hB
    clear hX hF hB hX1
    go_wp2_with fail
    go_loopg [6] pg (fun m r wr => ∃ j : Nat, j + m = pg ∧ r = .int .i64 (j : Int) ∧ Hid (XTurned wc wr x gf (.slice none 0 0) va vc pg (markF (fun _ => false) 0 j true) ds 0 []))
    case atStart => exact ⟨0, by omega, rfl, HX1⟩
    case round =>
      obtain ⟨j, hj, rfl, hT⟩ := hrel
      obtain ⟨vt, hX, hO, hV⟩ := hT.out
      by_cases hlt : j < pg
      · have c0 : wr.cell? ⟨x, 0, none⟩ = some (.slice (some ⟨gf, 0, none⟩) pg pg) := cell_of_heap hX.head
        have c1 := hX.cell hlt
        have cf : wr.frozen? ⟨gf, j, none⟩ = false := frozen_of_heap hX.free
        have d1 : decide ((j : Int) < (pg : Int)) = true := by simp; omega
        have d2 : decide (j < pg) = true := by simp; omega
        have HN2 := hide (XTurned.chain hO hV (hX.mark j true))
        rw [markF_next _ _ _ _ (Nat.zero_le _)] at HN2
        generalize markF (fun _ => false) 0 j true j = bj at *
        clear hX hO hV hT
        go_wp2
        go_roundg (pg - (j + 1))
        case measure => omega
        case rel => exact ⟨j + 1, by omega, by go_num, HN2⟩
      · have : j = pg := by omega
        subst this
        have HA := hide (xadd wr x gf vt va vc j _ ds 0 [] hX 0 (j : Int) (by omega) (by omega) rfl (by simp) (by omega))
        have HO := hide hO
        have HV := hide hV
        clear hX hO hV hT HX1
        go_wp2_with fail
        refine HA.out.mono ?_
        rintro e w5 ⟨rfl, vt5, hX5, hO5, hV5⟩
        have H5 := hide hX5
        have HO5 := hide hO5
        have HV5 := hide hV5
        clear hX5 hO5 hV5 HA
        go_wp2
        go_ret
        refine ⟨x, gf, vt5, va, vc, _, rfl, fun p hp => ?_, H5.out, fun k hk => ?_, ?_⟩
        · unfold markF; rw [if_pos ⟨Nat.zero_le _, hp⟩]
        · have hs := HB.out.size
          have hs2 := HS.out
          have hs3 := HO.out.size
          rcases hk with hk | hk | hk | hk
          · exact HF.out k (.inl hk)
          · exact HF.out k (.inr (.inl hk))
          · rcases HV5.out k hk with q | q
            · rcases HV.out k q with q | q
              · simp [Value.ownBlock] at q
              · omega
            · omega
          · exact HF.out k (.inr (.inr (.inr hk)))
        · refine HB.out.trans (((HO.out.trans HO5.out)).below ?_ (fun i hi => ?_))
          · have hs := HB.out.size
            have hs2 := HS.out
            omega
          · rcases hi with rfl | rfl
            · exact HF.out _ (.inl rfl)
            · exact HF.out _ (.inr (.inl rfl))
end Go.Proofs.Ytafamfjgehnddaa

namespace Go.Proofs.Ytafamfjgehnddaa
open Go.RowKit

end Go.Proofs.Ytafamfjgehnddaa

namespace Go.Proofs.Ytafamfjgehnddaa
open Go.RowKit

def besR (t n : Int) (r : Int × Int) : Prop := r.1 + r.2 = t ∨ r.1 = t + n
instance (t n : Int) (r : Int × Int) : Decidable (besR t n r) := by unfold besR; infer_instance
/-- What the document's Put has joined behind j runs, and what is left of the tree. -/
def putTo (t n : Int) (l : List (Int × Int)) (M : List (It Int)) : Nat → (Int × Int) × List (It Int)
  | 0 => ((t, n), M)
  | j + 1 => if besR t n (l.getD j (0, 0)) then ((min (putTo t n l M j).1.1 (l.getD j (0, 0)).1, (putTo t n l M j).1.2 + (l.getD j (0, 0)).2), delL (8192 * (l.getD j (0, 0)).2 + (l.getD j (0, 0)).1) (putTo t n l M j).2) else putTo t n l M j
/-- The row of runs lies at va, apart from some blocks. -/
def RowAt (va : Option Addr) (l : List (Int × Int)) (S : Nat → Prop) (w : World) : Prop := ∀ i, i < l.length → ∃ g, va = some ⟨g, 0, none⟩ ∧ ¬ S g ∧ g < w.heap.size ∧ w.cell? ⟨g, i * 2, none⟩ = some (.int .i64 (l.getD i (0, 0)).1) ∧ w.cell? ⟨g, i * 2 + 1, none⟩ = some (.int .i64 (l.getD i (0, 0)).2)
theorem RowAt.only {va : Option Addr} {l : List (Int × Int)} {S : Nat → Prop} {w w' : World} (h : RowAt va l S w) (o : Only S w w') : RowAt va l S w' := fun i hi => by
  obtain ⟨g, e, h1, h2, h3, h4⟩ := h i hi
  exact ⟨g, e, h1, Nat.lt_of_lt_of_le h2 o.size, (o.cell (p := ⟨g, i * 2, none⟩) h2 h1).trans h3, (o.cell (p := ⟨g, i * 2 + 1, none⟩) h2 h1).trans h4⟩
/-- Two cells of a row, and a run of one's own. -/
structure TwoAt (g j b : Nat) (A N B K : Int) (w : World) : Prop where
  c0 : w.cell? ⟨g, j * 2, none⟩ = some (.int .i64 A)
  c1 : w.cell? ⟨g, j * 2 + 1, none⟩ = some (.int .i64 N)
  bx : RunBox b B K w
theorem TwoAt.block {g j b : Nat} {A N B K : Int} {w w' : World} (h : TwoAt g j b A N B K w) (e1 : w'.heap[g]? = w.heap[g]?) (e2 : w'.heap[b]? = w.heap[b]?) : TwoAt g j b A N B K w' :=
  ⟨(World.cell?_of_block (a := ⟨g, j * 2, none⟩) e1).trans h.c0, (World.cell?_of_block (a := ⟨g, j * 2 + 1, none⟩) e1).trans h.c1, e2.trans h.bx⟩

theorem XTurned.far {w u : World} {x gf : Nat} {vt : Value} {a : Option Addr} {c pg : Nat} {fb fb' : Nat → Bool} {ds : List Nat} {dn dn' : Nat} {M M' : List (It Int)} (h : XAt w x gf vt a c pg fb ds dn M) (hT : XTurned w u x gf vt a c pg fb' ds dn' M') {b : Nat} {B K : Int} (hb : w.heap.size ≤ b) (hR : RunBox b B K u) (o : Nat) (v : Value) : XTurned w (u.setCell ⟨b, o, none⟩ v) x gf vt a c pg fb' ds dn' M' := by
  obtain ⟨v1, h1, h2, h3⟩ := hT
  have hx := lt_of_heap h.head
  have hg := lt_of_heap h.free
  refine ⟨v1, h1.kept (S := fun k => k = b) ((Only.refl (fun k => k = b) u).setCell (p := ⟨b, o, none⟩) (.inl rfl) v) (fun y hy e => ?_), h2.setCell (p := ⟨b, o, none⟩) (.inr hb) v, h3⟩
  rcases hy with q | q | q | ⟨q1, q2⟩
  · omega
  · omega
  · rcases h1.row.2 with ⟨e0, _⟩ | ⟨g, cap, cur, e0, _, e2, _⟩
    · rw [e0] at q; simp [Value.ownBlock] at q
    · rw [e0] at q
      simp only [Value.ownBlock, Option.some.injEq] at q
      unfold RunBox at hR
      rw [q, e, hR] at e2
      simp at e2
  · have := h.lt (.inr (.inr (.inr ⟨q1, q2⟩)))
    omega
theorem TwoAt.set0 {g j b : Nat} {A N B K B' : Int} {w : World} (h : TwoAt g j b A N B K w) (hg : g ≠ b) : TwoAt g j b A N B' K (w.setCell ⟨b, 0, none⟩ (.int .i64 B')) :=
  ⟨(World.cell?_of_block (a := ⟨g, j * 2, none⟩) (heap_setCell_ne hg _)).trans h.c0, (World.cell?_of_block (a := ⟨g, j * 2 + 1, none⟩) (heap_setCell_ne hg _)).trans h.c1, heap_setCell_at h.bx _⟩
theorem TwoAt.set1 {g j b : Nat} {A N B K K' : Int} {w : World} (h : TwoAt g j b A N B K w) (hg : g ≠ b) : TwoAt g j b A N B K' (w.setCell ⟨b, 1, none⟩ (.int .i64 K')) :=
  ⟨(World.cell?_of_block (a := ⟨g, j * 2, none⟩) (heap_setCell_ne hg _)).trans h.c0, (World.cell?_of_block (a := ⟨g, j * 2 + 1, none⟩) (heap_setCell_ne hg _)).trans h.c1, heap_setCell_at h.bx _⟩

end Go.Proofs.Ytafamfjgehnddaa

namespace Go.Proofs.Ytafamfjgehnddaa
open Go.RowKit

def itX (i : It Unit) : It Int := (i.1, i.2.1, rA i.1)
def itemsX (L : RL) : List (It Int) := L.map itX
theorem itemsX_length (L : RL) : (itemsX L).length = L.length := List.length_map _
theorem itemsX_rising {L : RL} (h : Rising L) : Rising (itemsX L) := by
  unfold Rising itemsX
  rw [List.pairwise_map]
  exact h
theorem itemsX_get (key : Int) (L : RL) : getL key (itemsX L) = (getL key L).map itX := by
  unfold getL itemsX
  rw [List.find?_map]
  rfl
theorem itemsX_del (key : Int) (L : RL) : delL key (itemsX L) = itemsX (delL key L) := by
  unfold delL itemsX
  rw [List.filter_map]
  rfl
theorem itemsX_ins (a n : Int) (d : Nat) (L : RL) (h0 : 0 ≤ a) (h1 : a < 8192) : insL (8192 * n + a) d a (itemsX L) = itemsX (insL (kOf a n) d () L) := by
  have e : 8192 * n + a = kOf a n := by unfold kOf; omega
  have e2 : itX (kOf a n, d, ()) = (kOf a n, d, a) := by unfold itX; rw [rA_k h0 h1]
  rw [e]
  unfold insL itemsX
  rw [List.filter_map, List.filter_map, List.map_append, List.map_cons, e2]
  rfl
theorem itemsX_shp {L : RL} (h : Rising L) : shp (itemsX L) = shp L := by
  refine shp_alike (itemsX_rising h) h ?_
  unfold itemsX
  rw [List.map_map]
  rfl
/-- The document's best run is the tree's. -/
theorem bestTo_spec (n : Int) (l : List (Int × Int)) : ∀ j, j ≤ l.length → match bestTo n l j with
    | none => ∀ i, i < j → (l.getD i (0, 0)).2 < n
    | some q => ∃ k, k < j ∧ l.getD k (0, 0) = q ∧ n ≤ q.2 ∧ ∀ i, i < j → n ≤ (l.getD i (0, 0)).2 → q.2 ≤ (l.getD i (0, 0)).2 ∧ (i < k → q.2 < (l.getD i (0, 0)).2)
  | 0, _ => by
    simp only [bestTo]
    intro i hi; omega
  | j + 1, hj => by
    have ih := bestTo_spec n l j (by omega)
    simp only [bestTo]
    cases hb : bestTo n l j with
    | none =>
      rw [hb] at ih
      simp only at ih
      by_cases k1 : n ≤ (l.getD j (0, 0)).2
      · simp only [bestStep, k1, if_true]
        refine ⟨j, by omega, rfl, trivial, fun i hi hn => ?_⟩
        by_cases e : i = j
        · subst e; exact ⟨Int.le_refl _, fun q => by omega⟩
        · have := ih i (by omega); omega
      · simp only [bestStep, k1, if_false]
        intro i hi
        by_cases e : i = j
        · subst e; omega
        · exact ih i (by omega)
    | some q =>
      rw [hb] at ih
      simp only at ih
      obtain ⟨k, hk, e1, e2, e3⟩ := ih
      by_cases k1 : n ≤ (l.getD j (0, 0)).2 ∧ (l.getD j (0, 0)).2 < q.2
      · simp only [bestStep, k1, and_self, if_true]
        refine ⟨j, by omega, rfl, trivial, fun i hi hn => ?_⟩
        by_cases e : i = j
        · subst e; exact ⟨Int.le_refl _, fun q => by omega⟩
        · have := (e3 i (by omega) hn).1; omega
      · simp only [bestStep, k1, if_false]
        refine ⟨k, by omega, e1, e2, fun i hi hn => ?_⟩
        by_cases e : i = j
        · subst e; exact ⟨by omega, fun q => by omega⟩
        · exact e3 i (by omega) hn
theorem best_fit {pg : Int} {L : RL} (h : Good pg L) (n : Int) (hn : 1 ≤ n) : bestL n (runsOf L) = (fitL n L).map (fun i => (rA i.1, rN i.1)) := by
  unfold bestL
  rw [if_neg (by omega)]
  have hs := bestTo_spec n (runsOf L) (runsOf L).length (Nat.le_refl _)
  have hin := bestTo_in (n := n) (l := runsOf L) (runsOf L).length (Nat.le_refl _)
  have hup := runsOf_up h
  have hget : ∀ i ∈ L, ∃ k, k < (runsOf L).length ∧ (runsOf L).getD k (0, 0) = (rA i.1, rN i.1) := fun i hi => by
    obtain ⟨k, hk, e⟩ := List.getElem_of_mem (runsOf_mem.2 ⟨i, hi, rfl⟩)
    exact ⟨k, hk, by simp [List.getD, hk, e]⟩
  cases hb : bestTo n (runsOf L) (runsOf L).length with
  | none =>
    rw [hb] at hs
    simp only at hs
    cases hf : fitL n L with
    | none => rfl
    | some i =>
      obtain ⟨q1, q2, _⟩ := fit_some h.ris hf
      obtain ⟨k, hk, e⟩ := hget i q1
      have := hs k hk
      rw [e] at this
      simp only at this
      omega
  | some q =>
    rw [hb] at hs
    simp only at hs
    obtain ⟨k, hk, e1, e2, e3⟩ := hs
    obtain ⟨j, hj, ej⟩ := runsOf_mem.1 (hin q hb)
    cases hf : fitL n L with
    | none => have := fit_none hf j hj; rw [ej] at e2; simp only at e2; omega
    | some i =>
      obtain ⟨q1, q2, q3⟩ := fit_some h.ris hf
      obtain ⟨k2, hk2, e4⟩ := hget i q1
      have h5 := e3 k2 hk2 (by rw [e4]; exact q2)
      have h6 := q3 j hj (by rw [ej] at e2; exact e2)
      rw [e4] at h5
      rw [ej] at h5 e1
      simp only at h5
      have : rN i.1 = rN j.1 := by omega
      have hle : rA i.1 ≤ rA j.1 := by omega
      have hge : rA j.1 ≤ rA i.1 := by
        by_cases hkk : k2 < k
        · have := h5.2 hkk; omega
        · by_cases hke : k2 = k
          · rw [hke, e1] at e4; simp only [Prod.mk.injEq] at e4; omega
          · have hlt := List.pairwise_iff_getElem.1 hup k k2 hk hk2 (by omega)
            have u1 : (runsOf L)[k] = (runsOf L).getD k (0, 0) := by simp [List.getD, hk]
            have u2 : (runsOf L)[k2] = (runsOf L).getD k2 (0, 0) := by simp [List.getD, hk2]
            rw [u1, u2, e1, e4] at hlt
            simp only at hlt
            omega
      rw [ej]
      simp only [Option.map_some, Option.some.injEq, Prod.mk.injEq]
      omega
end Go.Proofs.Ytafamfjgehnddaa

namespace Go.Proofs.Ytafamfjgehnddaa
open Go.RowKit

/-- The lengths of the runs of the first k pages add up to the pages that are free. -/
theorem runsN_sum (fb : Nat → Bool) : ∀ k, (((runsN (fun p => !fb p) k).map intP).map fun r => r.2).sum = (cntF fb k : Int)
  | 0 => rfl
  | k + 1 => by
    have ih := runsN_sum fb k
    unfold runsN cntF
    by_cases hb : fb k = true
    · rw [if_neg (by simp [hb]), if_pos hb]
      by_cases he : Ends (runsN (fun p => !fb p) k) k
      · obtain ⟨R0, r, hR, _, hs⟩ := runStep_ends he
        rw [hs]
        rw [hR] at ih
        simp only [List.map_append, List.map_cons, List.map_nil, List.sum_append, List.sum_cons, List.sum_nil, intP] at ih ⊢
        omega
      · rw [runStep_new he]
        simp only [List.map_append, List.map_cons, List.map_nil, List.sum_append, List.sum_cons, List.sum_nil, intP] at ih ⊢
        omega
    · rw [if_pos (by simp [hb]), if_neg hb]
      exact ih
theorem sum_perm {l m : List Int} (h : l.Perm m) : l.sum = m.sum := by
  induction h with
  | nil => rfl
  | cons x _ ih => simp [ih]
  | swap x y l => simp; omega
  | trans _ _ a b => exact a.trans b
theorem runsOf_sum (L : RL) : ((runsOf L).map fun r => r.2).sum = totL L := by
  have h := (runsOf_perm L).map (fun r : Int × Int => r.2)
  rw [sum_perm h]
  unfold totL
  rw [List.map_map, List.map_map]
  rfl
theorem cnt_is {pg : Nat} (hq : pg ≤ 4096) {fb : Nat → Bool} {L : RL} (h : Good pg L) (hf : FreeIs pg fb L) : (cntF fb pg : Int) = totL L := by
  rw [← runsOf_sum, ← scan_is hq h hf, runsN_sum]
end Go.Proofs.Ytafamfjgehnddaa

namespace Go.Proofs.Ytafamfjgehnddaa
open Go.RowKit

theorem free_take {pg : Nat} {fb : Nat → Bool} {L : RL} (h : Good pg L) (hq : pg ≤ 4096) (hf : FreeIs pg fb L) {i : It Unit} (hi : i ∈ L) {A n : Nat} (hA : rA i.1 = (A : Int)) (hn : 1 ≤ n) (hl : (n : Int) ≤ rN i.1) (d : Nat) : FreeIs pg (markF fb A (A + n) false) (cutL i (n : Int) d L) := fun p hp => by
  rw [fr_cut h (by omega) hi (by omega) hl, ← hf p hp, hA]
  unfold markF
  by_cases k : A ≤ p ∧ p < A + n
  · rw [if_pos k]
    constructor
    · intro q; cases q
    · rintro ⟨_, q⟩; exact absurd ⟨by omega, by omega⟩ q
  · rw [if_neg k]
    exact ⟨fun q => ⟨q, fun r => k (by omega)⟩, fun q => q.1⟩
theorem free_put {pg : Nat} {fb : Nat → Bool} {L : RL} (h : Good pg L) (hq : pg ≤ 4096) (hf : FreeIs pg fb L) {t n : Nat} (hn : 1 ≤ n) (hp : t + n ≤ pg) (hh : ∀ i ∈ L, hits (t : Int) (n : Int) i.1 = false) (d : Nat) : FreeIs pg (markF fb t (t + n) true) (laidL (t : Int) (n : Int) d L) := fun p hpp => by
  rw [fr_put h (by omega) (by omega) (by omega) (by omega) hh, ← hf p hpp]
  unfold markF
  by_cases k : t ≤ p ∧ p < t + n
  · rw [if_pos k]
    exact ⟨fun _ => .inr (by omega), fun _ => rfl⟩
  · rw [if_neg k]
    exact ⟨fun q => .inl q, fun q => q.elim (fun r => r) (fun r => absurd (by omega) k)⟩
theorem free_hits {pg : Nat} {fb : Nat → Bool} {L : RL} (h : Good pg L) (hf : FreeIs pg fb L) {t n : Nat} (hn : 1 ≤ n) (hp : t + n ≤ pg) : (∃ p, t ≤ p ∧ p < t + n ∧ fb p = true) ↔ ∃ i ∈ L, hits (t : Int) (n : Int) i.1 = true := by
  rw [hit_fr h (by omega)]
  constructor
  · rintro ⟨p, h1, h2, h3⟩
    exact ⟨(p : Int), by omega, by omega, (hf p (by omega)).1 h3⟩
  · rintro ⟨p, h1, h2, h3⟩
    obtain ⟨k, rfl⟩ : ∃ k : Nat, p = (k : Int) := ⟨p.toNat, by omega⟩
    exact ⟨k, by omega, by omega, (hf k (by omega)).2 h3⟩
theorem free_new {pg : Nat} {d : Nat} : FreeIs pg (fun _ => true) [(kOf 0 (pg : Int), d, ())] := fun p hp => by
  refine ⟨fun _ => ⟨_, List.mem_singleton.2 rfl, ?_, ?_⟩, fun _ => rfl⟩
  · simp only; rw [rA_k (by omega) (by omega)]; omega
  · simp only; rw [rA_k (by omega) (by omega), rN_k (by omega) (by omega)]; omega
end Go.Proofs.Ytafamfjgehnddaa

namespace Go.Proofs.Ytafamfjgehnddaa
open Go.RowKit

def kP (r : Int × Int) : Int := kOf r.1 r.2
/-- The keys beside, among the first j runs. -/
def ksTo (t n : Int) (l : List (Int × Int)) (j : Nat) : List Int := ((l.take j).map kP).filter (besd t n)
theorem bes_iff {t n : Int} {r : Int × Int} (h0 : 0 ≤ r.1) (h1 : r.1 < 8192) : besR t n r ↔ besd t n (kP r) = true := by
  unfold kP besR
  rw [besd_iff, rA_k h0 h1, rN_k h0 h1]
  omega
theorem putTo_is (t n : Int) (l : List (Int × Int)) (L : RL) (hb : ∀ r ∈ l, 0 ≤ r.1 ∧ r.1 < 8192) : ∀ j, j ≤ l.length → putTo t n l (itemsX L) j = ((ksTo t n l j).foldl joinR (t, n), itemsX (delsL (ksTo t n l j) L))
  | 0, _ => rfl
  | j + 1, hj => by
    have ih := putTo_is t n l L hb j (by omega)
    have hjl : j < l.length := by omega
    have hg : l.getD j (0, 0) = l[j] := by simp [List.getD, hjl]
    have hbj := hb l[j] (List.getElem_mem _)
    have ht : l.take (j + 1) = l.take j ++ [l[j]] := List.take_succ_eq_append_getElem hjl
    unfold putTo
    rw [hg]
    by_cases hbes : besR t n l[j]
    · have hk := (bes_iff hbj.1 hbj.2).1 hbes
      have e : ksTo t n l (j + 1) = ksTo t n l j ++ [kP l[j]] := by
        unfold ksTo
        rw [ht, List.map_append, List.filter_append]
        simp [hk]
      have e5 : delsL (ksTo t n l j ++ [kP l[j]]) L = delL (kP l[j]) (delsL (ksTo t n l j) L) := by unfold delsL; rw [List.foldl_append]; rfl
      rw [if_pos hbes, ih, e, List.foldl_append, e5]
      have e2 : 8192 * l[j].2 + l[j].1 = kP l[j] := by unfold kP kOf; omega
      rw [e2]
      simp only [List.foldl_cons, List.foldl_nil, joinR]
      rw [itemsX_del]
      have e3 : rA (kP l[j]) = l[j].1 := rA_k hbj.1 hbj.2
      have e4 : rN (kP l[j]) = l[j].2 := rN_k hbj.1 hbj.2
      rw [e3, e4]
    · have hk : ¬ besd t n (kP l[j]) = true := fun q => hbes ((bes_iff hbj.1 hbj.2).2 q)
      have e : ksTo t n l (j + 1) = ksTo t n l j := by
        unfold ksTo
        rw [ht, List.map_append, List.filter_append]
        simp [hk]
      rw [if_neg hbes, ih, e]
theorem ks_perm {t n : Int} (L : RL) : (ksTo t n (runsOf L) (runsOf L).length).Perm (besK t n L) := by
  unfold ksTo besK
  rw [List.take_of_length_le (Nat.le_refl _)]
  refine List.Perm.filter _ ?_
  have h := (runsOf_perm L).map kP
  rw [List.map_map] at h
  have e : (kP ∘ rOf) = id := by funext k; exact k_r k
  rw [e, List.map_id] at h
  exact h
theorem joinR_swap (c : Int × Int) (k j : Int) : joinR (joinR c k) j = joinR (joinR c j) k := by
  unfold joinR
  simp only [Prod.mk.injEq]
  constructor <;> omega
theorem whole_perm {ks ks' : List Int} (h : ks.Perm ks') : ∀ c, ks.foldl joinR c = ks'.foldl joinR c := by
  induction h with
  | nil => exact fun _ => rfl
  | cons x _ ih => exact fun c => ih _
  | swap x y l => exact fun c => by simp only [List.foldl_cons]; rw [joinR_swap]
  | trans _ _ a b => exact fun c => (a c).trans (b c)
theorem dels_perm {ks ks' : List Int} (h : ks.Perm ks') {L : RL} (hr : Rising L) : delsL ks L = delsL ks' L := by
  refine up_ext (f := fun i : It Unit => i.1) (dels_rising (ks := ks) hr) (dels_rising (ks := ks') hr) (fun i => ?_)
  rw [dels_mem, dels_mem, h.mem_iff]
theorem put_all {pg : Nat} {L : RL} (h : Good pg L) (t n : Int) : putTo t n (runsOf L) (itemsX L) (runsOf L).length = (wholeL t n (besK t n L), itemsX (delsL (besK t n L) L)) := by
  rw [putTo_is t n _ L (fun r hr => by obtain ⟨i, _, rfl⟩ := runsOf_mem.1 hr; exact rA_bd i.1) _ (Nat.le_refl _), whole_perm (ks_perm L), dels_perm (ks_perm L) h.ris]
  rfl
end Go.Proofs.Ytafamfjgehnddaa

namespace Go.Proofs.Ytafamfjgehnddaa
open Go.RowKit

theorem ks_nodup {t n : Int} {L : RL} (h : Rising L) (j : Nat) : (ksTo t n (runsOf L) j).Nodup := by
  have h1 : ((runsOf L).map kP).Nodup := by
    have h := ((runsOf_perm L).map kP).nodup_iff.2
    refine h ?_
    have e : (kP ∘ rOf) = id := by funext k; exact k_r k
    rw [List.map_map, e, List.map_id]
    exact keys_nodup ‹_›
  unfold ksTo
  exact List.Pairwise.filter _ (List.Pairwise.sublist ((List.take_sublist j _).map kP) h1)
theorem ks_mem {t n : Int} {L : RL} (j : Nat) : ∀ k ∈ ksTo t n (runsOf L) j, besd t n k = true ∧ ∃ i ∈ L, i.1 = k := by
  intro k hk
  unfold ksTo at hk
  obtain ⟨h1, h2⟩ := List.mem_filter.1 hk
  refine ⟨h2, ?_⟩
  obtain ⟨r, hr, rfl⟩ := List.mem_map.1 h1
  obtain ⟨i, hi, rfl⟩ := runsOf_mem.1 (List.mem_of_mem_take hr)
  exact ⟨i, hi, (k_r i.1).symm⟩
theorem joins_to {pg t n : Int} {L : RL} (h : Good pg L) (h0 : 0 ≤ t) (hn : 1 ≤ n) (hp : t + n ≤ pg) (hh : ∀ i ∈ L, hits t n i.1 = false) (j : Nat) :
    Joins pg t n L ((ksTo t n (runsOf L) j).foldl joinR (t, n)) (delsL (ksTo t n (runsOf L) j) L) :=
  joins_all _ _ _ (ks_nodup h.ris j) (ks_mem j) (Joins.start h h0 hn hp hh)
theorem runs_bd {L : RL} : ∀ r ∈ runsOf L, 0 ≤ r.1 ∧ r.1 < 8192 := fun r hr => by
  obtain ⟨i, _, rfl⟩ := runsOf_mem.1 hr
  exact rA_bd i.1
theorem put_get {t n : Int} {pg : Int} {L : RL} (h : Good pg L) (j : Nat) (hj : j < (runsOf L).length) :
    ∃ i, getL (8192 * ((runsOf L).getD j (0, 0)).2 + ((runsOf L).getD j (0, 0)).1) (putTo t n (runsOf L) (itemsX L) j).2 = some i := by
  rw [putTo_is t n _ L runs_bd j (by omega)]
  simp only
  rw [itemsX_get]
  have hg : (runsOf L).getD j (0, 0) = (runsOf L)[j] := by simp [List.getD, hj]
  rw [hg]
  have hm : (runsOf L)[j] ∈ runsOf L := List.getElem_mem _
  obtain ⟨i, hi, e⟩ := runsOf_mem.1 hm
  have ek : 8192 * ((runsOf L)[j]).2 + ((runsOf L)[j]).1 = i.1 := by
    rw [e]; have := k_r i.1; unfold kOf at this; simp only; omega
  have hk : kP (runsOf L)[j] = i.1 := by rw [e]; exact k_r i.1
  have hin : i ∈ delsL (ksTo t n (runsOf L) j) L := by
    refine dels_mem.2 ⟨hi, fun q => ?_⟩
    have hnd : ((runsOf L).map kP).Nodup := by
      have := ((runsOf_perm L).map kP).nodup_iff.2
      refine this ?_
      have e : (kP ∘ rOf) = id := by funext k; exact k_r k
      rw [List.map_map, e, List.map_id]
      exact keys_nodup h.ris
    have q1 : i.1 ∈ ((runsOf L).take j).map kP := (List.mem_filter.1 q).1
    rw [List.map_take] at q1
    obtain ⟨a, ha, hae⟩ := List.getElem_of_mem q1
    rw [List.length_take] at ha
    rw [List.getElem_take] at hae
    have hjl : j < ((runsOf L).map kP).length := by simpa using hj
    refine List.pairwise_iff_getElem.1 hnd a j (by omega) hjl (by omega) ?_
    rw [hae, List.getElem_map, hk]
  rw [ek, getL_of_mem (dels_rising h.ris) hin]
  exact ⟨_, rfl⟩
theorem put_bd {t n : Int} {pg : Int} {L : RL} (h : Good pg L) (hq : pg ≤ 4096) (h0 : 0 ≤ t) (hn : 1 ≤ n) (hp : t + n ≤ pg) (hh : ∀ i ∈ L, hits t n i.1 = false) (hl : L.length ≤ 100000) (j : Nat) (hj : j ≤ (runsOf L).length) :
    (0 ≤ (putTo t n (runsOf L) (itemsX L) j).1.1 ∧ (putTo t n (runsOf L) (itemsX L) j).1.1 < 8192 ∧ 0 ≤ (putTo t n (runsOf L) (itemsX L) j).1.2 ∧ (putTo t n (runsOf L) (itemsX L) j).1.2 ≤ 4096) ∧ (putTo t n (runsOf L) (itemsX L) j).2.length ≤ 1000000 := by
  rw [putTo_is t n _ L runs_bd j hj]
  have hJ := joins_to h h0 hn hp hh j
  have q1 := hJ.lo
  have q2 := hJ.pos
  have q3 := hJ.hi
  refine ⟨by simp only; omega, ?_⟩
  simp only [itemsX_length]
  have := dels_len (ks := ksTo t n (runsOf L) j) (L := L)
  omega

/-- The document's runs. -/
def RX (x pg : Nat) (ds : List Nat) (dn : Nat) (L : RL) : Res := fun w G => ∃ gf vt a c fb, XAt w x gf vt a c pg fb ds dn (itemsX L) ∧ FreeIs pg fb L ∧ ∀ k, G k ↔ XF x gf vt a ds k
theorem Loc.rx {x pg : Nat} {ds : List Nat} {dn : Nat} {L : RL} : Loc (RX x pg ds dn L) :=
  ⟨fun ⟨gf, vt, a, c, fb, h, f, e⟩ o hn => ⟨gf, vt, a, c, fb, h.kept o (fun y hy => hn y ((e y).2 hy)), f, e⟩, fun ⟨_, _, _, _, _, h, _, e⟩ hx => h.lt ((e _).1 hx)⟩
theorem Own.xruns {x pg : Nat} {ds : List Nat} {dn : Nat} {L : RL} {R : Res} {w0 w : World} (l : Loc R) (h : Own (Sep (RX x pg ds dn L) R) w0 w) :
    ∃ gf vt a c fb, XAt w x gf vt a c pg fb ds dn (itemsX L) ∧ FreeIs pg fb L ∧ ∀ {w' fb' dn' L'}, XTurned w w' x gf vt a c pg fb' ds dn' (itemsX L') → FreeIs pg fb' L' → Own (Sep (RX x pg ds dn' L') R) w0 w' := by
  obtain ⟨G, ⟨G1, G2, ⟨gf, vt, a, c, fb, h1, f, e⟩, b, s, d⟩, h2, h3⟩ := h
  refine ⟨gf, vt, a, c, fb, h1, f, fun {w' fb' dn' L'} ⟨vt', g1, g2, g3⟩ f' => ?_⟩
  refine Own.step (G1 := G1) (G1' := XF x gf vt' a ds) (G2 := G2) l h3 (fun x hx => h2 x ((d x).2 hx)) b s ⟨gf, vt', a, c, fb', g1, f', fun _ => Iff.rfl⟩ (g2.mono (fun k _ hk => (e k).2 (hk.elim .inl (fun q => .inr (.inl q))))) (fun k hk => ?_)
  rcases hk with hk | hk | hk | hk
  · exact .inl ((e k).2 (.inl hk))
  · exact .inl ((e k).2 (.inr (.inl hk)))
  · rcases g3 k hk with q | q
    · exact .inl ((e k).2 (.inr (.inr (.inl q))))
    · exact .inr q
  · exact .inl ((e k).2 (.inr (.inr (.inr hk))))

section
variable {R : Res} {w0 w : World} {x pg : Nat} {ds : List Nat} {dn : Nat} {L : RL}

theorem xnewB (l : Loc R) (h : Own R w0 w) (h1 : 1 ≤ pg) (h2 : pg ≤ 4096) (hl : ds.length ≤ 1000000000) (a : Option Addr) (c : Nat) (hz : a = none → ds = [] ∧ c = 0) (hd : DrawsIn w a ds) :
    Calls Try.prog 87 #[.int .i64 (pg : Int), .slice a ds.length c] w fun e w' => ∃ r, e = .returned (.pointer (some ⟨r, 0, none⟩)) ∧ Own (Sep (RX r pg ds 1 [(kOf 0 pg, ds.getD 0 0, ())]) R) w0 w' ∧ Below w.heap.size w w' :=
  (xnew w pg h1 h2 ds hl a c hz hd).mono fun _ w' ⟨r, gf, vt, va, vc, fb, e, hfb, hX, hn, b⟩ => ⟨r, e, ⟨by
    obtain ⟨G2, a2, g2, g3⟩ := h
    have hX' : XAt w' r gf vt va vc pg fb ds 1 (itemsX [(kOf 0 pg, ds.getD 0 0, ())]) := by
      have e1 : itemsX [(kOf 0 (pg : Int), ds.getD 0 0, ())] = [(8192 * (pg : Int) + 0, ds.getD 0 0, 0)] := by
        simp only [itemsX, itX, List.map_cons, List.map_nil, rA_k (a := 0) (n := (pg : Int)) (by omega) (by omega)]
        unfold kOf
        rw [Int.mul_comm]
      rw [e1]; exact hX
    refine ⟨fun k => XF r gf vt va ds k ∨ G2 k, ⟨XF r gf vt va ds, G2, ⟨gf, vt, va, vc, fb, hX', fun p hp => ⟨fun _ => (free_new (pg := pg) p hp).1 rfl, fun _ => hfb p hp⟩, fun _ => Iff.rfl⟩, l.kept a2 (Below.only b (fun _ => False)) (fun _ _ h => h), fun k hk q => ?_, fun _ => Iff.rfl⟩, fun k hk => ?_, g3.trans (b.mono g3.size)⟩
    · have := l.lt a2 q; have := hn k hk; omega
    · rcases hk with hk | hk
      · exact Nat.le_trans g3.size (hn k hk)
      · exact g2 k hk, b⟩⟩
theorem xnewP (l : Loc R) (h : Own R w0 w) (h1 : 1 ≤ pg) (h2 : pg ≤ 4096) (hl : ds.length ≤ 1000000000) (a : Option Addr) (c : Nat) (hz : a = none → ds = [] ∧ c = 0) (hd : DrawsIn w a ds) :
    Calls Try.prog 87 #[.int .i64 (pg : Int), .slice a ds.length c] w fun e w' => ∃ r, e = .returned (.pointer (some ⟨r, 0, none⟩)) ∧ Own (Sep (RX r pg ds 1 [(kOf 0 pg, ds.getD 0 0, ())]) R) w0 w' :=
  (xnewB l h h1 h2 hl a c hz hd).mono fun _ _ ⟨r, e, o, _⟩ => ⟨r, e, o⟩
theorem xn (l : Loc R) (h : Own (Sep (RX x pg ds dn L) R) w0 w) : w.cell? ⟨x, 3, none⟩ = some (.int .i64 (dn : Int)) := by
  obtain ⟨gf, vt, a, c, fb, hX, hF, k⟩ := h.xruns l
  exact cell_of_heap hX.head
end
end Go.Proofs.Ytafamfjgehnddaa

namespace Go.Proofs.Ytafamfjgehnddaa
open Go.RowKit

theorem rlmay (P T : Int) (w : World) :
    Calls Try.prog 51 #[.agg #[.int .i64 P, .int .i64 T]] w fun e w' => e = .returned (.bool (Lay.may P T)) ∧ Below w.heap.size w w' := by
  unfold Lay.may
  by_cases h0 : 1 ≤ P
  rotate_left
  · rw [decide_eq_false h0]
    have d0 := decide_eq_false h0
    go_enter Try.func51, Try.ntmps51
    go_wp2
    go_ret
    exact ⟨rfl, grown1 _ _⟩
  by_cases h1 : P ≤ 4096
  rotate_left
  · rw [decide_eq_true h0, decide_eq_false h1]
    have d1 := decide_eq_false h1
    go_enter Try.func51, Try.ntmps51
    go_wp2
    go_ret
    exact ⟨rfl, grown1 _ _⟩
  by_cases h2 : 1 ≤ T
  rotate_left
  · rw [decide_eq_true h0, decide_eq_true h1, decide_eq_false h2]
    have d2 := decide_eq_false h2
    go_enter Try.func51, Try.ntmps51
    go_wp2
    go_ret
    exact ⟨rfl, grown1 _ _⟩
  by_cases h3 : T ≤ 64
  rotate_left
  · rw [decide_eq_true h0, decide_eq_true h1, decide_eq_true h2, decide_eq_false h3]
    have d3 := decide_eq_false h3
    go_enter Try.func51, Try.ntmps51
    go_wp2
    go_ret
    exact ⟨rfl, grown1 _ _⟩
  rw [decide_eq_true h0, decide_eq_true h1, decide_eq_true h2, decide_eq_true h3]
  go_enter Try.func51, Try.ntmps51
  go_wp2
  go_ret
  exact ⟨rfl, grown1 _ _⟩

theorem rlmaps (P T : Int) (h1 : 1 ≤ P) (h2 : P ≤ 4096) (w : World) :
    Calls Try.prog 95 #[.agg #[.int .i64 P, .int .i64 T]] w fun e w' => e = .returned (.int .i64 (Lay.maps P)) ∧ Below w.heap.size w w' := by
  unfold Lay.maps
  go_enter Try.func95, Try.ntmps95
  go_wp2
  go_ret
  exact ⟨ret_int (by first | rfl | omega), grown1 _ _⟩

set_option maxHeartbeats 2000000 in
theorem rlwords (P T : Int) (w : World) :
    Calls Try.prog 86 #[.agg #[.int .i64 P, .int .i64 T]] w fun e w' => e = .returned (.int .i64 (Lay.words P T)) ∧ Below w.heap.size w w' := by
  have M := hide (fun w => rlmay P T w)
  cases hm : Lay.may P T
  · rw [hm] at M
    rw [Lay.words_out hm]
    clear hm
    go_enter Try.func86, Try.ntmps86
    have B0 := LBox.new w P T 26
    go_wp2_with (first | (go_at_call 51; refine (M.out _).mono ?_; rintro e w1 ⟨rfl, hb⟩; have B1 := LBox.grow (by assumption) hb; have b0 := B1.c0; have b1 := B1.c1))
    go_ret
    exact ⟨rfl, B1.below⟩
  · obtain ⟨p1, p2, h1, h2⟩ := Lay.may_iff.1 hm
    rw [hm] at M
    rw [Lay.words_in hm]
    clear hm
    have D := hide (fun w => rlmaps P T p1 p2 w)
    have mM : 0 ≤ Lay.maps P ∧ Lay.maps P ≤ 100000 := by unfold Lay.maps; omega
    obtain ⟨mM1, mM2⟩ := mM
    unfold Lay.total
    generalize Lay.maps P = N at *
    go_enter Try.func86, Try.ntmps86
    have B0 := LBox.new w P T 26
    go_wp2_with (first | (go_at_call 51; refine (M.out _).mono ?_; rintro e w1 ⟨rfl, hb⟩; have B1 := LBox.grow (by assumption) hb; have b0 := B1.c0; have b1 := B1.c1))
    have hne : Nonempty (Over w1) := ⟨⟨_, Below.refl _ _⟩⟩
    have c0 := fun u => over_cell B1.c0 u
    have c1 := fun u => over_cell B1.c1 u
    refine over_region (by kernel_rfl) (by kernel_rfl) ?_
    repeat (go_big_quiet_step ((go_at_call 95; exact over_call _ (D.out _))))
    refine wpQuiet_nil ?_
    rintro _ ⟨u, rfl⟩
    go_wp2
    go_ret
    exact ⟨ret_int (by first | rfl | omega), (B1.grow u.h).below⟩
end Go.Proofs.Ytafamfjgehnddaa

namespace Go.Proofs.Ytafamfjgehnddaa
open Go.RowKit

end Go.Proofs.Ytafamfjgehnddaa

namespace Go.Proofs.Ytafamfjgehnddaa
open Go.RowKit

/-- The document's store at p. -/
def S2 (p : Nat) (s : St) : Res := fun w G => ∃ b, StoreAt 151 w p b s ∧ ∀ x, G x ↔ x = p ∨ x = b
theorem Loc.s2 {p : Nat} {s : St} : Loc (S2 p s) :=
  ⟨fun ⟨b, h, e⟩ o hn => ⟨b, h.kept o (hn p ((e p).2 (.inl rfl))) (hn b ((e b).2 (.inr rfl))), e⟩, fun {w G x} ⟨b, h, e⟩ hx => by
    rcases (e x).1 hx with rfl | rfl
    · exact lt_of_heap h.head
    · exact lt_of_heap h.row⟩
theorem Own.store2 {p : Nat} {s : St} {R : Res} {w0 w : World} (l : Loc R) (h : Own (Sep (S2 p s) R) w0 w) :
    ∃ b, StoreAt 151 w p b s ∧ ∀ {w' s'}, StoreAt 151 w' p b s' → Only (fun k => k = p ∨ k = b) w w' → Own (Sep (S2 p s') R) w0 w' := by
  obtain ⟨G, ⟨G1, G2, ⟨b, h1, e⟩, r, c, d⟩, h2, h3⟩ := h
  refine ⟨b, h1, fun {w' s'} g1 g2 => ?_⟩
  exact Own.step (G1 := G1) (G1' := G1) (G2 := G2) l h3 (fun x hx => h2 x ((d x).2 hx)) r c ⟨b, g1, e⟩ (g2.mono (fun x _ hx => (e x).2 hx)) (fun x hx => .inl hx)
theorem StoreAt.begin {T : TypeId} {w : World} {p b n : Nat} (h : StoreAt T w p b (St.zero n)) : StoreAt T (w.setCell ⟨b, 0, none⟩ (.int .u64 1)) p b (St.first n) := by
  refine ⟨?_, ?_, h.ne, ?_, ?_⟩
  · rw [heap_setCell_ne h.ne, h.head]; simp [St.first, St.zero]
  · rw [heap_setCell_at h.row]
    congr 2
    simp only [St.zero, St.first, wordVals, List.setIfInBounds_toArray]
    rw [List.map_set]
    rfl
  · have := h.len; simpa [St.first, St.zero] using this
  · simp only [St.first]; exact set_lt _ (by intro x hx; rw [List.eq_of_mem_replicate hx]; omega) 0 1 (by omega)

/-- The document's arena's head at m. -/
def MObj (p r : Nat) (P T : Int) : Obj := .cells #[.pointer (some ⟨p, 0, none⟩), .pointer (some ⟨r, 0, none⟩), .int .i64 P, .int .i64 T] 30 (0, 0)
def MH (m p r : Nat) (P T : Int) : Res := fun w G => w.heap[m]? = some (MObj p r P T) ∧ ∀ x, G x ↔ x = m
theorem Loc.mh {m p r : Nat} {P T : Int} : Loc (MH m p r P T) :=
  ⟨fun ⟨h, e⟩ o hn => ⟨(o.block m (lt_of_heap h) (hn m ((e m).2 rfl))).trans h, e⟩, fun {w G x} ⟨h, e⟩ hx => by rw [(e x).1 hx]; exact lt_of_heap h⟩
/-- The document's arena. -/
def MX (m : Nat) (P T : Int) (p r : Nat) (s : St) (pg : Nat) (ds : List Nat) (dn : Nat) (L : RL) : Res := Sep (MH m p r P T) (Sep (S2 p s) (RX r pg ds dn L))
theorem Loc.mx {m : Nat} {P T : Int} {p r : Nat} {s : St} {pg : Nat} {ds : List Nat} {dn : Nat} {L : RL} : Loc (MX m P T p r s pg ds dn L) := Loc.mh.sep (Loc.s2.sep Loc.rx)
theorem Own.mhead {m p r : Nat} {P T : Int} {R R' : Res} {w0 w : World} (h : Own R' w0 w) (e : R' = Sep (MH m p r P T) R) : w.heap[m]? = some (MObj p r P T) := by
  subst e
  obtain ⟨_, ⟨_, _, ⟨h1, _⟩, _⟩, _⟩ := h
  exact h1
theorem Own.mstore {p : Nat} {s : St} {R R' : Res} {w0 w : World} (h : Own R' w0 w) (e : R' = Sep (S2 p s) R) : ∃ b, StoreAt 151 w p b s := by
  subst e
  obtain ⟨_, ⟨_, _, ⟨b, h1, _⟩, _⟩, _⟩ := h
  exact ⟨b, h1⟩

/-- The same, its words at b. -/
def S2b (p b : Nat) (s : St) : Res := fun w G => StoreAt 151 w p b s ∧ ∀ x, G x ↔ x = p ∨ x = b
theorem Loc.s2b {p b : Nat} {s : St} : Loc (S2b p b s) :=
  ⟨fun ⟨h, e⟩ o hn => ⟨h.kept o (hn p ((e p).2 (.inl rfl))) (hn b ((e b).2 (.inr rfl))), e⟩, fun {w G x} ⟨h, e⟩ hx => by
    rcases (e x).1 hx with rfl | rfl
    · exact lt_of_heap h.head
    · exact lt_of_heap h.row⟩
theorem Own.fix2 {p : Nat} {s : St} {R : Res} {w0 w : World} (h : Own (Sep (S2 p s) R) w0 w) : ∃ b, Own (Sep (S2b p b s) R) w0 w := by
  obtain ⟨G, ⟨G1, G2, ⟨b, h1, e⟩, r, c, d⟩, h2, h3⟩ := h
  exact ⟨b, G, ⟨G1, G2, ⟨h1, e⟩, r, c, d⟩, h2, h3⟩
theorem Own.bstore {p b : Nat} {s : St} {R R' : Res} {w0 w : World} (h : Own R' w0 w) (e : R' = Sep (S2b p b s) R) : StoreAt 151 w p b s := by
  subst e
  obtain ⟨_, ⟨_, _, ⟨h1, _⟩, _⟩, _⟩ := h
  exact h1
def MXb (m : Nat) (P T : Int) (p b r : Nat) (s : St) (pg : Nat) (ds : List Nat) (dn : Nat) (L : RL) : Res := Sep (MH m p r P T) (Sep (S2b p b s) (RX r pg ds dn L))
theorem Loc.mxb {m : Nat} {P T : Int} {p b r : Nat} {s : St} {pg : Nat} {ds : List Nat} {dn : Nat} {L : RL} : Loc (MXb m P T p b r s pg ds dn L) := Loc.mh.sep (Loc.s2b.sep Loc.rx)

theorem memNil (P T : Int) (hm : Lay.may P T = false) (a : Option Addr) (n c : Nat) (w : World) :
    Calls Try.prog 61 #[.agg #[.int .i64 P, .int .i64 T, .slice a n c]] w fun e w' => e = .returned (.pointer none) ∧ Below w.heap.size w w' := by
  have M := hide (fun w => rlmay P T w)
  rw [hm] at M
  have h0 : DrawsIn w a [] := fun h => absurd rfl h
  have HW := SetAt.new w P T a n c [] h0 75 26
  have c0 := HW.l0
  have c1 := HW.l1
  have HB := hide HW.below
  clear h0 HW
  go_enter Try.func61, Try.ntmps61
  go_wp2_with fail
  refine (M.out _).mono ?_
  rintro e w1 ⟨rfl, hb⟩
  have HB1 := hide (HB.out.trans (hb.mono HB.out.size))
  clear hb c0 c1
  go_wp2
  go_ret
  exact ⟨rfl, HB1.out⟩

set_option maxRecDepth 100000 in
set_option maxHeartbeats 4000000 in
theorem memNew {R : Res} {w0 w : World} (l : Loc R) (ho : Own R w0 w) (pg : Nat) (T : Int) (hm : Lay.may pg T = true) (ds : List Nat) (hl : ds.length ≤ 1000000000) (a : Option Addr) (c : Nat) (hz : a = none → ds = [] ∧ c = 0) (hd : DrawsIn w a ds) :
    Calls Try.prog 61 #[.agg #[.int .i64 (pg : Int), .int .i64 T, .slice a ds.length c]] w fun e w' => ∃ m p r, e = .returned (.pointer (some ⟨m, 0, none⟩)) ∧ Own (Sep (MX m (pg : Int) T p r (St.first (Lay.words pg T).toNat) pg ds 1 [(kOf 0 pg, ds.getD 0 0, ())]) R) w0 w' := by
  have M := hide (fun w => rlmay pg T w)
  rw [hm] at M
  have W := hide (fun w => rlwords pg T w)
  obtain ⟨k, hk, k1, k2⟩ := Lay.words_nat hm
  rw [hk] at W ⊢
  rw [Int.toNat_natCast]
  obtain ⟨m1, m2, m3, m4⟩ := Lay.may_iff.1 hm
  obtain ⟨n, hn⟩ : ∃ n, ds.length = n := ⟨_, rfl⟩
  have HL := hide hn
  have HW := SetAt.new w pg T a n c ds hd 75 26
  have c0 := HW.l0
  have c1 := HW.l1
  have HW2 := hide HW
  have HO := hide ho
  clear hd HW ho hm hk
  rw [hn]
  clear hn
  go_enter Try.func61, Try.ntmps61
  go_wp2_with fail
  refine (M.out _).mono ?_
  rintro e w1 ⟨rfl, hb⟩
  have H1 := hide (HW2.out.grow hb)
  clear hb HW2 c0 c1
  go_wp2
  have J1 : Hid (SetAt w w.heap.size pg T a n c ds w1.drew) := hide (H1.out.grow ((Alike.drewN w1 1).below _))
  have u0 : ∀ u : Mem (SetAt w w.heap.size pg T a n c ds), u.w'.cell? ⟨w.heap.size, 0, none⟩ = some (.int .i64 (pg : Int)) := fun u => u.h.c0
  have u1 : ∀ u : Mem (SetAt w w.heap.size pg T a n c ds), u.w'.cell? ⟨w.heap.size, 1, none⟩ = some (.int .i64 T) := fun u => u.h.c1
  have u2 : ∀ u : Mem (SetAt w w.heap.size pg T a n c ds), u.w'.cell? ⟨w.heap.size, 2, none⟩ = some (.slice a n c) := fun u => u.h.c2
  have u3 : ∀ u : Mem (SetAt w w.heap.size pg T a n c ds), u.w'.cell? ⟨w.heap.size + 1, 0, none⟩ = some (.int .i64 (pg : Int)) := fun u => u.h.l0
  have u4 : ∀ u : Mem (SetAt w w.heap.size pg T a n c ds), u.w'.cell? ⟨w.heap.size + 1, 1, none⟩ = some (.int .i64 T) := fun u => u.h.l1
  have hne : Nonempty (Mem (SetAt w w.heap.size pg T a n c ds)) := ⟨⟨_, J1.out⟩⟩
  refine region_start (J := SetAt w w.heap.size pg T a n c ds) (by kernel_rfl) ?_
  refine stretch (fuel := 6) (by kernel_rfl) (fun _ _ _ _ _ h => h) (J1.out) [0, 3, 4, 5, 6, 8] (by kernel_rfl) ?_
  simp only [List.filterMap_cons, List.filterMap_nil, List.getElem?_toArray, List.getElem?_cons_zero, List.getElem?_cons_succ]
  show wpQuiet _ _ _ _ [_, _, _, _, _, _] _
  repeat (go_big_quiet_step (fail))
  refine wpQuiet_nil ?_
  refine wpAnyJ_writer (i := 1) rfl (by kernel_rfl) (fun K hK => ?_)
  go_simp
  refine (W.out _).mono ?_
  rintro e w2 ⟨rfl, hb2⟩
  have J2 := hide (J1.out.grow hb2)
  refine hK _ _ J2.out ?_
  clear hK K hb2
  refine wpAnyJ_writer (i := 2) rfl (by kernel_rfl) (fun K hK => ?_)
  go_simp
  refine (rnew_in _ k k1 k2).mono ?_
  rintro e w3 ⟨p, b, rfl, hS, hp, hb1, hb3⟩
  have J3 := hide (J2.out.grow hb3)
  have O3 := hide (Own.fresh (R1 := S2 p (St.zero k)) l (HO.out.below l J2.out.below) (G := fun x => x = p ∨ x = b) ⟨b, hS, fun _ => Iff.rfl⟩ (by rintro x (rfl | rfl) <;> assumption) hb3)
  refine hK _ _ J3.out ?_
  clear hK K hS hp hb1 hb3 W
  refine wpAnyJ_writer (i := 7) rfl (by kernel_rfl) (fun K hK => ?_)
  go_simp
  have HN := xnewB (pg := pg) (ds := ds) (Loc.s2.sep l) O3.out (by omega) (by omega) hl a c hz J3.out.row
  rw [HL.out] at HN
  refine HN.mono ?_
  rintro e w4 ⟨r, rfl, o4, hb4⟩
  have J4 : Hid (SetAt w w.heap.size pg T a n c ds w4) := hide (J3.out.grow hb4)
  have O4 := hide o4
  refine hK _ _ J4.out ?_
  clear hK K HN o4 O3 hb4
  refine stretch (fuel := 2) (by kernel_rfl) (fun _ _ _ _ _ h => h) (J4.out) [9] (by kernel_rfl) ?_
  simp only [List.filterMap_cons, List.filterMap_nil, List.getElem?_toArray, List.getElem?_cons_zero, List.getElem?_cons_succ]
  show wpQuiet _ _ _ _ [_] _
  repeat (go_big_quiet_step (fail))
  refine wpQuiet_nil ?_
  refine wpAnyJ_writer (i := 10) rfl (by kernel_rfl) (fun K hK => ?_)
  go_simp
  have J5 := hide (J4.out.grow (grown1 w4 (MObj p r pg T)))
  have O5 := hide (Own.fresh (R1 := MH w4.heap.size p r pg T) (Loc.rx.sep (Loc.s2.sep l)) O4.out (G := fun x => x = w4.heap.size) ⟨heap_alloc_at _ _, fun _ => Iff.rfl⟩ (fun x hx => by rw [hx]; exact Nat.le_refl _) (grown1 w4 _))
  refine hK _ _ J5.out ?_
  clear hK K
  refine stretch (fuel := 0) (by kernel_rfl) (fun _ _ _ _ _ h => h) (J5.out) [11] (by kernel_rfl) ?_
  simp only [List.filterMap_cons, List.filterMap_nil, List.getElem?_toArray, List.getElem?_cons_zero, List.getElem?_cons_succ]
  show wpQuiet _ _ _ _ [_] _
  repeat (go_big_quiet_step (fail))
  refine wpQuiet_nil ?_
  refine wpAnyJ_done (by kernel_rfl) ?_
  clear u0 u1 u2 u3 u4 hne J1 J2 J3 J4 J5 H1 O4
  generalize w4.alloc (MObj p r pg T) = U at *
  generalize w4.heap.size = m at *
  obtain ⟨b', hS, hk⟩ := (O5.out.cast (R' := Sep (S2 p (St.zero k)) (Sep (MH m p r pg T) (Sep (RX r pg ds 1 [(kOf 0 pg, ds.getD 0 0, ())]) R))) (by ac_rfl)).store2 (Loc.mh.sep (Loc.rx.sep l))
  have e0 : U.cell? ⟨m, 0, none⟩ = some (.pointer (some ⟨p, 0, none⟩)) := cell_of_heap (O5.out.mhead rfl)
  have e1 : U.cell? ⟨p, 0, none⟩ = some (.slice (some ⟨b', 0, none⟩) k k) := by rw [cell_of_heap hS.head]; simp [St.zero]
  have e2 : U.cell? ⟨b', 0, none⟩ = some (.int .u64 0) := by
    rw [cell_of_heap hS.row]
    obtain ⟨k', rfl⟩ : ∃ k', k = k' + 1 := ⟨k - 1, by omega⟩
    simp [St.zero, wordVals, List.replicate_succ]
  have e3 : U.frozen? ⟨b', 0, none⟩ = false := frozen_of_heap hS.row
  have O6 := hide (hk hS.begin ((Only.refl (fun k => k = p ∨ k = b') U).setCell (p := ⟨b', 0, none⟩) (.inl (.inr rfl)) _))
  clear hk hS O5
  go_wp2
  go_ret
  exact ⟨m, p, r, rfl, O6.out.cast (by unfold MX; ac_rfl)⟩
end Go.Proofs.Ytafamfjgehnddaa
