/- The document's tree: Put, Drop. -/
import Derived.Test.YthcfmpjmgheieaaDTree
namespace Go.Proofs.Ythcfmpjmgheieaa
open Go.RowKit

theorem itemVals_app (A B : List (It Int)) : itemVals (A ++ B) = itemVals A ++ itemVals B := by simp [itemVals]
theorem itemVals_one (L : List (It Int)) : ∀ u ∈ itemVals L, u.oneCell' = true := by
  intro u hu
  simp only [itemVals, List.mem_flatMap] at hu
  obtain ⟨i, _, h⟩ := hu
  simp only [List.mem_cons, List.not_mem_nil, or_false] at h
  rcases h with rfl | rfl | rfl <;> rfl
theorem infoItem : (Try.prog.info? 132).map (fun i => (i.zero, i.size, i.bytes)) = some (some (.agg #[.int .i64 0, .int .u32 0, .int .i64 0]), 3, 24) := by kernel_rfl
theorem filter_place {L : List (It Int)} {key : Int} {p : Nat} (hr : Rising L) (h : Place L key p) : L.filter (fun i => decide (i.1 < key)) = L.take p ∧ L.filter (fun i => !decide (i.1 < key)) = L.drop p := by
  have e : L = L.take p ++ L.drop p := (List.take_append_drop p L).symm
  have h1 : ∀ i ∈ L.take p, i.1 < key := fun i hi => by
    obtain ⟨j, hj, rfl⟩ := List.getElem_of_mem hi
    rw [List.length_take] at hj
    have := h.lo j (by omega)
    rw [List.getElem_take]
    simpa [keyAt, show j < L.length by omega] using this
  have h2 : ∀ i ∈ L.drop p, key ≤ i.1 := fun i hi => by
    obtain ⟨j, hj, rfl⟩ := List.getElem_of_mem hi
    rw [List.length_drop] at hj
    have k1 := h.hi (by omega)
    rw [List.getElem_drop]
    by_cases hj0 : j = 0
    · subst hj0; simpa [keyAt, show p < L.length by omega] using k1
    · have := keyAt_lt hr (i := p) (j := p + j) (by omega) (by omega)
      simp only [keyAt, List.getD_eq_getElem?_getD, List.getElem?_map, List.getElem?_eq_getElem (show p < L.length by omega), List.getElem?_eq_getElem (show p + j < L.length by omega), Option.map_some, Option.getD_some] at this k1
      omega
  have f1 := filter_lt_all h1
  have f2 := filter_ge_all h2
  constructor
  · conv => lhs; rw [e]
    rw [List.filter_append, f1.1, f2.1, List.append_nil]
  · conv => lhs; rw [e]
    rw [List.filter_append, f1.2, f2.2, List.nil_append]
theorem ins_place {L : List (It Int)} {key : Int} {p : Nat} (hr : Rising L) (h : Place L key p) (d : Nat) (x : Int) : insL key d x L = L.take p ++ (key, d, x) :: L.drop p := by
  unfold insL
  rw [(filter_place hr h).1, (filter_place hr h).2]
/-- What a cut of the row tells. -/
theorem src_take {w W : World} {L : List (It Int)} {g c : Nat} (h : w.ownsRow 0 132 3 (.slice (some ⟨g, 0, none⟩) L.length c) L.length (itemVals L)) (hb : Below w.heap.size w W) (p : Nat) (hp : p ≤ L.length) (cc : Nat) : Src W (.slice (some ⟨g, 0, none⟩) p cc) p (itemVals (L.take p)) := by
  refine .inr ⟨_, _, rfl, fun j u hj => ?_⟩
  have hjl : j < p * 3 := by have := (List.getElem?_eq_some_iff.1 hj).1; rw [itemVals_length, List.length_take] at this; omega
  have hc := World.ownsRow.cellAt h j (by omega)
  have e : (itemVals L)[j]? = some u := by
    rw [← List.take_append_drop p L, itemVals_app, List.getElem?_append_left (by rw [itemVals_length, List.length_take]; omega)]; exact hj
  have ea : (⟨g, 0, none⟩ : Addr).add j = ⟨g, j, none⟩ := by unfold Addr.add; split <;> simp_all
  rw [ea]
  exact (hb.cell (p := ⟨g, j, none⟩) ((h.lt g rfl).2)).trans (hc.trans e)
theorem src_drop {w W : World} {L : List (It Int)} {g c : Nat} (h : w.ownsRow 0 132 3 (.slice (some ⟨g, 0, none⟩) L.length c) L.length (itemVals L)) (hb : Below w.heap.size w W) (p : Nat) (hp : p ≤ L.length) (cc : Nat) (a : Nat) (ha : p < L.length → a = p * 3) : Src W (.slice (some ⟨g, a, none⟩) (L.length - p) cc) (L.length - p) (itemVals (L.drop p)) := by
  refine .inr ⟨_, _, rfl, fun j u hj => ?_⟩
  have hjl : j < (L.length - p) * 3 := by have := (List.getElem?_eq_some_iff.1 hj).1; rw [itemVals_length, List.length_drop] at this; omega
  have hap := ha (by omega)
  subst hap
  have hc := World.ownsRow.cellAt h (p * 3 + j) (by omega)
  have e : (itemVals L)[p * 3 + j]? = some u := by
    rw [← List.take_append_drop p L, itemVals_app, List.getElem?_append_right (by rw [itemVals_length, List.length_take]; omega), itemVals_length, List.length_take, show p * 3 + j - min p L.length * 3 = j by omega]
    exact hj
  have ea : (⟨g, p * 3, none⟩ : Addr).add j = ⟨g, p * 3 + j, none⟩ := by unfold Addr.add; split <;> simp_all
  rw [ea]
  exact (hb.cell (p := ⟨g, p * 3 + j, none⟩) ((h.lt g rfl).2)).trans (hc.trans e)

set_option maxRecDepth 100000 in
set_option maxHeartbeats 4000000 in
theorem dput (w : World) (r o : Nat) (v : Value) (L : List (It Int)) (h : DAt w r o v L) (key : Int) (d : Nat) (x : Int) (hg : getL key L = none) (hl : L.length ≤ 1000000) :
    Calls Try.prog 64 #[.pointer (some ⟨r, o, none⟩), .int .i64 key, .int .u32 (d : Int), .int .i64 x] w fun e w' => e = .returned (.bool true) ∧ ∃ v' W, w' = W.setCell ⟨r, o, none⟩ v' ∧ Below w.heap.size w W ∧ W.ownsRow w.heap.size 132 3 v' (L.length + 1) (itemVals (insL key d x L)) := by
  obtain ⟨i0, hi, hz0, hz1, hz2⟩ := info_parts infoItem
  have HH := hide (hasT w r o v L h key hl)
  rw [hg, Option.isSome_none] at HH
  obtain ⟨p, hp⟩ := place_there L key
  have HP := hide (placeP w r o v L h key hl p hp)
  have HI := hide (ins_place h.ris hp d x)
  have hpl := hp.le
  obtain ⟨a, c, rfl⟩ := h.slice
  have c0 := h.head
  have HD := hide h
  obtain ⟨m, hm⟩ : ∃ m, L.length = m := ⟨_, rfl⟩
  have HM := hide hm
  rw [hm] at c0 hl hpl ⊢
  have hcap : m ≤ c ∧ c ≤ 9223372036854775807 := by
    have := HD.out.row
    rcases this.2 with ⟨e, e0⟩ | ⟨g, cap, cur, e, _, _, e1, e2, _⟩
    · rw [hm] at e e0; cases e; omega
    · cases e; unfold maxLen at e2; omega
  clear h hg hp hm
  go_enter Try.func64, Try.ntmps64
  go_wp2_with fail
  refine HH.out.mono ?_
  rintro e w1 ⟨rfl, rfl⟩
  go_wp2_with fail
  refine HP.out.mono ?_
  rintro e w2 ⟨rfl, rfl⟩
  have C0 : Hid (CellIs r o (.slice a m c) w2.drew) := hide c0
  have u0 : ∀ u : Mem (CellIs r o (.slice a m c)), u.w'.cell? ⟨r, o, none⟩ = some (.slice a m c) := fun u => u.h
  have hne : Nonempty (Mem (CellIs r o (.slice a m c))) := ⟨⟨_, C0.out⟩⟩
  clear HH HP
  go_wp2
  refine startL 24 (J := CellIs r o (.slice a m c)) (by kernel_rfl) ?_
  refine stretchL (fuel := 8) (by kernel_rfl) (fun _ _ _ _ _ h => h) C0.out [0, 2, 3, 4, 5, 6, 7, 9, 10, 11, 12, 15, 16, 17, 18, 19, 20] (by kernel_rfl) ?_
  simp only [List.filterMap_cons, List.filterMap_nil, List.getElem?_toArray, List.getElem?_cons_zero, List.getElem?_cons_succ]
  show wpQuiet _ _ _ _ [_, _, _, _, _, _, _, _, _, _, _, _, _, _, _, _, _] _
  repeat (go_big_quiet_step (fail))
  -- GEN
  refine wpQuiet_nil ?_
  obtain ⟨S, hS⟩ : ∃ S, w2.heap.size = S := ⟨_, rfl⟩
  have HS := hide hS
  have hSr : r < S := by rw [← hS]; exact HD.out.lt
  have HCI : Hid (∀ U, Below S w2 U → CellIs r o (.slice a m c) U) := hide (fun U hU => (hU.cell (p := ⟨r, o, none⟩) hSr).trans c0)
  have HR0 := hide HD.out.row
  have HX1 : Hid (∀ U, Below S w2 U → Src U (.slice a p c) p (itemVals (L.take p))) := hide (fun U hU => by
    have hr := HR0.out
    rcases hr.2 with ⟨e, e0⟩ | ⟨g, cap, cur, e, _⟩
    · have hm0 := HM.out
      simp only [Value.slice.injEq] at e
      obtain ⟨rfl, _, rfl⟩ := e
      have : p = 0 := by omega
      subst this
      exact .inl ⟨rfl, rfl, by simp [itemVals]⟩
    · cases e
      exact src_take hr (by rw [HS.out]; exact hU) p (by rw [HM.out]; exact hpl) c)
  have HX2 : Hid (∀ U, Below S w2 U → Src U (.slice (if c = p then a else Option.map (fun x => x.add (p * 3)) a) (m - p) (c - p)) (m - p) (itemVals (L.drop p))) := hide (fun U hU => by
    have hr := HR0.out
    rcases hr.2 with ⟨e, e0⟩ | ⟨g, cap, cur, e, _, _, e1, _⟩
    · have hm0 := HM.out
      have hln : L = [] := List.length_eq_zero_iff.1 e0
      simp only [Value.slice.injEq] at e
      obtain ⟨rfl, _, rfl⟩ := e
      have : p = 0 := by omega
      subst this
      exact .inl ⟨by simp; omega, by omega, by rw [hln]; rfl⟩
    · cases e
      have hm0 := HM.out
      by_cases hcp : c = p
      · rw [if_pos hcp]
        have := src_drop (w := w2) hr (by rw [HS.out]; exact hU) p (by omega) (c - p) 0 (fun h => by omega)
        rw [hm0] at this; exact this
      · rw [if_neg hcp]
        have := src_drop (w := w2) hr (by rw [HS.out]; exact hU) p (by omega) (c - p) (p * 3) (fun _ => rfl)
        rw [hm0] at this
        have ea : (⟨g, 0, none⟩ : Addr).add (p * 3) = ⟨g, p * 3, none⟩ := by unfold Addr.add; split <;> simp_all
        simp only [Option.map_some, ea]; exact this)
  have HIT : Hid (itemVals (L.take p) ++ [.int .i64 key, .int .u32 (d : Int), .int .i64 x] ++ itemVals (L.drop p) = itemVals (insL key d x L)) := hide (by rw [HI.out, itemVals_app]; simp [itemVals])
  have HL1 : Hid ((itemVals (L.take p)).length = p * 3) := hide (by rw [itemVals_length, List.length_take]; have := HM.out; omega)
  have HL2 : Hid ((itemVals (L.drop p)).length = (m - p) * 3) := hide (by rw [itemVals_length, List.length_drop]; have := HM.out; omega)
  have HN1 := hide (itemVals_one (L.take p))
  have HN2 := hide (itemVals_one (L.drop p))
  have HFZ : Hid (∀ U, Below S w2 U → U.frozen? ⟨r, o, none⟩ = false) := hide (fun U hU => by have := HD.out.froz; unfold World.frozen? at this ⊢; rw [hU.block r hSr]; exact this)
  generalize (if c = p then a else Option.map (fun x => x.add (p * 3)) a) = xa at *
  have hB0 : Below S w2 w2.drew := (Alike.drewN w2 1).below _
  have hS0 : S ≤ w2.drew.heap.size := by show S ≤ w2.heap.size; omega
  clear c0 hS C0 u0 hne HD HI HM HR0
  refine twoL (i := 1) (j := 13) rfl rfl (by kernel_rfl) rfl rfl (fun K hK => ?_) (fun K hK => ?_)
  · go_simp
    have b1 : Below S w2 (w2.alloc (.cells #[] 132)).drew := ((Below.refl S w2).alloc (by have := HS.out; omega) (.cells #[] 132)).trans ((Alike.drewN _ 1).below _)
    have s1 : S ≤ (w2.alloc (.cells #[] 132)).drew.heap.size := by show S ≤ (w2.alloc (.cells #[] 132)).heap.size; simp; have := HS.out; omega
    have own1 : (w2.alloc (.cells #[] 132)).drew.ownsRow S 132 3 (.slice (some ⟨w2.heap.size, 0, none⟩) 0 0) 0 [] := ownsRow_alike (w := w2.alloc (.cells #[] 132)) ⟨rfl, .inr ⟨w2.heap.size, 0, #[], rfl, by have := HS.out; omega, heap_alloc_at _ _, Nat.le_refl _, Nat.zero_le _, rfl, rfl⟩⟩ ⟨rfl, rfl, rfl, rfl⟩
    have hz1' : (w2.alloc (.cells #[] 132)).drew.heap.size = w2.heap.size + 1 := by show (w2.alloc (.cells #[] 132)).heap.size = _; simp
    refine hK _ _ (fun _ => HCI.out _ b1) ?_
    clear hK K
    generalize (w2.alloc (.cells #[] 132)).drew = U1 at *
    have hn3 : U1.heap.size ≠ w2.heap.size := by omega
    clear hz1'
    refine twoL (i := 8) (j := 13) rfl rfl (by kernel_rfl) rfl rfl (fun K hK => ?_) (fun K hK => ?_)
    · refine oper_append _ _ _ 86 rfl S 132 i0 (.agg #[.int .i64 0, .int .u32 0, .int .i64 0]) 3 24 Try.underlying86 hi hz0 hz1 hz2 rfl (by decide) (.slice (some ⟨w2.heap.size, 0, none⟩) 0 0) 0 [] rfl own1 p (itemVals (L.take p)) (HX1.out _ b1) HL1.out HN1.out (by unfold maxLen; omega) (by omega) s1 ?_
      intro v8 u8 own8 hgr hat
      have b8 : Below S w2 u8 := b1.trans (grown_below own1 hgr s1)
      have s8 : S ≤ u8.heap.size := Nat.le_trans s1 hgr.size
      rw [List.nil_append, Nat.zero_add] at own8
      refine hK _ _ (fun _ => HCI.out _ b8) ?_
      clear hK K
      simp only [Act.put, List.getElem_toArray, List.getElem_cons_succ, List.getElem_cons_zero, List.setIfInBounds_toArray, List.set_cons_succ, List.set_cons_zero]
      refine writerL (i := 13) rfl (by kernel_rfl) rfl (fun K hK => ?_)
      go_simp
      have hit : ∀ j u, [Value.int .i64 key, .int .u32 (d : Int), .int .i64 x][j]? = some u → (u8.alloc (.cells #[.int .i64 key, .int .u32 (d : Int), .int .i64 x] 132)).cell? ((⟨u8.heap.size, 0, none⟩ : Addr).add j) = some u := cells_new _ _ _
      have b8' : Below S w2 (u8.alloc (.cells #[.int .i64 key, .int .u32 (d : Int), .int .i64 x] 132)) := b8.alloc s8 _
      have own8' := own8.alloc (.cells #[.int .i64 key, .int .u32 (d : Int), .int .i64 x] 132)
      have s8' : S ≤ (u8.alloc (.cells #[.int .i64 key, .int .u32 (d : Int), .int .i64 x] 132)).heap.size := by simp; omega
      refine hK _ _ (fun _ => HCI.out _ b8') ?_
      clear hK K own8 b8 s8 own1 b1 s1
      generalize u8.heap.size = b3 at *
      generalize u8.alloc (.cells #[.int .i64 key, .int .u32 (d : Int), .int .i64 x] 132) = U3 at *
      have own8 := own8'
      have b8 := b8'
      have s8 := s8'
      refine writerL (i := 14) rfl (by kernel_rfl) rfl (fun K hK => ?_)
      refine oper_append _ _ _ 86 rfl S 132 i0 (.agg #[.int .i64 0, .int .u32 0, .int .i64 0]) 3 24 Try.underlying86 hi hz0 hz1 hz2 rfl (by decide) v8 p (itemVals (L.take p)) rfl own8 1 [.int .i64 key, .int .u32 (d : Int), .int .i64 x] (.inr ⟨⟨b3, 0, none⟩, 1, rfl, hit⟩) rfl (by simp [Value.oneCell']) (by unfold maxLen; omega) (by omega) s8 ?_
      intro v14 u14 own14 hgr hat
      have b14 : Below S w2 u14 := b8.trans (grown_below own8 hgr s8)
      have s14 : S ≤ u14.heap.size := Nat.le_trans s8 hgr.size
      refine hK _ _ (fun _ => HCI.out _ b14) ?_
      clear hK K
      simp only [Act.put, List.getElem_toArray, List.getElem_cons_succ, List.getElem_cons_zero, List.setIfInBounds_toArray, List.set_cons_succ, List.set_cons_zero]
      refine writerL (i := 21) rfl (by kernel_rfl) rfl (fun K hK => ?_)
      refine oper_append _ _ _ 86 rfl S 132 i0 (.agg #[.int .i64 0, .int .u32 0, .int .i64 0]) 3 24 Try.underlying86 hi hz0 hz1 hz2 rfl (by decide) v14 (p + 1) (itemVals (L.take p) ++ [.int .i64 key, .int .u32 (d : Int), .int .i64 x]) rfl own14 (m - p) (itemVals (L.drop p)) (HX2.out _ b14) HL2.out HN2.out (by unfold maxLen; omega) (by omega) s14 ?_
      intro v21 u21 own21 hgr hat
      have b21 : Below S w2 u21 := b14.trans (grown_below own14 hgr s14)
      have s21 : S ≤ u21.heap.size := Nat.le_trans s14 hgr.size
      obtain ⟨a21, c21, rfl⟩ := ownsRow_slice own21
      refine hK _ _ (fun _ => HCI.out _ b21) ?_
      clear hK K
      simp only [Act.put, List.getElem_toArray, List.getElem_cons_succ, List.getElem_cons_zero, List.setIfInBounds_toArray, List.set_cons_succ, List.set_cons_zero]
      refine writerL (i := 22) rfl (by kernel_rfl) rfl (fun K hK => ?_)
      go_simp
      refine hK _ _ (fun _ => HCI.out _ b21) ?_
      clear hK K
      refine writerL (i := 23) rfl (by kernel_rfl) rfl (fun K hK => ?_)
      go_simp
      refine hK _ _ (fun _ => HCI.out _ b21) ?_
      clear hK K
      refine writerL (i := 24) rfl (by kernel_rfl) rfl (fun K hK => ?_)
      have y0 : u21.cell? ⟨r, o, none⟩ = some (.slice a m c) := HCI.out _ b21
      have yf := HFZ.out _ b21
      go_simp
      refine hK _ _ (fun h => absurd rfl h) ?_
      clear hK K
      refine doneL (by kernel_rfl) ?_
      have HB21 := hide b21
      have HO21 := hide own21
      clear y0 yf b21 own21 own14 b14
      go_wp2
      go_ret
      refine ⟨rfl, _, u21, rfl, ?_, ?_⟩
      · rw [HS.out]; exact HB21.out
      · have e := HO21.out
        have he : p + 1 + (m - p) = m + 1 := by omega
        rw [HIT.out, he] at e
        rw [HS.out, he]; exact e
    · go_simp
      have b1' : Below S w2 (U1.alloc (.cells #[.int .i64 key, .int .u32 (d : Int), .int .i64 x] 132)) := b1.alloc s1 _
      have own1' := own1.alloc (.cells #[.int .i64 key, .int .u32 (d : Int), .int .i64 x] 132)
      have s1' : S ≤ (U1.alloc (.cells #[.int .i64 key, .int .u32 (d : Int), .int .i64 x] 132)).heap.size := by simp; omega
      have hi3 := heap_alloc_at U1 (.cells #[.int .i64 key, .int .u32 (d : Int), .int .i64 x] 132)
      refine hK _ _ (fun _ => HCI.out _ b1') ?_
      clear hK K own1 b1 s1
      have hl3 := lt_of_heap hi3
      generalize U1.heap.size = b3 at *
      generalize U1.alloc (.cells #[.int .i64 key, .int .u32 (d : Int), .int .i64 x] 132) = U3 at *
      have own1 := own1'
      have b1 := b1'
      have s1 := s1'
      refine writerL (i := 8) rfl (by kernel_rfl) rfl (fun K hK => ?_)
      refine oper_append _ _ _ 86 rfl S 132 i0 (.agg #[.int .i64 0, .int .u32 0, .int .i64 0]) 3 24 Try.underlying86 hi hz0 hz1 hz2 rfl (by decide) (.slice (some ⟨w2.heap.size, 0, none⟩) 0 0) 0 [] rfl own1 p (itemVals (L.take p)) (HX1.out _ b1) HL1.out HN1.out (by unfold maxLen; omega) (by omega) s1 ?_
      intro v8 u8 own8 hgr hat
      have b8 : Below S w2 u8 := b1.trans (grown_below own1 hgr s1)
      have s8 : S ≤ u8.heap.size := Nat.le_trans s1 hgr.size
      rw [List.nil_append, Nat.zero_add] at own8
      have hit : ∀ j u, [Value.int .i64 key, .int .u32 (d : Int), .int .i64 x][j]? = some u → u8.cell? ((⟨b3, 0, none⟩ : Addr).add j) = some u := cells_at ((hgr.block b3 hl3 (by simp [Value.ownBlock]; omega)).trans hi3)
      refine hK _ _ (fun _ => HCI.out _ b8) ?_
      clear hK K
      simp only [Act.put, List.getElem_toArray, List.getElem_cons_succ, List.getElem_cons_zero, List.setIfInBounds_toArray, List.set_cons_succ, List.set_cons_zero]
      refine writerL (i := 14) rfl (by kernel_rfl) rfl (fun K hK => ?_)
      refine oper_append _ _ _ 86 rfl S 132 i0 (.agg #[.int .i64 0, .int .u32 0, .int .i64 0]) 3 24 Try.underlying86 hi hz0 hz1 hz2 rfl (by decide) v8 p (itemVals (L.take p)) rfl own8 1 [.int .i64 key, .int .u32 (d : Int), .int .i64 x] (.inr ⟨⟨b3, 0, none⟩, 1, rfl, hit⟩) rfl (by simp [Value.oneCell']) (by unfold maxLen; omega) (by omega) s8 ?_
      intro v14 u14 own14 hgr hat
      have b14 : Below S w2 u14 := b8.trans (grown_below own8 hgr s8)
      have s14 : S ≤ u14.heap.size := Nat.le_trans s8 hgr.size
      refine hK _ _ (fun _ => HCI.out _ b14) ?_
      clear hK K
      simp only [Act.put, List.getElem_toArray, List.getElem_cons_succ, List.getElem_cons_zero, List.setIfInBounds_toArray, List.set_cons_succ, List.set_cons_zero]
      refine writerL (i := 21) rfl (by kernel_rfl) rfl (fun K hK => ?_)
      refine oper_append _ _ _ 86 rfl S 132 i0 (.agg #[.int .i64 0, .int .u32 0, .int .i64 0]) 3 24 Try.underlying86 hi hz0 hz1 hz2 rfl (by decide) v14 (p + 1) (itemVals (L.take p) ++ [.int .i64 key, .int .u32 (d : Int), .int .i64 x]) rfl own14 (m - p) (itemVals (L.drop p)) (HX2.out _ b14) HL2.out HN2.out (by unfold maxLen; omega) (by omega) s14 ?_
      intro v21 u21 own21 hgr hat
      have b21 : Below S w2 u21 := b14.trans (grown_below own14 hgr s14)
      have s21 : S ≤ u21.heap.size := Nat.le_trans s14 hgr.size
      obtain ⟨a21, c21, rfl⟩ := ownsRow_slice own21
      refine hK _ _ (fun _ => HCI.out _ b21) ?_
      clear hK K
      simp only [Act.put, List.getElem_toArray, List.getElem_cons_succ, List.getElem_cons_zero, List.setIfInBounds_toArray, List.set_cons_succ, List.set_cons_zero]
      refine writerL (i := 22) rfl (by kernel_rfl) rfl (fun K hK => ?_)
      go_simp
      refine hK _ _ (fun _ => HCI.out _ b21) ?_
      clear hK K
      refine writerL (i := 23) rfl (by kernel_rfl) rfl (fun K hK => ?_)
      go_simp
      refine hK _ _ (fun _ => HCI.out _ b21) ?_
      clear hK K
      refine writerL (i := 24) rfl (by kernel_rfl) rfl (fun K hK => ?_)
      have y0 : u21.cell? ⟨r, o, none⟩ = some (.slice a m c) := HCI.out _ b21
      have yf := HFZ.out _ b21
      go_simp
      refine hK _ _ (fun h => absurd rfl h) ?_
      clear hK K
      refine doneL (by kernel_rfl) ?_
      have HB21 := hide b21
      have HO21 := hide own21
      clear y0 yf b21 own21 own14 b14
      go_wp2
      go_ret
      refine ⟨rfl, _, u21, rfl, ?_, ?_⟩
      · rw [HS.out]; exact HB21.out
      · have e := HO21.out
        have he : p + 1 + (m - p) = m + 1 := by omega
        rw [HIT.out, he] at e
        rw [HS.out, he]; exact e
  · go_simp
    have b1 : Below S w2 (w2.alloc (.cells #[.int .i64 key, .int .u32 (d : Int), .int .i64 x] 132)).drew := ((Below.refl S w2).alloc (by have := HS.out; omega) (.cells #[.int .i64 key, .int .u32 (d : Int), .int .i64 x] 132)).trans ((Alike.drewN _ 1).below _)
    have s1 : S ≤ (w2.alloc (.cells #[.int .i64 key, .int .u32 (d : Int), .int .i64 x] 132)).drew.heap.size := by show S ≤ (w2.alloc (.cells #[.int .i64 key, .int .u32 (d : Int), .int .i64 x] 132)).heap.size; simp; have := HS.out; omega
    have hi3 : (w2.alloc (.cells #[.int .i64 key, .int .u32 (d : Int), .int .i64 x] 132)).drew.heap[w2.heap.size]? = some (.cells #[.int .i64 key, .int .u32 (d : Int), .int .i64 x] 132) := heap_alloc_at w2 (.cells #[.int .i64 key, .int .u32 (d : Int), .int .i64 x] 132)
    refine hK _ _ (fun _ => HCI.out _ b1) ?_
    clear hK K
    have hl3 := lt_of_heap hi3
    obtain ⟨b3, hb3⟩ : ∃ b3, w2.heap.size = b3 := ⟨_, rfl⟩
    rw [hb3] at hi3 hl3 ⊢
    clear hb3
    generalize (w2.alloc (.cells #[.int .i64 key, .int .u32 (d : Int), .int .i64 x] 132)).drew = U1 at *
    refine writerL (i := 1) rfl (by kernel_rfl) rfl (fun K hK => ?_)
    go_simp
    have b1' : Below S w2 (U1.alloc (.cells #[] 132)) := b1.alloc s1 _
    have own1' : (U1.alloc (.cells #[] 132)).ownsRow S 132 3 (.slice (some ⟨U1.heap.size, 0, none⟩) 0 0) 0 [] := ⟨rfl, .inr ⟨U1.heap.size, 0, #[], rfl, s1, heap_alloc_at _ _, Nat.le_refl _, Nat.zero_le _, rfl, rfl⟩⟩
    have s1' : S ≤ (U1.alloc (.cells #[] 132)).heap.size := by simp; omega
    have hi3' := heap_alloc_old (o := (.cells #[] 132)) hi3
    have hn3 : b3 ≠ U1.heap.size := by omega
    refine hK _ _ (fun _ => HCI.out _ b1') ?_
    clear hK K b1 s1 hi3
    have hl3' := lt_of_heap hi3'
    generalize U1.heap.size = q1 at *
    generalize U1.alloc (.cells #[] 132) = U3 at *
    have own1 := own1'
    have b1 := b1'
    have s1 := s1'
    refine writerL (i := 8) rfl (by kernel_rfl) rfl (fun K hK => ?_)
    refine oper_append _ _ _ 86 rfl S 132 i0 (.agg #[.int .i64 0, .int .u32 0, .int .i64 0]) 3 24 Try.underlying86 hi hz0 hz1 hz2 rfl (by decide) (.slice (some ⟨q1, 0, none⟩) 0 0) 0 [] rfl own1 p (itemVals (L.take p)) (HX1.out _ b1) HL1.out HN1.out (by unfold maxLen; omega) (by omega) s1 ?_
    intro v8 u8 own8 hgr hat
    have b8 : Below S w2 u8 := b1.trans (grown_below own1 hgr s1)
    have s8 : S ≤ u8.heap.size := Nat.le_trans s1 hgr.size
    rw [List.nil_append, Nat.zero_add] at own8
    have hit : ∀ j u, [Value.int .i64 key, .int .u32 (d : Int), .int .i64 x][j]? = some u → u8.cell? ((⟨b3, 0, none⟩ : Addr).add j) = some u := cells_at ((hgr.block b3 hl3' (by simp [Value.ownBlock]; omega)).trans hi3')
    refine hK _ _ (fun _ => HCI.out _ b8) ?_
    clear hK K
    simp only [Act.put, List.getElem_toArray, List.getElem_cons_succ, List.getElem_cons_zero, List.setIfInBounds_toArray, List.set_cons_succ, List.set_cons_zero]
    refine writerL (i := 14) rfl (by kernel_rfl) rfl (fun K hK => ?_)
    refine oper_append _ _ _ 86 rfl S 132 i0 (.agg #[.int .i64 0, .int .u32 0, .int .i64 0]) 3 24 Try.underlying86 hi hz0 hz1 hz2 rfl (by decide) v8 p (itemVals (L.take p)) rfl own8 1 [.int .i64 key, .int .u32 (d : Int), .int .i64 x] (.inr ⟨⟨b3, 0, none⟩, 1, rfl, hit⟩) rfl (by simp [Value.oneCell']) (by unfold maxLen; omega) (by omega) s8 ?_
    intro v14 u14 own14 hgr hat
    have b14 : Below S w2 u14 := b8.trans (grown_below own8 hgr s8)
    have s14 : S ≤ u14.heap.size := Nat.le_trans s8 hgr.size
    refine hK _ _ (fun _ => HCI.out _ b14) ?_
    clear hK K
    simp only [Act.put, List.getElem_toArray, List.getElem_cons_succ, List.getElem_cons_zero, List.setIfInBounds_toArray, List.set_cons_succ, List.set_cons_zero]
    refine writerL (i := 21) rfl (by kernel_rfl) rfl (fun K hK => ?_)
    refine oper_append _ _ _ 86 rfl S 132 i0 (.agg #[.int .i64 0, .int .u32 0, .int .i64 0]) 3 24 Try.underlying86 hi hz0 hz1 hz2 rfl (by decide) v14 (p + 1) (itemVals (L.take p) ++ [.int .i64 key, .int .u32 (d : Int), .int .i64 x]) rfl own14 (m - p) (itemVals (L.drop p)) (HX2.out _ b14) HL2.out HN2.out (by unfold maxLen; omega) (by omega) s14 ?_
    intro v21 u21 own21 hgr hat
    have b21 : Below S w2 u21 := b14.trans (grown_below own14 hgr s14)
    have s21 : S ≤ u21.heap.size := Nat.le_trans s14 hgr.size
    obtain ⟨a21, c21, rfl⟩ := ownsRow_slice own21
    refine hK _ _ (fun _ => HCI.out _ b21) ?_
    clear hK K
    simp only [Act.put, List.getElem_toArray, List.getElem_cons_succ, List.getElem_cons_zero, List.setIfInBounds_toArray, List.set_cons_succ, List.set_cons_zero]
    refine writerL (i := 22) rfl (by kernel_rfl) rfl (fun K hK => ?_)
    go_simp
    refine hK _ _ (fun _ => HCI.out _ b21) ?_
    clear hK K
    refine writerL (i := 23) rfl (by kernel_rfl) rfl (fun K hK => ?_)
    go_simp
    refine hK _ _ (fun _ => HCI.out _ b21) ?_
    clear hK K
    refine writerL (i := 24) rfl (by kernel_rfl) rfl (fun K hK => ?_)
    have y0 : u21.cell? ⟨r, o, none⟩ = some (.slice a m c) := HCI.out _ b21
    have yf := HFZ.out _ b21
    go_simp
    refine hK _ _ (fun h => absurd rfl h) ?_
    clear hK K
    refine doneL (by kernel_rfl) ?_
    have HB21 := hide b21
    have HO21 := hide own21
    clear y0 yf b21 own21 own14 b14
    go_wp2
    go_ret
    refine ⟨rfl, _, u21, rfl, ?_, ?_⟩
    · rw [HS.out]; exact HB21.out
    · have e := HO21.out
      have he : p + 1 + (m - p) = m + 1 := by omega
      rw [HIT.out, he] at e
      rw [HS.out, he]; exact e
end Go.Proofs.Ythcfmpjmgheieaa
