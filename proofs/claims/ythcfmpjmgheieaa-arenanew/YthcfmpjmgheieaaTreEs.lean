/- Shape of a tree of values struct{}. Printed by tools/gen/tre.py. -/
import Derived.Test.YthcfmpjmgheieaaTreEm
import Derived.Test.YthcfmpjmgheieaaTreWalk2
import Derived.Sort.LoopGhostIn
import Derived.Shelf.Abstract
import Derived.Sort.QuietIn
import Derived.OwnWalkIn
namespace Go.Proofs.Ythcfmpjmgheieaa
open Go.RowKit

attribute [local go_sem] Oper.semAt_some

theorem infoDE : (Try.prog.info? 153).map (fun i => (i.zero, i.size, i.bytes)) = some (some (.agg #[.pointer none, .int .i64 0]), 2, 16) := by kernel_rfl

set_option maxRecDepth 100000 in
set_option maxHeartbeats 4000000 in
theorem downE (n : Nat) (hn : 1 ≤ n) (A Bt t : Nat) (T : Tr Unit) (w : World) (hok : OkT shE A w T) (hAw : A ≤ w.heap.size) (hBt : Bt < w.heap.size) (ht : t < w.heap.size) (hcb : w.cell? ⟨Bt, 0, none⟩ = some (.pointer (some ⟨t, 0, none⟩))) (hct : w.cell? ⟨t, 0, none⟩ = some (.pointer T.adr)) (hsz : T.size ≤ 1099511627776) :
    SeqB Fence.wide n Try.prog 90 #[.pointer (some ⟨Bt, 0, none⟩)] (fun k : Int × Nat => #[.int .i64 k.1, .int .i64 (k.2 : Int)]) A (T.shape 0) w := by
  intro Y J W hW hJ hY h0
  have h1 : 1 ≤ n := hn
  obtain ⟨i0, hi, hz0, hz1, hz2⟩ := info_parts infoDE
  have c0 : W.cell? ⟨Bt, 0, none⟩ = some (.pointer (some ⟨t, 0, none⟩)) := (hW.cell (p := ⟨Bt, 0, none⟩) hBt).trans hcb
  have c1 : W.cell? ⟨t, 0, none⟩ = some (.pointer T.adr) := (hW.cell (p := ⟨t, 0, none⟩) ht).trans hct
  have HOK := hide (hok.below hW hAw)
  have hsW := hW.size
  have hAW : A ≤ W.heap.size := Nat.le_trans hAw hsW
  obtain ⟨S, hS⟩ : ∃ S, W.heap.size = S := ⟨_, rfl⟩
  rw [hS] at hJ hY hAW
  have HS := hide hS
  clear hW hcb hct hBt ht hok hsW
  refine callsIn_of_wp Try.func90 rfl trivial ?_ rfl
  simp only [Try.ntmps90, List.size_toArray, List.length_cons, List.length_nil, Nat.reduceAdd, Nat.reduceSub, Array.replicate_succ, Array.replicate_zero, List.push_toArray, List.append_toArray, List.nil_append, List.cons_append]
  gi_wp2
  gi_loopg [3] (2 * T.size + 1) (fun k r3 wr => ∃ (pre : List (Int × Nat)) (st : List (Sd Unit)), costS st = k ∧ T.shape 0 = pre ++ remS st ∧ (∀ s ∈ st, OkT shE A wr s.1 ∧ s.2 + s.1.size ≤ T.size) ∧ wr.ownsRow S 153 2 r3 st.length (sideVals st.reverse) ∧ J pre wr ∧ S ≤ wr.heap.size ∧ costS st ≤ 2 * T.size + 1)
  case atStart =>
    refine ⟨[], [(T, 0)], by simp [costS], by simp [remS], fun s hs => ?_, ⟨rfl, .inr ⟨S, 1, _, rfl, Nat.le_refl _, by rw [← HS.out]; exact heap_alloc_at _ _, Nat.le_refl _, by unfold maxLen; omega, rfl, rfl⟩⟩, hJ _ _ _ h0 ((Below.refl _ W).alloc (by rw [HS.out]; exact Nat.le_refl _) _), by simp; omega, by simp [costS]⟩
    obtain rfl : s = (T, 0) := by simpa using hs
    exact ⟨⟨HOK.out.1.same (fun x hx => Below.heap_alloc _ _ _ (HOK.out.1.lt hx)), HOK.out.2⟩, by simp⟩
  case round =>
    clear c0 c1 h0 HOK HS hS
    obtain ⟨pre, st, hgk, hpre, hst, hrow, hJr, hSr, hcost⟩ := hrel
    cases st with
    | nil =>
      obtain ⟨a3, c3, rfl⟩ := ownsRow_slice hrow
      have HP : Hid (T.shape 0 = pre) := hide (by simpa [remS] using hpre)
      clear hpre hst hrow hgk
      gi_wp2
      go_end0
      exact ⟨⟨_, rfl⟩, by rw [HP.out]; exact hJr⟩
    | cons s rest =>
      obtain ⟨U, e⟩ := s
      obtain ⟨g, cap, rfl⟩ := ownsRow_succ hrow
      obtain ⟨hc1, hc2⟩ := ownsRow_cap hrow
      unfold maxLen at hc2
      have hgr : g < wr.heap.size := (hrow.lt g rfl).2
      have hgS : S ≤ g := (hrow.lt g rfl).1
      obtain ⟨g1, g2, hrow'⟩ := side_top hrow
      simp only at g1 g2
      have hx := hst (U, e) (by simp)
      simp only at hx
      have hlen : rest.length + 1 ≤ 2 * T.size + 1 := by have := costS_len ((U, e) :: rest); rw [List.length_cons] at this; omega
      have HST : Hid (∀ y ∈ rest, OkT shE A wr y.1 ∧ y.2 + y.1.size ≤ T.size) := hide (fun y hy => hst y (by simp [hy]))
      have HRO := hide hrow'
      have HC : Hid (2 * U.size + 1 + costS rest = gk ∧ costS ((U, e) :: rest) ≤ 2 * T.size + 1) := ⟨hgk, hcost⟩
      have HPR := hide hpre
      obtain ⟨m, hm⟩ : ∃ m, rest.length = m := ⟨_, rfl⟩
      have HM := hide hm
      rw [List.length_cons] at hc1
      rw [hm] at g1 g2 hlen HRO hc1
      simp only [hm]
      have hee : e ≤ 1099511627776 := by omega
      have HX := hide hx
      clear hst hrow hrow' hgk hcost hpre hm hx
      cases U with
      | nil =>
        rw [Tr.adr_nil] at g1
        gi_wp2
        gi_roundg (costS rest)
        case measure => have := HC.out.1; simp [Tr.size] at this; omega
        case rel =>
          have hb := (Below.refl S wr).alloc hSr (.cells #[.pointer none, .int .i64 (e : Int)] 153)
          refine ⟨pre, rest, rfl, by rw [HPR.out, remS_nil], fun y hy => ⟨(HST.out y hy).1.below hb hAW, (HST.out y hy).2⟩, ?_, hJ _ _ _ hJr hb, Nat.le_trans hSr hb.size, ?_⟩
          · rw [HM.out]; exact HRO.out.alloc _
          · have := HC.out.2; simp [costS] at this; omega
      | node p k d v l r =>
        rw [Tr.adr_node] at g1
        obtain ⟨dk, _, dl, dr, _⟩ := nodeE HX.out.1.1.1
        have hpA : p < A := HX.out.1.2 p (.inl rfl)
        have hC6 : Hid (CellsOf [(wr.heap.size, 0, .pointer (some ⟨p, 0, none⟩)), (wr.heap.size, 1, .int .i64 (e : Int)), (p, 0, .int .i64 k), (p, 2, .pointer l.adr), (p, 3, .pointer r.adr)] (wr.alloc (.cells #[.pointer (some ⟨p, 0, none⟩), .int .i64 (e : Int)] 153)).drew) := by
          have hb := heap_alloc_at wr (.cells #[.pointer (some ⟨p, 0, none⟩), .int .i64 (e : Int)] 153)
          have hpq := (Below.heap_alloc wr (.cells #[.pointer (some ⟨p, 0, none⟩), .int .i64 (e : Int)] 153) p (by omega)).trans HX.out.1.1.1
          obtain ⟨q1, _, q2, q3, _⟩ := nodeE hpq
          intro c hc
          simp only [List.mem_cons, List.not_mem_nil, or_false] at hc
          rcases hc with rfl | rfl | rfl | rfl | rfl
          · exact cell_of_heap hb
          · exact cell_of_heap hb
          · exact q1
          · exact q2
          · exact q3
        obtain ⟨CL, hCL⟩ : ∃ CL : List (Nat × Nat × Value), CL = [(wr.heap.size, 0, .pointer (some ⟨p, 0, none⟩)), (wr.heap.size, 1, .int .i64 (e : Int)), (p, 0, .int .i64 k), (p, 2, .pointer l.adr), (p, 3, .pointer r.adr)] := ⟨_, rfl⟩
        have u0 : ∀ u : Mem (CellsOf CL), u.w'.cell? ⟨wr.heap.size, 0, none⟩ = some (.pointer (some ⟨p, 0, none⟩)) := fun u => u.h (wr.heap.size, 0, .pointer (some ⟨p, 0, none⟩)) (by simp [hCL])
        have u1 : ∀ u : Mem (CellsOf CL), u.w'.cell? ⟨wr.heap.size, 1, none⟩ = some (.int .i64 (e : Int)) := fun u => u.h (wr.heap.size, 1, .int .i64 (e : Int)) (by simp [hCL])
        have u2 : ∀ u : Mem (CellsOf CL), u.w'.cell? ⟨p, 0, none⟩ = some (.int .i64 k) := fun u => u.h (p, 0, .int .i64 k) (by simp [hCL])
        have u3 : ∀ u : Mem (CellsOf CL), u.w'.cell? ⟨p, 2, none⟩ = some (.pointer l.adr) := fun u => u.h (p, 2, .pointer l.adr) (by simp [hCL])
        have u4 : ∀ u : Mem (CellsOf CL), u.w'.cell? ⟨p, 3, none⟩ = some (.pointer r.adr) := fun u => u.h (p, 3, .pointer r.adr) (by simp [hCL])
        rw [← hCL] at hC6
        have hne : Nonempty (Mem (CellsOf CL)) := ⟨⟨_, hC6.out⟩⟩
        have HCL : Hid (∀ c ∈ CL, c.1 = wr.heap.size ∨ c.1 = p) := hide (by rw [hCL]; simp)
        clear hCL
        have HMX : Hid ((pre ++ [(k, e)]) <+: T.shape 0 ∧ T.shape 0 = pre ++ [(k, e)] ++ remS ((l, e + 1) :: (r, e + 1) :: rest)) := by
          have q : T.shape 0 = pre ++ [(k, e)] ++ remS ((l, e + 1) :: (r, e + 1) :: rest) := by rw [HPR.out, remS_node]; simp
          exact ⟨⟨_, q.symm⟩, q⟩
        have hbb := (Below.refl S wr).alloc hSr (.cells #[.pointer (some ⟨p, 0, none⟩), .int .i64 (e : Int)] 153)
        have HBB := hide hbb
        have hJ2 := hJ _ _ _ hJr hbb.drew
        have hYY := hY pre (k, e) _ hJ2 (by simp; omega) HMX.out.1
        clear hJ2 hbb
        gi_wp2
        refine region_startIn (J := CellsOf CL) (by kernel_rfl) ?_
        refine stretchIn (fuel := 2) (fun _ => trivial) rfl (by kernel_rfl) (fun _ _ _ _ _ h => h) hC6.out [0, 1, 2, 3, 4, 5, 6, 7] (by kernel_rfl) ?_
        simp only [List.filterMap_cons, List.filterMap_nil, List.getElem?_toArray, List.getElem?_cons_zero, List.getElem?_cons_succ]
        show wpQuiet _ _ _ _ [_, _, _, _, _, _, _, _] _
        repeat (go_big_quiet_step (fail))
        refine wpQuiet_nil ?_
        refine writerIn (i := 8) rfl (by kernel_rfl) rfl (fun K hK => ?_)
        obtain ⟨fn, tmps, assign, body, hy1, hR⟩ := hYY
        refine ⟨fun _ _ => trivial, ?_⟩
        rw [show Fence.wide.round = none from rfl, Oper.semAt_none]
        go_simp
        first | refine ⟨fun _ => h1, hR.mono ?_⟩ | refine hR.mono ?_
        rintro ee W3 ⟨rfl, hJ3, ho3⟩
        have hC7 : Hid (CellsOf CL W3) := hide (hC6.out.only ho3 (fun c hc => by
          rcases HCL.out c hc with q | q
          · rw [q]; exact ⟨by simp, by omega⟩
          · rw [q]; exact ⟨by simp; omega, by omega⟩))
        have ho4 : Only (fun k => A ≤ k ∧ k < S) (wr.alloc (.cells #[.pointer (some ⟨p, 0, none⟩), .int .i64 (e : Int)] 153)) W3 := ho3.left ⟨rfl, rfl, rfl, rfl⟩
        have HO4 := hide ho4
        have hs3 : wr.heap.size + 1 ≤ W3.heap.size := by have := ho4.size; simpa using this
        have HR3 : Hid (W3.ownsRow S 153 2 (.slice (some ⟨g, 0, none⟩) m cap) m (sideVals rest.reverse)) := hide (ownsRow_only (HRO.out.alloc _) ho4 (fun k hk => hk.2))
        clear ho3 ho4 hR
        refine hK _ _ hC7.out ?_
        clear hK K hy1
        refine stretchIn (fuel := 0) (fun _ => trivial) rfl (by kernel_rfl) (fun _ _ _ _ _ h => h) hC7.out [9] (by kernel_rfl) ?_
        simp only [List.filterMap_cons, List.filterMap_nil, List.getElem?_toArray, List.getElem?_cons_zero, List.getElem?_cons_succ]
        show wpQuiet _ _ _ _ [_] _
        repeat (go_big_quiet_step (fail))
        refine wpQuiet_nil ?_
        refine doneIn (by kernel_rfl) ?_
        gi_wp2
        have hC8 : Hid (CellsOf CL W3.drew) := hC7
        refine region_startIn (J := CellsOf CL) (by kernel_rfl) ?_
        refine stretchIn (fuel := 3) (fun _ => trivial) rfl (by kernel_rfl) (fun _ _ _ _ _ h => h) hC8.out [0, 1, 2, 3, 4, 5, 6, 7, 8, 9, 10, 11, 12, 13, 14, 15, 16, 17, 18] (by kernel_rfl) ?_
        simp only [List.filterMap_cons, List.filterMap_nil, List.getElem?_toArray, List.getElem?_cons_zero, List.getElem?_cons_succ]
        show wpQuiet _ _ _ _ [_, _, _, _, _, _, _, _, _, _, _, _, _, _, _, _, _, _, _] _
        repeat (go_big_quiet_step (fail))
        refine wpQuiet_nil ?_
        refine writerIn (i := 19) rfl (by kernel_rfl) rfl (fun K hK => ?_)
        refine ⟨fun _ _ => trivial, ?_⟩
        rw [show Fence.wide.round = none from rfl, Oper.semAt_none]
        go_simp
        have hC9 : Hid (CellsOf CL (W3.alloc (.cells #[.pointer r.adr, .int .i64 ((e : Int) + 1), .pointer l.adr, .int .i64 ((e : Int) + 1)] 153)).drew) := hide (hC7.out.only (((Only.refl (fun _ => False) W3).alloc _).drew) (fun c hc => by
          rcases HCL.out c hc with q | q
          · rw [q]; exact ⟨by omega, fun h => h⟩
          · rw [q]; exact ⟨by omega, fun h => h⟩))
        refine hK _ _ hC9.out ?_
        clear hK K
        refine writerIn (i := 20) rfl (by kernel_rfl) rfl (fun K hK => ?_)
        refine operIn_append_own _ (fun _ => trivial) _ _ 154 rfl S 153 i0 (.agg #[.pointer none, .int .i64 0]) 2 16 Try.underlying154 hi hz0 hz1 hz2 rfl (by decide) (.slice (some ⟨g, 0, none⟩) m cap) m (sideVals rest.reverse) rfl (ownsRow_alike (HR3.out.alloc (.cells #[.pointer r.adr, .int .i64 ((e : Int) + 1), .pointer l.adr, .int .i64 ((e : Int) + 1)] 153)) ⟨rfl, rfl, rfl, rfl⟩) ⟨W3.heap.size, 0, none⟩ 2 2 [.pointer r.adr, .int .i64 ((e : Int) + 1), .pointer l.adr, .int .i64 ((e : Int) + 1)] rfl rfl (cell_four_new _ _ _ _ _ _) (by simp [Value.oneCell']) (by unfold maxLen; omega) (by omega) (by simp; omega) ?_
        intro v' w5 hown5 hgrow5
        have ho5 : Only (fun k => k = g) W3 w5 := (((Only.refl (fun k => k = g) W3).alloc _).drew).grown hgrow5 (.inl rfl)
        have hC10 : Hid (CellsOf CL w5) := hide (hC7.out.only ho5 (fun c hc => by
          rcases HCL.out c hc with q | q
          · rw [q]; exact ⟨by omega, by omega⟩
          · rw [q]; exact ⟨by omega, by omega⟩))
        have HO5 := hide ho5
        have HRW := hide hown5
        clear hown5 hgrow5 ho5
        refine hK _ _ hC10.out ?_
        clear hK K
        simp only [Act.put, List.getElem_toArray, List.getElem_cons_succ, List.getElem_cons_zero, List.setIfInBounds_toArray, List.set_cons_succ, List.set_cons_zero]
        refine stretchIn (fuel := 0) (fun _ => trivial) rfl (by kernel_rfl) (fun _ _ _ _ _ h => h) hC10.out [21] (by kernel_rfl) ?_
        simp only [List.filterMap_cons, List.filterMap_nil, List.getElem?_toArray, List.getElem?_cons_zero, List.getElem?_cons_succ]
        show wpQuiet _ _ _ _ [_] _
        repeat (go_big_quiet_step (fail))
        refine wpQuiet_nil ?_
        refine doneIn (by kernel_rfl) ?_
        gi_wp2
        gi_roundg (costS ((l, e + 1) :: (r, e + 1) :: rest))
        case measure => have := HC.out.1; simp [Tr.size, costS] at this ⊢; omega
        case rel =>
          have hb5 : Below S W3 w5 := HO5.out.below (by omega) (fun k hk => by omega)
          have hsz := HX.out.2
          have hX3 := ((HX.out.1.below HBB.out hAW).only HO4.out).below hb5 hAW
          refine ⟨pre ++ [(k, e)], (l, e + 1) :: (r, e + 1) :: rest, rfl, HMX.out.2, fun y hy => ?_, ?_, hJ _ _ _ hJ3 hb5, by have := hb5.size; omega, ?_⟩
          · rcases List.mem_cons.1 hy with rfl | hy
            · exact ⟨hX3.left, by simp [Tr.size] at hsz ⊢; omega⟩
            · rcases List.mem_cons.1 hy with rfl | hy
              · exact ⟨hX3.right, by simp [Tr.size] at hsz ⊢; omega⟩
              · exact ⟨(((HST.out y hy).1.below HBB.out hAW).only HO4.out).below hb5 hAW, (HST.out y hy).2⟩
          · have q := HRW.out
            rw [show sideVals ((l, e + 1) :: (r, e + 1) :: rest).reverse = sideVals rest.reverse ++ [.pointer r.adr, .int .i64 ((e : Int) + 1), .pointer l.adr, .int .i64 ((e : Int) + 1)] from by simp [sideVals], List.length_cons, List.length_cons, HM.out]
            exact q
          · have q := HC.out
            simp [costS, Tr.size] at q ⊢; omega

theorem fromRootE (n : Nat) (t : Nat) (w : World) :
    CallsIn Fence.wide n Try.prog 79 #[.pointer (some ⟨t, 0, none⟩)] w fun r w' => r = .returned (.func (.func 90) #[] #[.pointer (some ⟨w.heap.size, 0, none⟩)]) ∧
      w' = w.alloc (.cells #[.pointer (some ⟨t, 0, none⟩)] 75) := by
  refine callsIn_of_wp Try.func79 rfl trivial ?_ rfl
  simp only [Try.ntmps79, List.size_toArray, List.length_cons, List.length_nil, Nat.reduceAdd, Nat.reduceSub, Array.replicate_succ, Array.replicate_zero, List.push_toArray, List.append_toArray, List.nil_append, List.cons_append]
  gi_wp2
  go_ret
  exact ⟨rfl, rfl⟩

theorem infoOE : (Try.prog.info? 111).map (fun i => (i.zero, i.size, i.bytes)) = some (some (.agg #[.int .i64 0, .int .i64 0]), 2, 16) := by kernel_rfl

set_option maxRecDepth 100000 in
set_option maxHeartbeats 2000000 in
theorem shapeE (w : World) (t : Nat) (T : Tr Unit) (L : List (It Unit)) (h : TAtE w t T L) (hl : L.length ≤ 1099511627776) :
    Calls Try.prog 59 #[.pointer (some ⟨t, 0, none⟩)] w fun e w' => ∃ v, e = .returned v ∧ w'.ownsRow w.heap.size 111 2 v L.length (nodeVals (shp L)) ∧ Below w.heap.size w w' := by
  refine (callsIn_wide (n := 8)).1 ?_
  have h81 : (1 : Nat) ≤ 8 := by omega
  obtain ⟨i0, hi, hz0, hz1, hz2⟩ := info_parts infoOE
  have c1 : w.cell? ⟨t, 1, none⟩ = some (.int .i64 (L.length : Int)) := cell_of_heap h.head
  have HT := hide h
  have htw : t < w.heap.size := lt_of_heap h.head
  have HRI := fun n w => hide (fromRootE n t w)
  obtain ⟨m, hm⟩ : ∃ m, L.length = m := ⟨_, rfl⟩
  have HM := hide hm
  rw [hm] at c1 hl ⊢
  clear h hm
  refine callsIn_of_wp_marks Try.func59 rfl trivial ?_ rfl
  simp only [Try.ntmps59, List.size_toArray, List.length_cons, List.length_nil, Nat.reduceAdd, Nat.reduceSub, Array.replicate_succ, Array.replicate_zero, List.push_toArray, List.append_toArray, List.nil_append, List.cons_append]
  gi_wp2_with (first | (gi_at_make; refine wpListIn_make_own _ rfl _ _ 67 rfl w.heap.size 111 i0 (.agg #[.int .i64 0, .int .i64 0]) 2 Try.underlying67 hi hz0 hz1 .i64 .i64 _ m rfl rfl rfl (by rw [hz2]; omega) (by unfold maxLen; omega) (Nat.le_refl _) ?_; intro w1 hown hgrow) | (refine ⟨trivial, ?_⟩; gi_at_call 79; refine (HRI _ _).out.mono ?_; rintro e w2 ⟨rfl, rfl⟩))
  have hbw1 : Below w.heap.size w w1 := ⟨hgrow.os, hgrow.tape, hgrow.output, hgrow.size, fun k hk => hgrow.block k hk (by simp)⟩
  have hs1 : w.heap.size < w1.heap.size := (hown.lt w.heap.size rfl).2
  have hbR : Below w.heap.size w ((w1.alloc (.cells #[.slice (some ⟨w.heap.size, 0, none⟩) 0 m] 67)).alloc (.cells #[.pointer (some ⟨t, 0, none⟩)] 75)) :=
    (hbw1.alloc hbw1.size _).alloc (by simp; omega) _
  have hTR := HT.out.below hbR
  have hcR : ((w1.alloc (.cells #[.slice (some ⟨w.heap.size, 0, none⟩) 0 m] 67)).alloc (.cells #[.pointer (some ⟨t, 0, none⟩)] 75)).cell? ⟨w1.heap.size + 1, 0, none⟩ = some (.pointer (some ⟨t, 0, none⟩)) := by
    simp
  have hsT : T.size = m := by rw [← Tr.size_items, HT.out.items, HM.out]
  have hkT : T.shape 0 = shp L := by rw [shape_is HT.out.heap (by rw [HT.out.items]; exact HT.out.ris), HT.out.items]
  have hseq := downE 7 (by omega) w.heap.size (w1.heap.size + 1) t T _ ⟨hTR.inn, fun x hx => HT.out.lt (.inr hx)⟩ hbR.size (by simp) (by simp; omega) hcR (cell_of_heap hTR.head) (by omega)
  have hb0 : Boxed ((w1.alloc (.cells #[.slice (some ⟨w.heap.size, 0, none⟩) 0 m] 67)).alloc (.cells #[.pointer (some ⟨t, 0, none⟩)] 75)) w1.heap.size 67 (.slice (some ⟨w.heap.size, 0, none⟩) 0 m) := (Boxed.new w1 67 _).alloc _
  have HOW := hide ((hown.alloc (.cells #[.slice (some ⟨w.heap.size, 0, none⟩) 0 m] 67)).alloc (.cells #[.pointer (some ⟨t, 0, none⟩)] 75))
  have HKT := hide hkT
  have hlm : (shp L).length = m := by rw [shp_length HT.out.ris, HM.out]
  have HLM := hide hlm
  rw [hkT] at hseq
  clear hTR hown hgrow HT hsT hkT hlm HRI
  refine wpIn_rangeB (F := Fence.wide) rfl h81 (gf := 90) (lb := #[.pointer (some ⟨w1.heap.size + 1, 0, none⟩)]) rfl trivial (enters_of Try.func90 (by kernel_rfl) rfl)
    hseq hbR.size (Below.refl _ _) (fun _ => rfl)
    (fun pre W => Boxed W w1.heap.size 67 (.slice (some ⟨w.heap.size, 0, none⟩) pre.length m) ∧ W.ownsRow w.heap.size 111 2 (.slice (some ⟨w.heap.size, 0, none⟩) pre.length m) pre.length (nodeVals pre) ∧ Below w.heap.size w W)
    (fun s X Y hs hb => ⟨(hb.block _ (by simp; omega)).trans hs.1, ownsRow_below hs.2.1 hb (by simp; omega), hs.2.2.trans (hb.mono hbR.size)⟩)
    ⟨hb0, HOW.out, hbR⟩
    (fun b x => (((b.setIfInBounds 15 (.int .i64 x.1)).setIfInBounds 16 (.int .i64 (x.2 : Int))).setIfInBounds 4 (.int .i64 x.1)).setIfInBounds 5 (.int .i64 (x.2 : Int))) ?assign ?body ?done
  case assign =>
    intro l y W K hK
    gi_wp2
    exact hK
  case body =>
    rintro l pre ⟨x, y⟩ W ⟨hb1, hr1, hB⟩ hsz hpx
    have hpl : pre.length + 1 ≤ m := by have := hpx.length_le; rw [List.length_append, HLM.out] at this; simpa using this
    have d0 := hb1.cell
    simp only
    have HPL : Hid ((pre ++ [(x, y)]).length = pre.length + 1) := hide (by simp)
    have HIV : Hid (nodeVals (pre ++ [(x, y)]) = nodeVals pre ++ [.int .i64 x, .int .i64 (y : Int)]) := hide (by simp [nodeVals])
    have HBX := hide hb1
    have HBB := hide hB
    have HPM := hide hpl
    clear hseq hb0 HOW hpx hB hpl
    have hsz2 : w1.heap.size + 2 ≤ W.heap.size := by simpa using hsz
    gi_wp2_with (gi_at_builtin; refine wpListIn_append_fits _ rfl _ _ 67 rfl w.heap.size 111 i0 2 Try.underlying67 hi hz1 w.heap.size pre.length m _ rfl (hr1.alloc _) ⟨W.heap.size, 0, none⟩ 1 1 [.int .i64 x, .int .i64 (y : Int)] rfl rfl (cell_two_new _ _ _ _) (by simp [Value.oneCell']) HPM.out ?_; intro w3 hown3 hgrow3; have hbx3 : Boxed w3 w1.heap.size 67 (.slice (some ⟨w.heap.size, 0, none⟩) pre.length m) := (HBX.out.alloc _).kept hgrow3 (by simp only [ne_eq, Option.some.injEq]; omega); have e0 := hbx3.cell; have e1 := hbx3.frozen)
    have ho : Only (fun k => w.heap.size ≤ k ∧ k < w1.heap.size + 1 + 1) W (w3.setCell ⟨w1.heap.size, 0, none⟩ (.slice (some ⟨w.heap.size, 0, none⟩) (pre.length + 1) m)) :=
      (((Only.refl _ W).alloc _).grown hgrow3 (.inl ⟨Nat.le_refl _, by omega⟩)).setCell (.inl ⟨by simp; omega, by simp; omega⟩) _
    refine ⟨ho, hbx3.set _, ?_, HBB.out.trans (ho.below (by omega) (fun k hk => hk.1))⟩
    rw [HIV.out]
    exact ownsRow_same hown3 (heap_setCell_ne (by omega) _)
  case done =>
    rintro D W hD ⟨hb1, hr1, hB⟩ hK
    have hc := hb1.cell
    have HR := hide hr1
    have HBB := hide hB
    have hD2 : w1.heap.size + 2 ≤ D := by simpa using hD
    rw [HLM.out] at hc HR
    clear hr1 hB hseq hb0 HOW hbR hcR hb1
    gi_wp2
    refine ⟨by simp, .inl ⟨_, _, rfl, run_takeDeferred hK, ?_⟩⟩
    exact ⟨_, results_tmp rfl _ _ _, _, rfl, ownsRow_putObj HR.out _ hK rfl, HBB.out.trans (Below.putObj W _ (by omega))⟩
end Go.Proofs.Ythcfmpjmgheieaa
