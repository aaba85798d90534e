/- Keys of a tree of values struct{}, rising. Printed by tools/gen/tre.py. -/
import Derived.Test.YtafamfjgehnddaaGreatTreEm
import Derived.Test.YtafamfjgehnddaaGreatTreWalk
import Derived.Sort.LoopGhostIn
import Derived.Shelf.Abstract
import Derived.Sort.QuietIn
import Derived.OwnWalkIn
namespace Go.Proofs.YtafamfjgehnddaaGreat
open Go.RowKit

attribute [local go_sem] Oper.semAt_some

theorem infoNE : (Tryz.prog.info? 219).map (fun i => (i.zero, i.size, i.bytes)) = some (some (.pointer none), 1, 8) := by kernel_rfl

set_option maxRecDepth 100000 in
set_option maxHeartbeats 4000000 in
theorem riseE (n : Nat) (hn : 1 ≤ n) (A Bt t : Nat) (T : Tr Unit) (w : World) (hok : OkT shE A w T) (hAw : A ≤ w.heap.size) (hBt : Bt < w.heap.size) (ht : t < w.heap.size) (hcb : w.cell? ⟨Bt, 0, none⟩ = some (.pointer (some ⟨t, 0, none⟩))) (hct : w.cell? ⟨t, 0, none⟩ = some (.pointer T.adr)) (hsz : T.size ≤ 1099511627776) :
    SeqB Fence.wide n Tryz.prog 209 #[.pointer (some ⟨Bt, 0, none⟩)] (fun k : Int => #[.int .i64 k]) A T.keys w := by
  intro Y J W hW hJ hY h0
  have h1 : 1 ≤ n := hn
  obtain ⟨i0, hi, hz0, hz1, hz2⟩ := info_parts infoNE
  have c0 : W.cell? ⟨Bt, 0, none⟩ = some (.pointer (some ⟨t, 0, none⟩)) := (hW.cell (p := ⟨Bt, 0, none⟩) hBt).trans hcb
  have c1 : W.cell? ⟨t, 0, none⟩ = some (.pointer T.adr) := (hW.cell (p := ⟨t, 0, none⟩) ht).trans hct
  have HOK := hide (hok.below hW hAw)
  have hsW := hW.size
  have hAW : A ≤ W.heap.size := Nat.le_trans hAw hsW
  have HSZ := hide (Tr.keys_length T)
  obtain ⟨S, hS⟩ : ∃ S, W.heap.size = S := ⟨_, rfl⟩
  rw [hS] at hJ hY hAW
  have HS := hide hS
  clear hW hcb hct hBt ht hok hsW hS
  refine callsIn_of_wp Tryz.func209 rfl trivial ?_ rfl
  simp only [Tryz.ntmps209, List.size_toArray, List.length_cons, List.length_nil, Nat.reduceAdd, Nat.reduceSub, Array.replicate_succ, Array.replicate_zero, List.push_toArray, List.append_toArray, List.nil_append, List.cons_append]
  gi_wp2
  gi_loopg [3, 4] T.keys.length (fun k r3 r4 wr => ∃ (pre : List Int) (U : Tr Unit) (st : List (Tr Unit)), (remK U st).length = k ∧ r4 = .pointer U.adr ∧ T.keys = pre ++ remK U st ∧ OkT shE A wr U ∧ (∀ x ∈ st, OkT shE A wr x ∧ x ≠ .nil) ∧ wr.ownsRow S 219 1 r3 st.length (st.reverse.map Tr.ptr) ∧ J pre wr ∧ S ≤ wr.heap.size)
  case atStart => exact ⟨[], T, [], by simp [remK], rfl, by simp [remK], HOK.out, by simp, World.ownsRow_nil _ _ _ _, h0, by rw [HS.out]; exact Nat.le_refl _⟩
  case round =>
    clear c0 c1 h0
    obtain ⟨pre, U, st, hgk, rfl, hpre, hU, hst, hrow, hJr, hSr⟩ := hrel
    have HU := hide hU
    have HST := hide hst
    have HROW := hide hrow
    have HPRE := hide hpre
    obtain ⟨a3, c3, rfl⟩ := ownsRow_slice hrow
    obtain ⟨G, hG⟩ : ∃ G, (remK U st).length = G := ⟨_, rfl⟩
    have HGK := hide hG
    have HGG : Hid (G = gk) := hide (by rw [← hG]; exact hgk)
    clear hpre hU hst hrow hgk hG
    cases U with
    | node p k d v l r =>
      rw [Tr.adr_node]
      gi_wp2
      gi_loopg [3, 4] (Tr.node p k d v l r).size (fun k r3 r4 wr => ∃ (V : Tr Unit) (su : List (Tr Unit)), V.size = k ∧ r4 = .pointer V.adr ∧ T.keys = pre ++ remK V su ∧ OkT shE A wr V ∧ (∀ x ∈ su, OkT shE A wr x ∧ x ≠ .nil) ∧ wr.ownsRow S 219 1 r3 su.length (su.reverse.map Tr.ptr) ∧ J pre wr ∧ S ≤ wr.heap.size ∧ (V = .nil → su ≠ []) ∧ (remK V su).length = G)
      case atStart => exact ⟨Tr.node p k d v l r, st, rfl, rfl, HPRE.out, HU.out, HST.out, HROW.out, hJr, hSr, by simp, HGK.out⟩
      case round =>
        clear HROW HU HST HPRE hJr hSr HGK
        obtain ⟨V, su, hgk, rfl, hpre, hV, hsu, hrow, hJr, hSr, hne, hG⟩ := hrel
        have HPRE := hide hpre
        have HG := hide hG
        obtain ⟨a3, c3, rfl⟩ := ownsRow_slice hrow
        have hlen : su.length ≤ 1099511627776 := by
          have e1 := remK_len (U := V) (st := su) (fun x hx => (hsu x hx).2)
          have e2 := congrArg List.length hpre
          rw [List.length_append, HSZ.out] at e2
          omega
        cases V with
        | node p k d v l r =>
          rw [Tr.adr_node]
          have AA : Aside (OkT shE A wr (.node p k d v l r) ∧ (∀ x ∈ su, OkT shE A wr x ∧ x ≠ .nil) ∧ (Tr.node p k d v l r).size = gk) := ⟨hV, hsu, hgk⟩
          clear hpre hV hsu hgk hne hG
          gi_wp2_with (gi_at_builtin; refine wpListIn_append_own _ rfl _ _ 253 rfl S 219 i0 (.pointer none) 1 8 Tryz.underlying253 hi hz0 hz1 hz2 rfl (by decide) _ _ _ rfl (hrow.alloc _) ⟨wr.heap.size, 0, none⟩ 1 1 [.pointer (some ⟨p, 0, none⟩)] rfl rfl (cell_one_new _ _ _) (by simp [Value.oneCell']) (by unfold maxLen; omega) (by omega) (by simp; omega) ?_; intro v' w3 hown' hgrow' _; have hb3 := ((Below.refl S wr).alloc hSr (.cells #[.pointer (some ⟨p, 0, none⟩)] 219)).trans (grown_below (hrow.alloc _) hgrow' (by simp; omega)); have HB3 := hide hb3; have g1 : w3.cell? ⟨p, 2, none⟩ = some (.pointer l.adr) := (nodeE (AA.out.1.below hb3 hAW).1.1).2.2.1; have HO := hide hown'; clear hown' hgrow' hb3 hrow)
          obtain ⟨hV, hsu, hgk⟩ := AA.out
          gi_roundg l.size
          case measure => simp [Tr.size] at hgk; omega
          case rel =>
            refine ⟨l, .node p k d v l r :: su, rfl, rfl, by rw [HPRE.out, remK_push], (hV.below HB3.out hAW).left, fun x hx => ?_, by rw [List.reverse_cons, List.map_append]; exact HO.out, hJ _ _ _ hJr HB3.out, Nat.le_trans hSr HB3.out.size, by simp, by rw [← remK_push]; exact HG.out⟩
            rcases List.mem_cons.1 hx with rfl | hx
            · exact ⟨hV.below HB3.out hAW, by simp⟩
            · exact ⟨(hsu x hx).1.below HB3.out hAW, (hsu x hx).2⟩
        | nil =>
          rw [Tr.adr_nil]
          cases su with
          | nil => exact absurd rfl (hne rfl)
          | cons x rest =>
            cases x with
            | nil => exact absurd rfl (hsu .nil (by simp)).2
            | node p k d v l r =>
              obtain ⟨g, cap, hgc⟩ := ownsRow_succ hrow
              cases hgc
              obtain ⟨hc1, hc2⟩ := ownsRow_cap hrow
              unfold maxLen at hc2
              obtain ⟨g1, hrow'⟩ := stack_top hrow
              rw [Tr.adr_node] at g1
              have hx := (hsu (.node p k d v l r) (by simp)).1
              have k1 : wr.cell? ⟨p, 0, none⟩ = some (.int .i64 k) := (nodeE hx.1.1).1
              have HX := hide hx
              have HRO := hide hrow'
              have HSU : Hid (∀ y ∈ rest, OkT shE A wr y ∧ y ≠ .nil) := hide (fun y hy => hsu y (by simp [hy]))
              have HMX : Hid ((pre ++ [k]) <+: T.keys ∧ T.keys = pre ++ [k] ++ remK r rest ∧ (remK r rest).length < G) := by
                have e : T.keys = pre ++ [k] ++ remK r rest := by rw [hpre, remK_pop]; simp
                refine ⟨⟨remK r rest, e.symm⟩, e, ?_⟩
                rw [remK_pop] at hG
                rw [← hG]; simp
              obtain ⟨m, hm⟩ : ∃ m, rest.length = m := ⟨_, rfl⟩
              have HM := hide hm
              rw [List.length_cons] at hlen hc1
              rw [hm] at g1 hlen HRO hc1
              simp only [List.length_cons, hm]
              clear hpre hV hgk hne hG hx hrow hrow' hsu hm HPRE HG
              gi_wp2
              gi_quiet (fail)
              have hJ2 := hJ _ _ _ hJr ((Alike.drewN wr nq).below S)
              obtain ⟨fn, tmps, assign, body, hy1, hR⟩ := hY pre k (wr.drewN nq) hJ2 hSr HMX.out.1
              gi_wp2
              refine hR.mono ?_
              rintro e W3 ⟨rfl, hJ3, ho3⟩
              have ho4 := ho3.left (Alike.drewN wr nq)
              have k2 : W3.cell? ⟨p, 3, none⟩ = some (.pointer r.adr) := (nodeE (HX.out.only ho4).1.1).2.2.2.1
              have HO4 := hide ho4
              clear ho3 ho4 hR hJ2
              gi_wp2
              have HOo := HGG.out
              gi_roundg (remK r rest).length
              case measure => have := HMX.out.2.2; omega
              case rel => exact ⟨pre ++ [k], r, rest, rfl, rfl, HMX.out.2.1, (HX.out.only HO4.out).right, fun y hy => ⟨(HSU.out y hy).1.only HO4.out, (HSU.out y hy).2⟩, by rw [HM.out]; exact ownsRow_only HRO.out HO4.out (fun k hk => hk.2), hJ3, Nat.le_trans hSr HO4.out.size⟩
    | nil =>
      rw [Tr.adr_nil]
      cases st with
      | nil =>
        gi_wp2
        go_end0
        exact ⟨⟨_, rfl⟩, by have := HPRE.out; simp [remK, Tr.keys, Tr.items] at this; rw [Tr.keys, this]; exact hJr⟩
      | cons x st =>
        gi_wp2
        gi_loopg [3, 4] ((Tr.nil : Tr Unit)).size (fun k r3 r4 wr => ∃ (V : Tr Unit) (su : List (Tr Unit)), V.size = k ∧ r4 = .pointer V.adr ∧ T.keys = pre ++ remK V su ∧ OkT shE A wr V ∧ (∀ x ∈ su, OkT shE A wr x ∧ x ≠ .nil) ∧ wr.ownsRow S 219 1 r3 su.length (su.reverse.map Tr.ptr) ∧ J pre wr ∧ S ≤ wr.heap.size ∧ (V = .nil → su ≠ []) ∧ (remK V su).length = G)
        case atStart => exact ⟨(Tr.nil : Tr Unit), (x :: st), rfl, rfl, HPRE.out, HU.out, HST.out, HROW.out, hJr, hSr, by simp, HGK.out⟩
        case round =>
          clear HROW HU HST HPRE hJr hSr HGK
          obtain ⟨V, su, hgk, rfl, hpre, hV, hsu, hrow, hJr, hSr, hne, hG⟩ := hrel
          have HPRE := hide hpre
          have HG := hide hG
          obtain ⟨a3, c3, rfl⟩ := ownsRow_slice hrow
          have hlen : su.length ≤ 1099511627776 := by
            have e1 := remK_len (U := V) (st := su) (fun x hx => (hsu x hx).2)
            have e2 := congrArg List.length hpre
            rw [List.length_append, HSZ.out] at e2
            omega
          cases V with
          | node p k d v l r =>
            rw [Tr.adr_node]
            have AA : Aside (OkT shE A wr (.node p k d v l r) ∧ (∀ x ∈ su, OkT shE A wr x ∧ x ≠ .nil) ∧ (Tr.node p k d v l r).size = gk) := ⟨hV, hsu, hgk⟩
            clear hpre hV hsu hgk hne hG
            gi_wp2_with (gi_at_builtin; refine wpListIn_append_own _ rfl _ _ 253 rfl S 219 i0 (.pointer none) 1 8 Tryz.underlying253 hi hz0 hz1 hz2 rfl (by decide) _ _ _ rfl (hrow.alloc _) ⟨wr.heap.size, 0, none⟩ 1 1 [.pointer (some ⟨p, 0, none⟩)] rfl rfl (cell_one_new _ _ _) (by simp [Value.oneCell']) (by unfold maxLen; omega) (by omega) (by simp; omega) ?_; intro v' w3 hown' hgrow' _; have hb3 := ((Below.refl S wr).alloc hSr (.cells #[.pointer (some ⟨p, 0, none⟩)] 219)).trans (grown_below (hrow.alloc _) hgrow' (by simp; omega)); have HB3 := hide hb3; have g1 : w3.cell? ⟨p, 2, none⟩ = some (.pointer l.adr) := (nodeE (AA.out.1.below hb3 hAW).1.1).2.2.1; have HO := hide hown'; clear hown' hgrow' hb3 hrow)
            obtain ⟨hV, hsu, hgk⟩ := AA.out
            gi_roundg l.size
            case measure => simp [Tr.size] at hgk; omega
            case rel =>
              refine ⟨l, .node p k d v l r :: su, rfl, rfl, by rw [HPRE.out, remK_push], (hV.below HB3.out hAW).left, fun x hx => ?_, by rw [List.reverse_cons, List.map_append]; exact HO.out, hJ _ _ _ hJr HB3.out, Nat.le_trans hSr HB3.out.size, by simp, by rw [← remK_push]; exact HG.out⟩
              rcases List.mem_cons.1 hx with rfl | hx
              · exact ⟨hV.below HB3.out hAW, by simp⟩
              · exact ⟨(hsu x hx).1.below HB3.out hAW, (hsu x hx).2⟩
          | nil =>
            rw [Tr.adr_nil]
            cases su with
            | nil => exact absurd rfl (hne rfl)
            | cons x rest =>
              cases x with
              | nil => exact absurd rfl (hsu .nil (by simp)).2
              | node p k d v l r =>
                obtain ⟨g, cap, hgc⟩ := ownsRow_succ hrow
                cases hgc
                obtain ⟨hc1, hc2⟩ := ownsRow_cap hrow
                unfold maxLen at hc2
                obtain ⟨g1, hrow'⟩ := stack_top hrow
                rw [Tr.adr_node] at g1
                have hx := (hsu (.node p k d v l r) (by simp)).1
                have k1 : wr.cell? ⟨p, 0, none⟩ = some (.int .i64 k) := (nodeE hx.1.1).1
                have HX := hide hx
                have HRO := hide hrow'
                have HSU : Hid (∀ y ∈ rest, OkT shE A wr y ∧ y ≠ .nil) := hide (fun y hy => hsu y (by simp [hy]))
                have HMX : Hid ((pre ++ [k]) <+: T.keys ∧ T.keys = pre ++ [k] ++ remK r rest ∧ (remK r rest).length < G) := by
                  have e : T.keys = pre ++ [k] ++ remK r rest := by rw [hpre, remK_pop]; simp
                  refine ⟨⟨remK r rest, e.symm⟩, e, ?_⟩
                  rw [remK_pop] at hG
                  rw [← hG]; simp
                obtain ⟨m, hm⟩ : ∃ m, rest.length = m := ⟨_, rfl⟩
                have HM := hide hm
                rw [List.length_cons] at hlen hc1
                rw [hm] at g1 hlen HRO hc1
                simp only [List.length_cons, hm]
                clear hpre hV hgk hne hG hx hrow hrow' hsu hm HPRE HG
                gi_wp2
                gi_quiet (fail)
                have hJ2 := hJ _ _ _ hJr ((Alike.drewN wr nq).below S)
                obtain ⟨fn, tmps, assign, body, hy1, hR⟩ := hY pre k (wr.drewN nq) hJ2 hSr HMX.out.1
                gi_wp2
                refine hR.mono ?_
                rintro e W3 ⟨rfl, hJ3, ho3⟩
                have ho4 := ho3.left (Alike.drewN wr nq)
                have k2 : W3.cell? ⟨p, 3, none⟩ = some (.pointer r.adr) := (nodeE (HX.out.only ho4).1.1).2.2.2.1
                have HO4 := hide ho4
                clear ho3 ho4 hR hJ2
                gi_wp2
                have HOo := HGG.out
                gi_roundg (remK r rest).length
                case measure => have := HMX.out.2.2; omega
                case rel => exact ⟨pre ++ [k], r, rest, rfl, rfl, HMX.out.2.1, (HX.out.only HO4.out).right, fun y hy => ⟨(HSU.out y hy).1.only HO4.out, (HSU.out y hy).2⟩, by rw [HM.out]; exact ownsRow_only HRO.out HO4.out (fun k hk => hk.2), hJ3, Nat.le_trans hSr HO4.out.size⟩

theorem risingE (n : Nat) (t : Nat) (w : World) :
    CallsIn Fence.wide n Tryz.prog 170 #[.pointer (some ⟨t, 0, none⟩)] w fun r w' => r = .returned (.func (.func 209) #[] #[.pointer (some ⟨w.heap.size, 0, none⟩)]) ∧
      w' = w.alloc (.cells #[.pointer (some ⟨t, 0, none⟩)] 177) := by
  refine callsIn_of_wp Tryz.func170 rfl trivial ?_ rfl
  simp only [Tryz.ntmps170, List.size_toArray, List.length_cons, List.length_nil, Nat.reduceAdd, Nat.reduceSub, Array.replicate_succ, Array.replicate_zero, List.push_toArray, List.append_toArray, List.nil_append, List.cons_append]
  gi_wp2
  go_ret
  exact ⟨rfl, rfl⟩

theorem infoIE : (Tryz.prog.info? 3).map (fun i => (i.zero, i.size, i.bytes)) = some (some (.int .i64 0), 1, 8) := by kernel_rfl

set_option maxRecDepth 100000 in
set_option maxHeartbeats 2000000 in
theorem keysE (w : World) (t : Nat) (T : Tr Unit) (L : List (It Unit)) (h : TAtE w t T L) (hl : L.length ≤ 1099511627776) :
    Calls Tryz.prog 118 #[.pointer (some ⟨t, 0, none⟩)] w fun e w' => ∃ v, e = .returned v ∧ w'.ownsRow w.heap.size 3 1 v L.length (intVals (L.map (·.1))) ∧ Below w.heap.size w w' := by
  refine (callsIn_wide (n := 8)).1 ?_
  have h81 : (1 : Nat) ≤ 8 := by omega
  obtain ⟨i0, hi, hz0, hz1, hz2⟩ := info_parts infoIE
  have c1 : w.cell? ⟨t, 1, none⟩ = some (.int .i64 (L.length : Int)) := cell_of_heap h.head
  have HT := hide h
  have htw : t < w.heap.size := lt_of_heap h.head
  have HRI := fun n w => hide (risingE n t w)
  obtain ⟨m, hm⟩ : ∃ m, L.length = m := ⟨_, rfl⟩
  have HM := hide hm
  rw [hm] at c1 hl ⊢
  clear h hm
  refine callsIn_of_wp_marks Tryz.func118 rfl trivial ?_ rfl
  simp only [Tryz.ntmps118, List.size_toArray, List.length_cons, List.length_nil, Nat.reduceAdd, Nat.reduceSub, Array.replicate_succ, Array.replicate_zero, List.push_toArray, List.append_toArray, List.nil_append, List.cons_append]
  gi_wp2_with (first | (gi_at_make; refine wpListIn_make_own _ rfl _ _ 39 rfl w.heap.size 3 i0 (.int .i64 0) 1 Tryz.underlying39 hi hz0 hz1 .i64 .i64 _ m rfl rfl rfl (by rw [hz2]; omega) (by unfold maxLen; omega) (Nat.le_refl _) ?_; intro w1 hown hgrow) | (refine ⟨trivial, ?_⟩; gi_at_call 170; refine (HRI _ _).out.mono ?_; rintro e w2 ⟨rfl, rfl⟩))
  have hbw1 : Below w.heap.size w w1 := ⟨hgrow.os, hgrow.tape, hgrow.output, hgrow.size, fun k hk => hgrow.block k hk (by simp)⟩
  have hs1 : w.heap.size < w1.heap.size := (hown.lt w.heap.size rfl).2
  have hbR : Below w.heap.size w ((w1.alloc (.cells #[.slice (some ⟨w.heap.size, 0, none⟩) 0 m] 39)).alloc (.cells #[.pointer (some ⟨t, 0, none⟩)] 177)) :=
    (hbw1.alloc hbw1.size _).alloc (by simp; omega) _
  have hTR := HT.out.below hbR
  have hcR : ((w1.alloc (.cells #[.slice (some ⟨w.heap.size, 0, none⟩) 0 m] 39)).alloc (.cells #[.pointer (some ⟨t, 0, none⟩)] 177)).cell? ⟨w1.heap.size + 1, 0, none⟩ = some (.pointer (some ⟨t, 0, none⟩)) := by
    simp
  have hsT : T.size = m := by rw [← Tr.size_items, HT.out.items, HM.out]
  have hkT : T.keys = L.map (·.1) := by rw [Tr.keys, HT.out.items]
  have hseq := riseE 7 (by omega) w.heap.size (w1.heap.size + 1) t T _ ⟨hTR.inn, fun x hx => HT.out.lt (.inr hx)⟩ hbR.size (by simp) (by simp; omega) hcR (cell_of_heap hTR.head) (by omega)
  have hb0 : Boxed ((w1.alloc (.cells #[.slice (some ⟨w.heap.size, 0, none⟩) 0 m] 39)).alloc (.cells #[.pointer (some ⟨t, 0, none⟩)] 177)) w1.heap.size 39 (.slice (some ⟨w.heap.size, 0, none⟩) 0 m) := (Boxed.new w1 39 _).alloc _
  have HOW := hide ((hown.alloc (.cells #[.slice (some ⟨w.heap.size, 0, none⟩) 0 m] 39)).alloc (.cells #[.pointer (some ⟨t, 0, none⟩)] 177))
  have HKT := hide hkT
  have hlm : (L.map (·.1)).length = m := by rw [List.length_map, HM.out]
  have HLM := hide hlm
  rw [hkT] at hseq
  clear hTR hown hgrow HT hsT hkT hlm HRI
  refine wpIn_rangeB (F := Fence.wide) rfl h81 (gf := 209) (lb := #[.pointer (some ⟨w1.heap.size + 1, 0, none⟩)]) rfl trivial (enters_of Tryz.func209 (by kernel_rfl) rfl)
    hseq hbR.size (Below.refl _ _) (fun _ => rfl)
    (fun pre W => Boxed W w1.heap.size 39 (.slice (some ⟨w.heap.size, 0, none⟩) pre.length m) ∧ W.ownsRow w.heap.size 3 1 (.slice (some ⟨w.heap.size, 0, none⟩) pre.length m) pre.length (intVals pre) ∧ Below w.heap.size w W)
    (fun s X Y hs hb => ⟨(hb.block _ (by simp; omega)).trans hs.1, ownsRow_below hs.2.1 hb (by simp; omega), hs.2.2.trans (hb.mono hbR.size)⟩)
    ⟨hb0, HOW.out, hbR⟩
    (fun b x => (b.setIfInBounds 14 (.int .i64 x)).setIfInBounds 4 (.int .i64 x)) ?assign ?body ?done
  case assign =>
    intro l y W K hK
    gi_wp2
    exact hK
  case body =>
    rintro l pre x W ⟨hb1, hr1, hB⟩ hsz hpx
    have hpl : pre.length + 1 ≤ m := by have := hpx.length_le; rw [List.length_append, HLM.out] at this; simpa using this
    have d0 := hb1.cell
    have HPL : Hid ((pre ++ [x]).length = pre.length + 1) := hide (by simp)
    have HIV : Hid (intVals (pre ++ [x]) = intVals pre ++ [.int .i64 x]) := hide (by simp [intVals])
    have HBX := hide hb1
    have HBB := hide hB
    have HPM := hide hpl
    clear hseq hb0 HOW hpx hB hpl
    have hsz2 : w1.heap.size + 2 ≤ W.heap.size := by simpa using hsz
    gi_wp2_with (gi_at_builtin; refine wpListIn_append_fits _ rfl _ _ 39 rfl w.heap.size 3 i0 1 Tryz.underlying39 hi hz1 w.heap.size pre.length m _ rfl (hr1.alloc _) ⟨W.heap.size, 0, none⟩ 1 1 [.int .i64 x] rfl rfl (cell_one_new _ _ _) (by simp [Value.oneCell']) HPM.out ?_; intro w3 hown3 hgrow3; have hbx3 : Boxed w3 w1.heap.size 39 (.slice (some ⟨w.heap.size, 0, none⟩) pre.length m) := (HBX.out.alloc _).kept hgrow3 (by simp only [ne_eq, Option.some.injEq]; omega); have e0 := hbx3.cell; have e1 := hbx3.frozen)
    have ho : Only (fun k => w.heap.size ≤ k ∧ k < w1.heap.size + 1 + 1) W (w3.setCell ⟨w1.heap.size, 0, none⟩ (.slice (some ⟨w.heap.size, 0, none⟩) (pre.length + 1) m)) :=
      (((Only.refl _ W).alloc _).grown hgrow3 (.inl ⟨Nat.le_refl _, by omega⟩)).setCell (.inl ⟨by simp; omega, by simp; omega⟩) _
    refine ⟨ho, hbx3.set _, ?_, HBB.out.trans (ho.below (by omega) (fun k hk => hk.1))⟩
    rw [HIV.out]
    exact ownsRow_same hown3 (heap_setCell_ne (by omega) _)
  case done =>
    rintro D W hD ⟨hb1, hr1, hB⟩ hK
    have hc := hb1.cell
    have HR := hide hr1
    have HBB := hide hB
    have hD2 : w1.heap.size + 2 ≤ D := by simpa using hD
    rw [HLM.out] at hc HR
    clear hr1 hB hseq hb0 HOW hbR hcR hb1
    gi_wp2
    refine ⟨by simp, .inl ⟨_, _, rfl, run_takeDeferred hK, ?_⟩⟩
    exact ⟨_, results_tmp rfl _ _ _, _, rfl, ownsRow_putObj HR.out _ hK rfl, HBB.out.trans (Below.putObj W _ (by omega))⟩
end Go.Proofs.YtafamfjgehnddaaGreat
