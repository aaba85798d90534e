/- What the iterator over a word's places yields: the places of the set bits, rising, to whatever loop body keeps what lay below a bound. -/
import Derived.Test.YteahpfobjnofmaaDoorLeaves
import Derived.RangeFuncBox
import Derived.RangeFuncNested
import Derived.RangeFuncLeaves
import Derived.RangeFuncCalls
import Derived.Shelf.Abstract
import Derived.WalkKit
import Derived.OwnWalkIn
import Derived.TacticsInMore
import Derived.LoopNIn
import Derived.LoopIn
import Derived.Maps.AppendAt
namespace Go.Proofs.YteahpfobjnofmaaDoor
open Go.RowKit Go.Shelf

attribute [local go_sem] Oper.semAt_some

theorem drop_key (y : Nat) (hy : y < 18446744073709551616) (h0 : y ≠ 0) : bits BinOp.and IntKind.u64 (y : Int) ((y : Int) - 1) = (Plain.drop1 y : Int) := by
  have e : ((y : Int) - 1) = ((y - 1 : Nat) : Int) := by omega
  rw [e, bits_and_u64_nat _ _ hy (by omega)]
  rfl

theorem tzIn (x : Nat) (hx : x < 18446744073709551616) (n : Nat) (w : World) (hT : Tab w) :
    CallsIn Fence.wide n Tryd.prog 30 #[.int .u64 x] w fun e w' => e = .returned (.int .i64 (Plain.low x)) ∧ w' = w := callsIn_wide.2 (tz30 x hx w hT)

set_option maxRecDepth 100000 in
set_option maxHeartbeats 1000000 in
theorem places1 (n : Nat) (hn : 1 ≤ n) (l Bn n₀ : Nat) (hn₀ : 0 < n₀) (x : Nat) (hx : x < 18446744073709551616) (J Jx : List Nat → World → Prop)
    (hY : ∀ pre (k : Nat) W, J pre W → pre.length < Plain.cnt x → YieldAt Fence.wide (n - 1) Tryd.prog l #[.int .i64 (k : Int)] W fun e W' =>
      (e = .returned (.bool true) ∧ J (pre ++ [k]) W' ∧ Below n₀ W W') ∨ (e = .returned (.bool false) ∧ Jx (pre ++ [k]) W'))
    (W : World) (hBn : W.cell? ⟨Bn, 0, none⟩ = some (.int .u64 (x : Int))) (hT : Tab W) (h0 : J [] W) :
    CallsIn Fence.wide n Tryd.prog 35 #[.func (.yield l) #[] #[], .pointer (some ⟨Bn, 0, none⟩)] W fun e W' => (∃ v, e = .returned v) ∧
      ((∃ ys, ys = Plain.pls x ∧ J ys W') ∨ (∃ pre, pre <+: Plain.pls x ∧ Jx pre W')) := by
  refine callsIn_of_wp Tryd.func35 rfl trivial ?_ rfl
  simp only [Tryd.ntmps35, List.size_toArray, List.length_cons, List.length_nil, Nat.reduceAdd, Nat.reduceSub, Array.replicate_succ, Array.replicate_zero, List.push_toArray, List.append_toArray, List.nil_append, List.cons_append]
  gi_wp2
  gi_loopw [3] (fun r wr => ∃ (pre : List Nat) (y : Nat), r = .int .u64 (y : Int) ∧ y < 18446744073709551616 ∧ Plain.pls x = pre ++ Plain.pls y ∧ Tab wr ∧ J pre wr)
    (fun r _ => (intOf r).toNat)
  case atStart =>
    exact ⟨[], x, rfl, hx, rfl, hT, h0⟩
  case round =>
    obtain ⟨pre, y, rfl, hy, hp, hTr, hJs⟩ := hrel
    have HP := hide hp
    have HT := hide hTr
    clear hp hTr
    by_cases hy0 : y = 0
    · subst hy0
      gi_wp2
      go_end0
      exact ⟨⟨_, rfl⟩, .inl ⟨pre, by rw [HP.out, Plain.pls_zero, List.append_nil], hJs⟩⟩
    · have hne : ((y : Int) != 0) = true := by simp; omega
      have hdk := drop_key y hy hy0
      have hlt := Plain.drop1_lt y hy0
      have hpl := Plain.pls_cons y hy0 hy
      have h30 := fun n => tzIn y hy n wr HT.out
      have hlen : pre.length < Plain.cnt x := by unfold Plain.cnt; rw [HP.out, hpl]; simp
      have hYY := hY pre (Plain.low y) wr hJs hlen
      have HPL := hide hpl
      generalize Plain.drop1 y = z at *
      generalize Plain.low y = k at *
      have H30 := hide h30
      clear h30 hpl hlen
      obtain ⟨fn, tmps, assign, body, hy1, hR⟩ := hYY
      gi_wp2_with (refine ⟨trivial, ?_⟩; gi_at_call 30; refine (H30.out _).mono ?_; rintro e w' ⟨rfl, rfl⟩)
      refine hR.mono ?_
      rintro e W3 (⟨rfl, hJ3, hk3⟩ | ⟨rfl, hJx3⟩)
      · gi_wp2
        go_roundw
        case rel => exact ⟨pre ++ [k], z, rfl, by omega, by rw [HP.out, HPL.out]; simp, HT.out.below hn₀ hk3, hJ3⟩
        case measure => simp [intOf]; omega
      · gi_wp2
        refine bodyPost_ret (results_none rfl _ _ _) rfl ?_
        exact ⟨⟨_, rfl⟩, .inr ⟨pre ++ [k], ⟨Plain.pls z, by rw [HP.out, HPL.out]; simp⟩, hJx3⟩⟩

theorem placesIn (n : Nat) (x : Nat) (w : World) :
    CallsIn Fence.wide n Tryd.prog 33 #[.int .u64 (x : Int)] w fun e w' => e = .returned (.func (.func 35) #[] #[.pointer (some ⟨w.heap.size, 0, none⟩)]) ∧ w' = w.alloc (.cells #[.int .u64 (x : Int)] 22) := by
  refine callsIn_of_wp Tryd.func33 rfl trivial ?_ rfl
  simp only [Tryd.ntmps33, List.size_toArray, List.length_cons, List.length_nil, Nat.reduceAdd, Nat.reduceSub, Array.replicate_succ, Array.replicate_zero, List.push_toArray, List.append_toArray, List.nil_append, List.cons_append]
  gi_wp2
  go_ret
  exact ⟨rfl, rfl⟩

theorem placesStops (n : Nat) (hn : 1 ≤ n) (Bn n₀ : Nat) (hn₀ : 0 < n₀) (x : Nat) (hx : x < 18446744073709551616) (w : World) (hBn : Bn < w.heap.size)
    (hc : w.cell? ⟨Bn, 0, none⟩ = some (.int .u64 (x : Int))) (hT : Tab w) :
    SeqStopsK Fence.wide n Tryd.prog 35 #[.pointer (some ⟨Bn, 0, none⟩)] (fun k : Nat => #[Value.int .i64 (k : Int)]) (Below n₀) (fun ys => ys = Plain.pls x) (fun pre => pre <+: Plain.pls x) (Plain.cnt x) w := fun l J Jx W hW _ _ hY h0 =>
  places1 n hn l Bn n₀ hn₀ x hx J Jx hY W ((hW.cell (p := ⟨Bn, 0, none⟩) hBn).trans hc) (hT.below hT.lt hW) h0

def nthAns (x : Nat) (k : Int) : Int × Bool := if 0 ≤ k then (match (Plain.pls x)[k.toNat]? with | some i => ((i : Int), true) | none => (0, false)) else (0, false)

theorem nthAns_some {x : Nat} {k : Int} {i : Nat} (h0 : 0 ≤ k) (h : (Plain.pls x)[k.toNat]? = some i) : nthAns x k = ((i : Int), true) := by simp [nthAns, h0, h]
theorem nthAns_none {x : Nat} {k : Int} (h : 0 ≤ k → Plain.cnt x ≤ k.toNat) : nthAns x k = (0, false) := by
  unfold nthAns
  split
  · rename_i h0
    rw [List.getElem?_eq_none (h h0)]
  · rfl

set_option maxRecDepth 100000 in
set_option maxHeartbeats 2000000 in
theorem nth13In (n : Nat) (hn : 3 ≤ n) (x : Nat) (hx : x < 18446744073709551616) (k : Int) (w : World) (hT : Tab w) :
    CallsIn Fence.wide n Tryd.prog 13 #[.int .u64 (x : Int), .int .i64 k] w fun e W' => e = .returned (.tuple #[.int .i64 (nthAns x k).1, .bool (nthAns x k).2]) ∧ Below w.heap.size w W' := by
  have h1 : 1 ≤ n := by omega
  refine callsIn_of_wp_marks Tryd.func13 rfl trivial ?_ rfl
  simp only [Tryd.ntmps13, List.size_toArray, List.length_cons, List.length_nil, Nat.reduceAdd, Nat.reduceSub, Array.replicate_succ, Array.replicate_zero, List.push_toArray, List.append_toArray, List.nil_append, List.cons_append]
  gi_wp2_with (refine ⟨trivial, ?_⟩; gi_at_call 33; refine (placesIn (n - 1) _ _).mono ?_; rintro e w' ⟨rfl, rfl⟩)
  have b0 := Boxed.new w 3 (.int .i64 k)
  have b1 := Boxed.new (w.alloc (.cells #[.int .i64 k] 3)) 3 (.int .i64 0)
  have b2 := Boxed.new ((w.alloc (.cells #[.int .i64 k] 3)).alloc (.cells #[.int .i64 0] 3)) 4 (.bool false)
  have b3 := Boxed.new (((w.alloc (.cells #[.int .i64 k] 3)).alloc (.cells #[.int .i64 0] 3)).alloc (.cells #[.bool false] 4)) 3 (.int .i64 0)
  have b4 := Boxed.new ((((w.alloc (.cells #[.int .i64 k] 3)).alloc (.cells #[.int .i64 0] 3)).alloc (.cells #[.bool false] 4)).alloc (.cells #[.int .i64 0] 3)) 22 (.int .u64 (x : Int))
  simp only [World.size_alloc] at b1 b2 b3 b4
  have hB0 : Below w.heap.size w (((((w.alloc (.cells #[.int .i64 k] 3)).alloc (.cells #[.int .i64 0] 3)).alloc (.cells #[.bool false] 4)).alloc (.cells #[.int .i64 0] 3)).alloc (.cells #[.int .u64 (x : Int)] 22)) :=
    (((((Below.refl _ w).alloc (Nat.le_refl _) _).alloc (by simp) _).alloc (by simp; omega) _).alloc (by simp; omega) _).alloc (by simp; omega) _
  have hpos : 0 < w.heap.size := hT.lt
  have hlen := Plain.cnt_le x
  refine wpIn_rangeFunc_ownG rfl h1 (gf := 35) (lb := #[.pointer (some ⟨w.heap.size + 1 + 1 + 1 + 1, 0, none⟩)]) rfl trivial (enters_of Tryd.func35 (by kernel_rfl) rfl)
    (placesStops (n - 1) (by omega) (w.heap.size + 1 + 1 + 1 + 1) w.heap.size hpos x hx _ (by simp) b4.cell (hT.below hpos hB0)) belowK_t (belowK_b (by simp; omega)) (Below.refl _ _) (fun _ => rfl)
    (fun pre W => (Boxed W w.heap.size 3 (.int .i64 k) ∧ Boxed W (w.heap.size + 1) 3 (.int .i64 0) ∧ Boxed W (w.heap.size + 1 + 1) 4 (.bool false) ∧ Boxed W (w.heap.size + 1 + 1 + 1) 3 (.int .i64 (pre.length : Int))) ∧ (0 ≤ k → pre.length ≤ k.toNat) ∧ Below w.heap.size w W)
    (fun c pre W => (Boxed W (w.heap.size + 1) 3 (.int .i64 ((pre.getLast?.getD 0 : Nat) : Int)) ∧ Boxed W (w.heap.size + 1 + 1) 4 (.bool true)) ∧ (c = .ret ∧ 0 ≤ k ∧ pre.length = k.toNat + 1) ∧ Below w.heap.size w W)
    (OwnFrom.and (OwnFrom.and (Own.from (boxed_own _ _ (fun _ => _)) _) (OwnFrom.and (Own.from (boxed_own _ _ (fun _ => _)) _) (OwnFrom.and (Own.from (boxed_own _ _ (fun _ => _)) _) (Own.from (boxed_own _ _ (fun pre : List Nat => .int .i64 (pre.length : Int))) _)))) (OwnFrom.and (ownFrom_pure _ _) (ownFrom_below (Nat.le_refl _) (by simp; omega))))
    (fun c => OwnFrom.and (OwnFrom.and (Own.from (boxed_own _ _ (fun pre : List Nat => .int .i64 ((pre.getLast?.getD 0 : Nat) : Int))) _) (Own.from (boxed_own _ _ (fun _ => _)) _)) (OwnFrom.and (ownFrom_pure _ _) (ownFrom_below (Nat.le_refl _) (by simp; omega))))
    ⟨⟨(((b0.alloc _).alloc _).alloc _).alloc _, ((b1.alloc _).alloc _).alloc _, (b2.alloc _).alloc _, b3.alloc _⟩, by simp, hB0⟩
    (fun y => { tmps := #[.int .u64 (x : Int), .int .i64 k, undef, .pointer (some ⟨w.heap.size, 0, none⟩), .pointer (some ⟨w.heap.size + 1, 0, none⟩), .pointer (some ⟨w.heap.size + 1 + 1, 0, none⟩), .pointer (some ⟨w.heap.size + 1 + 1 + 1, 0, none⟩), .int .i64 (y : Int), .int .u64 (x : Int), .func (.func 35) #[] #[.pointer (some ⟨w.heap.size + 1 + 1 + 1 + 1, 0, none⟩)], .int .i64 (y : Int), undef, undef, undef, undef, undef, undef], defers := [] }) ?assign ?body ?done ?stop
  case assign =>
    intro l y W K hK
    gi_wp2
    exact hK
  case body =>
    rintro l pre y W ⟨⟨c0, c1, c2, c3⟩, hp, hB⟩ hlt
    have d0 := c0.cell
    have d1 := c1.cell
    have d2 := c2.cell
    have d3 := c3.cell
    have f1 := c1.frozen
    have f2 := c2.frozen
    have f3 := c3.frozen
    have HP := hide hp
    clear hp
    by_cases hk : (pre.length : Int) = k
    · have hkb : ((pre.length : Int) == k) = true := by simp [hk]
      have HK := hide hk
      clear hk
      gi_wp2
      have HK' := HK.out
      exact ⟨((KeepsOthers.setCell _ _ _).trans (KeepsOthers.setCell _ _ _)).from _, ⟨⟨by simpa using (c1.set (.int .i64 (y : Int))).other (by omega) (.bool true), (c2.other (by omega) (.int .i64 (y : Int))).set _⟩, ⟨rfl, by omega, by simp; omega⟩, (hB.setCell (p := ⟨w.heap.size + 1, 0, none⟩) (by simp) _).setCell (p := ⟨w.heap.size + 1 + 1, 0, none⟩) (by simp; omega) _⟩⟩
    · have hkb : ((pre.length : Int) == k) = false := by simp [hk]
      have HK := hide hk
      clear hk
      gi_wp2
      have HK' := HK.out
      have HP' := HP.out
      refine ⟨(KeepsOthers.setCell _ _ _).from _, (Below.refl _ _).setCell (p := ⟨w.heap.size + 1 + 1 + 1, 0, none⟩) (by simp; omega) _, ⟨c0.other (by omega) _, c1.other (by omega) _, c2.other (by omega) _, ?_⟩, ?_, hB.setCell (p := ⟨w.heap.size + 1 + 1 + 1, 0, none⟩) (by simp; omega) _⟩
      · have := c3.set (.int .i64 ((pre.length : Int) + 1))
        simpa using this
      · intro h0
        have := HP' h0
        simp
        omega
  case done =>
    rintro D ys W hD rfl ⟨⟨c0, c1, c2, c3⟩, hp, hB⟩ hK
    have d1 := c1.cell
    have d2 := c2.cell
    have f1 := c1.frozen
    have f2 := c2.frozen
    have HP := hide hp
    clear hp
    gi_wp2
    have hK1 := (KeepsOthers.setCell W ⟨w.heap.size + 1, 0, none⟩ (.int .i64 0)).same D _ hK rfl
    have hK2 := (KeepsOthers.setCell _ ⟨w.heap.size + 1 + 1, 0, none⟩ (.bool false)).same D _ hK1 rfl
    refine ⟨by simp, .inl ⟨_, _, rfl, run_takeDeferred hK2, ?_⟩⟩
    have e1 := cell_kept ((c1.set (.int .i64 0)).other (by omega : w.heap.size + 1 ≠ w.heap.size + 1 + 1) (.bool false)).cell (grownBy_putObj' _ D (.deferred none)) (fun r e => by cases e; exact ⟨_, hK2, rfl⟩)
    have e2 := cell_kept ((c2.other (by omega : w.heap.size + 1 + 1 ≠ w.heap.size + 1) (.int .i64 0)).set (.bool false)).cell (grownBy_putObj' _ D (.deferred none)) (fun r e => by cases e; exact ⟨_, hK2, rfl⟩)
    refine ⟨.tuple #[.int .i64 0, .bool false], ?_, ?_, ((hB.setCell (p := ⟨w.heap.size + 1, 0, none⟩) (by simp) _).setCell (p := ⟨w.heap.size + 1 + 1, 0, none⟩) (by simp; omega) _).trans (belowK_b (w := w) (Nat.le_refl _) _ D _ _ (by simp at hD; omega) hK2 rfl rfl)⟩
    · simp [results, Tryd.f13, go_sem, e1, e2]
    · rw [nthAns_none (x := x) (k := k) HP.out]
  case stop =>
    rintro D c pre W hD hpre ⟨⟨c1, c2⟩, ⟨rfl, hk0, hk1⟩, hB⟩ hK
    have HK1 := hide hk1
    clear hk1
    gi_wp2
    refine ⟨by simp, .inl ⟨_, _, rfl, run_takeDeferred hK, ?_⟩⟩
    have e1 := cell_kept c1.cell (grownBy_putObj' _ D (.deferred none)) (fun r e => by cases e; exact ⟨_, hK, rfl⟩)
    have e2 := cell_kept c2.cell (grownBy_putObj' _ D (.deferred none)) (fun r e => by cases e; exact ⟨_, hK, rfl⟩)
    refine ⟨.tuple #[.int .i64 ((pre.getLast?.getD 0 : Nat) : Int), .bool true], ?_, ?_, hB.trans (belowK_b (w := w) (Nat.le_refl _) W D _ _ (by simp at hD; omega) hK rfl rfl)⟩
    · simp [results, Tryd.f13, go_sem, e1, e2]
    · obtain ⟨rest, hr⟩ := hpre
      have hk1 := HK1.out
      have hn : (Plain.pls x)[k.toNat]? = some (pre.getLast?.getD 0) := by
        rw [← hr, List.getElem?_append_left (by omega), List.getLast?_eq_getElem?, hk1, Nat.add_sub_cancel, List.getElem?_eq_getElem (by omega)]
        rfl
      rw [nthAns_some hk0 hn]

theorem nth13 (x : Nat) (hx : x < 18446744073709551616) (k : Int) (w : World) (hT : Tab w) :
    Calls Tryd.prog 13 #[.int .u64 (x : Int), .int .i64 k] w fun e W' => e = .returned (.tuple #[.int .i64 (nthAns x k).1, .bool (nthAns x k).2]) ∧ Below w.heap.size w W' :=
  callsIn_wide.1 (nth13In 3 (Nat.le_refl _) x hx k w hT)

end Go.Proofs.YteahpfobjnofmaaDoor
