/- Methods of no runs. -/
import Derived.Test.YtpngbajahpnlgaaRunOwn
import Derived.OwnWalk
namespace Go.Proofs.Ytpngbajahpnlgaa
open Go.RowKit

attribute [local go_sem] Oper.semAt_some

theorem allNilC (n A Bt : Nat) (w : World) (hBt : Bt < w.heap.size) (hcb : w.cell? ⟨Bt, 0, none⟩ = some (.pointer none)) :
    SeqC Fence.wide n Try.prog 55 #[.pointer (some ⟨Bt, 0, none⟩)] (fun k : Int => #[.agg (runVal k)]) A [] w := by
  intro Y J Jx W hW hJ hJx hY h0
  have c0 : W.cell? ⟨Bt, 0, none⟩ = some (.pointer none) := (hW.cell (p := ⟨Bt, 0, none⟩) hBt).trans hcb
  refine callsIn_of_wp Try.func55 rfl trivial ?_ rfl
  simp only [Try.ntmps55, List.size_toArray, List.length_cons, List.length_nil, Nat.reduceAdd, Nat.reduceSub, Array.replicate_succ, Array.replicate_zero, List.push_toArray, List.append_toArray, List.nil_append, List.cons_append]
  gi_wp2
  (try simp only [Exit.inBlock, Exit.then]); refine bodyPost_ret (results_none rfl _ _ _) rfl ?_
  exact ⟨⟨_, rfl⟩, .inl h0⟩
theorem allNilR (n Bt : Nat) (w : World) (hBt : Bt < w.heap.size) (hcb : w.cell? ⟨Bt, 0, none⟩ = some (.pointer none)) :
    SeqR Fence.wide n Try.prog 55 #[.pointer (some ⟨Bt, 0, none⟩)] (fun k : Int => #[.agg (runVal k)]) [] w := by
  intro Y J Jx W G0 hW hJ hJx hY h0
  have c0 : W.cell? ⟨Bt, 0, none⟩ = some (.pointer none) := (hW.cell (p := ⟨Bt, 0, none⟩) hBt).trans hcb
  refine callsIn_of_wp Try.func55 rfl trivial ?_ rfl
  simp only [Try.ntmps55, List.size_toArray, List.length_cons, List.length_nil, Nat.reduceAdd, Nat.reduceSub, Array.replicate_succ, Array.replicate_zero, List.push_toArray, List.append_toArray, List.nil_append, List.cons_append]
  gi_wp2
  (try simp only [Exit.inBlock, Exit.then]); refine bodyPost_ret (results_none rfl _ _ _) rfl ?_
  exact ⟨⟨_, rfl⟩, Only.refl _ _, G0, fun _ h => .inl h, .inl h0⟩

set_option maxRecDepth 100000 in
set_option maxHeartbeats 2000000 in
theorem totalNil (w : World) :
    Calls Try.prog 25 #[.pointer none] w fun e w' => e = .returned (.int .i64 0) ∧ Below w.heap.size w w' := by
  refine (callsIn_wide (n := 8)).1 ?_
  have h81 : (1 : Nat) ≤ 8 := by omega
  have HRI := fun n w => hide (all39 n none w)
  have hbR : Below w.heap.size w ((w.alloc (.cells #[.int .i64 0] 3)).alloc (.cells #[.pointer none] 23)) := ((Below.refl _ w).alloc (Nat.le_refl _) _).alloc (by simp) _
  have hseq := allNilC 7 w.heap.size (w.heap.size + 1) ((w.alloc (.cells #[.int .i64 0] 3)).alloc (.cells #[.pointer none] 23)) (by simp) (by simp)
  have hb0 : Boxed ((w.alloc (.cells #[.int .i64 0] 3)).alloc (.cells #[.pointer none] 23)) w.heap.size 3 (.int .i64 0) := (Boxed.new w 3 _).alloc _
  refine callsIn_of_wp_marks Try.func25 rfl trivial ?_ rfl
  simp only [Try.ntmps25, List.size_toArray, List.length_cons, List.length_nil, Nat.reduceAdd, Nat.reduceSub, Array.replicate_succ, Array.replicate_zero, List.push_toArray, List.append_toArray, List.nil_append, List.cons_append]
  gi_wp2_with (refine ⟨trivial, ?_⟩; gi_at_call 39; refine (HRI _ _).out.mono ?_; rintro e w2 ⟨rfl, rfl⟩)
  refine wpIn_rangeC (F := Fence.wide) (t := 4) rfl h81 (gf := 55) (lb := #[.pointer (some ⟨w.heap.size + 1, 0, none⟩)]) rfl trivial (enters_of Try.func55 (by kernel_rfl) rfl)
    runVal 43 hseq (Below.refl _ _) hbR.size
    (fun pre W => Boxed W w.heap.size 3 (.int .i64 0) ∧ Below w.heap.size w W) (fun _ => False)
    (fun s X Y hs hb => ⟨(hb.block _ (by simp; omega)).trans hs.1, hs.2.trans (hb.mono hbR.size)⟩) (fun _ _ h _ => h)
    ⟨hb0, hbR⟩ ?assign ?body ?done (fun _ _ _ h _ => h.elim)
  case assign =>
    intro l y W K hK
    unfold runVal
    gi_wp2
    exact hK
  case body =>
    rintro l pre x b V hb hbV ⟨hb1, hB⟩ hbox hpx
    exact absurd hpx.length_le (by simp)
  case done =>
    rintro D W hD ⟨hb1, hB⟩ hK
    have hc := hb1.cell
    have HBB := hide hB
    have hD2 : w.heap.size + 2 ≤ D := by simpa using hD
    clear hB hseq hb0 hbR hb1
    gi_wp2
    refine ⟨by simp, .inl ⟨_, _, rfl, run_takeDeferred hK, ?_⟩⟩
    exact ⟨_, results_tmp rfl _ _ _, rfl, HBB.out.trans (Below.putObj W _ (by omega))⟩

theorem listNil (w : World) :
    Calls Try.prog 22 #[.pointer none] w fun e w' => ∃ a c, e = .returned (.slice a 0 c) ∧ Below w.heap.size w w' := by
  refine (callsIn_wide (n := 9)).1 ?_
  have h91 : (1 : Nat) ≤ 9 := by omega
  have HRI := fun n w => hide (all39 n none w)
  have hbR : Below w.heap.size w (w.alloc (.cells #[.pointer none] 23)) := (Below.refl _ w).alloc (Nat.le_refl _) _
  have hseq := allNilR 5 w.heap.size _ (show w.heap.size < (w.alloc (.cells #[.pointer none] 23)).heap.size by simp) (by simp)
  have HS := hide (sorted43 8 (by omega) 55 #[.pointer (some ⟨w.heap.size, 0, none⟩)] (enters_of Try.func55 (by kernel_rfl) rfl) [] (by simp) _ hseq)
  clear hseq
  refine callsIn_of_wp Try.func22 rfl trivial ?_ rfl
  simp only [Try.ntmps22, List.size_toArray, List.length_cons, List.length_nil, Nat.reduceAdd, Nat.reduceSub, Array.replicate_succ, Array.replicate_zero, List.push_toArray, List.append_toArray, List.nil_append, List.cons_append]
  gi_wp2_with (first | (refine ⟨trivial, ?_⟩; gi_at_call 39; refine (HRI _ _).out.mono ?_; rintro e w2 ⟨rfl, rfl⟩) | (refine ⟨trivial, ?_⟩; gi_at_call 43; refine HS.out.mono ?_; rintro e w3 ⟨v, l, rfl, hv, hp, hpw, hnew, hb⟩))
  go_ret
  have hl : l = [] := List.Perm.eq_nil hp
  subst hl
  obtain ⟨a, c, rfl, _⟩ := hv
  exact ⟨a, c, rfl, hbR.trans (hb.mono hbR.size)⟩

theorem fitNil (n : Int) (w : World) :
    Calls Try.prog 34 #[.pointer none, .int .i64 n] w fun e w' => e = .returned (.tuple #[.agg #[.int .i64 0, .int .i64 0], .bool false]) ∧ Below w.heap.size w w' := by
  have hB : Below w.heap.size w (w.alloc (.cells #[.int .i64 0, .int .i64 0] 43)) := (Below.refl _ w).alloc (Nat.le_refl _) _
  go_enter Try.func34, Try.ntmps34
  go_wp2
  go_returns
  exact ⟨rfl, hB⟩
theorem findNil (n : Int) (w : World) :
    Calls Try.prog 18 #[.pointer none, .int .i64 n] w fun e w' => e = .returned (.tuple #[.int .i64 0, .bool false]) ∧ Below w.heap.size w w' := by
  have HC := hide (fitNil n w)
  go_enter Try.func18, Try.ntmps18
  go_wp2_with fail
  refine HC.out.mono ?_
  rintro e w1 ⟨rfl, hb⟩
  go_wp2
  go_ret2
  exact ⟨rfl, hb.alloc hb.size _⟩
theorem takeNil (n : Int) (w : World) :
    Calls Try.prog 13 #[.pointer none, .int .i64 n] w fun e w' => e = .returned (.tuple #[.int .i64 0, .int .i64 2]) ∧ Below w.heap.size w w' := by
  go_enter Try.func13, Try.ntmps13
  go_wp2
  go_ret2
  exact ⟨rfl, Below.refl _ _⟩
theorem putNil (x n : Int) (w : World) :
    Calls Try.prog 15 #[.pointer none, .int .i64 x, .int .i64 n] w fun e w' => e = .returned (.int .i64 2) ∧ Below w.heap.size w w' := by
  have hB : ∀ v, Below w.heap.size w ((w.alloc (.cells #[.int .i64 x] 3)).alloc (.cells #[v] 29)) := fun v => ((Below.refl _ w).alloc (Nat.le_refl _) _).alloc (by simp) _
  go_enter Try.func15, Try.ntmps15
  go_wp2
  go_returns
  exact ⟨rfl, hB _⟩
theorem drawnNil (w : World) :
    Calls Try.prog 27 #[.pointer none] w fun e w' => e = .returned (.int .i64 0) ∧ w' = w := by
  go_enter Try.func27, Try.ntmps27
  go_wp2
  go_ret
  exact ⟨rfl, rfl⟩
theorem shapeNil (w : World) :
    Calls Try.prog 28 #[.pointer none] w fun e w' => e = .returned (.slice none 0 0) ∧ w' = w := by
  go_enter Try.func28, Try.ntmps28
  go_wp2
  go_ret
  exact ⟨rfl, rfl⟩
end Go.Proofs.Ytpngbajahpnlgaa
