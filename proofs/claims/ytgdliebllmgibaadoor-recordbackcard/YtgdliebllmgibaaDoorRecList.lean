/- Package record: List; spans in a row, held against others. -/
import Derived.Test.YtgdliebllmgibaaDoorRecRead
import Derived.RangeFuncBox
namespace Go.Proofs.YtgdliebllmgibaaDoor
open Go Go.RowKit

theorem infoSpan : (Tryd.prog.info? 45).map (fun i => (i.zero, i.size, i.bytes)) = some (some (.agg #[.int .i64 0, .int .i64 0, .int .i64 0, .int .i64 0, .int .i64 0, .int .u64 0, .int .u64 0]), 7, 56) := by kernel_rfl
theorem cell_span_new (w : World) (a b c d e f g : Value) (t : TypeId) : ∀ j u, [a, b, c, d, e, f, g][j]? = some u → (w.alloc (.cells #[a, b, c, d, e, f, g] t)).cell? ((⟨w.heap.size, 0, none⟩ : Addr).add j) = some u := by
  intro j u hj
  have ea : (⟨w.heap.size, 0, none⟩ : Addr).add j = ⟨w.heap.size, j, none⟩ := by unfold Addr.add; split <;> simp_all
  rw [ea]
  have : (w.alloc (.cells #[a, b, c, d, e, f, g] t)).cell? ⟨w.heap.size, j, none⟩ = _ := cell_of_heap (heap_alloc_at _ _)
  exact this.trans (by simpa using hj)
theorem layField0 (a b : Value) (w : World) : (Instr.field 24 (.agg #[a, b]) 0).run Tryd.prog w = .ok a w := by kernel_rfl
theorem cell_span_at (w : World) (n : Nat) (hn : n = w.heap.size) (a b c d e f g : Value) (t : TypeId) : ∀ j u, [a, b, c, d, e, f, g][j]? = some u → (w.alloc (.cells #[a, b, c, d, e, f, g] t)).cell? ((⟨n, 0, none⟩ : Addr).add j) = some u := by subst hn; exact cell_span_new w a b c d e f g t
/-- A row of spans. -/
def SpansV (W : World) (v : Value) (l : List Rec.Sp) : Prop :=
  ∃ a c, v = .slice a l.length c ∧ ∀ i (hi : i < l.length), ∃ g, a = some ⟨g, 0, none⟩ ∧ g < W.heap.size ∧
    W.cell? ⟨g, i * 7, none⟩ = some (.int .i64 l[i].page) ∧ W.cell? ⟨g, i * 7 + 1, none⟩ = some (.int .i64 l[i].pages) ∧ W.cell? ⟨g, i * 7 + 2, none⟩ = some (.int .i64 l[i].cls) ∧ W.cell? ⟨g, i * 7 + 3, none⟩ = some (.int .i64 l[i].gen) ∧
    W.cell? ⟨g, i * 7 + 4, none⟩ = some (.int .i64 l[i].ph) ∧ W.cell? ⟨g, i * 7 + 5, none⟩ = some (.int .u64 (l[i].alloc : Int)) ∧ W.cell? ⟨g, i * 7 + 6, none⟩ = some (.int .u64 (l[i].mark : Int))
theorem SpansV.below {W W' : World} {v : Value} {l : List Rec.Sp} (h : SpansV W v l) (b : Below W.heap.size W W') : SpansV W' v l := by
  obtain ⟨a, c, e, h⟩ := h
  refine ⟨a, c, e, fun i hi => ?_⟩
  obtain ⟨g, e1, e2, h0, h1, h2, h3, h4, h5, h6⟩ := h i hi
  exact ⟨g, e1, Nat.lt_of_lt_of_le e2 b.size, (b.cell (p := ⟨g, i * 7, none⟩) e2).trans h0, (b.cell (p := ⟨g, i * 7 + 1, none⟩) e2).trans h1, (b.cell (p := ⟨g, i * 7 + 2, none⟩) e2).trans h2, (b.cell (p := ⟨g, i * 7 + 3, none⟩) e2).trans h3, (b.cell (p := ⟨g, i * 7 + 4, none⟩) e2).trans h4, (b.cell (p := ⟨g, i * 7 + 5, none⟩) e2).trans h5, (b.cell (p := ⟨g, i * 7 + 6, none⟩) e2).trans h6⟩
theorem spans_of_row {W : World} {base : Nat} {t : TypeId} {v : Value} {l : List Rec.Sp} (h : W.ownsRow base t 7 v l.length (spanVals l)) : SpansV W v l := by
  rcases h.2 with ⟨rfl, h0⟩ | ⟨g, cap, cur, rfl, hb, hg, _⟩
  · exact ⟨none, 0, by rw [h0], fun i hi => by omega⟩
  · refine ⟨_, _, rfl, fun i hi => ⟨g, rfl, lt_of_heap hg, ?_⟩⟩
    have key : ∀ j, j < 7 → W.cell? ⟨g, i * 7 + j, none⟩ = some ((spanL l[i]).getD j (.bool false)) := fun j hj => by
      have hlen := spanVals_len l
      have h1 := World.ownsRow.cellAt h (i * 7 + j) (by omega)
      have gg := spanVals_get l i hi j hj
      rw [Nat.mul_comm 7 i] at gg
      rw [h1]
      congr 1
      rw [← gg]
      simp [List.getD, show i * 7 + j < (spanVals l).length by omega]
    exact ⟨key 0 (by omega), key 1 (by omega), key 2 (by omega), key 3 (by omega), key 4 (by omega), key 5 (by omega), key 6 (by omega)⟩

set_option maxRecDepth 100000 in
set_option maxHeartbeats 4000000 in
theorem listA {q : Nat} {P T : Int} {p r : Nat} {ws : List Nat} {w : World} (h : ArW q P T p r ws w) (hl : ws.length = (Lay.words P T).toNat) (N : Nat) (hP : P = (N : Int)) (hN : N ≤ 4096) (l : List Rec.Sp) (hu : Rec.upto ws P T N = l) :
    Calls Tryd.prog 14 #[.pointer (some ⟨q, 0, none⟩)] w fun e w' => ∃ v, e = .returned v ∧ SpansV w' v l ∧ Below w.heap.size w w' := by
  obtain ⟨i0, hi, hz0, hz1, hz2⟩ := info_parts infoSpan
  have HA := hide h
  have HAT := hide h.at_
  have HR := hide (fun (u : World) (hu : Below w.heap.size w u) (pg : Int) (x : Rec.Sp) (ok : Bool) (hx : Rec.read ws P T pg = (x, ok)) => readA (h.below hu) hl pg x ok hx)
  have HU := hide hu
  have HPN := hide hP
  clear h hl hu
  go_enter Tryd.func14, Tryd.ntmps14
  go_wp2_with fail
  refine (HAT.out.layout).mono ?_
  rintro e w1 ⟨rfl, b1⟩
  have HB1 := hide b1
  clear b1 HAT
  have hf := layField0
  go_wp2
  clear hf
  go_loopw [3, 10] (fun v i wr => ∃ j : Nat, i = .int .i64 (j : Int) ∧ j ≤ N ∧ Hid (wr.ownsRow w.heap.size 45 7 v (Rec.upto ws P T j).length (spanVals (Rec.upto ws P T j)) ∧ Below w.heap.size w wr)) (fun _ i _ => N - (intOf i).toNat)
  case atStart => exact ⟨0, rfl, Nat.zero_le _, World.ownsRow_nil _ _ _ _, HB1.out⟩
  case round =>
    obtain ⟨j, rfl, hj, hH⟩ := hrel
    obtain ⟨hrow, hB⟩ := hH.out
    clear HB1 hH
    by_cases hlt : j < N
    · have d1 : decide ((j : Int) < P) = true := by rw [HPN.out]; simp; exact hlt
      have hup := Rec.upto_len ws P T j
      have HRow := hide hrow
      have HB := hide hB
      have HRD := hide (HR.out wr hB (j : Int))
      clear hrow hB
      by_cases h0 : Rec.tol ws P T 9 (j : Int) = 0
      · have hrd : Rec.read ws P T (j : Int) = (Rec.Sp.zero, false) := by unfold Rec.read; rw [if_pos h0]
        have HN := hide (Rec.upto_no h0)
        clear h0
        go_wp2_with fail
        refine (HRD.out _ _ hrd).mono ?_
        rintro e w2 ⟨rfl, b2⟩
        have HB2 := hide (HB.out.trans (b2.mono HB.out.size))
        have HW2 := hide (ownsRow_only HRow.out (Below.only b2 (fun _ => False)) (fun _ f => f.elim))
        have hs2 := b2.size
        clear HRow HB b2 HRD hrd
        unfold spanV spanC Rec.Sp.zero
        go_wp2
        go_roundw
        case rel => exact ⟨j + 1, by go_num, by omega, by rw [HN.out]; exact HW2.out.alloc _, HB2.out.alloc HB2.out.size _⟩
        case measure => simp [intOf]; omega
      · obtain ⟨x, hx⟩ : ∃ x, Rec.said ws P T (j : Int) = x := ⟨_, rfl⟩
        have hrd : Rec.read ws P T (j : Int) = (x, true) := by unfold Rec.read; rw [if_neg h0, hx]
        have hup1 := Rec.upto_yes h0
        rw [hx] at hup1
        have HN := hide hup1
        clear h0 hup1 hx
        go_wp2_with fail
        refine (HRD.out _ _ hrd).mono ?_
        rintro e w2 ⟨rfl, b2⟩
        have HB2 := hide (HB.out.trans (b2.mono HB.out.size))
        have HW2 := hide (ownsRow_only HRow.out (Below.only b2 (fun _ => False)) (fun _ f => f.elim))
        clear HRow HB b2 HRD hrd
        have hs2 : w.heap.size ≤ w2.heap.size := HB2.out.size
        unfold spanV spanC
        go_wp2_with (at_builtin; (refine wpList_append_own _ rfl _ _ 51 rfl w.heap.size 45 i0 (.agg #[.int .i64 0, .int .i64 0, .int .i64 0, .int .i64 0, .int .i64 0, .int .u64 0, .int .u64 0]) 7 56 Tryd.underlying51 hi hz0 hz1 hz2 rfl (by decide) _ _ _ rfl ((HW2.out.alloc _).alloc _) ⟨_, 0, none⟩ 1 1 [.int .i64 x.page, .int .i64 x.pages, .int .i64 x.cls, .int .i64 x.gen, .int .i64 x.ph, .int .u64 (x.alloc : Int), .int .u64 (x.mark : Int)] rfl rfl (cell_span_at _ _ (by simp) _ _ _ _ _ _ _ _) (by simp [Value.oneCell']) (by unfold maxLen; omega) (by omega) (by simp; omega) ?_); intro v' w9 hown' hgrow' _)
        go_roundw
        case rel =>
          refine ⟨j + 1, by go_num, by omega, ?_, ?_⟩
          · rw [HN.out, List.length_append, List.length_singleton, spanVals_snoc]; exact hown'
          · exact (HB2.out.alloc HB2.out.size _).trans (below_row (by simp; omega) (HW2.out.alloc _) hgrow')
        case measure => simp [intOf]; omega
    · have hjN : j = N := by omega
      have d1 : decide ((j : Int) < P) = false := by rw [HPN.out, hjN]; simp
      have HB := hide hB
      have HRow := hide hrow
      clear hB hrow
      go_wp2
      go_ret
      refine ⟨_, rfl, ?_, HB.out⟩
      have := spans_of_row HRow.out
      rw [hjN, HU.out] at this
      exact this
set_option maxRecDepth 100000 in
theorem recListNil (w : World) :
    Calls Tryd.prog 14 #[.pointer none] w fun e w' => e = .returned (.slice none 0 0) ∧ Below w.heap.size w w' := by
  go_enter Tryd.func14, Tryd.ntmps14
  go_wp2_with fail
  refine (layoutNil _).mono ?_
  rintro e w1 ⟨rfl, b1⟩
  have HB1 := hide b1
  clear b1
  have hf := layField0
  go_wp2
  clear hf
  go_loopw [3, 10] (fun v i wr => v = .slice none 0 0 ∧ i = .int .i64 0 ∧ Hid (Below w.heap.size w wr)) (fun _ _ _ => 0)
  case atStart => exact ⟨rfl, rfl, HB1⟩
  case round =>
    obtain ⟨rfl, rfl, hB⟩ := hrel
    go_wp2
    go_ret
    exact ⟨rfl, hB.out⟩

set_option maxRecDepth 100000 in
set_option maxHeartbeats 4000000 in
theorem sameSpans (w : World) (v1 v2 : Value) (l : List Rec.Sp) (h1 : SpansV w v1 l) (h2 : SpansV w v2 l) (hl : l.length ≤ 1099511627776) :
    Calls Tryd.prog 13 #[v1, v2] w fun e W' => e = .returned (.bool true) ∧ ∃ q, W' = w.drewN q := by
  obtain ⟨a, ca, rfl, ha⟩ := h1
  obtain ⟨b, cb, rfl, hb⟩ := h2
  have HA := hide ha
  have HB := hide hb
  clear ha hb
  obtain ⟨c, hc⟩ : ∃ c, l.length = c := ⟨_, rfl⟩
  rw [hc] at hl ⊢
  have HC := hide hc
  clear hc
  go_enter Tryd.func13, Tryd.ntmps13
  go_wp2
  go_loopw [5] (fun i wr => ∃ k q : Nat, k ≤ c ∧ i = .int .i64 (k : Int) ∧ wr = w.drewN q) (fun i _ => c - (intOf i).toNat)
  case atStart => exact ⟨0, 0, Nat.zero_le _, rfl, rfl⟩
  case round =>
    obtain ⟨k, q, hk, rfl, rfl⟩ := hrel
    by_cases hlt : k < c
    · obtain ⟨g, rfl, hg, a0, a1, a2, a3, a4, a5, a6⟩ := HA.out k (by rw [HC.out]; exact hlt)
      obtain ⟨g2, rfl, hg2, b0, b1, b2, b3, b4, b5, b6⟩ := HB.out k (by rw [HC.out]; exact hlt)
      generalize (l[k]'(by rw [HC.out]; exact hlt)) = y at *
      go_wp2_with fail
      go_quiet (fail)
      go_wp2
      go_roundw
      case rel => exact ⟨k + 1, _, by omega, by go_num, rfl⟩
      case measure => simp [intOf]; omega
    · obtain rfl : k = c := by omega
      go_wp2
      go_ret
      exact ⟨rfl, _, rfl⟩
end Go.Proofs.YtgdliebllmgibaaDoor
