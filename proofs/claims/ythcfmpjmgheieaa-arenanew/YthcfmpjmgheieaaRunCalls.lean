/- The calls of package runs that go through no iterator: keyOf, runOf, fit, lay, Find, Take, Drawn, Shape. -/
import Derived.Test.YthcfmpjmgheieaaRunAt
namespace Go.Proofs.Ythcfmpjmgheieaa
open Go.RowKit

theorem keyOf36 (a n : Int) (h : 0 ≤ a ∧ a < 8192 ∧ 0 ≤ n ∧ n < 1000000) (w : World) :
    Calls Try.prog 45 #[.agg #[.int .i64 a, .int .i64 n]] w fun e w' => e = .returned (.int .i64 (kOf a n)) ∧ Below w.heap.size w w' := by
  have hB : Below w.heap.size w (w.alloc (.cells #[.int .i64 a, .int .i64 n] 84)) := (Below.refl _ w).alloc (Nat.le_refl _) _
  obtain ⟨h0, h1, h2, h3⟩ := h
  go_enter Try.func45, Try.ntmps45
  go_wp2
  go_ret
  exact ⟨rfl, hB⟩

theorem runOf50 (k : Int) (h : 0 ≤ k ∧ k < 1000000000) (w : World) :
    Calls Try.prog 66 #[.int .i64 k] w fun e w' => e = .returned (.agg #[.int .i64 (rA k), .int .i64 (rN k)]) ∧ Below w.heap.size w w' := by
  have hb0 := heap_alloc_at w (.cells #[.int .i64 0, .int .i64 0] 84)
  have hB : Below w.heap.size w (w.alloc (.cells #[.int .i64 0, .int .i64 0] 84)) := (Below.refl _ w).alloc (Nat.le_refl _) _
  have e1 : k.tmod 8192 = rA k := by rw [rA]; exact Int.tmod_eq_emod_of_nonneg h.1
  have e2 : k.tdiv 8192 = rN k := by rw [rN]; exact Int.tdiv_eq_ediv_of_nonneg h.1
  have hr := rA_bd k
  have hn : 0 ≤ rN k ∧ rN k < 1000000000 := by unfold rN; omega
  obtain ⟨h0, h1⟩ := h
  go_enter Try.func66, Try.ntmps66
  go_wp2
  go_returns
  exact ⟨rfl, (Below.refl _ w).alloc (Nat.le_refl _) _⟩

/-- Two cells of block r are put; what holds of a world in which they lie holds of that one. -/
theorem store2 {w0 w : World} {n r : Nat} {a0 a1 : Value} {t : TypeId} (hs : w.heap[r]? = some (.cells #[a0, a1] t (0, 0))) (hB : Below n w0 w) (hr : n ≤ r) {v0 v1 : Value} {R : World → Prop}
    (k : ∀ W : World, Below n w0 W → W.heap[r]? = some (.cells #[v0, v1] t (0, 0)) → R W) :
    R ((w.setCell ⟨r, 0, none⟩ v0).setCell ⟨r, 1, none⟩ v1) := by
  have e := heap_setCell_at (o := 1) (heap_setCell_at (o := 0) hs v0) v1
  exact k _ ((hB.setCell hr _).setCell hr _) e

set_option maxHeartbeats 1000000 in
theorem fitNo (w : World) (r t : Nat) (T : Tr Unit) (pg : Nat) (a : Option Addr) (c : Nat) (ds : List Nat) (dn : Nat) (L : RL) (h : RAt w r t T pg a c ds dn L) (hp : pg ≤ 4096) (n : Int) (hg : n < 1 ∨ (pg : Int) < n ∨ fitL n L = none) :
    Calls Try.prog 43 #[.pointer (some ⟨r, 0, none⟩), .int .i64 n] w fun e w' => e = .returned (.tuple #[.agg #[.int .i64 0, .int .i64 0], .bool false]) ∧ Below w.heap.size w w' := by
  have hB : Below w.heap.size w (w.alloc (.cells #[.int .i64 0, .int .i64 0] 84)) := (Below.refl _ w).alloc (Nat.le_refl _) _
  have hb0 := heap_alloc_at w (.cells #[.int .i64 0, .int .i64 0] 84)
  replace h := h.below hB
  have c0 : (w.alloc (.cells #[.int .i64 0, .int .i64 0] 84)).cell? ⟨r, 0, none⟩ = some (.int .i64 (pg : Int)) := cell_of_heap h.head
  have c1 : (w.alloc (.cells #[.int .i64 0, .int .i64 0] 84)).cell? ⟨r, 1, none⟩ = some (.pointer (some ⟨t, 0, none⟩)) := cell_of_heap h.head
  have HT := hide h.tree
  by_cases h1 : n < 1
  · clear h hg
    go_enter Try.func43, Try.ntmps43
    go_wp2
    go_returns
    exact ⟨rfl, hB⟩
  · by_cases h2 : (pg : Int) < n
    · clear h hg
      go_enter Try.func43, Try.ntmps43
      go_wp2
      go_returns
      exact ⟨rfl, hB⟩
    · have hgn : fitL n L = none := by rcases hg with q | q | q; exact absurd q h1; exact absurd q h2; exact q
      have HC := hide (ceilNoneE _ t T L h.tree (n * 8192) (by have := hgn; unfold fitL kOf at this; simpa using this))
      clear h hg hgn
      go_enter Try.func43, Try.ntmps43
      go_wp2_with fail
      refine HC.out.mono ?_
      rintro e w1 ⟨rfl, hb⟩
      have hb1 : (w1.alloc (.cells #[] 77)).heap[w.heap.size]? = some (.cells #[.int .i64 0, .int .i64 0] 84 (0, 0)) := heap_alloc_old ((hb.block _ (by simp)).trans hb0)
      have y0 : (w1.alloc (.cells #[] 77)).cell? ⟨w.heap.size, 0, none⟩ = some (.int .i64 0) := cell_of_heap hb1
      have y1 : (w1.alloc (.cells #[] 77)).cell? ⟨w.heap.size, 1, none⟩ = some (.int .i64 0) := cell_of_heap hb1
      have yf : ∀ o, (w1.alloc (.cells #[] 77)).frozen? ⟨w.heap.size, o, none⟩ = false := fun o => frozen_of_heap hb1
      have hB2 : Below w.heap.size w (w1.alloc (.cells #[] 77)) := (hB.trans (hb.mono hB.size)).alloc (Nat.le_trans hB.size hb.size) _
      have HB2 := hide hB2
      have HB1 := hide hb1
      clear hB2 hb1 hb0 hb hB
      go_wp2
      refine store2 (R := bodyPost _ _ _ _ _) HB1.out HB2.out (Nat.le_refl _) ?_
      intro W2 hBW z
      have z0 : W2.cell? ⟨w.heap.size, 0, none⟩ = some (.int .i64 0) := cell_of_heap z
      have z1 : W2.cell? ⟨w.heap.size, 1, none⟩ = some (.int .i64 0) := cell_of_heap z
      refine bodyPost_ret (by simp [results, Try.results43, z0, z1, go_sem]; try rfl) rfl ?_
      exact ⟨rfl, hBW⟩

set_option maxHeartbeats 1000000 in
theorem fitYes (w : World) (r t : Nat) (T : Tr Unit) (pg : Nat) (a : Option Addr) (c : Nat) (ds : List Nat) (dn : Nat) (L : RL) (h : RAt w r t T pg a c ds dn L) (hp : pg ≤ 4096) (n : Int) (hn : 1 ≤ n) (hnp : n ≤ (pg : Int)) (i : It Unit) (hg : fitL n L = some i) (hi : 0 ≤ i.1 ∧ i.1 < 1000000000) :
    Calls Try.prog 43 #[.pointer (some ⟨r, 0, none⟩), .int .i64 n] w fun e w' => e = .returned (.tuple #[.agg #[.int .i64 (rA i.1), .int .i64 (rN i.1)], .bool true]) ∧ Below w.heap.size w w' := by
  have hB : Below w.heap.size w (w.alloc (.cells #[.int .i64 0, .int .i64 0] 84)) := (Below.refl _ w).alloc (Nat.le_refl _) _
  have hb0 := heap_alloc_at w (.cells #[.int .i64 0, .int .i64 0] 84)
  replace h := h.below hB
  have c0 : (w.alloc (.cells #[.int .i64 0, .int .i64 0] 84)).cell? ⟨r, 0, none⟩ = some (.int .i64 (pg : Int)) := cell_of_heap h.head
  have c1 : (w.alloc (.cells #[.int .i64 0, .int .i64 0] 84)).cell? ⟨r, 1, none⟩ = some (.pointer (some ⟨t, 0, none⟩)) := cell_of_heap h.head
  obtain ⟨k, d, v⟩ := i
  have HC := hide (ceilSomeE _ t T L h.tree (n * 8192) k d v (by have := hg; unfold fitL kOf at this; simpa using this))
  simp only at hi ⊢
  have HR := fun w => hide (runOf50 k hi w)
  clear h hg hi
  go_enter Try.func43, Try.ntmps43
  go_wp2_with fail
  refine HC.out.mono ?_
  rintro e w1 ⟨rfl, hb⟩
  have hb1 : (w1.alloc (.cells #[] 77)).heap[w.heap.size]? = some (.cells #[.int .i64 0, .int .i64 0] 84 (0, 0)) := heap_alloc_old ((hb.block _ (by simp)).trans hb0)
  have hB2 : Below w.heap.size w (w1.alloc (.cells #[] 77)) := (hB.trans (hb.mono hB.size)).alloc (Nat.le_trans hB.size hb.size) _
  have HB2 := hide hB2
  have HB1 := hide hb1
  clear hB2 hb1 hb0 hb hB
  go_wp2_with fail
  refine (HR _).out.mono ?_
  rintro e w2 ⟨rfl, hb3⟩
  have hb4 : w2.heap[w.heap.size]? = some (.cells #[.int .i64 0, .int .i64 0] 84 (0, 0)) := (hb3.block _ (lt_of_heap HB1.out)).trans HB1.out
  have y0 : w2.cell? ⟨w.heap.size, 0, none⟩ = some (.int .i64 0) := cell_of_heap hb4
  have y1 : w2.cell? ⟨w.heap.size, 1, none⟩ = some (.int .i64 0) := cell_of_heap hb4
  have yf : ∀ o, w2.frozen? ⟨w.heap.size, o, none⟩ = false := fun o => frozen_of_heap hb4
  have HB4 := hide hb4
  have HB3 := hide (HB2.out.trans (hb3.mono HB2.out.size))
  clear hb3 hb4
  go_wp2
  refine store2 (R := bodyPost _ _ _ _ _) HB4.out HB3.out (Nat.le_refl _) ?_
  intro W2 hBW z
  have z0 : W2.cell? ⟨w.heap.size, 0, none⟩ = some (.int .i64 (rA k)) := cell_of_heap z
  have z1 : W2.cell? ⟨w.heap.size, 1, none⟩ = some (.int .i64 (rN k)) := cell_of_heap z
  refine bodyPost_ret (by simp [results, Try.results43, z0, z1, go_sem]; try rfl) rfl ?_
  exact ⟨rfl, hBW⟩

theorem drawn27 (w : World) (r t : Nat) (T : Tr Unit) (pg : Nat) (a : Option Addr) (c : Nat) (ds : List Nat) (dn : Nat) (L : RL) (h : RAt w r t T pg a c ds dn L) :
    Calls Try.prog 50 #[.pointer (some ⟨r, 0, none⟩)] w fun e w' => e = .returned (.int .i64 (dn : Int)) ∧ w' = w := by
  have c3 : w.cell? ⟨r, 3, none⟩ = some (.int .i64 (dn : Int)) := cell_of_heap h.head
  clear h
  go_enter Try.func50, Try.ntmps50
  go_wp2
  go_ret
  exact ⟨rfl, rfl⟩

theorem shape28 (w : World) (r t : Nat) (T : Tr Unit) (pg : Nat) (a : Option Addr) (c : Nat) (ds : List Nat) (dn : Nat) (L : RL) (h : RAt w r t T pg a c ds dn L) (hl : L.length ≤ 1099511627776) :
    Calls Try.prog 33 #[.pointer (some ⟨r, 0, none⟩)] w fun e w' => ∃ v, e = .returned v ∧ w'.ownsRow w.heap.size 111 2 v L.length (nodeVals (shp L)) ∧ Below w.heap.size w w' := by
  have c1 : w.cell? ⟨r, 1, none⟩ = some (.pointer (some ⟨t, 0, none⟩)) := cell_of_heap h.head
  have HC := hide (shapeE w t T L h.tree hl)
  clear h
  go_enter Try.func33, Try.ntmps33
  go_wp2_with fail
  refine HC.out.mono ?_
  rintro e w1 ⟨v, rfl, h1, h2⟩
  have H1 := hide h1
  have H2 := hide h2
  clear h1 h2
  go_wp2
  go_ret
  exact ⟨v, rfl, H1.out, H2.out⟩
end Go.Proofs.Ythcfmpjmgheieaa
