/- Lays and gones that have nothing to do: in no arena, or in one of another layout; none at all. -/
import Derived.Test.YtgdliebllmgibaaDoorRecStep
import Derived.Test.YtgdliebllmgibaaDoorIdle
namespace Go.Proofs.YtgdliebllmgibaaDoor
open Go Go.RowKit

/-- The arena handed over is none, or has another layout. -/
def Strange (q : Nat) (P T : Int) (qa : Option Addr) (u : World) : Prop := qa = none ∨ (qa = some ⟨q, 0, none⟩ ∧ ∃ P' T' p r n, ArAt q P' T' p r n u ∧ (P' ≠ P ∨ T' ≠ T))
theorem Strange.below {q : Nat} {P T : Int} {qa : Option Addr} {u u' : World} (h : Strange q P T qa u) (b : Below u.heap.size u u') : Strange q P T qa u' := by
  rcases h with h | ⟨h, P', T', p, r, n, k, e⟩
  · exact .inl h
  · exact .inr ⟨h, P', T', p, r, n, k.below b, e⟩
theorem Strange.layout {q : Nat} {P T : Int} {qa : Option Addr} {u : World} (h : Strange q P T qa u) (hP : 1 ≤ P) :
    ∃ P' T' : Int, (P' ≠ P ∨ T' ≠ T) ∧ ∀ u' : World, Below u.heap.size u u' → Calls Tryd.prog 25 #[.pointer qa] u' fun e w' => e = .returned (.agg #[.int .i64 P', .int .i64 T']) ∧ Below u'.heap.size u' w' := by
  rcases h with rfl | ⟨rfl, P', T', p, r, n, k, e⟩
  · exact ⟨0, 0, .inl (by omega), fun u' _ => layoutNil u'⟩
  · exact ⟨P', T', e, fun u' b => (k.below b).layout⟩

set_option maxRecDepth 100000 in
set_option maxHeartbeats 4000000 in
theorem putNo {c : Array Value} {ty : TypeId} {m q : Nat} {P T : Int} {qa : Option Addr} {w : World} (hS : Strange q P T qa w) (hP : 1 ≤ P) (hm : w.heap[m]? = some (.cells c ty (0, 0))) (h0 : c[0]? = some (.int .i64 P)) (h1 : c[1]? = some (.int .i64 T)) (kind page v : Int) :
    Calls Tryd.prog 41 #[.pointer (some ⟨m, 0, none⟩), .pointer qa, .int .i64 kind, .int .i64 page, .int .u64 v] w fun e w' => e = .returned noDid ∧ Below w.heap.size w w' := by
  obtain ⟨P', T', hne, hL⟩ := hS.layout hP
  have HL := hide hL
  have A1 := heap_alloc_at w (.cells #[.int .i64 0, .int .i64 0, .int .u64 0, .int .u64 0] 34)
  have HB1 := hide (grown1 w (.cells #[.int .i64 0, .int .i64 0, .int .u64 0, .int .u64 0] 34))
  have HA1 := hide A1
  have HM1 := hide (((grown1 w (.cells #[.int .i64 0, .int .i64 0, .int .u64 0, .int .u64 0] 34)).block _ (lt_of_heap hm)).trans hm)
  have y0 : (w.alloc (.cells #[.int .i64 0, .int .i64 0, .int .u64 0, .int .u64 0] 34)).cell? ⟨m, 0, none⟩ = some (.int .i64 P) := (cell_of_heap HM1.out).trans h0
  have y1 : (w.alloc (.cells #[.int .i64 0, .int .i64 0, .int .u64 0, .int .u64 0] 34)).cell? ⟨m, 1, none⟩ = some (.int .i64 T) := (cell_of_heap HM1.out).trans h1
  have HK := hide (fun w => lpage P T kind page w)
  have H0 := hide h0
  have H1 := hide h1
  have HNE := hide hne
  obtain ⟨pv, hpv⟩ : ∃ pv, (Lay.page P T kind page).1 = pv := ⟨_, rfl⟩
  rw [hpv] at HK
  obtain ⟨pok, hpok⟩ : ∃ pok, (Lay.page P T kind page).2 = pok := ⟨_, rfl⟩
  rw [hpok] at HK
  clear hS hm h0 h1 A1 hL hne hpv hpok
  go_enter Tryd.func41, Tryd.ntmps41
  go_wp2_with fail
  clear y0 y1
  generalize w.alloc (.cells #[.int .i64 0, .int .i64 0, .int .u64 0, .int .u64 0] 34) = w1 at *
  refine (HK.out _).mono ?_
  rintro e w2 ⟨rfl, b2⟩
  have HB2 := hide (HB1.out.trans (b2.mono HB1.out.size))
  have HA2 := hide ((b2.block _ (lt_of_heap HA1.out)).trans HA1.out)
  have HM2 := hide ((b2.block _ (lt_of_heap HM1.out)).trans HM1.out)
  clear HB1 HA1 HM1 b2 HK
  cases pok
  · go_upto_region 2 with fail
    have hne : Nonempty (Over w2) := ⟨⟨_, Below.refl _ _⟩⟩
    have u0 := fun u => over_cell ((cell_of_heap HM2.out).trans H0.out : w2.cell? ⟨m, 0, none⟩ = some (.int .i64 P)) u
    have u1 := fun u => over_cell ((cell_of_heap HM2.out).trans H1.out : w2.cell? ⟨m, 1, none⟩ = some (.int .i64 T)) u
    have HLO := fun u : Over w2 => hide (HL.out u.w' (HB2.out.trans (u.h.mono HB2.out.size)))
    refine over_region (by kernel_rfl) (by kernel_rfl) ?_
    repeat (go_big_quiet_step (first | (go_at_call 25; exact over_call _ (HLO _).out)))
    refine wpQuiet_nil ?_
    rintro _ ⟨u, rfl⟩
    have HB3 := hide (HB2.out.trans (u.h.mono HB2.out.size))
    have A3 := (u.h.block _ (lt_of_heap HA2.out)).trans HA2.out
    clear HB2 HA2 HM2 u0 u1 hne HLO
    generalize u.w' = w3 at *
    clear u
    have hl := Nat.le_refl w.heap.size
    generalize hrb : w.heap.size = rb at *
    have r0 : w3.cell? ⟨rb, 0, none⟩ = some (.int .i64 0) := cell_of_heap A3
    have r1 : w3.cell? ⟨rb, 1, none⟩ = some (.int .i64 0) := cell_of_heap A3
    have r2 : w3.cell? ⟨rb, 2, none⟩ = some (.int .u64 0) := cell_of_heap A3
    have r3 : w3.cell? ⟨rb, 3, none⟩ = some (.int .u64 0) := cell_of_heap A3
    have fr : ∀ o, w3.frozen? ⟨rb, o, none⟩ = false := fun o => frozen_of_heap A3
    have e := heap_setCell_at (o := 3) (heap_setCell_at (o := 2) (heap_setCell_at (o := 1) (heap_setCell_at (o := 0) A3 (.int .i64 0)) (.int .i64 0)) (.int .u64 0)) (.int .u64 0)
    have HE := hide e
    have B4 : Hid (Below rb w ((((w3.setCell ⟨rb, 0, none⟩ (.int .i64 0)).setCell ⟨rb, 1, none⟩ (.int .i64 0)).setCell ⟨rb, 2, none⟩ (.int .u64 0)).setCell ⟨rb, 3, none⟩ (.int .u64 0))) :=
      hide ((((HB3.out.setCell (p := ⟨rb, 0, none⟩) hl _).setCell (p := ⟨rb, 1, none⟩) hl _).setCell (p := ⟨rb, 2, none⟩) hl _).setCell (p := ⟨rb, 3, none⟩) hl _)
    have HRB := hide hrb
    clear e hrb A3
    go_wp2
    clear r0 r1 r2 r3 fr HB3
    generalize ((((w3.setCell ⟨rb, 0, none⟩ (.int .i64 0)).setCell ⟨rb, 1, none⟩ (.int .i64 0)).setCell ⟨rb, 2, none⟩ (.int .u64 0)).setCell ⟨rb, 3, none⟩ (.int .u64 0)) = w4 at *
    have z0 : w4.cell? ⟨rb, 0, none⟩ = some (.int .i64 0) := cell_of_heap HE.out
    have z1 : w4.cell? ⟨rb, 1, none⟩ = some (.int .i64 0) := cell_of_heap HE.out
    have z2 : w4.cell? ⟨rb, 2, none⟩ = some (.int .u64 0) := cell_of_heap HE.out
    have z3 : w4.cell? ⟨rb, 3, none⟩ = some (.int .u64 0) := cell_of_heap HE.out
    refine bodyPost_ret (by simp [results, Tryd.results41, z0, z1, z2, z3, go_sem]; try rfl) rfl ?_
    exact ⟨rfl, by rw [HRB.out]; exact B4.out⟩
  · by_cases hp : P' = P
    · have dt : (T' == T) = false := by rw [beq_eq_false_iff_ne]; exact HNE.out.resolve_left (fun h => h hp)
      have HP' := hide hp
      have dp : (P' == P) = true := by simp [hp]
      clear hp
      go_upto_region 2 with fail
      have hne : Nonempty (Over w2) := ⟨⟨_, Below.refl _ _⟩⟩
      have u0 := fun u => over_cell ((cell_of_heap HM2.out).trans H0.out : w2.cell? ⟨m, 0, none⟩ = some (.int .i64 P)) u
      have u1 := fun u => over_cell ((cell_of_heap HM2.out).trans H1.out : w2.cell? ⟨m, 1, none⟩ = some (.int .i64 T)) u
      have HLO := fun u : Over w2 => hide (HL.out u.w' (HB2.out.trans (u.h.mono HB2.out.size)))
      refine over_region (by kernel_rfl) (by kernel_rfl) ?_
      repeat (go_big_quiet_step (first | (go_at_call 25; exact over_call _ (HLO _).out)))
      refine wpQuiet_nil ?_
      rintro _ ⟨u, rfl⟩
      have HB3 := hide (HB2.out.trans (u.h.mono HB2.out.size))
      have A3 := (u.h.block _ (lt_of_heap HA2.out)).trans HA2.out
      clear HB2 HA2 HM2 u0 u1 hne HLO
      generalize u.w' = w3 at *
      clear u
      have hl := Nat.le_refl w.heap.size
      generalize hrb : w.heap.size = rb at *
      have r0 : w3.cell? ⟨rb, 0, none⟩ = some (.int .i64 0) := cell_of_heap A3
      have r1 : w3.cell? ⟨rb, 1, none⟩ = some (.int .i64 0) := cell_of_heap A3
      have r2 : w3.cell? ⟨rb, 2, none⟩ = some (.int .u64 0) := cell_of_heap A3
      have r3 : w3.cell? ⟨rb, 3, none⟩ = some (.int .u64 0) := cell_of_heap A3
      have fr : ∀ o, w3.frozen? ⟨rb, o, none⟩ = false := fun o => frozen_of_heap A3
      have e := heap_setCell_at (o := 3) (heap_setCell_at (o := 2) (heap_setCell_at (o := 1) (heap_setCell_at (o := 0) A3 (.int .i64 0)) (.int .i64 0)) (.int .u64 0)) (.int .u64 0)
      have HE := hide e
      have B4 : Hid (Below rb w ((((w3.setCell ⟨rb, 0, none⟩ (.int .i64 0)).setCell ⟨rb, 1, none⟩ (.int .i64 0)).setCell ⟨rb, 2, none⟩ (.int .u64 0)).setCell ⟨rb, 3, none⟩ (.int .u64 0))) :=
        hide ((((HB3.out.setCell (p := ⟨rb, 0, none⟩) hl _).setCell (p := ⟨rb, 1, none⟩) hl _).setCell (p := ⟨rb, 2, none⟩) hl _).setCell (p := ⟨rb, 3, none⟩) hl _)
      have HRB := hide hrb
      clear e hrb A3
      go_wp2
      clear r0 r1 r2 r3 fr HB3
      generalize ((((w3.setCell ⟨rb, 0, none⟩ (.int .i64 0)).setCell ⟨rb, 1, none⟩ (.int .i64 0)).setCell ⟨rb, 2, none⟩ (.int .u64 0)).setCell ⟨rb, 3, none⟩ (.int .u64 0)) = w4 at *
      have z0 : w4.cell? ⟨rb, 0, none⟩ = some (.int .i64 0) := cell_of_heap HE.out
      have z1 : w4.cell? ⟨rb, 1, none⟩ = some (.int .i64 0) := cell_of_heap HE.out
      have z2 : w4.cell? ⟨rb, 2, none⟩ = some (.int .u64 0) := cell_of_heap HE.out
      have z3 : w4.cell? ⟨rb, 3, none⟩ = some (.int .u64 0) := cell_of_heap HE.out
      refine bodyPost_ret (by simp [results, Tryd.results41, z0, z1, z2, z3, go_sem]; try rfl) rfl ?_
      exact ⟨rfl, by rw [HRB.out]; exact B4.out⟩
    · have dp : (P' == P) = false := by rw [beq_eq_false_iff_ne]; exact hp
      clear hp
      go_upto_region 2 with fail
      have hne : Nonempty (Over w2) := ⟨⟨_, Below.refl _ _⟩⟩
      have u0 := fun u => over_cell ((cell_of_heap HM2.out).trans H0.out : w2.cell? ⟨m, 0, none⟩ = some (.int .i64 P)) u
      have u1 := fun u => over_cell ((cell_of_heap HM2.out).trans H1.out : w2.cell? ⟨m, 1, none⟩ = some (.int .i64 T)) u
      have HLO := fun u : Over w2 => hide (HL.out u.w' (HB2.out.trans (u.h.mono HB2.out.size)))
      refine over_region (by kernel_rfl) (by kernel_rfl) ?_
      repeat (go_big_quiet_step (first | (go_at_call 25; exact over_call _ (HLO _).out)))
      refine wpQuiet_nil ?_
      rintro _ ⟨u, rfl⟩
      have HB3 := hide (HB2.out.trans (u.h.mono HB2.out.size))
      have A3 := (u.h.block _ (lt_of_heap HA2.out)).trans HA2.out
      clear HB2 HA2 HM2 u0 u1 hne HLO
      generalize u.w' = w3 at *
      clear u
      have hl := Nat.le_refl w.heap.size
      generalize hrb : w.heap.size = rb at *
      have r0 : w3.cell? ⟨rb, 0, none⟩ = some (.int .i64 0) := cell_of_heap A3
      have r1 : w3.cell? ⟨rb, 1, none⟩ = some (.int .i64 0) := cell_of_heap A3
      have r2 : w3.cell? ⟨rb, 2, none⟩ = some (.int .u64 0) := cell_of_heap A3
      have r3 : w3.cell? ⟨rb, 3, none⟩ = some (.int .u64 0) := cell_of_heap A3
      have fr : ∀ o, w3.frozen? ⟨rb, o, none⟩ = false := fun o => frozen_of_heap A3
      have e := heap_setCell_at (o := 3) (heap_setCell_at (o := 2) (heap_setCell_at (o := 1) (heap_setCell_at (o := 0) A3 (.int .i64 0)) (.int .i64 0)) (.int .u64 0)) (.int .u64 0)
      have HE := hide e
      have B4 : Hid (Below rb w ((((w3.setCell ⟨rb, 0, none⟩ (.int .i64 0)).setCell ⟨rb, 1, none⟩ (.int .i64 0)).setCell ⟨rb, 2, none⟩ (.int .u64 0)).setCell ⟨rb, 3, none⟩ (.int .u64 0))) :=
        hide ((((HB3.out.setCell (p := ⟨rb, 0, none⟩) hl _).setCell (p := ⟨rb, 1, none⟩) hl _).setCell (p := ⟨rb, 2, none⟩) hl _).setCell (p := ⟨rb, 3, none⟩) hl _)
      have HRB := hide hrb
      clear e hrb A3
      go_wp2
      clear r0 r1 r2 r3 fr HB3
      generalize ((((w3.setCell ⟨rb, 0, none⟩ (.int .i64 0)).setCell ⟨rb, 1, none⟩ (.int .i64 0)).setCell ⟨rb, 2, none⟩ (.int .u64 0)).setCell ⟨rb, 3, none⟩ (.int .u64 0)) = w4 at *
      have z0 : w4.cell? ⟨rb, 0, none⟩ = some (.int .i64 0) := cell_of_heap HE.out
      have z1 : w4.cell? ⟨rb, 1, none⟩ = some (.int .i64 0) := cell_of_heap HE.out
      have z2 : w4.cell? ⟨rb, 2, none⟩ = some (.int .u64 0) := cell_of_heap HE.out
      have z3 : w4.cell? ⟨rb, 3, none⟩ = some (.int .u64 0) := cell_of_heap HE.out
      refine bodyPost_ret (by simp [results, Tryd.results41, z0, z1, z2, z3, go_sem]; try rfl) rfl ?_
      exact ⟨rfl, by rw [HRB.out]; exact B4.out⟩

set_option maxRecDepth 100000 in
set_option maxHeartbeats 4000000 in
theorem layNo (P T : Int) (pg n : Nat) (bs al st : Nat) (m q : Nat) (qa : Option Addr) (w : World) (hS : Strange q P T qa w) (hP : 1 ≤ P) (hn1 : 1 ≤ n) (hn : n ≤ 4096) (hp : pg ≤ 4096) (hm : w.heap[m]? = some (layM P T (pg : Int) (n : Int) 0 bs al st)) :
    Calls Tryd.prog 12 #[.pointer (some ⟨m, 0, none⟩), .pointer qa] w fun e w' => e = .returned noDid ∧ Below w.heap.size w w' := by
  have A1 := hide (heap_alloc_at w (.cells #[.int .i64 0, .int .i64 0, .int .u64 0, .int .u64 0] 34))
  have B1 := hide (grown1 w (.cells #[.int .i64 0, .int .i64 0, .int .u64 0, .int .u64 0] 34))
  have HPUT := hide (fun (W : World) (b : Below w.heap.size w W) (kind page v : Int) => putNo (hS.below b) hP ((b.block _ (lt_of_heap hm)).trans hm) rfl rfl kind page v)
  have HDN := hide (fun (W : World) (hb : W.heap[m]? = some (layM P T (pg : Int) (n : Int) 0 bs al st)) => by
    have := layDone W m P T (pg : Int) n 0 bs al st hn hb
    rw [decide_eq_false (by omega)] at this
    exact this)
  have HM := hide (fun (W : World) (b : Below w.heap.size w W) => (b.block _ (lt_of_heap hm)).trans hm)
  have t0 : ((0 - (n : Int)) == 0) = false := by rw [beq_eq_false_iff_ne]; omega
  have t1 : ((0 - (n : Int)) == 1) = false := by rw [beq_eq_false_iff_ne]; omega
  have t2 : ((0 - (n : Int)) == 2) = false := by rw [beq_eq_false_iff_ne]; omega
  have t3 : ((0 - (n : Int)) == 3) = false := by rw [beq_eq_false_iff_ne]; omega
  clear hS hm hP
  go_enter Tryd.func12, Tryd.ntmps12
  go_wp2_with fail
  generalize w.alloc (.cells #[.int .i64 0, .int .i64 0, .int .u64 0, .int .u64 0] 34) = w1 at *
  refine (HDN.out _ (HM.out _ B1.out)).mono ?_
  rintro e w2 ⟨rfl, n1, rfl⟩
  have A2 := hide ((((Alike.drewN w1 n1).below _).block _ (lt_of_heap A1.out)).trans A1.out)
  have B2 := hide (below_drewN B1.out n1)
  clear A1 B1 HDN
  generalize w1.drewN n1 = w2 at *
  have y4 : w2.cell? ⟨m, 4, none⟩ = some (.int .i64 0) := cell_of_heap (HM.out _ B2.out)
  have y3 : w2.cell? ⟨m, 3, none⟩ = some (.int .i64 (n : Int)) := cell_of_heap (HM.out _ B2.out)
  go_wp2
  go_quiet (fail)
  go_wp2
  clear t0 t1 t2 t3 y3 y4
  have A3 := hide ((((Alike.drewN w2 nq).below _).block _ (lt_of_heap A2.out)).trans A2.out)
  have B3 := hide (below_drewN B2.out nq)
  clear A2 B2
  generalize w2.drewN nq = w3 at *
  have A4 := hide ((((Alike.drewN w3 1).below _).block _ (lt_of_heap A3.out)).trans A3.out)
  have B4 : Hid (Below w.heap.size w w3.drew) := hide (below_drewN B3.out 1)
  clear A3 B3
  have y2 : w3.drew.cell? ⟨m, 2, none⟩ = some (.int .i64 (pg : Int)) := cell_of_heap (HM.out _ B4.out)
  have y4 : w3.drew.cell? ⟨m, 4, none⟩ = some (.int .i64 0) := cell_of_heap (HM.out _ B4.out)
  have HA4 : Hid (w3.drew.heap[w.heap.size]? = some (.cells #[.int .i64 0, .int .i64 0, .int .u64 0, .int .u64 0] 34 (0, 0))) := hide A4.out
  clear A4
  refine startM 22 (by kernel_rfl) ?_
  generalize w3.drew = wd at *
  refine readsM (fuel := 2) (by kernel_rfl) (fun _ _ _ _ _ h => h) [0, 1, 2, 3, 4, 5, 6, 7, 8, 9, 10, 11, 12, 13, 14, 15, 16, 17, 18, 19, 20, 21] (by kernel_rfl) (by kernel_rfl) (by kernel_rfl) ?_
  simp only [List.filterMap_cons, List.filterMap_nil, List.getElem?_toArray, List.getElem?_cons_zero, List.getElem?_cons_succ]
  show wpQuiet _ _ _ _ [_, _, _, _, _, _, _, _, _, _, _, _, _, _, _, _, _, _, _, _, _, _] _
  repeat (go_big_quiet_step (fail))
  refine wpQuiet_nil ?_
  refine turnM (j := 22) rfl (by kernel_rfl) rfl (fun K' hK => ?_)
  go_simp
  refine (HPUT.out _ B4.out _ _ _).mono ?_
  rintro e w4 ⟨rfl, b4⟩
  have B5 := hide (B4.out.trans (b4.mono B4.out.size))
  have A5 := (b4.block _ (lt_of_heap HA4.out)).trans HA4.out
  refine hK _ _ ?_
  clear hK K' b4 B4 HA4 HPUT y2 y4
  have r0 : w4.cell? ⟨w.heap.size, 0, none⟩ = some (.int .i64 0) := cell_of_heap A5
  have r1 : w4.cell? ⟨w.heap.size, 1, none⟩ = some (.int .i64 0) := cell_of_heap A5
  have r2 : w4.cell? ⟨w.heap.size, 2, none⟩ = some (.int .u64 0) := cell_of_heap A5
  have r3 : w4.cell? ⟨w.heap.size, 3, none⟩ = some (.int .u64 0) := cell_of_heap A5
  have fr : ∀ o, w4.frozen? ⟨w.heap.size, o, none⟩ = false := fun o => frozen_of_heap A5
  have e := heap_setCell_at (o := 3) (heap_setCell_at (o := 2) (heap_setCell_at (o := 1) (heap_setCell_at (o := 0) A5 (.int .i64 0)) (.int .i64 0)) (.int .u64 0)) (.int .u64 0)
  have HE := hide e
  have hl := Nat.le_refl w.heap.size
  have B6 : Hid (Below w.heap.size w ((((w4.setCell ⟨w.heap.size, 0, none⟩ (.int .i64 0)).setCell ⟨w.heap.size, 1, none⟩ (.int .i64 0)).setCell ⟨w.heap.size, 2, none⟩ (.int .u64 0)).setCell ⟨w.heap.size, 3, none⟩ (.int .u64 0))) :=
    hide ((((B5.out.setCell (p := ⟨w.heap.size, 0, none⟩) hl _).setCell (p := ⟨w.heap.size, 1, none⟩) hl _).setCell (p := ⟨w.heap.size, 2, none⟩) hl _).setCell (p := ⟨w.heap.size, 3, none⟩) hl _)
  clear e A5 B5 hl
  refine lastM (k := 23) rfl (by kernel_rfl) (by kernel_rfl) rfl (fun K' hK => ?_)
  unfold noDid
  go_simp
  refine hK _ _ ?_
  clear hK K' r0 r1 r2 r3 fr
  generalize ((((w4.setCell ⟨w.heap.size, 0, none⟩ (.int .i64 0)).setCell ⟨w.heap.size, 1, none⟩ (.int .i64 0)).setCell ⟨w.heap.size, 2, none⟩ (.int .u64 0)).setCell ⟨w.heap.size, 3, none⟩ (.int .u64 0)) = w5 at *
  have z0 : w5.cell? ⟨w.heap.size, 0, none⟩ = some (.int .i64 0) := cell_of_heap HE.out
  have z1 : w5.cell? ⟨w.heap.size, 1, none⟩ = some (.int .i64 0) := cell_of_heap HE.out
  have z2 : w5.cell? ⟨w.heap.size, 2, none⟩ = some (.int .u64 0) := cell_of_heap HE.out
  have z3 : w5.cell? ⟨w.heap.size, 3, none⟩ = some (.int .u64 0) := cell_of_heap HE.out
  go_wp2
  refine bodyPost_ret (by simp [results, Tryd.results12, z0, z1, z2, z3, go_sem]; try rfl) rfl ?_
  exact ⟨rfl, B6.out⟩
theorem layNilStep (w : World) (qa : Option Addr) :
    Calls Tryd.prog 12 #[.pointer none, .pointer qa] w fun e w' => e = .returned noDid ∧ Below w.heap.size w w' := by
  have B2 := hide (grown1 w (.cells #[.int .i64 0, .int .i64 0, .int .u64 0, .int .u64 0] 34))
  go_enter Tryd.func12, Tryd.ntmps12
  go_wp2_with fail
  exact bodyPost_ret (v := noDid) (by simp [results, Tryd.results12, go_sem, noDid]; try rfl) rfl ⟨rfl, B2.out⟩
theorem layNilDone (w : World) :
    Calls Tryd.prog 11 #[.pointer none] w fun e w' => e = .returned (.bool false) ∧ Below w.heap.size w w' := by
  go_enter Tryd.func11, Tryd.ntmps11
  go_wp2
  go_quiet (fail)
  go_wp2
  go_ret
  exact ⟨rfl, below_drewN (Below.refl _ _) _⟩
abbrev IdleLay (q : Nat) (v : Value) (w : World) : Prop := Idle 12 11 q v w
theorem layNilIdle (q : Nat) (w : World) : IdleLay q (.pointer none) w :=
  ⟨fun qa _ u _ => layNilStep u qa, fun u _ => layNilDone u⟩
theorem layNewIdle (P T : Int) (pg n : Nat) (bs al st : Nat) {q m : Nat} {w : World} (k : w.heap[m]? = some (layM P T (pg : Int) (n : Int) 0 bs al st)) (hP : 1 ≤ P) (hn1 : 1 ≤ n) (hn : n ≤ 4096) (hp : pg ≤ 4096) {p r l : Nat} {P' T' : Int} (ka : ArAt q P' T' p r l w) (hne : P' ≠ P ∨ T' ≠ T) : IdleLay q (.pointer (some ⟨m, 0, none⟩)) w := by
  refine ⟨fun qa hq u hu => ?_, fun u hu => ?_⟩
  · refine layNo P T pg n bs al st m q qa u ?_ hP hn1 hn hp ((hu.block _ (lt_of_heap k)).trans k)
    rcases hq with rfl | rfl
    · exact .inl rfl
    · exact .inr ⟨rfl, P', T', p, r, l, ka.below hu, hne⟩
  · have := layDone u m P T (pg : Int) n 0 bs al st hn ((hu.block _ (lt_of_heap k)).trans k)
    rw [decide_eq_false (by omega)] at this
    exact this.mono fun _ _ ⟨h1, n2, h2⟩ => ⟨h1, by rw [h2]; exact below_drewN (Below.refl _ _) _⟩

set_option maxRecDepth 100000 in
set_option maxHeartbeats 4000000 in
theorem goneNo (P T : Int) (pg n : Nat) (m q : Nat) (qa : Option Addr) (w : World) (hS : Strange q P T qa w) (hP : 1 ≤ P) (hn1 : 1 ≤ n) (hn : n ≤ 4096) (hp : pg ≤ 4096) (hm : w.heap[m]? = some (goneM P T (pg : Int) (n : Int) 0)) :
    Calls Tryd.prog 17 #[.pointer (some ⟨m, 0, none⟩), .pointer qa] w fun e w' => e = .returned noDid ∧ Below w.heap.size w w' := by
  have A1 := hide (heap_alloc_at w (.cells #[.int .i64 0, .int .i64 0, .int .u64 0, .int .u64 0] 34))
  have B1 := hide (grown1 w (.cells #[.int .i64 0, .int .i64 0, .int .u64 0, .int .u64 0] 34))
  have HPUT := hide (fun (W : World) (b : Below w.heap.size w W) (kind page v : Int) => putNo (hS.below b) hP ((b.block _ (lt_of_heap hm)).trans hm) rfl rfl kind page v)
  have HDN := hide (fun (W : World) (hb : W.heap[m]? = some (goneM P T (pg : Int) (n : Int) 0)) => by
    have := goneDone W m P T (pg : Int) n 0 hn hb
    rw [decide_eq_false (by omega)] at this
    exact this)
  have HM := hide (fun (W : World) (b : Below w.heap.size w W) => (b.block _ (lt_of_heap hm)).trans hm)
  have t0 : ((0 : Int) == (n : Int)) = false := by rw [beq_eq_false_iff_ne]; omega
  clear hS hm hP
  go_enter Tryd.func17, Tryd.ntmps17
  go_wp2_with fail
  generalize w.alloc (.cells #[.int .i64 0, .int .i64 0, .int .u64 0, .int .u64 0] 34) = w1 at *
  refine (HDN.out _ (HM.out _ B1.out)).mono ?_
  rintro e w2 ⟨rfl, n1, rfl⟩
  have A2 := hide ((((Alike.drewN w1 n1).below _).block _ (lt_of_heap A1.out)).trans A1.out)
  have B2 := hide (below_drewN B1.out n1)
  clear A1 B1 HDN
  generalize w1.drewN n1 = w2 at *
  have y4 : w2.cell? ⟨m, 4, none⟩ = some (.int .i64 0) := cell_of_heap (HM.out _ B2.out)
  have y3 : w2.cell? ⟨m, 3, none⟩ = some (.int .i64 (n : Int)) := cell_of_heap (HM.out _ B2.out)
  go_wp2
  go_quiet (fail)
  go_wp2
  clear t0 y3 y4
  have A3 := hide ((((Alike.drewN w2 nq).below _).block _ (lt_of_heap A2.out)).trans A2.out)
  have B3 := hide (below_drewN B2.out nq)
  clear A2 B2
  generalize w2.drewN nq = w3 at *
  have A4 := hide ((((Alike.drewN w3 1).below _).block _ (lt_of_heap A3.out)).trans A3.out)
  have B4 : Hid (Below w.heap.size w w3.drew) := hide (below_drewN B3.out 1)
  clear A3 B3
  have y2 : w3.drew.cell? ⟨m, 2, none⟩ = some (.int .i64 (pg : Int)) := cell_of_heap (HM.out _ B4.out)
  have y4 : w3.drew.cell? ⟨m, 4, none⟩ = some (.int .i64 0) := cell_of_heap (HM.out _ B4.out)
  have HA4 : Hid (w3.drew.heap[w.heap.size]? = some (.cells #[.int .i64 0, .int .i64 0, .int .u64 0, .int .u64 0] 34 (0, 0))) := hide A4.out
  clear A4
  refine startM 15 (by kernel_rfl) ?_
  generalize w3.drew = wd at *
  refine readsM (fuel := 2) (by kernel_rfl) (fun _ _ _ _ _ h => h) [0, 1, 2, 3, 4, 5, 6, 7, 8, 9, 10, 11, 12, 13, 14] (by kernel_rfl) (by kernel_rfl) (by kernel_rfl) ?_
  simp only [List.filterMap_cons, List.filterMap_nil, List.getElem?_toArray, List.getElem?_cons_zero, List.getElem?_cons_succ]
  show wpQuiet _ _ _ _ [_, _, _, _, _, _, _, _, _, _, _, _, _, _, _] _
  repeat (go_big_quiet_step (fail))
  refine wpQuiet_nil ?_
  refine turnM (j := 15) rfl (by kernel_rfl) rfl (fun K' hK => ?_)
  go_simp
  refine (HPUT.out _ B4.out _ _ _).mono ?_
  rintro e w4 ⟨rfl, b4⟩
  have B5 := hide (B4.out.trans (b4.mono B4.out.size))
  have A5 := (b4.block _ (lt_of_heap HA4.out)).trans HA4.out
  refine hK _ _ ?_
  clear hK K' b4 B4 HA4 HPUT y2 y4
  have r0 : w4.cell? ⟨w.heap.size, 0, none⟩ = some (.int .i64 0) := cell_of_heap A5
  have r1 : w4.cell? ⟨w.heap.size, 1, none⟩ = some (.int .i64 0) := cell_of_heap A5
  have r2 : w4.cell? ⟨w.heap.size, 2, none⟩ = some (.int .u64 0) := cell_of_heap A5
  have r3 : w4.cell? ⟨w.heap.size, 3, none⟩ = some (.int .u64 0) := cell_of_heap A5
  have fr : ∀ o, w4.frozen? ⟨w.heap.size, o, none⟩ = false := fun o => frozen_of_heap A5
  have e := heap_setCell_at (o := 3) (heap_setCell_at (o := 2) (heap_setCell_at (o := 1) (heap_setCell_at (o := 0) A5 (.int .i64 0)) (.int .i64 0)) (.int .u64 0)) (.int .u64 0)
  have HE := hide e
  have hl := Nat.le_refl w.heap.size
  have B6 : Hid (Below w.heap.size w ((((w4.setCell ⟨w.heap.size, 0, none⟩ (.int .i64 0)).setCell ⟨w.heap.size, 1, none⟩ (.int .i64 0)).setCell ⟨w.heap.size, 2, none⟩ (.int .u64 0)).setCell ⟨w.heap.size, 3, none⟩ (.int .u64 0))) :=
    hide ((((B5.out.setCell (p := ⟨w.heap.size, 0, none⟩) hl _).setCell (p := ⟨w.heap.size, 1, none⟩) hl _).setCell (p := ⟨w.heap.size, 2, none⟩) hl _).setCell (p := ⟨w.heap.size, 3, none⟩) hl _)
  clear e A5 B5 hl
  refine lastM (k := 16) rfl (by kernel_rfl) (by kernel_rfl) rfl (fun K' hK => ?_)
  unfold noDid
  go_simp
  refine hK _ _ ?_
  clear hK K' r0 r1 r2 r3 fr
  generalize ((((w4.setCell ⟨w.heap.size, 0, none⟩ (.int .i64 0)).setCell ⟨w.heap.size, 1, none⟩ (.int .i64 0)).setCell ⟨w.heap.size, 2, none⟩ (.int .u64 0)).setCell ⟨w.heap.size, 3, none⟩ (.int .u64 0)) = w5 at *
  have z0 : w5.cell? ⟨w.heap.size, 0, none⟩ = some (.int .i64 0) := cell_of_heap HE.out
  have z1 : w5.cell? ⟨w.heap.size, 1, none⟩ = some (.int .i64 0) := cell_of_heap HE.out
  have z2 : w5.cell? ⟨w.heap.size, 2, none⟩ = some (.int .u64 0) := cell_of_heap HE.out
  have z3 : w5.cell? ⟨w.heap.size, 3, none⟩ = some (.int .u64 0) := cell_of_heap HE.out
  go_wp2
  refine bodyPost_ret (by simp [results, Tryd.results17, z0, z1, z2, z3, go_sem]; try rfl) rfl ?_
  exact ⟨rfl, B6.out⟩
theorem goneNilStep (w : World) (qa : Option Addr) :
    Calls Tryd.prog 17 #[.pointer none, .pointer qa] w fun e w' => e = .returned noDid ∧ Below w.heap.size w w' := by
  have B2 := hide (grown1 w (.cells #[.int .i64 0, .int .i64 0, .int .u64 0, .int .u64 0] 34))
  go_enter Tryd.func17, Tryd.ntmps17
  go_wp2_with fail
  exact bodyPost_ret (v := noDid) (by simp [results, Tryd.results17, go_sem, noDid]; try rfl) rfl ⟨rfl, B2.out⟩
theorem goneNilDone (w : World) :
    Calls Tryd.prog 16 #[.pointer none] w fun e w' => e = .returned (.bool false) ∧ Below w.heap.size w w' := by
  go_enter Tryd.func16, Tryd.ntmps16
  go_wp2
  go_quiet (fail)
  go_wp2
  go_ret
  exact ⟨rfl, below_drewN (Below.refl _ _) _⟩
abbrev IdleGone (q : Nat) (v : Value) (w : World) : Prop := Idle 17 16 q v w
theorem goneNilIdle (q : Nat) (w : World) : IdleGone q (.pointer none) w :=
  ⟨fun qa _ u _ => goneNilStep u qa, fun u _ => goneNilDone u⟩
theorem goneNewIdle (P T : Int) (pg n : Nat) {q m : Nat} {w : World} (k : w.heap[m]? = some (goneM P T (pg : Int) (n : Int) 0)) (hP : 1 ≤ P) (hn1 : 1 ≤ n) (hn : n ≤ 4096) (hp : pg ≤ 4096) {p r l : Nat} {P' T' : Int} (ka : ArAt q P' T' p r l w) (hne : P' ≠ P ∨ T' ≠ T) : IdleGone q (.pointer (some ⟨m, 0, none⟩)) w := by
  refine ⟨fun qa hq u hu => ?_, fun u hu => ?_⟩
  · refine goneNo P T pg n m q qa u ?_ hP hn1 hn hp ((hu.block _ (lt_of_heap k)).trans k)
    rcases hq with rfl | rfl
    · exact .inl rfl
    · exact .inr ⟨rfl, P', T', p, r, l, ka.below hu, hne⟩
  · have := goneDone u m P T (pg : Int) n 0 hn ((hu.block _ (lt_of_heap k)).trans k)
    rw [decide_eq_false (by omega)] at this
    exact this.mono fun _ _ ⟨h1, n2, h2⟩ => ⟨h1, by rw [h2]; exact below_drewN (Below.refl _ _) _⟩
end Go.Proofs.YtgdliebllmgibaaDoor
