/- Package record: new machines; what they hold. -/
import Derived.Test.YtgdliebllmgibaaDoorRec
import Derived.Test.YtgdliebllmgibaaDoorPhaseL
import Derived.Test.YtgdliebllmgibaaDoorLayFns
import Derived.Test.YtgdliebllmgibaaDoorClsRows
import Derived.Test.YtgdliebllmgibaaDoorPhCalls
namespace Go.Proofs.YtgdliebllmgibaaDoor
open Go.RowKit

def layC (P T pg n d : Int) (bs al st : Nat) : Array Value := #[.int .i64 P, .int .i64 T, .int .i64 pg, .int .i64 n, .int .i64 d, .int .u64 (bs : Int), .int .u64 (al : Int), .int .u64 (st : Int)]
def goneC (P T pg n d : Int) : Array Value := #[.int .i64 P, .int .i64 T, .int .i64 pg, .int .i64 n, .int .i64 d]
def layM (P T pg n d : Int) (bs al st : Nat) : Obj := .cells (layC P T pg n d bs al st) 88 (0, 0)
def goneM (P T pg n d : Int) : Obj := .cells (goneC P T pg n d) 90 (0, 0)
/-- Has a layout all these pages, and one at least? -/
def hasPg (P T pg n : Int) : Bool := Lay.may P T && decide (0 ≤ pg) && decide (1 ≤ n) && decide (n ≤ P - pg)
theorem hasPg_iff {P T pg n : Int} : hasPg P T pg n = true ↔ Lay.may P T = true ∧ 0 ≤ pg ∧ 1 ≤ n ∧ n ≤ P - pg := by unfold hasPg; simp only [Bool.and_eq_true, decide_eq_true_eq]; exact ⟨fun ⟨⟨⟨a, b⟩, c⟩, d⟩ => ⟨a, b, c, d⟩, fun ⟨a, b, c, d⟩ => ⟨⟨⟨a, b⟩, c⟩, d⟩⟩
/-- The slots of a class, as bits. -/
def slotsB (c : Int) : Nat := Plain.ones (Plain.hold (Cls.slots c))
/-- May a span of a class have so many pages, and these slots allocated? -/
def mayB (c n : Int) (al : Nat) : Bool := decide (0 ≤ c) && decide (c ≤ 14) && (decide (c = 14) || decide (n = (Cls.pages c : Int))) && decide (al ≤ slotsB c)
theorem mayB_iff {c n : Int} {al : Nat} : mayB c n al = true ↔ 0 ≤ c ∧ c ≤ 14 ∧ (c = 14 ∨ n = (Cls.pages c : Int)) ∧ al ≤ slotsB c := by
  unfold mayB; simp only [Bool.and_eq_true, Bool.or_eq_true, decide_eq_true_eq]
  exact ⟨fun ⟨⟨⟨a, b⟩, c⟩, d⟩ => ⟨a, b, c, d⟩, fun ⟨a, b, c, d⟩ => ⟨⟨⟨a, b⟩, c⟩, d⟩⟩

set_option maxHeartbeats 1000000 in
theorem hasR (P T pg n : Int) (hpg : pg ≤ 9223372036854775807) (w : World) :
    Calls Tryd.prog 35 #[.agg #[.int .i64 P, .int .i64 T], .int .i64 pg, .int .i64 n] w fun e w' => e = .returned (.bool (hasPg P T pg n)) ∧ Below w.heap.size w w' := by
  have M := hide (fun w => lmay P T w)
  unfold hasPg
  cases hm : Lay.may P T
  · rw [hm] at M
    clear hm
    go_enter Tryd.func35, Tryd.ntmps35
    have B0 := LBox.new w P T 24
    have c0 := B0.c0
    have c1 := B0.c1
    go_wp2_with fail
    refine (M.out _).mono ?_
    rintro e w1 ⟨rfl, hb⟩
    have B1 := LBox.grow (by assumption) hb
    have c0 := B1.c0
    have c1 := B1.c1
    go_wp2
    go_ret
    exact ⟨rfl, B1.below⟩
  · rw [hm] at M
    obtain ⟨m1, m2, m3, m4⟩ := Lay.may_iff.1 hm
    clear hm
    by_cases h0 : 0 ≤ pg
    · have d0 : decide (pg ≥ 0) = true := by simp; omega
      by_cases h1 : 1 ≤ n
      · have d1 : decide (n ≥ 1) = true := by simp; omega
        rw [decide_eq_true h0, decide_eq_true h1]
        go_enter Tryd.func35, Tryd.ntmps35
        have B0 := LBox.new w P T 24
        have c0 := B0.c0
        have c1 := B0.c1
        go_wp2_with fail
        refine (M.out _).mono ?_
        rintro e w1 ⟨rfl, hb⟩
        have B1 := LBox.grow (by assumption) hb
        have c0 := B1.c0
        have c1 := B1.c1
        go_wp2
        go_ret
        exact ⟨rfl, B1.below⟩
      · have d1 : decide (n ≥ 1) = false := by simp; omega
        rw [decide_eq_false h1, Bool.and_false, Bool.false_and]
        go_enter Tryd.func35, Tryd.ntmps35
        have B0 := LBox.new w P T 24
        have c0 := B0.c0
        have c1 := B0.c1
        go_wp2_with fail
        refine (M.out _).mono ?_
        rintro e w1 ⟨rfl, hb⟩
        have B1 := LBox.grow (by assumption) hb
        have c0 := B1.c0
        have c1 := B1.c1
        go_wp2
        go_ret
        exact ⟨rfl, B1.below⟩
    · have d0 : decide (pg ≥ 0) = false := by simp; omega
      rw [decide_eq_false h0, Bool.and_false, Bool.false_and, Bool.false_and]
      go_enter Tryd.func35, Tryd.ntmps35
      have B0 := LBox.new w P T 24
      have c0 := B0.c0
      have c1 := B0.c1
      go_wp2_with fail
      refine (M.out _).mono ?_
      rintro e w1 ⟨rfl, hb⟩
      have B1 := LBox.grow (by assumption) hb
      have c0 := B1.c0
      have c1 := B1.c1
      go_wp2
      go_ret
      exact ⟨rfl, B1.below⟩

theorem baseR (c n : Int) (b : Nat) (hc : 0 ≤ c ∧ c ≤ 255) (hn : 0 ≤ n ∧ n ≤ 4096) (hb : (256 * n + c).toNat = b) (w : World) :
    Calls Tryd.prog 37 #[.int .i64 c, .int .i64 n] w fun e w' => e = .returned (.int .u64 (b : Int)) ∧ w' = w := by
  obtain ⟨c1, c2⟩ := hc
  obtain ⟨n1, n2⟩ := hn
  have e : (b : Int) = 256 * n + c := by omega
  rw [e]
  clear e hb
  go_enter Tryd.func37, Tryd.ntmps37
  go_wp2
  go_ret
  refine ⟨?_, rfl⟩
  first | rfl | (congr 2; try (simp only [IntKind.wrap_u64]; omega))

set_option maxHeartbeats 1000000 in
theorem mayR (c n : Int) (al : Nat) (w : World) (hT : ClsTab w) :
    Calls Tryd.prog 36 #[.int .i64 c, .int .i64 n, .int .u64 (al : Int)] w fun e w' => e = .returned (.bool (mayB c n al)) ∧ Below w.heap.size w w' := by
  have HP := hide (cpages c w hT)
  have HO := hide (fun w => ones15 (Cls.slots c : Int) w)
  have HS := hide (fun u (hu : Below w.heap.size w u) => cslots c u (hT.grown hu))
  unfold mayB slotsB
  obtain ⟨o, ho⟩ : ∃ o, Plain.ones (Plain.hold (Cls.slots c : Int)) = o := ⟨_, rfl⟩
  rw [ho] at HO ⊢
  obtain ⟨pc, hpc⟩ : ∃ pc : Int, (Cls.pages c : Int) = pc := ⟨_, rfl⟩
  rw [hpc] at HP ⊢
  clear ho hpc hT
  by_cases h0 : 0 ≤ c
  · have d0 : decide (c < 0) = false := by simp; omega
    rw [decide_eq_true h0]
    by_cases h1 : c ≤ 14
    · have d1 : decide (c > 14) = false := by simp; omega
      have d1' : decide (14 < c) = false := by simp; omega
      rw [decide_eq_true h1]
      by_cases h2 : c = 14
      · have d2 : decide (c < 14) = false := by simp; omega
        rw [decide_eq_true h2]
        have HB := hide (Below.refl w.heap.size w)
        clear h0 h1 h2 HP
        go_enter Tryd.func36, Tryd.ntmps36
        go_wp2_with fail
        refine (HS.out _ HB.out).mono ?_
        rintro e w2 ⟨rfl, hb2⟩
        go_wp2_with fail
        refine (HO.out _).mono ?_
        rintro e w3 ⟨rfl, rfl⟩
        go_wp2
        go_ret
        exact ⟨by simp, hb2⟩
      · have d2 : decide (c < 14) = true := by simp; omega
        rw [decide_eq_false h2]
        by_cases h3 : n = pc
        · have d3 : (n != pc) = false := by simp [h3]
          rw [decide_eq_true h3]
          have HD := hide d3
          clear h0 h1 h2 h3 d3
          go_enter Tryd.func36, Tryd.ntmps36
          go_wp2_with fail
          refine HP.out.mono ?_
          rintro e w1 ⟨rfl, hb1⟩
          have d3 := HD.out
          go_wp2_with fail
          refine (HS.out _ hb1).mono ?_
          rintro e w2 ⟨rfl, hb2⟩
          have HB := hide (hb1.trans (hb2.mono hb1.size))
          go_wp2_with fail
          refine (HO.out _).mono ?_
          rintro e w3 ⟨rfl, rfl⟩
          go_wp2
          go_ret
          exact ⟨by simp, HB.out⟩
        · have d3 : (n != pc) = true := by simp [h3]
          rw [decide_eq_false h3]
          have HD := hide d3
          clear h0 h1 h2 h3 d3
          go_enter Tryd.func36, Tryd.ntmps36
          go_wp2_with fail
          refine HP.out.mono ?_
          rintro e w1 ⟨rfl, hb1⟩
          have d3 := HD.out
          go_wp2
          go_ret
          exact ⟨rfl, hb1⟩
    · have d1 : decide (c > 14) = true := by simp; omega
      have d1' : decide (14 < c) = true := by simp; omega
      rw [decide_eq_false h1]
      clear h0 h1
      go_enter Tryd.func36, Tryd.ntmps36
      go_wp2
      go_ret
      exact ⟨rfl, Below.refl _ _⟩
  · have d0 : decide (c < 0) = true := by simp; omega
    rw [decide_eq_false h0]
    clear h0
    go_enter Tryd.func36, Tryd.ntmps36
    go_wp2
    go_ret
    exact ⟨rfl, Below.refl _ _⟩

def mayLay (P T pg c n g : Int) (al : Nat) : Bool := Ph.cyc g && hasPg P T pg n && mayB c n al

theorem newGoneNo (P T pg n : Int) (hpg : pg ≤ 9223372036854775807) (h : hasPg P T pg n = false) (w : World) :
    Calls Tryd.prog 9 #[.agg #[.int .i64 P, .int .i64 T], .int .i64 pg, .int .i64 n] w fun e w' => e = .returned (.pointer none) ∧ Below w.heap.size w w' := by
  have M := hide (fun w => hasR P T pg n hpg w)
  rw [h] at M
  clear h
  go_enter Tryd.func9, Tryd.ntmps9
  have B0 := LBox.new w P T 24
  have c0 := B0.c0
  have c1 := B0.c1
  go_wp2_with fail
  refine (M.out _).mono ?_
  rintro e w1 ⟨rfl, hb⟩
  have B1 := LBox.grow (by assumption) hb
  go_wp2
  go_ret
  exact ⟨rfl, B1.below⟩
theorem newGoneYes (P T pg n : Int) (hpg : pg ≤ 9223372036854775807) (h : hasPg P T pg n = true) (w : World) :
    Calls Tryd.prog 9 #[.agg #[.int .i64 P, .int .i64 T], .int .i64 pg, .int .i64 n] w fun e w' => ∃ m, e = .returned (.pointer (some ⟨m, 0, none⟩)) ∧ w'.heap[m]? = some (goneM P T pg n 0) ∧ w.heap.size ≤ m ∧ Below w.heap.size w w' := by
  have M := hide (fun w => hasR P T pg n hpg w)
  rw [h] at M
  clear h
  go_enter Tryd.func9, Tryd.ntmps9
  have B0 := LBox.new w P T 24
  have c0 := B0.c0
  have c1 := B0.c1
  go_wp2_with fail
  refine (M.out _).mono ?_
  rintro e w1 ⟨rfl, hb⟩
  have B1 := LBox.grow (by assumption) hb
  have c0 := B1.c0
  have c1 := B1.c1
  go_wp2
  go_ret
  exact ⟨_, rfl, heap_alloc_at _ _, B1.below.size, B1.below.alloc B1.below.size _⟩

/-- No lay. -/
theorem newLayNo (P T pg c n g : Int) (al : Nat) (hpg : pg ≤ 9223372036854775807) (h : mayLay P T pg c n g al = false) (w : World) (hT : ClsTab w) :
    Calls Tryd.prog 8 #[.agg #[.int .i64 P, .int .i64 T], .int .i64 pg, .int .i64 c, .int .i64 n, .int .i64 g, .int .u64 (al : Int)] w fun e w' => e = .returned (.pointer none) ∧ Below w.heap.size w w' := by
  have M := hide (fun w => hasR P T pg n hpg w)
  have K := hide (fun w => makeP g 2 w)
  have Y := hide (fun u (hu : Below w.heap.size w u) => mayR c n al u (hT.grown hu))
  have e2 : (Ph.make g 2).2 = Ph.cyc g := by unfold Ph.make; cases Ph.cyc g <;> rfl
  unfold mayLay at h
  rw [e2] at K
  obtain ⟨st, hst⟩ : ∃ st, (Ph.make g 2).1 = st := ⟨_, rfl⟩
  rw [hst] at K
  clear hst e2 hT
  cases hg : Ph.cyc g
  · rw [hg] at K
    clear h hg M Y
    go_enter Tryd.func8, Tryd.ntmps8
    have B0 := LBox.new w P T 24
    go_wp2_with fail
    refine (K.out _).mono ?_
    rintro e w1 ⟨rfl, rfl⟩
    go_wp2
    go_ret
    exact ⟨rfl, B0.below⟩
  · rw [hg] at K h
    cases hh : hasPg P T pg n
    · rw [hh] at M
      clear h hg hh Y
      go_enter Tryd.func8, Tryd.ntmps8
      have B0 := LBox.new w P T 24
      have c0 := B0.c0
      have c1 := B0.c1
      go_wp2_with fail
      refine (K.out _).mono ?_
      rintro e w1 ⟨rfl, rfl⟩
      go_wp2_with fail
      refine (M.out _).mono ?_
      rintro e w2 ⟨rfl, hb⟩
      have B1 := LBox.grow (by assumption) hb
      go_wp2
      go_ret
      exact ⟨rfl, B1.below⟩
    · rw [hh] at M h
      have hy : mayB c n al = false := by simpa using h
      rw [hy] at Y
      clear h hg hh hy
      go_enter Tryd.func8, Tryd.ntmps8
      have B0 := LBox.new w P T 24
      have c0 := B0.c0
      have c1 := B0.c1
      go_wp2_with fail
      refine (K.out _).mono ?_
      rintro e w1 ⟨rfl, rfl⟩
      go_wp2_with fail
      refine (M.out _).mono ?_
      rintro e w2 ⟨rfl, hb⟩
      have B1 := LBox.grow (by assumption) hb
      clear c0 c1 B0 hb
      go_wp2_with fail
      refine (Y.out _ B1.below).mono ?_
      rintro e w3 ⟨rfl, hb⟩
      have B2 := LBox.grow (by assumption) hb
      go_wp2
      go_ret
      exact ⟨rfl, B2.below⟩
set_option maxRecDepth 100000 in
set_option maxHeartbeats 2000000 in
/-- A lay. -/
theorem newLayYes (P T pg c n g : Int) (al : Nat) (hpg : pg ≤ 9223372036854775807) (h : mayLay P T pg c n g al = true) (w : World) (hT : ClsTab w) :
    Calls Tryd.prog 8 #[.agg #[.int .i64 P, .int .i64 T], .int .i64 pg, .int .i64 c, .int .i64 n, .int .i64 g, .int .u64 (al : Int)] w fun e w' => ∃ m, e = .returned (.pointer (some ⟨m, 0, none⟩)) ∧ w'.heap[m]? = some (layM P T pg n 0 (256 * n + c).toNat al (Ph.state g 2)) ∧ w.heap.size ≤ m ∧ Below w.heap.size w w' := by
  have M := hide (fun w => hasR P T pg n hpg w)
  have K := hide (fun w => makeP g 2 w)
  have Y := hide (fun u (hu : Below w.heap.size w u) => mayR c n al u (hT.grown hu))
  unfold mayLay at h
  simp only [Bool.and_eq_true] at h
  obtain ⟨⟨hg, hh⟩, hy⟩ := h
  rw [Ph.make_in hg (by decide)] at K
  rw [hh] at M
  rw [hy] at Y
  obtain ⟨a1, a2, a3, a4⟩ := hasPg_iff.1 hh
  obtain ⟨m1, m2, m3, m4⟩ := Lay.may_iff.1 a1
  obtain ⟨y1, y2, y3, y4⟩ := mayB_iff.1 hy
  obtain ⟨bs, hbs⟩ : ∃ bs, (256 * n + c).toNat = bs := ⟨_, rfl⟩
  have HB := hide (fun w => baseR c n bs ⟨y1, by omega⟩ ⟨by omega, by omega⟩ hbs w)
  rw [hbs]
  simp only at K
  obtain ⟨st, hst⟩ : ∃ st, Ph.state g 2 = st := ⟨_, rfl⟩
  rw [hst] at K ⊢
  clear hst hbs hg hh hy a1 a2 a3 a4 m1 m2 m3 m4 y1 y2 y3 y4 hT
  go_enter Tryd.func8, Tryd.ntmps8
  have B0 := LBox.new w P T 24
  have c0 := B0.c0
  have c1 := B0.c1
  go_wp2_with fail
  refine (K.out _).mono ?_
  rintro e w1 ⟨rfl, rfl⟩
  go_wp2_with fail
  refine (M.out _).mono ?_
  rintro e w2 ⟨rfl, hb⟩
  have B1 := LBox.grow (by assumption) hb
  clear c0 c1 B0 hb
  go_wp2_with fail
  refine (Y.out _ B1.below).mono ?_
  rintro e w3 ⟨rfl, hb⟩
  have B2 := LBox.grow (by assumption) hb
  clear B1 hb
  go_wp2
  have B3 := hide (B2.grow ((Alike.drewN w3 1).below _))
  clear B2
  generalize w.heap.size = bl at *
  have hne : Nonempty (Mem (fun u => LBox w u bl P T)) := ⟨⟨_, B3.out⟩⟩
  have u0 : ∀ u : Mem (fun u => LBox w u bl P T), u.w'.cell? ⟨bl, 0, none⟩ = some (.int .i64 P) := fun u => u.h.c0
  have u1 : ∀ u : Mem (fun u => LBox w u bl P T), u.w'.cell? ⟨bl, 1, none⟩ = some (.int .i64 T) := fun u => u.h.c1
  refine region_start (J := fun u => LBox w u bl P T) (by kernel_rfl) ?_
  refine stretch (fuel := 4) (by kernel_rfl) (fun _ _ _ _ _ h => h) B3.out [0, 1, 2, 3, 4, 5, 7, 8] (by kernel_rfl) ?_
  simp only [List.filterMap_cons, List.filterMap_nil, List.getElem?_toArray, List.getElem?_cons_zero, List.getElem?_cons_succ]
  show wpQuiet _ _ _ _ [_, _, _, _, _, _, _, _] _
  repeat (go_big_quiet_step (fail))
  refine wpQuiet_nil ?_
  refine wpAnyJ_writer (i := 6) rfl (by kernel_rfl) (fun K' hK => ?_)
  go_simp
  refine (HB.out _).mono ?_
  rintro e w4 ⟨rfl, rfl⟩
  refine hK _ _ B3.out ?_
  clear hK K'
  refine stretch (fuel := 2) (by kernel_rfl) (fun _ _ _ _ _ h => h) B3.out [9] (by kernel_rfl) ?_
  simp only [List.filterMap_cons, List.filterMap_nil, List.getElem?_toArray, List.getElem?_cons_zero, List.getElem?_cons_succ]
  show wpQuiet _ _ _ _ [_] _
  repeat (go_big_quiet_step (fail))
  refine wpQuiet_nil ?_
  refine wpAnyJ_writer (i := 10) rfl (by kernel_rfl) (fun K' hK => ?_)
  go_simp
  have B4 := hide (B3.out.grow (grown1 w3.drew (layM P T pg n 0 bs al st)))
  refine hK _ _ B4.out ?_
  clear hK K'
  refine stretch (fuel := 0) (by kernel_rfl) (fun _ _ _ _ _ h => h) B4.out [11] (by kernel_rfl) ?_
  simp only [List.filterMap_cons, List.filterMap_nil, List.getElem?_toArray, List.getElem?_cons_zero, List.getElem?_cons_succ]
  show wpQuiet _ _ _ _ [_] _
  repeat (go_big_quiet_step (fail))
  refine wpQuiet_nil ?_
  refine wpAnyJ_done (by kernel_rfl) ?_
  go_wp2
  go_ret
  exact ⟨_, rfl, heap_alloc_at _ _, B3.out.below.size, B4.out.below⟩
end Go.Proofs.YtgdliebllmgibaaDoor
