/- What a lay, a gone, of the document may be made of. -/
import Derived.Test.YtgdliebllmgibaaDoorDocMay
import Derived.Test.YtgdliebllmgibaaDoorRecNew
import Derived.Test.YtgdliebllmgibaaDoorClsRef
import Derived.Test.YtgdliebllmgibaaDoorOnesRef
import Derived.Deep.CutRange
import Derived.Deep.CutBlock
import Derived.Deep.WholeRow
namespace Go.Proofs.YtgdliebllmgibaaDoor
open Go.RowKit

/-- A machine's argument in block b of a world that has grown. -/
structure MR (w0 w : World) (b : Nat) (cs : Array Value) : Prop where
  below : Below w0.heap.size w0 w
  blk : w.heap[b]? = some (.cells cs 38 (0, 0))
theorem MR.grow {w0 w w' : World} {b : Nat} {cs : Array Value} (h : MR w0 w b cs) (hb : Below w.heap.size w w') : MR w0 w' b cs :=
  ⟨h.below.trans (hb.mono h.below.size), (hb.block _ (lt_of_heap h.blk)).trans h.blk⟩
/-- Both pages, or one that has the others behind it. -/
def pagB (P pg : Int) : Bool := decide (0 ≤ pg) && decide (pg < P)
def genB (g : Int) : Bool := decide (1 ≤ g) && decide (g ≤ 2147483648)
def clsB (c n : Int) : Bool := decide (0 ≤ c) && decide (c ≤ 14) && (decide (c = 14) || decide (n = (Cls.pages c : Int)))
def pgsB (P pg n : Int) : Bool := pagB P pg && decide (1 ≤ n) && decide (n ≤ P - pg)
theorem has_pgs {P T pg n : Int} (hm : Lay.may P T = true) : hasPg P T pg n = pgsB P pg n := by
  unfold hasPg pgsB pagB
  rw [hm, Bool.true_and]
  by_cases h0 : 0 ≤ pg
  · rw [decide_eq_true h0, Bool.true_and, Bool.true_and]
    by_cases h1 : 1 ≤ n
    · rw [decide_eq_true h1, Bool.true_and, Bool.and_true]
      by_cases h2 : n ≤ P - pg
      · rw [decide_eq_true h2, decide_eq_true (by omega)]; rfl
      · rw [decide_eq_false h2]; simp only [Bool.and_false]
    · rw [decide_eq_false h1, Bool.and_false, Bool.false_and]
  · rw [decide_eq_false h0]
    simp only [Bool.false_and]
theorem may_cls {c n : Int} {al : Nat} : mayB c n al = (clsB c n && decide (al ≤ slotsB c)) := by unfold mayB clsB; rfl

set_option maxRecDepth 100000 in
set_option maxHeartbeats 8000000 in
theorem rightGone (P T pg c n g : Int) (al : Nat) (hpg : -9223372036854775808 ≤ pg ∧ pg ≤ 9223372036854775807) (w : World) :
    Calls Tryd.prog 24 #[.agg (mIn 6 P T 0 pg c n g 0 0 0 al false (.slice none 0 0))] w fun e w' => e = .returned (.bool (hasPg P T pg n)) ∧ Below w.heap.size w w' := by
  cases hm : Lay.may P T
  · have := rightOut 6 P T 0 pg c n g 0 0 0 al false (.slice none 0 0) hm w
    have e : (hasPg P T pg n) = false := by unfold hasPg; rw [hm]; simp
    rw [e]
    exact this
  · have M := hide (fun w => rlmay P T w)
    rw [hm] at M
    obtain ⟨m1, m2, m3, m4⟩ := Lay.may_iff.1 hm
    have d2 : decide ((0 : Int) < T) = true := by simp; omega
    have hres : (hasPg P T pg n) = pgsB P pg n := by exact has_pgs hm
    rw [hres]
    have B0 : Hid (MR w (w.alloc (.cells (mIn 6 P T 0 pg c n g 0 0 0 al false (.slice none 0 0)) 38)) w.heap.size (mIn 6 P T 0 pg c n g 0 0 0 al false (.slice none 0 0))) := hide ⟨grown1 _ _, heap_alloc_at _ _⟩
    have HP := hide (fun (w : World) => rpages c w)
    have HSL := hide (fun (w : World) => rslots c w)
    have HON := hide (fun (w : World) => ones16R (Cls.slots c : Int) w)
    clear hm hres
    have c1 : (w.alloc (.cells (mIn 6 P T 0 pg c n g 0 0 0 al false (.slice none 0 0)) 38)).cell? ⟨w.heap.size, 1, none⟩ = some (.int .i64 P) := cell_of_heap B0.out.blk
    have c2 : (w.alloc (.cells (mIn 6 P T 0 pg c n g 0 0 0 al false (.slice none 0 0)) 38)).cell? ⟨w.heap.size, 2, none⟩ = some (.int .i64 T) := cell_of_heap B0.out.blk
    unfold mIn at *
    go_enter Tryd.func24, Tryd.ntmps24
    go_wp2_with fail
    refine (M.out _).mono ?_
    rintro e w1 ⟨rfl, hb1⟩
    have B1 := hide (B0.out.grow hb1)
    clear c1 c2 B0 M hb1
    generalize Value.agg #[.int .i64 6, .int .i64 P, .int .i64 T, .int .i64 0, .int .i64 pg, .int .i64 c, .int .i64 n, .int .i64 g, .int .i64 0, .int .i64 0, .int .i64 0, .int .u64 (al : Int), .bool false, .slice none 0 0, .slice none 0 0, .bool false, .int .i64 0, .bool false, .pointer none, .int .i64 0, .int .i64 0, .int .u64 0, .int .u64 0, .int .i64 0, .int .i64 0, .int .i64 0, .int .i64 0, .int .u64 0, .slice none 0 0, .slice none 0 0, .int .i64 0, .int .i64 0] = av at *
    have hb := B1.out.blk
    generalize w.heap.size = b at *
    have c0 : w1.cell? ⟨b, 0, none⟩ = some (.int .i64 6) := cell_of_heap hb
    have c1 : w1.cell? ⟨b, 1, none⟩ = some (.int .i64 P) := cell_of_heap hb
    have c2 : w1.cell? ⟨b, 2, none⟩ = some (.int .i64 T) := cell_of_heap hb
    have c3 : w1.cell? ⟨b, 3, none⟩ = some (.int .i64 0) := cell_of_heap hb
    have c4 : w1.cell? ⟨b, 4, none⟩ = some (.int .i64 pg) := cell_of_heap hb
    have c5 : w1.cell? ⟨b, 5, none⟩ = some (.int .i64 c) := cell_of_heap hb
    have c6 : w1.cell? ⟨b, 6, none⟩ = some (.int .i64 n) := cell_of_heap hb
    have c7 : w1.cell? ⟨b, 7, none⟩ = some (.int .i64 g) := cell_of_heap hb
    have c10 : w1.cell? ⟨b, 10, none⟩ = some (.int .i64 0) := cell_of_heap hb
    have c11 : w1.cell? ⟨b, 11, none⟩ = some (.int .u64 (al : Int)) := cell_of_heap hb
    clear hb
    go_upto_region 4 with fail
    go_cut [4] from 26 to 36 (fun v wc => v = .bool (pagB P pg) ∧ w1 = wc)
    case first =>
      by_cases h0 : 0 ≤ pg
      · have e0 : decide (pg ≥ 0) = true := by simp; omega
        have H0 := hide (decide_eq_true h0)
        clear h0
        go_wp2
        go_meet
        exact ⟨by unfold pagB; rw [H0.out]; simp, rfl⟩
      · have e0 : decide (pg ≥ 0) = false := by simp; omega
        have H0 := hide (decide_eq_false h0)
        clear h0
        go_wp2
        go_meet
        exact ⟨by unfold pagB; rw [H0.out]; simp, rfl⟩
    case rest =>
      obtain ⟨rfl, rfl⟩ := hcut
      obtain ⟨pb, hpb⟩ : ∃ pb, pagB P pg = pb := ⟨_, rfl⟩
      rw [hpb]
      have HQ := hide hpb
      clear hpb
      go_upto_region 5 with fail
      go_cut [5] from 37 to 53 (fun v wc => v = .bool (pgsB P pg n) ∧ w1 = wc)
      case first =>
        cases pb
        · go_wp2
          go_meet
          exact ⟨by unfold pgsB; rw [HQ.out]; simp, rfl⟩
        · have hp0 : 0 ≤ pg ∧ pg < P := by have hq := HQ.out; unfold pagB at hq; simpa using hq
          obtain ⟨hp0, hp1⟩ := hp0
          by_cases h1 : 1 ≤ n
          · have e1 : decide (n ≥ 1) = true := by simp; omega
            have H1 := hide (decide_eq_true h1)
            clear h1
            go_wp2
            go_meet
            exact ⟨by unfold pgsB; rw [HQ.out, H1.out]; simp, rfl⟩
          · have e1 : decide (n ≥ 1) = false := by simp; omega
            have H1 := hide (decide_eq_false h1)
            clear h1
            go_wp2
            go_meet
            exact ⟨by unfold pgsB; rw [HQ.out, H1.out]; simp, rfl⟩
      case rest =>
        obtain ⟨rfl, rfl⟩ := hcut
        go_upto_region 6 with fail
        go_cut [6] from 54 to 61 (fun v wc => v = .bool (genB g) ∧ w1 = wc)
        case first =>
          by_cases h0 : 1 ≤ g
          · have e0 : decide (g ≥ 1) = true := by simp; omega
            have H0 := hide (decide_eq_true h0)
            clear h0
            go_wp2
            go_meet
            exact ⟨by unfold genB; rw [H0.out]; simp, rfl⟩
          · have e0 : decide (g ≥ 1) = false := by simp; omega
            have H0 := hide (decide_eq_false h0)
            clear h0
            go_wp2
            go_meet
            exact ⟨by unfold genB; rw [H0.out]; simp, rfl⟩
        case rest =>
          obtain ⟨rfl, rfl⟩ := hcut
          go_wp2
          go_ret
          exact ⟨rfl, B1.out.below⟩

set_option maxRecDepth 100000 in
set_option maxHeartbeats 8000000 in
theorem rightLayA (P T pg c n g : Int) (al : Nat) (hpg : -9223372036854775808 ≤ pg ∧ pg ≤ 9223372036854775807) (hc : c < 0) (w : World) :
    Calls Tryd.prog 24 #[.agg (mIn 5 P T 0 pg c n g 0 0 0 al false (.slice none 0 0))] w fun e w' => e = .returned (.bool (mayLay P T pg c n g al)) ∧ Below w.heap.size w w' := by
  have HC := hide hc
  clear hc
  cases hm : Lay.may P T
  · have := rightOut 5 P T 0 pg c n g 0 0 0 al false (.slice none 0 0) hm w
    have e : (mayLay P T pg c n g al) = false := by unfold mayLay hasPg; rw [hm]; simp
    rw [e]
    exact this
  · have M := hide (fun w => rlmay P T w)
    rw [hm] at M
    obtain ⟨m1, m2, m3, m4⟩ := Lay.may_iff.1 hm
    have d2 : decide ((0 : Int) < T) = true := by simp; omega
    have hres : (mayLay P T pg c n g al) = (pgsB P pg n && clsB c n && genB g && decide (al ≤ slotsB c)) := by unfold mayLay; rw [has_pgs hm, may_cls]; unfold Ph.cyc genB; cases (decide (1 ≤ g) && decide (g ≤ 2147483648)) <;> cases pgsB P pg n <;> cases clsB c n <;> rfl
    rw [hres]
    have B0 : Hid (MR w (w.alloc (.cells (mIn 5 P T 0 pg c n g 0 0 0 al false (.slice none 0 0)) 38)) w.heap.size (mIn 5 P T 0 pg c n g 0 0 0 al false (.slice none 0 0))) := hide ⟨grown1 _ _, heap_alloc_at _ _⟩
    have HP := hide (fun (w : World) => rpages c w)
    have HSL := hide (fun (w : World) => rslots c w)
    have HON := hide (fun (w : World) => ones16R (Cls.slots c : Int) w)
    clear hm hres
    have c1 : (w.alloc (.cells (mIn 5 P T 0 pg c n g 0 0 0 al false (.slice none 0 0)) 38)).cell? ⟨w.heap.size, 1, none⟩ = some (.int .i64 P) := cell_of_heap B0.out.blk
    have c2 : (w.alloc (.cells (mIn 5 P T 0 pg c n g 0 0 0 al false (.slice none 0 0)) 38)).cell? ⟨w.heap.size, 2, none⟩ = some (.int .i64 T) := cell_of_heap B0.out.blk
    unfold mIn at *
    go_enter Tryd.func24, Tryd.ntmps24
    go_wp2_with fail
    refine (M.out _).mono ?_
    rintro e w1 ⟨rfl, hb1⟩
    have B1 := hide (B0.out.grow hb1)
    clear c1 c2 B0 M hb1
    generalize Value.agg #[.int .i64 5, .int .i64 P, .int .i64 T, .int .i64 0, .int .i64 pg, .int .i64 c, .int .i64 n, .int .i64 g, .int .i64 0, .int .i64 0, .int .i64 0, .int .u64 (al : Int), .bool false, .slice none 0 0, .slice none 0 0, .bool false, .int .i64 0, .bool false, .pointer none, .int .i64 0, .int .i64 0, .int .u64 0, .int .u64 0, .int .i64 0, .int .i64 0, .int .i64 0, .int .i64 0, .int .u64 0, .slice none 0 0, .slice none 0 0, .int .i64 0, .int .i64 0] = av at *
    have hb := B1.out.blk
    generalize w.heap.size = b at *
    have c0 : w1.cell? ⟨b, 0, none⟩ = some (.int .i64 5) := cell_of_heap hb
    have c1 : w1.cell? ⟨b, 1, none⟩ = some (.int .i64 P) := cell_of_heap hb
    have c2 : w1.cell? ⟨b, 2, none⟩ = some (.int .i64 T) := cell_of_heap hb
    have c3 : w1.cell? ⟨b, 3, none⟩ = some (.int .i64 0) := cell_of_heap hb
    have c4 : w1.cell? ⟨b, 4, none⟩ = some (.int .i64 pg) := cell_of_heap hb
    have c5 : w1.cell? ⟨b, 5, none⟩ = some (.int .i64 c) := cell_of_heap hb
    have c6 : w1.cell? ⟨b, 6, none⟩ = some (.int .i64 n) := cell_of_heap hb
    have c7 : w1.cell? ⟨b, 7, none⟩ = some (.int .i64 g) := cell_of_heap hb
    have c10 : w1.cell? ⟨b, 10, none⟩ = some (.int .i64 0) := cell_of_heap hb
    have c11 : w1.cell? ⟨b, 11, none⟩ = some (.int .u64 (al : Int)) := cell_of_heap hb
    clear hb
    go_upto_region 4 with fail
    go_cut [4] from 26 to 36 (fun v wc => v = .bool (pagB P pg) ∧ w1 = wc)
    case first =>
      by_cases h0 : 0 ≤ pg
      · have e0 : decide (pg ≥ 0) = true := by simp; omega
        have H0 := hide (decide_eq_true h0)
        clear h0
        go_wp2
        go_meet
        exact ⟨by unfold pagB; rw [H0.out]; simp, rfl⟩
      · have e0 : decide (pg ≥ 0) = false := by simp; omega
        have H0 := hide (decide_eq_false h0)
        clear h0
        go_wp2
        go_meet
        exact ⟨by unfold pagB; rw [H0.out]; simp, rfl⟩
    case rest =>
      obtain ⟨rfl, rfl⟩ := hcut
      obtain ⟨pb, hpb⟩ : ∃ pb, pagB P pg = pb := ⟨_, rfl⟩
      rw [hpb]
      have HQ := hide hpb
      clear hpb
      go_upto_region 5 with fail
      go_cut [5] from 37 to 53 (fun v wc => v = .bool (pgsB P pg n) ∧ w1 = wc)
      case first =>
        cases pb
        · go_wp2
          go_meet
          exact ⟨by unfold pgsB; rw [HQ.out]; simp, rfl⟩
        · have hp0 : 0 ≤ pg ∧ pg < P := by have hq := HQ.out; unfold pagB at hq; simpa using hq
          obtain ⟨hp0, hp1⟩ := hp0
          by_cases h1 : 1 ≤ n
          · have e1 : decide (n ≥ 1) = true := by simp; omega
            have H1 := hide (decide_eq_true h1)
            clear h1
            go_wp2
            go_meet
            exact ⟨by unfold pgsB; rw [HQ.out, H1.out]; simp, rfl⟩
          · have e1 : decide (n ≥ 1) = false := by simp; omega
            have H1 := hide (decide_eq_false h1)
            clear h1
            go_wp2
            go_meet
            exact ⟨by unfold pgsB; rw [HQ.out, H1.out]; simp, rfl⟩
      case rest =>
        obtain ⟨rfl, rfl⟩ := hcut
        go_upto_region 6 with fail
        go_cut [6] from 54 to 61 (fun v wc => v = .bool (genB g) ∧ w1 = wc)
        case first =>
          by_cases h0 : 1 ≤ g
          · have e0 : decide (g ≥ 1) = true := by simp; omega
            have H0 := hide (decide_eq_true h0)
            clear h0
            go_wp2
            go_meet
            exact ⟨by unfold genB; rw [H0.out]; simp, rfl⟩
          · have e0 : decide (g ≥ 1) = false := by simp; omega
            have H0 := hide (decide_eq_false h0)
            clear h0
            go_wp2
            go_meet
            exact ⟨by unfold genB; rw [H0.out]; simp, rfl⟩
        case rest =>
          obtain ⟨rfl, rfl⟩ := hcut
          go_upto_region 18 with fail
          have hc := HC.out
          obtain ⟨pc, hpc⟩ : ∃ pc : Int, (Cls.pages c : Int) = pc := ⟨_, rfl⟩
          rw [hpc] at HP
          have HPC := hide hpc
          clear hpc
          have e0 : decide (c ≥ 0) = false := by simp; omega
          have e1 : decide (c ≤ 14) = true := by simp; omega
          have e2 : (c == 14) = false := by rw [beq_eq_false_iff_ne]; omega
          have hne : Nonempty (Over w1) := ⟨⟨_, Below.refl _ _⟩⟩
          have u5 := fun u => over_cell c5 u
          have u6 := fun u => over_cell c6 u
          refine over_region (by kernel_rfl) (by kernel_rfl) ?_
          repeat (go_big_quiet_step (first | (go_at_call 31; exact over_call _ (HP.out _))))
          refine wpQuiet_nil ?_
          rintro _ ⟨u, rfl⟩
          have B2 := hide (B1.out.grow u.h)
          clear u5 u6 hne c0 c1 c2 c3 c4 c5 c6 c7 c10 c11 e0 e1 e2
          generalize u.w' = wc at *
          have hb := B2.out.blk
          unfold mIn at hb
          have c0 : wc.cell? ⟨b, 0, none⟩ = some (.int .i64 5) := cell_of_heap hb
          have c1 : wc.cell? ⟨b, 1, none⟩ = some (.int .i64 P) := cell_of_heap hb
          have c2 : wc.cell? ⟨b, 2, none⟩ = some (.int .i64 T) := cell_of_heap hb
          have c3 : wc.cell? ⟨b, 3, none⟩ = some (.int .i64 0) := cell_of_heap hb
          have c4 : wc.cell? ⟨b, 4, none⟩ = some (.int .i64 pg) := cell_of_heap hb
          have c5 : wc.cell? ⟨b, 5, none⟩ = some (.int .i64 c) := cell_of_heap hb
          have c6 : wc.cell? ⟨b, 6, none⟩ = some (.int .i64 n) := cell_of_heap hb
          have c7 : wc.cell? ⟨b, 7, none⟩ = some (.int .i64 g) := cell_of_heap hb
          have c10 : wc.cell? ⟨b, 10, none⟩ = some (.int .i64 0) := cell_of_heap hb
          have c11 : wc.cell? ⟨b, 11, none⟩ = some (.int .u64 (al : Int)) := cell_of_heap hb
          clear hb u
          go_upto_region 19 with fail
          obtain ⟨so, hso⟩ : ∃ so, Plain.ones (Plain.hold (Cls.slots c : Int)) = so := ⟨_, rfl⟩
          rw [hso] at HON
          have HSO := hide (show slotsB c = so from hso)
          obtain ⟨sc, hsc⟩ : ∃ sc : Int, (Cls.slots c : Int) = sc := ⟨_, rfl⟩
          rw [hsc] at HON HSL
          clear hso hsc HP
          obtain ⟨pb', hpb⟩ : ∃ pb, pgsB P pg n = pb := ⟨_, rfl⟩
          obtain ⟨gb, hgb⟩ : ∃ pb, genB g = pb := ⟨_, rfl⟩
          rw [hpb, hgb]
          have HPB := hide hpb
          have HGB := hide hgb
          clear hpb hgb
          have HCB := hide (show clsB c n = false by unfold clsB; simp; omega)
          clear hc
          cases pb'
          · have hne : Nonempty (Over wc) := ⟨⟨_, Below.refl _ _⟩⟩
            have u5 := fun u => over_cell c5 u
            have u11 := fun u => over_cell c11 u
            refine over_region (by kernel_rfl) (by kernel_rfl) ?_
            repeat (go_big_quiet_step (first | (go_at_call 33; exact over_call _ (HSL.out _)) | (go_at_call 32; exact over_call _ ((HON.out _).mono fun _ _ ⟨h1, h2⟩ => ⟨h1, by rw [h2]; exact Below.refl _ _⟩))))
            refine wpQuiet_nil ?_
            rintro _ ⟨u, rfl⟩
            have B3 := hide (B2.out.grow u.h)
            clear u5 u11 hne
            go_wp2
            go_ret
            exact ⟨by rw [HPB.out, HCB.out, HGB.out, HSO.out]; simp, B3.out.below⟩
          · have hne : Nonempty (Over wc) := ⟨⟨_, Below.refl _ _⟩⟩
            have u5 := fun u => over_cell c5 u
            have u11 := fun u => over_cell c11 u
            refine over_region (by kernel_rfl) (by kernel_rfl) ?_
            repeat (go_big_quiet_step (first | (go_at_call 33; exact over_call _ (HSL.out _)) | (go_at_call 32; exact over_call _ ((HON.out _).mono fun _ _ ⟨h1, h2⟩ => ⟨h1, by rw [h2]; exact Below.refl _ _⟩))))
            refine wpQuiet_nil ?_
            rintro _ ⟨u, rfl⟩
            have B3 := hide (B2.out.grow u.h)
            clear u5 u11 hne
            go_wp2
            go_ret
            exact ⟨by rw [HPB.out, HCB.out, HGB.out, HSO.out]; simp, B3.out.below⟩

set_option maxRecDepth 100000 in
set_option maxHeartbeats 8000000 in
theorem rightLayB (P T pg c n g : Int) (al : Nat) (hpg : -9223372036854775808 ≤ pg ∧ pg ≤ 9223372036854775807) (hc : 14 < c) (w : World) :
    Calls Tryd.prog 24 #[.agg (mIn 5 P T 0 pg c n g 0 0 0 al false (.slice none 0 0))] w fun e w' => e = .returned (.bool (mayLay P T pg c n g al)) ∧ Below w.heap.size w w' := by
  have HC := hide hc
  clear hc
  cases hm : Lay.may P T
  · have := rightOut 5 P T 0 pg c n g 0 0 0 al false (.slice none 0 0) hm w
    have e : (mayLay P T pg c n g al) = false := by unfold mayLay hasPg; rw [hm]; simp
    rw [e]
    exact this
  · have M := hide (fun w => rlmay P T w)
    rw [hm] at M
    obtain ⟨m1, m2, m3, m4⟩ := Lay.may_iff.1 hm
    have d2 : decide ((0 : Int) < T) = true := by simp; omega
    have hres : (mayLay P T pg c n g al) = (pgsB P pg n && clsB c n && genB g && decide (al ≤ slotsB c)) := by unfold mayLay; rw [has_pgs hm, may_cls]; unfold Ph.cyc genB; cases (decide (1 ≤ g) && decide (g ≤ 2147483648)) <;> cases pgsB P pg n <;> cases clsB c n <;> rfl
    rw [hres]
    have B0 : Hid (MR w (w.alloc (.cells (mIn 5 P T 0 pg c n g 0 0 0 al false (.slice none 0 0)) 38)) w.heap.size (mIn 5 P T 0 pg c n g 0 0 0 al false (.slice none 0 0))) := hide ⟨grown1 _ _, heap_alloc_at _ _⟩
    have HP := hide (fun (w : World) => rpages c w)
    have HSL := hide (fun (w : World) => rslots c w)
    have HON := hide (fun (w : World) => ones16R (Cls.slots c : Int) w)
    clear hm hres
    have c1 : (w.alloc (.cells (mIn 5 P T 0 pg c n g 0 0 0 al false (.slice none 0 0)) 38)).cell? ⟨w.heap.size, 1, none⟩ = some (.int .i64 P) := cell_of_heap B0.out.blk
    have c2 : (w.alloc (.cells (mIn 5 P T 0 pg c n g 0 0 0 al false (.slice none 0 0)) 38)).cell? ⟨w.heap.size, 2, none⟩ = some (.int .i64 T) := cell_of_heap B0.out.blk
    unfold mIn at *
    go_enter Tryd.func24, Tryd.ntmps24
    go_wp2_with fail
    refine (M.out _).mono ?_
    rintro e w1 ⟨rfl, hb1⟩
    have B1 := hide (B0.out.grow hb1)
    clear c1 c2 B0 M hb1
    generalize Value.agg #[.int .i64 5, .int .i64 P, .int .i64 T, .int .i64 0, .int .i64 pg, .int .i64 c, .int .i64 n, .int .i64 g, .int .i64 0, .int .i64 0, .int .i64 0, .int .u64 (al : Int), .bool false, .slice none 0 0, .slice none 0 0, .bool false, .int .i64 0, .bool false, .pointer none, .int .i64 0, .int .i64 0, .int .u64 0, .int .u64 0, .int .i64 0, .int .i64 0, .int .i64 0, .int .i64 0, .int .u64 0, .slice none 0 0, .slice none 0 0, .int .i64 0, .int .i64 0] = av at *
    have hb := B1.out.blk
    generalize w.heap.size = b at *
    have c0 : w1.cell? ⟨b, 0, none⟩ = some (.int .i64 5) := cell_of_heap hb
    have c1 : w1.cell? ⟨b, 1, none⟩ = some (.int .i64 P) := cell_of_heap hb
    have c2 : w1.cell? ⟨b, 2, none⟩ = some (.int .i64 T) := cell_of_heap hb
    have c3 : w1.cell? ⟨b, 3, none⟩ = some (.int .i64 0) := cell_of_heap hb
    have c4 : w1.cell? ⟨b, 4, none⟩ = some (.int .i64 pg) := cell_of_heap hb
    have c5 : w1.cell? ⟨b, 5, none⟩ = some (.int .i64 c) := cell_of_heap hb
    have c6 : w1.cell? ⟨b, 6, none⟩ = some (.int .i64 n) := cell_of_heap hb
    have c7 : w1.cell? ⟨b, 7, none⟩ = some (.int .i64 g) := cell_of_heap hb
    have c10 : w1.cell? ⟨b, 10, none⟩ = some (.int .i64 0) := cell_of_heap hb
    have c11 : w1.cell? ⟨b, 11, none⟩ = some (.int .u64 (al : Int)) := cell_of_heap hb
    clear hb
    go_upto_region 4 with fail
    go_cut [4] from 26 to 36 (fun v wc => v = .bool (pagB P pg) ∧ w1 = wc)
    case first =>
      by_cases h0 : 0 ≤ pg
      · have e0 : decide (pg ≥ 0) = true := by simp; omega
        have H0 := hide (decide_eq_true h0)
        clear h0
        go_wp2
        go_meet
        exact ⟨by unfold pagB; rw [H0.out]; simp, rfl⟩
      · have e0 : decide (pg ≥ 0) = false := by simp; omega
        have H0 := hide (decide_eq_false h0)
        clear h0
        go_wp2
        go_meet
        exact ⟨by unfold pagB; rw [H0.out]; simp, rfl⟩
    case rest =>
      obtain ⟨rfl, rfl⟩ := hcut
      obtain ⟨pb, hpb⟩ : ∃ pb, pagB P pg = pb := ⟨_, rfl⟩
      rw [hpb]
      have HQ := hide hpb
      clear hpb
      go_upto_region 5 with fail
      go_cut [5] from 37 to 53 (fun v wc => v = .bool (pgsB P pg n) ∧ w1 = wc)
      case first =>
        cases pb
        · go_wp2
          go_meet
          exact ⟨by unfold pgsB; rw [HQ.out]; simp, rfl⟩
        · have hp0 : 0 ≤ pg ∧ pg < P := by have hq := HQ.out; unfold pagB at hq; simpa using hq
          obtain ⟨hp0, hp1⟩ := hp0
          by_cases h1 : 1 ≤ n
          · have e1 : decide (n ≥ 1) = true := by simp; omega
            have H1 := hide (decide_eq_true h1)
            clear h1
            go_wp2
            go_meet
            exact ⟨by unfold pgsB; rw [HQ.out, H1.out]; simp, rfl⟩
          · have e1 : decide (n ≥ 1) = false := by simp; omega
            have H1 := hide (decide_eq_false h1)
            clear h1
            go_wp2
            go_meet
            exact ⟨by unfold pgsB; rw [HQ.out, H1.out]; simp, rfl⟩
      case rest =>
        obtain ⟨rfl, rfl⟩ := hcut
        go_upto_region 6 with fail
        go_cut [6] from 54 to 61 (fun v wc => v = .bool (genB g) ∧ w1 = wc)
        case first =>
          by_cases h0 : 1 ≤ g
          · have e0 : decide (g ≥ 1) = true := by simp; omega
            have H0 := hide (decide_eq_true h0)
            clear h0
            go_wp2
            go_meet
            exact ⟨by unfold genB; rw [H0.out]; simp, rfl⟩
          · have e0 : decide (g ≥ 1) = false := by simp; omega
            have H0 := hide (decide_eq_false h0)
            clear h0
            go_wp2
            go_meet
            exact ⟨by unfold genB; rw [H0.out]; simp, rfl⟩
        case rest =>
          obtain ⟨rfl, rfl⟩ := hcut
          go_upto_region 18 with fail
          have hc := HC.out
          obtain ⟨pc, hpc⟩ : ∃ pc : Int, (Cls.pages c : Int) = pc := ⟨_, rfl⟩
          rw [hpc] at HP
          have HPC := hide hpc
          clear hpc
          have e0 : decide (c ≥ 0) = true := by simp; omega
          have e1 : decide (c ≤ 14) = false := by simp; omega
          have e2 : (c == 14) = false := by rw [beq_eq_false_iff_ne]; omega
          have hne : Nonempty (Over w1) := ⟨⟨_, Below.refl _ _⟩⟩
          have u5 := fun u => over_cell c5 u
          have u6 := fun u => over_cell c6 u
          refine over_region (by kernel_rfl) (by kernel_rfl) ?_
          repeat (go_big_quiet_step (first | (go_at_call 31; exact over_call _ (HP.out _))))
          refine wpQuiet_nil ?_
          rintro _ ⟨u, rfl⟩
          have B2 := hide (B1.out.grow u.h)
          clear u5 u6 hne c0 c1 c2 c3 c4 c5 c6 c7 c10 c11 e0 e1 e2
          generalize u.w' = wc at *
          have hb := B2.out.blk
          unfold mIn at hb
          have c0 : wc.cell? ⟨b, 0, none⟩ = some (.int .i64 5) := cell_of_heap hb
          have c1 : wc.cell? ⟨b, 1, none⟩ = some (.int .i64 P) := cell_of_heap hb
          have c2 : wc.cell? ⟨b, 2, none⟩ = some (.int .i64 T) := cell_of_heap hb
          have c3 : wc.cell? ⟨b, 3, none⟩ = some (.int .i64 0) := cell_of_heap hb
          have c4 : wc.cell? ⟨b, 4, none⟩ = some (.int .i64 pg) := cell_of_heap hb
          have c5 : wc.cell? ⟨b, 5, none⟩ = some (.int .i64 c) := cell_of_heap hb
          have c6 : wc.cell? ⟨b, 6, none⟩ = some (.int .i64 n) := cell_of_heap hb
          have c7 : wc.cell? ⟨b, 7, none⟩ = some (.int .i64 g) := cell_of_heap hb
          have c10 : wc.cell? ⟨b, 10, none⟩ = some (.int .i64 0) := cell_of_heap hb
          have c11 : wc.cell? ⟨b, 11, none⟩ = some (.int .u64 (al : Int)) := cell_of_heap hb
          clear hb u
          go_upto_region 19 with fail
          obtain ⟨so, hso⟩ : ∃ so, Plain.ones (Plain.hold (Cls.slots c : Int)) = so := ⟨_, rfl⟩
          rw [hso] at HON
          have HSO := hide (show slotsB c = so from hso)
          obtain ⟨sc, hsc⟩ : ∃ sc : Int, (Cls.slots c : Int) = sc := ⟨_, rfl⟩
          rw [hsc] at HON HSL
          clear hso hsc HP
          obtain ⟨pb', hpb⟩ : ∃ pb, pgsB P pg n = pb := ⟨_, rfl⟩
          obtain ⟨gb, hgb⟩ : ∃ pb, genB g = pb := ⟨_, rfl⟩
          rw [hpb, hgb]
          have HPB := hide hpb
          have HGB := hide hgb
          clear hpb hgb
          have HCB := hide (show clsB c n = false by unfold clsB; simp; omega)
          clear hc
          cases pb'
          · have hne : Nonempty (Over wc) := ⟨⟨_, Below.refl _ _⟩⟩
            have u5 := fun u => over_cell c5 u
            have u11 := fun u => over_cell c11 u
            refine over_region (by kernel_rfl) (by kernel_rfl) ?_
            repeat (go_big_quiet_step (first | (go_at_call 33; exact over_call _ (HSL.out _)) | (go_at_call 32; exact over_call _ ((HON.out _).mono fun _ _ ⟨h1, h2⟩ => ⟨h1, by rw [h2]; exact Below.refl _ _⟩))))
            refine wpQuiet_nil ?_
            rintro _ ⟨u, rfl⟩
            have B3 := hide (B2.out.grow u.h)
            clear u5 u11 hne
            go_wp2
            go_ret
            exact ⟨by rw [HPB.out, HCB.out, HGB.out, HSO.out]; simp, B3.out.below⟩
          · have hne : Nonempty (Over wc) := ⟨⟨_, Below.refl _ _⟩⟩
            have u5 := fun u => over_cell c5 u
            have u11 := fun u => over_cell c11 u
            refine over_region (by kernel_rfl) (by kernel_rfl) ?_
            repeat (go_big_quiet_step (first | (go_at_call 33; exact over_call _ (HSL.out _)) | (go_at_call 32; exact over_call _ ((HON.out _).mono fun _ _ ⟨h1, h2⟩ => ⟨h1, by rw [h2]; exact Below.refl _ _⟩))))
            refine wpQuiet_nil ?_
            rintro _ ⟨u, rfl⟩
            have B3 := hide (B2.out.grow u.h)
            clear u5 u11 hne
            go_wp2
            go_ret
            exact ⟨by rw [HPB.out, HCB.out, HGB.out, HSO.out]; simp, B3.out.below⟩

set_option maxRecDepth 100000 in
set_option maxHeartbeats 8000000 in
theorem rightLayC (P T pg c n g : Int) (al : Nat) (hpg : -9223372036854775808 ≤ pg ∧ pg ≤ 9223372036854775807) (hc : c = 14) (w : World) :
    Calls Tryd.prog 24 #[.agg (mIn 5 P T 0 pg c n g 0 0 0 al false (.slice none 0 0))] w fun e w' => e = .returned (.bool (mayLay P T pg c n g al)) ∧ Below w.heap.size w w' := by
  have HC := hide hc
  clear hc
  cases hm : Lay.may P T
  · have := rightOut 5 P T 0 pg c n g 0 0 0 al false (.slice none 0 0) hm w
    have e : (mayLay P T pg c n g al) = false := by unfold mayLay hasPg; rw [hm]; simp
    rw [e]
    exact this
  · have M := hide (fun w => rlmay P T w)
    rw [hm] at M
    obtain ⟨m1, m2, m3, m4⟩ := Lay.may_iff.1 hm
    have d2 : decide ((0 : Int) < T) = true := by simp; omega
    have hres : (mayLay P T pg c n g al) = (pgsB P pg n && clsB c n && genB g && decide (al ≤ slotsB c)) := by unfold mayLay; rw [has_pgs hm, may_cls]; unfold Ph.cyc genB; cases (decide (1 ≤ g) && decide (g ≤ 2147483648)) <;> cases pgsB P pg n <;> cases clsB c n <;> rfl
    rw [hres]
    have B0 : Hid (MR w (w.alloc (.cells (mIn 5 P T 0 pg c n g 0 0 0 al false (.slice none 0 0)) 38)) w.heap.size (mIn 5 P T 0 pg c n g 0 0 0 al false (.slice none 0 0))) := hide ⟨grown1 _ _, heap_alloc_at _ _⟩
    have HP := hide (fun (w : World) => rpages c w)
    have HSL := hide (fun (w : World) => rslots c w)
    have HON := hide (fun (w : World) => ones16R (Cls.slots c : Int) w)
    clear hm hres
    have c1 : (w.alloc (.cells (mIn 5 P T 0 pg c n g 0 0 0 al false (.slice none 0 0)) 38)).cell? ⟨w.heap.size, 1, none⟩ = some (.int .i64 P) := cell_of_heap B0.out.blk
    have c2 : (w.alloc (.cells (mIn 5 P T 0 pg c n g 0 0 0 al false (.slice none 0 0)) 38)).cell? ⟨w.heap.size, 2, none⟩ = some (.int .i64 T) := cell_of_heap B0.out.blk
    unfold mIn at *
    go_enter Tryd.func24, Tryd.ntmps24
    go_wp2_with fail
    refine (M.out _).mono ?_
    rintro e w1 ⟨rfl, hb1⟩
    have B1 := hide (B0.out.grow hb1)
    clear c1 c2 B0 M hb1
    generalize Value.agg #[.int .i64 5, .int .i64 P, .int .i64 T, .int .i64 0, .int .i64 pg, .int .i64 c, .int .i64 n, .int .i64 g, .int .i64 0, .int .i64 0, .int .i64 0, .int .u64 (al : Int), .bool false, .slice none 0 0, .slice none 0 0, .bool false, .int .i64 0, .bool false, .pointer none, .int .i64 0, .int .i64 0, .int .u64 0, .int .u64 0, .int .i64 0, .int .i64 0, .int .i64 0, .int .i64 0, .int .u64 0, .slice none 0 0, .slice none 0 0, .int .i64 0, .int .i64 0] = av at *
    have hb := B1.out.blk
    generalize w.heap.size = b at *
    have c0 : w1.cell? ⟨b, 0, none⟩ = some (.int .i64 5) := cell_of_heap hb
    have c1 : w1.cell? ⟨b, 1, none⟩ = some (.int .i64 P) := cell_of_heap hb
    have c2 : w1.cell? ⟨b, 2, none⟩ = some (.int .i64 T) := cell_of_heap hb
    have c3 : w1.cell? ⟨b, 3, none⟩ = some (.int .i64 0) := cell_of_heap hb
    have c4 : w1.cell? ⟨b, 4, none⟩ = some (.int .i64 pg) := cell_of_heap hb
    have c5 : w1.cell? ⟨b, 5, none⟩ = some (.int .i64 c) := cell_of_heap hb
    have c6 : w1.cell? ⟨b, 6, none⟩ = some (.int .i64 n) := cell_of_heap hb
    have c7 : w1.cell? ⟨b, 7, none⟩ = some (.int .i64 g) := cell_of_heap hb
    have c10 : w1.cell? ⟨b, 10, none⟩ = some (.int .i64 0) := cell_of_heap hb
    have c11 : w1.cell? ⟨b, 11, none⟩ = some (.int .u64 (al : Int)) := cell_of_heap hb
    clear hb
    go_upto_region 4 with fail
    go_cut [4] from 26 to 36 (fun v wc => v = .bool (pagB P pg) ∧ w1 = wc)
    case first =>
      by_cases h0 : 0 ≤ pg
      · have e0 : decide (pg ≥ 0) = true := by simp; omega
        have H0 := hide (decide_eq_true h0)
        clear h0
        go_wp2
        go_meet
        exact ⟨by unfold pagB; rw [H0.out]; simp, rfl⟩
      · have e0 : decide (pg ≥ 0) = false := by simp; omega
        have H0 := hide (decide_eq_false h0)
        clear h0
        go_wp2
        go_meet
        exact ⟨by unfold pagB; rw [H0.out]; simp, rfl⟩
    case rest =>
      obtain ⟨rfl, rfl⟩ := hcut
      obtain ⟨pb, hpb⟩ : ∃ pb, pagB P pg = pb := ⟨_, rfl⟩
      rw [hpb]
      have HQ := hide hpb
      clear hpb
      go_upto_region 5 with fail
      go_cut [5] from 37 to 53 (fun v wc => v = .bool (pgsB P pg n) ∧ w1 = wc)
      case first =>
        cases pb
        · go_wp2
          go_meet
          exact ⟨by unfold pgsB; rw [HQ.out]; simp, rfl⟩
        · have hp0 : 0 ≤ pg ∧ pg < P := by have hq := HQ.out; unfold pagB at hq; simpa using hq
          obtain ⟨hp0, hp1⟩ := hp0
          by_cases h1 : 1 ≤ n
          · have e1 : decide (n ≥ 1) = true := by simp; omega
            have H1 := hide (decide_eq_true h1)
            clear h1
            go_wp2
            go_meet
            exact ⟨by unfold pgsB; rw [HQ.out, H1.out]; simp, rfl⟩
          · have e1 : decide (n ≥ 1) = false := by simp; omega
            have H1 := hide (decide_eq_false h1)
            clear h1
            go_wp2
            go_meet
            exact ⟨by unfold pgsB; rw [HQ.out, H1.out]; simp, rfl⟩
      case rest =>
        obtain ⟨rfl, rfl⟩ := hcut
        go_upto_region 6 with fail
        go_cut [6] from 54 to 61 (fun v wc => v = .bool (genB g) ∧ w1 = wc)
        case first =>
          by_cases h0 : 1 ≤ g
          · have e0 : decide (g ≥ 1) = true := by simp; omega
            have H0 := hide (decide_eq_true h0)
            clear h0
            go_wp2
            go_meet
            exact ⟨by unfold genB; rw [H0.out]; simp, rfl⟩
          · have e0 : decide (g ≥ 1) = false := by simp; omega
            have H0 := hide (decide_eq_false h0)
            clear h0
            go_wp2
            go_meet
            exact ⟨by unfold genB; rw [H0.out]; simp, rfl⟩
        case rest =>
          obtain ⟨rfl, rfl⟩ := hcut
          go_upto_region 18 with fail
          have hc := HC.out
          obtain ⟨pc, hpc⟩ : ∃ pc : Int, (Cls.pages c : Int) = pc := ⟨_, rfl⟩
          rw [hpc] at HP
          have HPC := hide hpc
          clear hpc
          have e0 : decide (c ≥ 0) = true := by simp; omega
          have e1 : decide (c ≤ 14) = true := by simp; omega
          have e2 : (c == 14) = true := by simp; omega
          have hne : Nonempty (Over w1) := ⟨⟨_, Below.refl _ _⟩⟩
          have u5 := fun u => over_cell c5 u
          have u6 := fun u => over_cell c6 u
          refine over_region (by kernel_rfl) (by kernel_rfl) ?_
          repeat (go_big_quiet_step (first | (go_at_call 31; exact over_call _ (HP.out _))))
          refine wpQuiet_nil ?_
          rintro _ ⟨u, rfl⟩
          have B2 := hide (B1.out.grow u.h)
          clear u5 u6 hne c0 c1 c2 c3 c4 c5 c6 c7 c10 c11 e0 e1 e2
          generalize u.w' = wc at *
          have hb := B2.out.blk
          unfold mIn at hb
          have c0 : wc.cell? ⟨b, 0, none⟩ = some (.int .i64 5) := cell_of_heap hb
          have c1 : wc.cell? ⟨b, 1, none⟩ = some (.int .i64 P) := cell_of_heap hb
          have c2 : wc.cell? ⟨b, 2, none⟩ = some (.int .i64 T) := cell_of_heap hb
          have c3 : wc.cell? ⟨b, 3, none⟩ = some (.int .i64 0) := cell_of_heap hb
          have c4 : wc.cell? ⟨b, 4, none⟩ = some (.int .i64 pg) := cell_of_heap hb
          have c5 : wc.cell? ⟨b, 5, none⟩ = some (.int .i64 c) := cell_of_heap hb
          have c6 : wc.cell? ⟨b, 6, none⟩ = some (.int .i64 n) := cell_of_heap hb
          have c7 : wc.cell? ⟨b, 7, none⟩ = some (.int .i64 g) := cell_of_heap hb
          have c10 : wc.cell? ⟨b, 10, none⟩ = some (.int .i64 0) := cell_of_heap hb
          have c11 : wc.cell? ⟨b, 11, none⟩ = some (.int .u64 (al : Int)) := cell_of_heap hb
          clear hb u
          go_upto_region 19 with fail
          obtain ⟨so, hso⟩ : ∃ so, Plain.ones (Plain.hold (Cls.slots c : Int)) = so := ⟨_, rfl⟩
          rw [hso] at HON
          have HSO := hide (show slotsB c = so from hso)
          obtain ⟨sc, hsc⟩ : ∃ sc : Int, (Cls.slots c : Int) = sc := ⟨_, rfl⟩
          rw [hsc] at HON HSL
          clear hso hsc HP
          obtain ⟨pb', hpb⟩ : ∃ pb, pgsB P pg n = pb := ⟨_, rfl⟩
          obtain ⟨gb, hgb⟩ : ∃ pb, genB g = pb := ⟨_, rfl⟩
          rw [hpb, hgb]
          have HPB := hide hpb
          have HGB := hide hgb
          clear hpb hgb
          have HCB := hide (show clsB c n = true by unfold clsB; simp; omega)
          clear hc
          cases pb'
          · have hne : Nonempty (Over wc) := ⟨⟨_, Below.refl _ _⟩⟩
            have u5 := fun u => over_cell c5 u
            have u11 := fun u => over_cell c11 u
            refine over_region (by kernel_rfl) (by kernel_rfl) ?_
            repeat (go_big_quiet_step (first | (go_at_call 33; exact over_call _ (HSL.out _)) | (go_at_call 32; exact over_call _ ((HON.out _).mono fun _ _ ⟨h1, h2⟩ => ⟨h1, by rw [h2]; exact Below.refl _ _⟩))))
            refine wpQuiet_nil ?_
            rintro _ ⟨u, rfl⟩
            have B3 := hide (B2.out.grow u.h)
            clear u5 u11 hne
            go_wp2
            go_ret
            exact ⟨by rw [HPB.out, HCB.out, HGB.out, HSO.out]; simp, B3.out.below⟩
          · cases gb
            · have hne : Nonempty (Over wc) := ⟨⟨_, Below.refl _ _⟩⟩
              have u5 := fun u => over_cell c5 u
              have u11 := fun u => over_cell c11 u
              refine over_region (by kernel_rfl) (by kernel_rfl) ?_
              repeat (go_big_quiet_step (first | (go_at_call 33; exact over_call _ (HSL.out _)) | (go_at_call 32; exact over_call _ ((HON.out _).mono fun _ _ ⟨h1, h2⟩ => ⟨h1, by rw [h2]; exact Below.refl _ _⟩))))
              refine wpQuiet_nil ?_
              rintro _ ⟨u, rfl⟩
              have B3 := hide (B2.out.grow u.h)
              clear u5 u11 hne
              go_wp2
              go_ret
              exact ⟨by rw [HPB.out, HCB.out, HGB.out, HSO.out]; simp, B3.out.below⟩
            · have hne : Nonempty (Over wc) := ⟨⟨_, Below.refl _ _⟩⟩
              have u5 := fun u => over_cell c5 u
              have u11 := fun u => over_cell c11 u
              refine over_region (by kernel_rfl) (by kernel_rfl) ?_
              repeat (go_big_quiet_step (first | (go_at_call 33; exact over_call _ (HSL.out _)) | (go_at_call 32; exact over_call _ ((HON.out _).mono fun _ _ ⟨h1, h2⟩ => ⟨h1, by rw [h2]; exact Below.refl _ _⟩))))
              refine wpQuiet_nil ?_
              rintro _ ⟨u, rfl⟩
              have B3 := hide (B2.out.grow u.h)
              clear u5 u11 hne
              go_wp2
              go_ret
              exact ⟨by rw [HPB.out, HCB.out, HGB.out, HSO.out]; simp, B3.out.below⟩

set_option maxRecDepth 100000 in
set_option maxHeartbeats 8000000 in
theorem rightLayD (P T pg c n g : Int) (al : Nat) (hpg : -9223372036854775808 ≤ pg ∧ pg ≤ 9223372036854775807) (hc : 0 ≤ c ∧ c < 14) (w : World) :
    Calls Tryd.prog 24 #[.agg (mIn 5 P T 0 pg c n g 0 0 0 al false (.slice none 0 0))] w fun e w' => e = .returned (.bool (mayLay P T pg c n g al)) ∧ Below w.heap.size w w' := by
  have HC := hide hc
  clear hc
  cases hm : Lay.may P T
  · have := rightOut 5 P T 0 pg c n g 0 0 0 al false (.slice none 0 0) hm w
    have e : (mayLay P T pg c n g al) = false := by unfold mayLay hasPg; rw [hm]; simp
    rw [e]
    exact this
  · have M := hide (fun w => rlmay P T w)
    rw [hm] at M
    obtain ⟨m1, m2, m3, m4⟩ := Lay.may_iff.1 hm
    have d2 : decide ((0 : Int) < T) = true := by simp; omega
    have hres : (mayLay P T pg c n g al) = (pgsB P pg n && clsB c n && genB g && decide (al ≤ slotsB c)) := by unfold mayLay; rw [has_pgs hm, may_cls]; unfold Ph.cyc genB; cases (decide (1 ≤ g) && decide (g ≤ 2147483648)) <;> cases pgsB P pg n <;> cases clsB c n <;> rfl
    rw [hres]
    have B0 : Hid (MR w (w.alloc (.cells (mIn 5 P T 0 pg c n g 0 0 0 al false (.slice none 0 0)) 38)) w.heap.size (mIn 5 P T 0 pg c n g 0 0 0 al false (.slice none 0 0))) := hide ⟨grown1 _ _, heap_alloc_at _ _⟩
    have HP := hide (fun (w : World) => rpages c w)
    have HSL := hide (fun (w : World) => rslots c w)
    have HON := hide (fun (w : World) => ones16R (Cls.slots c : Int) w)
    clear hm hres
    have c1 : (w.alloc (.cells (mIn 5 P T 0 pg c n g 0 0 0 al false (.slice none 0 0)) 38)).cell? ⟨w.heap.size, 1, none⟩ = some (.int .i64 P) := cell_of_heap B0.out.blk
    have c2 : (w.alloc (.cells (mIn 5 P T 0 pg c n g 0 0 0 al false (.slice none 0 0)) 38)).cell? ⟨w.heap.size, 2, none⟩ = some (.int .i64 T) := cell_of_heap B0.out.blk
    unfold mIn at *
    go_enter Tryd.func24, Tryd.ntmps24
    go_wp2_with fail
    refine (M.out _).mono ?_
    rintro e w1 ⟨rfl, hb1⟩
    have B1 := hide (B0.out.grow hb1)
    clear c1 c2 B0 M hb1
    generalize Value.agg #[.int .i64 5, .int .i64 P, .int .i64 T, .int .i64 0, .int .i64 pg, .int .i64 c, .int .i64 n, .int .i64 g, .int .i64 0, .int .i64 0, .int .i64 0, .int .u64 (al : Int), .bool false, .slice none 0 0, .slice none 0 0, .bool false, .int .i64 0, .bool false, .pointer none, .int .i64 0, .int .i64 0, .int .u64 0, .int .u64 0, .int .i64 0, .int .i64 0, .int .i64 0, .int .i64 0, .int .u64 0, .slice none 0 0, .slice none 0 0, .int .i64 0, .int .i64 0] = av at *
    have hb := B1.out.blk
    generalize w.heap.size = b at *
    have c0 : w1.cell? ⟨b, 0, none⟩ = some (.int .i64 5) := cell_of_heap hb
    have c1 : w1.cell? ⟨b, 1, none⟩ = some (.int .i64 P) := cell_of_heap hb
    have c2 : w1.cell? ⟨b, 2, none⟩ = some (.int .i64 T) := cell_of_heap hb
    have c3 : w1.cell? ⟨b, 3, none⟩ = some (.int .i64 0) := cell_of_heap hb
    have c4 : w1.cell? ⟨b, 4, none⟩ = some (.int .i64 pg) := cell_of_heap hb
    have c5 : w1.cell? ⟨b, 5, none⟩ = some (.int .i64 c) := cell_of_heap hb
    have c6 : w1.cell? ⟨b, 6, none⟩ = some (.int .i64 n) := cell_of_heap hb
    have c7 : w1.cell? ⟨b, 7, none⟩ = some (.int .i64 g) := cell_of_heap hb
    have c10 : w1.cell? ⟨b, 10, none⟩ = some (.int .i64 0) := cell_of_heap hb
    have c11 : w1.cell? ⟨b, 11, none⟩ = some (.int .u64 (al : Int)) := cell_of_heap hb
    clear hb
    go_upto_region 4 with fail
    go_cut [4] from 26 to 36 (fun v wc => v = .bool (pagB P pg) ∧ w1 = wc)
    case first =>
      by_cases h0 : 0 ≤ pg
      · have e0 : decide (pg ≥ 0) = true := by simp; omega
        have H0 := hide (decide_eq_true h0)
        clear h0
        go_wp2
        go_meet
        exact ⟨by unfold pagB; rw [H0.out]; simp, rfl⟩
      · have e0 : decide (pg ≥ 0) = false := by simp; omega
        have H0 := hide (decide_eq_false h0)
        clear h0
        go_wp2
        go_meet
        exact ⟨by unfold pagB; rw [H0.out]; simp, rfl⟩
    case rest =>
      obtain ⟨rfl, rfl⟩ := hcut
      obtain ⟨pb, hpb⟩ : ∃ pb, pagB P pg = pb := ⟨_, rfl⟩
      rw [hpb]
      have HQ := hide hpb
      clear hpb
      go_upto_region 5 with fail
      go_cut [5] from 37 to 53 (fun v wc => v = .bool (pgsB P pg n) ∧ w1 = wc)
      case first =>
        cases pb
        · go_wp2
          go_meet
          exact ⟨by unfold pgsB; rw [HQ.out]; simp, rfl⟩
        · have hp0 : 0 ≤ pg ∧ pg < P := by have hq := HQ.out; unfold pagB at hq; simpa using hq
          obtain ⟨hp0, hp1⟩ := hp0
          by_cases h1 : 1 ≤ n
          · have e1 : decide (n ≥ 1) = true := by simp; omega
            have H1 := hide (decide_eq_true h1)
            clear h1
            go_wp2
            go_meet
            exact ⟨by unfold pgsB; rw [HQ.out, H1.out]; simp, rfl⟩
          · have e1 : decide (n ≥ 1) = false := by simp; omega
            have H1 := hide (decide_eq_false h1)
            clear h1
            go_wp2
            go_meet
            exact ⟨by unfold pgsB; rw [HQ.out, H1.out]; simp, rfl⟩
      case rest =>
        obtain ⟨rfl, rfl⟩ := hcut
        go_upto_region 6 with fail
        go_cut [6] from 54 to 61 (fun v wc => v = .bool (genB g) ∧ w1 = wc)
        case first =>
          by_cases h0 : 1 ≤ g
          · have e0 : decide (g ≥ 1) = true := by simp; omega
            have H0 := hide (decide_eq_true h0)
            clear h0
            go_wp2
            go_meet
            exact ⟨by unfold genB; rw [H0.out]; simp, rfl⟩
          · have e0 : decide (g ≥ 1) = false := by simp; omega
            have H0 := hide (decide_eq_false h0)
            clear h0
            go_wp2
            go_meet
            exact ⟨by unfold genB; rw [H0.out]; simp, rfl⟩
        case rest =>
          obtain ⟨rfl, rfl⟩ := hcut
          go_upto_region 18 with fail
          have hc := HC.out
          obtain ⟨pc, hpc⟩ : ∃ pc : Int, (Cls.pages c : Int) = pc := ⟨_, rfl⟩
          rw [hpc] at HP
          have HPC := hide hpc
          clear hpc
          have e0 : decide (c ≥ 0) = true := by simp; omega
          have e1 : decide (c ≤ 14) = true := by simp; omega
          have e2 : (c == 14) = false := by rw [beq_eq_false_iff_ne]; omega
          have hne : Nonempty (Over w1) := ⟨⟨_, Below.refl _ _⟩⟩
          have u5 := fun u => over_cell c5 u
          have u6 := fun u => over_cell c6 u
          refine over_region (by kernel_rfl) (by kernel_rfl) ?_
          repeat (go_big_quiet_step (first | (go_at_call 31; exact over_call _ (HP.out _))))
          refine wpQuiet_nil ?_
          rintro _ ⟨u, rfl⟩
          have B2 := hide (B1.out.grow u.h)
          clear u5 u6 hne c0 c1 c2 c3 c4 c5 c6 c7 c10 c11 e0 e1 e2
          generalize u.w' = wc at *
          have hb := B2.out.blk
          unfold mIn at hb
          have c0 : wc.cell? ⟨b, 0, none⟩ = some (.int .i64 5) := cell_of_heap hb
          have c1 : wc.cell? ⟨b, 1, none⟩ = some (.int .i64 P) := cell_of_heap hb
          have c2 : wc.cell? ⟨b, 2, none⟩ = some (.int .i64 T) := cell_of_heap hb
          have c3 : wc.cell? ⟨b, 3, none⟩ = some (.int .i64 0) := cell_of_heap hb
          have c4 : wc.cell? ⟨b, 4, none⟩ = some (.int .i64 pg) := cell_of_heap hb
          have c5 : wc.cell? ⟨b, 5, none⟩ = some (.int .i64 c) := cell_of_heap hb
          have c6 : wc.cell? ⟨b, 6, none⟩ = some (.int .i64 n) := cell_of_heap hb
          have c7 : wc.cell? ⟨b, 7, none⟩ = some (.int .i64 g) := cell_of_heap hb
          have c10 : wc.cell? ⟨b, 10, none⟩ = some (.int .i64 0) := cell_of_heap hb
          have c11 : wc.cell? ⟨b, 11, none⟩ = some (.int .u64 (al : Int)) := cell_of_heap hb
          clear hb u
          go_upto_region 19 with fail
          obtain ⟨so, hso⟩ : ∃ so, Plain.ones (Plain.hold (Cls.slots c : Int)) = so := ⟨_, rfl⟩
          rw [hso] at HON
          have HSO := hide (show slotsB c = so from hso)
          obtain ⟨sc, hsc⟩ : ∃ sc : Int, (Cls.slots c : Int) = sc := ⟨_, rfl⟩
          rw [hsc] at HON HSL
          clear hso hsc HP
          obtain ⟨pb', hpb⟩ : ∃ pb, pgsB P pg n = pb := ⟨_, rfl⟩
          obtain ⟨gb, hgb⟩ : ∃ pb, genB g = pb := ⟨_, rfl⟩
          rw [hpb, hgb]
          have HPB := hide hpb
          have HGB := hide hgb
          clear hpb hgb
          obtain ⟨cb, hcb⟩ : ∃ cb, (n == pc) = cb := ⟨_, rfl⟩
          rw [hcb]
          have HCB := hide (show clsB c n = cb by rw [← hcb]; unfold clsB; rw [HPC.out, decide_eq_true (show 0 ≤ c by omega), decide_eq_true (show c ≤ 14 by omega), decide_eq_false (show ¬ c = 14 by omega)]; by_cases h : n = pc <;> simp [h])
          clear hcb hc
          cases pb'
          · have hne : Nonempty (Over wc) := ⟨⟨_, Below.refl _ _⟩⟩
            have u5 := fun u => over_cell c5 u
            have u11 := fun u => over_cell c11 u
            refine over_region (by kernel_rfl) (by kernel_rfl) ?_
            repeat (go_big_quiet_step (first | (go_at_call 33; exact over_call _ (HSL.out _)) | (go_at_call 32; exact over_call _ ((HON.out _).mono fun _ _ ⟨h1, h2⟩ => ⟨h1, by rw [h2]; exact Below.refl _ _⟩))))
            refine wpQuiet_nil ?_
            rintro _ ⟨u, rfl⟩
            have B3 := hide (B2.out.grow u.h)
            clear u5 u11 hne
            go_wp2
            go_ret
            exact ⟨by rw [HPB.out, HCB.out, HGB.out, HSO.out]; simp, B3.out.below⟩
          · cases cb
            · have hne : Nonempty (Over wc) := ⟨⟨_, Below.refl _ _⟩⟩
              have u5 := fun u => over_cell c5 u
              have u11 := fun u => over_cell c11 u
              refine over_region (by kernel_rfl) (by kernel_rfl) ?_
              repeat (go_big_quiet_step (first | (go_at_call 33; exact over_call _ (HSL.out _)) | (go_at_call 32; exact over_call _ ((HON.out _).mono fun _ _ ⟨h1, h2⟩ => ⟨h1, by rw [h2]; exact Below.refl _ _⟩))))
              refine wpQuiet_nil ?_
              rintro _ ⟨u, rfl⟩
              have B3 := hide (B2.out.grow u.h)
              clear u5 u11 hne
              go_wp2
              go_ret
              exact ⟨by rw [HPB.out, HCB.out, HGB.out, HSO.out]; simp, B3.out.below⟩
            · cases gb
              · have hne : Nonempty (Over wc) := ⟨⟨_, Below.refl _ _⟩⟩
                have u5 := fun u => over_cell c5 u
                have u11 := fun u => over_cell c11 u
                refine over_region (by kernel_rfl) (by kernel_rfl) ?_
                repeat (go_big_quiet_step (first | (go_at_call 33; exact over_call _ (HSL.out _)) | (go_at_call 32; exact over_call _ ((HON.out _).mono fun _ _ ⟨h1, h2⟩ => ⟨h1, by rw [h2]; exact Below.refl _ _⟩))))
                refine wpQuiet_nil ?_
                rintro _ ⟨u, rfl⟩
                have B3 := hide (B2.out.grow u.h)
                clear u5 u11 hne
                go_wp2
                go_ret
                exact ⟨by rw [HPB.out, HCB.out, HGB.out, HSO.out]; simp, B3.out.below⟩
              · have hne : Nonempty (Over wc) := ⟨⟨_, Below.refl _ _⟩⟩
                have u5 := fun u => over_cell c5 u
                have u11 := fun u => over_cell c11 u
                refine over_region (by kernel_rfl) (by kernel_rfl) ?_
                repeat (go_big_quiet_step (first | (go_at_call 33; exact over_call _ (HSL.out _)) | (go_at_call 32; exact over_call _ ((HON.out _).mono fun _ _ ⟨h1, h2⟩ => ⟨h1, by rw [h2]; exact Below.refl _ _⟩))))
                refine wpQuiet_nil ?_
                rintro _ ⟨u, rfl⟩
                have B3 := hide (B2.out.grow u.h)
                clear u5 u11 hne
                go_wp2
                go_ret
                exact ⟨by rw [HPB.out, HCB.out, HGB.out, HSO.out]; simp, B3.out.below⟩

theorem rightLay (P T pg c n g : Int) (al : Nat) (hpg : -9223372036854775808 ≤ pg ∧ pg ≤ 9223372036854775807) (w : World) :
    Calls Tryd.prog 24 #[.agg (mIn 5 P T 0 pg c n g 0 0 0 al false (.slice none 0 0))] w fun e w' => e = .returned (.bool (mayLay P T pg c n g al)) ∧ Below w.heap.size w w' := by
  by_cases h0 : c < 0
  · exact rightLayA P T pg c n g al hpg h0 w
  · by_cases h1 : 14 < c
    · exact rightLayB P T pg c n g al hpg h1 w
    · by_cases h2 : c = 14
      · exact rightLayC P T pg c n g al hpg h2 w
      · exact rightLayD P T pg c n g al hpg (by omega) w
end Go.Proofs.YtgdliebllmgibaaDoor
