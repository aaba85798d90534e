/- The document's machine, new: may it be made of that? (a pop, a push) Machines that have nothing to do: in no arena, in one of another layout; no machine. -/
import Derived.Test.YtigokeocphbffaaSA
import Derived.Test.YtigokeocphbffaaLR
namespace Go.Proofs.Ytigokeocphbffaa
open Go.RowKit

set_option maxHeartbeats 1000000 in
theorem rkhead (P T a : Int) (w : World) :
    Calls Try.prog 51 #[.agg #[.int .i64 P, .int .i64 T], .int .i64 a] w fun e w' => e = .returned (.bool (Lay.isHead P T a)) ∧ Below w.heap.size w w' := by
  have M := hide (fun w => rlname P T a w)
  unfold Lay.isHead
  generalize Lay.name P T a = x at *
  obtain ⟨⟨a1, a2, a3⟩, b⟩ := x
  cases b
  · go_enter Try.func51, Try.ntmps51
    have B0 := LBox.new w P T 26
    have c0 := B0.c0
    have c1 := B0.c1
    go_wp2_with fail
    refine (M.out _).mono ?_
    rintro e w1 ⟨rfl, hb⟩
    have B1 := LBox.grow (by assumption) hb
    have hB := B1.below
    have hZ := hide hB.size
    go_wp2
    go_ret
    exact ⟨rfl, hB.alloc hZ.out _⟩
  · by_cases h7 : a1 = 7
    · have d7 : (a1 == 7) = true := by simp [h7]
      simp only [h7, decide_true, Bool.and_true]
      clear h7
      go_enter Try.func51, Try.ntmps51
      have B0 := LBox.new w P T 26
      have c0 := B0.c0
      have c1 := B0.c1
      go_wp2_with fail
      refine (M.out _).mono ?_
      rintro e w1 ⟨rfl, hb⟩
      have B1 := LBox.grow (by assumption) hb
      have hB := B1.below
      have hZ := hide hB.size
      go_wp2
      go_ret
      exact ⟨rfl, hB.alloc hZ.out _⟩
    · have d7 : (a1 == 7) = false := by rw [beq_eq_false_iff_ne]; exact h7
      simp only [h7, decide_false, Bool.and_false]
      clear h7
      go_enter Try.func51, Try.ntmps51
      have B0 := LBox.new w P T 26
      have c0 := B0.c0
      have c1 := B0.c1
      go_wp2_with fail
      refine (M.out _).mono ?_
      rintro e w1 ⟨rfl, hb⟩
      have B1 := LBox.grow (by assumption) hb
      have hB := B1.below
      have hZ := hide hB.size
      go_wp2
      go_ret
      exact ⟨rfl, hB.alloc hZ.out _⟩

/-- The document's machine as it is handed in: what it is, what it is made of. -/
def mArr (what P T thread page cls pages gen head size most mask : Int) (drop : Bool) (list : Value) : Array Value :=
  #[.int .i64 what, .int .i64 P, .int .i64 T, .int .i64 thread, .int .i64 page, .int .i64 cls, .int .i64 pages, .int .i64 gen, .int .i64 head, .int .i64 size, .int .i64 most, .int .u64 mask, .bool drop, list,
    .slice none 0 0, .bool false, .int .i64 0, .bool false, .pointer none, .int .i64 0, .int .i64 0, .int .u64 0, .int .u64 0, .int .i64 0, .int .i64 0, .int .i64 0, .int .i64 0, .int .u64 0, .slice none 0 0, .slice none 0 0, .int .i64 0, .int .i64 0]

/-- The cells of a machine's block that Right reads. -/
structure MBox (w0 w : World) (b : Nat) (what P T page head : Int) : Prop where
  below : Below w0.heap.size w0 w
  c : ∃ arr : Array Value, w.heap[b]? = some (.cells arr 76 (0, 0)) ∧ arr[0]? = some (.int .i64 what) ∧ arr[1]? = some (.int .i64 P) ∧ arr[2]? = some (.int .i64 T) ∧ arr[3]? = some (.int .i64 0) ∧ arr[4]? = some (.int .i64 page) ∧ arr[6]? = some (.int .i64 0) ∧ arr[7]? = some (.int .i64 0) ∧ arr[8]? = some (.int .i64 head) ∧ arr[10]? = some (.int .i64 0)
theorem MBox.new (w : World) (what P T page head : Int) : MBox w (w.alloc (.cells (mArr what P T 0 page 0 0 0 head 0 0 0 false (.slice none 0 0)) 76)) w.heap.size what P T page head :=
  ⟨grown1 _ _, _, heap_alloc_at _ _, rfl, rfl, rfl, rfl, rfl, rfl, rfl, rfl, rfl⟩
theorem MBox.grow {w0 w w' : World} {b : Nat} {what P T page head : Int} (h : MBox w0 w b what P T page head) (hb : Below w.heap.size w w') : MBox w0 w' b what P T page head := by
  obtain ⟨h1, arr, h2, h3⟩ := h
  exact ⟨h1.trans (hb.mono h1.size), arr, (hb.block _ (lt_of_heap h2)).trans h2, h3⟩
theorem MBox.cells {w0 w : World} {b : Nat} {what P T page head : Int} (h : MBox w0 w b what P T page head) :
    w.cell? ⟨b, 0, none⟩ = some (.int .i64 what) ∧ w.cell? ⟨b, 1, none⟩ = some (.int .i64 P) ∧ w.cell? ⟨b, 2, none⟩ = some (.int .i64 T) ∧ w.cell? ⟨b, 3, none⟩ = some (.int .i64 0) ∧ w.cell? ⟨b, 4, none⟩ = some (.int .i64 page) ∧ w.cell? ⟨b, 6, none⟩ = some (.int .i64 0) ∧ w.cell? ⟨b, 7, none⟩ = some (.int .i64 0) ∧ w.cell? ⟨b, 8, none⟩ = some (.int .i64 head) ∧ w.cell? ⟨b, 10, none⟩ = some (.int .i64 0) := by
  obtain ⟨h1, arr, h2, a0, a1, a2, a3, a4, a6, a7, a8, a10⟩ := h
  exact ⟨(cell_of_heap h2).trans a0, (cell_of_heap h2).trans a1, (cell_of_heap h2).trans a2, (cell_of_heap h2).trans a3, (cell_of_heap h2).trans a4, (cell_of_heap h2).trans a6, (cell_of_heap h2).trans a7, (cell_of_heap h2).trans a8, (cell_of_heap h2).trans a10⟩

set_option maxRecDepth 100000 in
set_option maxHeartbeats 2000000 in
theorem rightNo (what P T page head : Int) (hm : Lay.may P T = false) (w : World) :
    Calls Try.prog 28 #[.agg (mArr what P T 0 page 0 0 0 head 0 0 0 false (.slice none 0 0))] w fun e w' => e = .returned (.bool false) ∧ Below w.heap.size w w' := by
  have M := hide (fun w => rlmay P T w)
  rw [hm] at M
  clear hm
  have B0 := MBox.new w what P T page head
  obtain ⟨c0, c1, c2, c3, c4, c6, c7, c8, c10⟩ := B0.cells
  unfold mArr at *
  go_enter Try.func28, Try.ntmps28
  go_wp2_with fail
  refine (M.out _).mono ?_
  rintro e w1 ⟨rfl, hb⟩
  have B1 := MBox.grow (by assumption) hb
  go_wp2
  go_ret
  exact ⟨rfl, B1.below⟩

set_option maxRecDepth 100000 in
set_option maxHeartbeats 2000000 in
theorem rightPop (P T head : Int) (hm : Lay.may P T = true) (w : World) :
    Calls Try.prog 28 #[.agg (mArr 1 P T 0 0 0 0 0 head 0 0 0 false (.slice none 0 0))] w fun e w' => e = .returned (.bool (Lay.isHead P T head)) ∧ Below w.heap.size w w' := by
  have M := hide (fun w => rlmay P T w)
  have N := hide (fun w => rkhead P T head w)
  rw [hm] at M
  obtain ⟨m1, m2, m3, m4⟩ := Lay.may_iff.1 hm
  have d1 : decide ((0 : Int) < T) = true := by simp; omega
  have d2 : decide ((0 : Int) < P) = true := by simp; omega
  generalize Lay.isHead P T head = ans at *
  clear hm m1 m2 m3 m4
  have B0 := MBox.new w 1 P T 0 head
  obtain ⟨c0, c1, c2, c3, c4, c6, c7, c8, c10⟩ := B0.cells
  unfold mArr at *
  go_enter Try.func28, Try.ntmps28
  go_wp2_with fail
  refine (M.out _).mono ?_
  rintro e w1 ⟨rfl, hb⟩
  have B1 := MBox.grow (by assumption) hb
  clear c0 c1 c2 c3 c4 c6 c7 c8 c10
  obtain ⟨c0, c1, c2, c3, c4, c6, c7, c8, c10⟩ := B1.cells
  go_wp2_with fail
  refine (N.out _).mono ?_
  rintro e w2 ⟨rfl, hb⟩
  have B2 := MBox.grow B1 hb
  go_wp2
  go_ret
  exact ⟨rfl, B2.below⟩
set_option maxRecDepth 100000 in
set_option maxHeartbeats 2000000 in
theorem rightPush (P T page head : Int) (hm : Lay.may P T = true) (hp : -9223372036854775808 ≤ page ∧ page ≤ 9223372036854775807) (w : World) :
    Calls Try.prog 28 #[.agg (mArr 2 P T 0 page 0 0 0 head 0 0 0 false (.slice none 0 0))] w fun e w' => e = .returned (.bool (Lay.isHead P T head && (Lay.page P T 11 page).2)) ∧ Below w.heap.size w w' := by
  have M := hide (fun w => rlmay P T w)
  have N := hide (fun w => rkhead P T head w)
  rw [hm] at M
  obtain ⟨m1, m2, m3, m4⟩ := Lay.may_iff.1 hm
  have d1 : decide ((0 : Int) < T) = true := by simp; omega
  have e2 : (Lay.page P T 11 page).2 = (decide (0 ≤ page) && decide (page < P)) := by
    unfold Lay.page
    by_cases h : 0 ≤ page ∧ page < P
    · rw [if_pos (by simp [hm, Lay.below_iff, h.1, h.2])]; simp [h.1, h.2]
    · rw [if_neg (by simp only [Bool.and_eq_true, Lay.below_iff]; omega)]
      by_cases h0 : 0 ≤ page
      · have : ¬ page < P := fun h1 => h ⟨h0, h1⟩
        simp [this]
      · simp [h0]
  rw [e2]
  generalize Lay.isHead P T head = ans at *
  clear hm e2
  by_cases h0 : 0 ≤ page
  · by_cases h1 : page < P
    · have t0 : decide (page ≥ 0) = true := by simp; omega
      have t1 : decide (page < P) = true := by simp; omega
      have t2 : decide (0 ≤ page) = true := by simp; omega
      rw [t1, t2]
      clear m1 m2 m3 m4
      have B0 := MBox.new w 2 P T page head
      obtain ⟨c0, c1, c2, c3, c4, c6, c7, c8, c10⟩ := B0.cells
      unfold mArr at *
      cases ans <;> (
        go_enter Try.func28, Try.ntmps28
        go_wp2_with fail
        refine (M.out _).mono ?_
        rintro e w1 ⟨rfl, hb⟩
        have B1 := MBox.grow (by assumption) hb
        clear c0 c1 c2 c3 c4 c6 c7 c8 c10
        obtain ⟨c0, c1, c2, c3, c4, c6, c7, c8, c10⟩ := B1.cells
        go_wp2_with fail
        refine (N.out _).mono ?_
        rintro e w2 ⟨rfl, hb⟩
        have B2 := MBox.grow B1 hb
        go_wp2
        go_ret
        exact ⟨rfl, B2.below⟩)
    · have t0 : decide (page ≥ 0) = true := by simp; omega
      have t1 : decide (page < P) = false := by simp; omega
      have t2 : decide (0 ≤ page) = true := by simp; omega
      rw [t1, t2]
      clear m1 m2 m3 m4
      have B0 := MBox.new w 2 P T page head
      obtain ⟨c0, c1, c2, c3, c4, c6, c7, c8, c10⟩ := B0.cells
      unfold mArr at *
      cases ans <;> (
        go_enter Try.func28, Try.ntmps28
        go_wp2_with fail
        refine (M.out _).mono ?_
        rintro e w1 ⟨rfl, hb⟩
        have B1 := MBox.grow (by assumption) hb
        clear c0 c1 c2 c3 c4 c6 c7 c8 c10
        obtain ⟨c0, c1, c2, c3, c4, c6, c7, c8, c10⟩ := B1.cells
        go_wp2_with fail
        refine (N.out _).mono ?_
        rintro e w2 ⟨rfl, hb⟩
        have B2 := MBox.grow B1 hb
        go_wp2
        go_ret
        exact ⟨rfl, B2.below⟩)
  · have t0 : decide (page ≥ 0) = false := by simp; omega
    have t2 : decide (0 ≤ page) = false := by simp; omega
    rw [t2]
    clear m1 m2 m3 m4
    have B0 := MBox.new w 2 P T page head
    obtain ⟨c0, c1, c2, c3, c4, c6, c7, c8, c10⟩ := B0.cells
    unfold mArr at *
    cases ans <;> (
      go_enter Try.func28, Try.ntmps28
      go_wp2_with fail
      refine (M.out _).mono ?_
      rintro e w1 ⟨rfl, hb⟩
      have B1 := MBox.grow (by assumption) hb
      clear c0 c1 c2 c3 c4 c6 c7 c8 c10
      obtain ⟨c0, c1, c2, c3, c4, c6, c7, c8, c10⟩ := B1.cells
      go_wp2_with fail
      refine (N.out _).mono ?_
      rintro e w2 ⟨rfl, hb⟩
      have B2 := MBox.grow B1 hb
      go_wp2
      go_ret
      exact ⟨rfl, B2.below⟩)
end Go.Proofs.Ytigokeocphbffaa

namespace Go.Proofs.Ytigokeocphbffaa
open Go.RowKit

/-- Two arenas at hand: none, and the one at q. -/
def Hand (q : Nat) (qa : Option Addr) : Prop := qa = none ∨ qa = some ⟨q, 0, none⟩
/-- The pop v has nothing to do in any world above w. -/
structure PopIdle (q : Nat) (v : Value) (w : World) : Prop where
  step : ∀ (qa : Option Addr), Hand q qa → ∀ u : World, Below w.heap.size w u → Calls Try.prog 13 #[v, .pointer qa] u fun e u' => e = .returned noDid ∧ Below u.heap.size u u'
  done : ∀ u : World, Below w.heap.size w u → Calls Try.prog 14 #[v] u fun e u' => e = .returned (.bool false) ∧ Below u.heap.size u u'
structure PushIdle (q : Nat) (v : Value) (w : World) : Prop where
  step : ∀ (qa : Option Addr), Hand q qa → ∀ u : World, Below w.heap.size w u → Calls Try.prog 11 #[v, .pointer qa] u fun e u' => e = .returned noDid ∧ Below u.heap.size u u'
  done : ∀ u : World, Below w.heap.size w u → Calls Try.prog 12 #[v] u fun e u' => e = .returned (.bool false) ∧ Below u.heap.size u u'
theorem PopIdle.grow {q : Nat} {v : Value} {w w' : World} (h : PopIdle q v w) (b : Below w.heap.size w w') : PopIdle q v w' :=
  ⟨fun qa hq u hu => h.step qa hq u (b.trans (hu.mono b.size)), fun u hu => h.done u (b.trans (hu.mono b.size))⟩
theorem PushIdle.grow {q : Nat} {v : Value} {w w' : World} (h : PushIdle q v w) (b : Below w.heap.size w w') : PushIdle q v w' :=
  ⟨fun qa hq u hu => h.step qa hq u (b.trans (hu.mono b.size)), fun u hu => h.done u (b.trans (hu.mono b.size))⟩

theorem popNilIdle (q : Nat) (w : World) : PopIdle q (.pointer none) w :=
  ⟨fun qa _ u _ => popNilStep u qa, fun u _ => (popNilDone u).mono fun _ _ ⟨h1, h2⟩ => ⟨h1, by rw [h2]; exact Below.refl _ _⟩⟩
theorem pushNilIdle (q : Nat) (w : World) : PushIdle q (.pointer none) w :=
  ⟨fun qa _ u _ => pushNilStep u qa, fun u _ => (pushNilDone u).mono fun _ _ ⟨h1, h2⟩ => ⟨h1, by rw [h2]; exact Below.refl _ _⟩⟩
theorem popNewIdle {q m : Nat} {w : World} {P T : Int} {i : Nat} (k : w.heap[m]? = some (popM P T i ⟨0, 0, 0, 0⟩)) (hP : 1 ≤ P) {p r n : Nat} {P' T' : Int} (ka : ArAt q P' T' p r n w) (hn : P' ≠ P ∨ T' ≠ T) : PopIdle q (.pointer (some ⟨m, 0, none⟩)) w := by
  refine ⟨fun qa hq u hu => popNo u m qa fun u1 h1 => ?_, fun u hu => ?_⟩
  · have hu1 := hu.trans (h1.mono hu.size)
    have k1 := (hu1.block _ (lt_of_heap k)).trans k
    rcases hq with rfl | rfl
    · exact mayNil u1 m _ _ _ _ _ (.pop k1) (.inl rfl) hP
    · exact mayNo u1 m _ _ _ _ _ (.pop k1) (.inl rfl) q p r n P' T' (ka.below hu1) hn
  · exact (popDone u m _ _ _ _ _ _ _ ((hu.block _ (lt_of_heap k)).trans k) false rfl).mono fun _ _ ⟨h1, h2⟩ => ⟨h1, by rw [h2]; exact Below.refl _ _⟩
theorem pushNewIdle {q m : Nat} {w : World} {P T : Int} {i : Nat} {y : Int} (k : w.heap[m]? = some (pushM P T i ⟨0, 0, y⟩)) (hP : 1 ≤ P) {p r n : Nat} {P' T' : Int} (ka : ArAt q P' T' p r n w) (hn : P' ≠ P ∨ T' ≠ T) : PushIdle q (.pointer (some ⟨m, 0, none⟩)) w := by
  refine ⟨fun qa hq u hu => pushNo u m qa fun u1 h1 => ?_, fun u hu => ?_⟩
  · have hu1 := hu.trans (h1.mono hu.size)
    have k1 := (hu1.block _ (lt_of_heap k)).trans k
    rcases hq with rfl | rfl
    · exact mayNil u1 m _ _ _ _ _ (.push k1) (.inl rfl) hP
    · exact mayNo u1 m _ _ _ _ _ (.push k1) (.inl rfl) q p r n P' T' (ka.below hu1) hn
  · exact (pushDone u m _ _ _ _ _ _ ((hu.block _ (lt_of_heap k)).trans k) false rfl).mono fun _ _ ⟨h1, h2⟩ => ⟨h1, by rw [h2]; exact Below.refl _ _⟩

theorem listNil12 (w : World) (a : Int) : Calls Try.prog 17 #[.pointer none, .int .i64 a] w fun e w' => e = .returned (.slice none 0 0) ∧ Below w.heap.size w w' := by
  have HH := hide (fun w => khead 0 0 a w)
  have h0 : Lay.isHead 0 0 a = false := by
    cases h : Lay.isHead 0 0 a
    · rfl
    · have := (Lay.isHead_iff.1 h).1; revert this; decide
  rw [h0] at HH
  clear h0
  go_enter Try.func17, Try.ntmps17
  go_wp2_with fail
  refine (layoutNil _).mono ?_
  rintro e w1 ⟨rfl, b1⟩
  have l0 := heap_alloc_at w1 (.cells #[.int .i64 0, .int .i64 0] 26)
  have HB2 := hide (b1.alloc b1.size (.cells #[.int .i64 0, .int .i64 0] 26))
  have k0 : (w1.alloc (.cells #[.int .i64 0, .int .i64 0] 26)).cell? ⟨w1.heap.size, 0, none⟩ = some (.int .i64 0) := cell_of_heap l0
  have k1 : (w1.alloc (.cells #[.int .i64 0, .int .i64 0] 26)).cell? ⟨w1.heap.size, 1, none⟩ = some (.int .i64 0) := cell_of_heap l0
  clear l0 b1
  go_wp2_with fail
  refine (HH.out _).mono ?_
  rintro e w3 ⟨rfl, b3⟩
  have HB3 := hide (HB2.out.trans (b3.mono HB2.out.size))
  go_wp2
  go_ret
  exact ⟨rfl, HB3.out⟩

/-- An arena that a call made lies in new blocks. -/
theorem Own.arLow {R : Res} {w0 w : World} {q : Nat} {P T : Int} {p r : Nat} {s : St} {pg : Nat} {ds : List Nat} {dn : Nat} {L : RL} (h : Own (Sep (AX q P T p r s pg ds dn L) R) w0 w) :
    w0.heap.size ≤ q ∧ w0.heap.size ≤ p ∧ ∃ b, StoreAt 105 w p b s ∧ w0.heap.size ≤ b := by
  obtain ⟨G, ⟨G1, G2, ⟨A1, A2, ⟨_, e⟩, ⟨B1, B2, ⟨b, hS, eS⟩, _, _, dB⟩, _, dA⟩, _, _, d⟩, h2, _⟩ := h
  exact ⟨h2 q ((d q).2 (.inl ((dA q).2 (.inl ((e q).2 rfl))))), h2 p ((d p).2 (.inl ((dA p).2 (.inr ((dB p).2 (.inl ((eS p).2 (.inl rfl)))))))), b, hS, h2 b ((d b).2 (.inl ((dA b).2 (.inr ((dB b).2 (.inl ((eS b).2 (.inr rfl))))))))⟩

theorem newPop4 (h : Int) (u : World) : Calls Try.prog 26 #[.agg #[.int .i64 4, .int .i64 2], .int .i64 h] u fun e w' => ∃ v, e = .returned v ∧ (v = .pointer none ∨ ∃ (m i : Nat), v = .pointer (some ⟨m, 0, none⟩) ∧ w'.heap[m]? = some (popM 4 2 i ⟨0, 0, 0, 0⟩)) ∧ Below u.heap.size u w' := by
  cases hh : Lay.isHead 4 2 h
  · exact (newPopNo 4 2 h hh u).mono fun _ _ ⟨h1, h2⟩ => ⟨_, h1, .inl rfl, h2⟩
  · obtain ⟨i, rfl⟩ : ∃ i : Nat, h = (i : Int) := ⟨h.toNat, by have := (Lay.isHead_iff.1 hh).2; omega⟩
    exact (newPopYes 4 2 _ hh u).mono fun _ _ ⟨m, h1, h2, _, h3⟩ => ⟨_, h1, .inr ⟨m, i, rfl, h2⟩, h3⟩
theorem newPush4 (h y : Int) (u : World) : Calls Try.prog 24 #[.agg #[.int .i64 4, .int .i64 2], .int .i64 h, .int .i64 y] u fun e w' => ∃ v, e = .returned v ∧ (v = .pointer none ∨ ∃ (m i : Nat), v = .pointer (some ⟨m, 0, none⟩) ∧ w'.heap[m]? = some (pushM 4 2 i ⟨0, 0, y⟩)) ∧ Below u.heap.size u w' := by
  cases hh : Lay.isHead 4 2 h
  · exact (newPushNo 4 2 h y (.inl hh) u).mono fun _ _ ⟨h1, h2⟩ => ⟨_, h1, .inl rfl, h2⟩
  · cases hp : (Lay.page 4 2 11 y).2
    · exact (newPushNo 4 2 h y (.inr hp) u).mono fun _ _ ⟨h1, h2⟩ => ⟨_, h1, .inl rfl, h2⟩
    · obtain ⟨i, rfl⟩ : ∃ i : Nat, h = (i : Int) := ⟨h.toNat, by have := (Lay.isHead_iff.1 hh).2; omega⟩
      exact (newPushYes 4 2 _ y hh hp u).mono fun _ _ ⟨m, h1, h2, _, h3⟩ => ⟨_, h1, .inr ⟨m, i, rfl, h2⟩, h3⟩
end Go.Proofs.Ytigokeocphbffaa
