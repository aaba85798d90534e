/- The calls of package layout: how many words, the word of each thing, each at every argument. -/
import Derived.Test.YtafamfjgehnddaaLayCalls
namespace Go.Proofs.Ytafamfjgehnddaa
open Go.RowKit

theorem over_cell {w : World} {p : Addr} {v : Value} (h : w.cell? p = some v) (u : Over w) : u.w'.cell? p = some v :=
  (u.h.cell (block_lt_of_cell h)).trans h

/-- A layout lies in block b of the world w, which has grown of w0. -/
structure LBox (w0 w : World) (b : Nat) (P T : Int) : Prop where
  below : Below w0.heap.size w0 w
  c0 : w.cell? ⟨b, 0, none⟩ = some (.int .i64 P)
  c1 : w.cell? ⟨b, 1, none⟩ = some (.int .i64 T)

theorem LBox.new (w : World) (P T : Int) (t : TypeId) : LBox w (w.alloc (.cells #[.int .i64 P, .int .i64 T] t)) w.heap.size P T :=
  ⟨grown1 _ _, cell_of_heap (heap_alloc_at _ _), cell_of_heap (heap_alloc_at _ _)⟩

theorem LBox.grow {w0 w w' : World} {b : Nat} {P T : Int} (h : LBox w0 w b P T) (hb : Below w.heap.size w w') : LBox w0 w' b P T :=
  ⟨h.below.trans (hb.mono h.below.size), (hb.cell (block_lt_of_cell h.c0)).trans h.c0, (hb.cell (block_lt_of_cell h.c1)).trans h.c1⟩

set_option maxHeartbeats 2000000 in
theorem lindex (P T : Int) (p1 : 1 ≤ P) (p2 : P ≤ 4096) (h1 : 1 ≤ T) (h2 : T ≤ 64) (w : World) :
    Calls Try.prog 83 #[.agg #[.int .i64 P, .int .i64 T]] w fun e w' => e = .returned (.int .i64 (Lay.index P T)) ∧ Below w.heap.size w w' := by
  have C := hide (fun w => lstates P T h1 h2 w)
  have e : Lay.index P T = Lay.states T + 5 * P := by unfold Lay.index Lay.states; omega
  rw [e]
  clear e
  have mS : 0 ≤ Lay.states T ∧ Lay.states T ≤ 100000 := by unfold Lay.states; omega
  obtain ⟨mS1, mS2⟩ := mS
  generalize Lay.states T = S at *
  go_enter Try.func83, Try.ntmps83
  go_wp2_with fail
  have B0 := LBox.new w P T 26
  generalize (w.alloc (.cells #[.int .i64 P, .int .i64 T] 26)) = w1 at *
  have hne : Nonempty (Over w1) := ⟨⟨_, Below.refl _ _⟩⟩
  have c0 := fun u => over_cell B0.c0 u
  have c1 := fun u => over_cell B0.c1 u
  refine over_region (by kernel_rfl) (by kernel_rfl) ?_
  repeat (go_big_quiet_step (first | (go_at_call 84; exact over_call _ (C.out _))))
  refine wpQuiet_nil ?_
  rintro _ ⟨u, rfl⟩
  go_wp2
  go_ret
  refine ⟨ret_int ?_, (B0.grow u.h).below⟩
  first | rfl | omega

set_option maxHeartbeats 2000000 in
theorem lused (P T : Int) (p1 : 1 ≤ P) (p2 : P ≤ 4096) (h1 : 1 ≤ T) (h2 : T ≤ 64) (w : World) :
    Calls Try.prog 92 #[.agg #[.int .i64 P, .int .i64 T]] w fun e w' => e = .returned (.int .i64 (Lay.used P T)) ∧ Below w.heap.size w w' := by
  have C := hide (fun w => lindex P T p1 p2 h1 h2 w)
  have e : Lay.used P T = Lay.index P T + P := by unfold Lay.index Lay.used; omega
  rw [e]
  clear e
  have mS : 0 ≤ Lay.index P T ∧ Lay.index P T ≤ 100000 := by unfold Lay.index; omega
  obtain ⟨mS1, mS2⟩ := mS
  generalize Lay.index P T = S at *
  go_enter Try.func92, Try.ntmps92
  go_wp2_with fail
  have B0 := LBox.new w P T 26
  generalize (w.alloc (.cells #[.int .i64 P, .int .i64 T] 26)) = w1 at *
  have hne : Nonempty (Over w1) := ⟨⟨_, Below.refl _ _⟩⟩
  have c0 := fun u => over_cell B0.c0 u
  have c1 := fun u => over_cell B0.c1 u
  refine over_region (by kernel_rfl) (by kernel_rfl) ?_
  repeat (go_big_quiet_step (first | (go_at_call 83; exact over_call _ (C.out _))))
  refine wpQuiet_nil ?_
  rintro _ ⟨u, rfl⟩
  go_wp2
  go_ret
  refine ⟨ret_int ?_, (B0.grow u.h).below⟩
  first | rfl | omega

set_option maxHeartbeats 2000000 in
theorem lgone (P T : Int) (p1 : 1 ≤ P) (p2 : P ≤ 4096) (h1 : 1 ≤ T) (h2 : T ≤ 64) (w : World) :
    Calls Try.prog 93 #[.agg #[.int .i64 P, .int .i64 T]] w fun e w' => e = .returned (.int .i64 (Lay.gone P T)) ∧ Below w.heap.size w w' := by
  have C := hide (fun w => lused P T p1 p2 h1 h2 w)
  have D := hide (fun w => lmaps P T p1 p2 w)
  have e : Lay.gone P T = Lay.used P T + Lay.maps P := by unfold Lay.gone Lay.used; omega
  rw [e]
  clear e
  have mS : 0 ≤ Lay.used P T ∧ Lay.used P T ≤ 100000 := by unfold Lay.used; omega
  obtain ⟨mS1, mS2⟩ := mS
  generalize Lay.used P T = S at *
  have mM : 0 ≤ Lay.maps P ∧ Lay.maps P ≤ 100000 := by unfold Lay.maps; omega
  obtain ⟨mM1, mM2⟩ := mM
  generalize Lay.maps P = M at *
  go_enter Try.func93, Try.ntmps93
  go_wp2_with fail
  have B0 := LBox.new w P T 26
  generalize (w.alloc (.cells #[.int .i64 P, .int .i64 T] 26)) = w1 at *
  have hne : Nonempty (Over w1) := ⟨⟨_, Below.refl _ _⟩⟩
  have c0 := fun u => over_cell B0.c0 u
  have c1 := fun u => over_cell B0.c1 u
  refine over_region (by kernel_rfl) (by kernel_rfl) ?_
  repeat (go_big_quiet_step (first | (go_at_call 92; exact over_call _ (C.out _)) | (go_at_call 96; exact over_call _ (D.out _))))
  refine wpQuiet_nil ?_
  rintro _ ⟨u, rfl⟩
  go_wp2
  go_ret
  refine ⟨ret_int ?_, (B0.grow u.h).below⟩
  first | rfl | omega

set_option maxHeartbeats 2000000 in
theorem lwords (P T : Int) (w : World) :
    Calls Try.prog 78 #[.agg #[.int .i64 P, .int .i64 T]] w fun e w' => e = .returned (.int .i64 (Lay.words P T)) ∧ Below w.heap.size w w' := by
  have M := hide (fun w => lmay P T w)
  cases hm : Lay.may P T
  · rw [hm] at M
    rw [Lay.words_out hm]
    clear hm
    go_enter Try.func78, Try.ntmps78
    have B0 := LBox.new w P T 26
    go_wp2_with (first | (go_at_call 50; refine (M.out _).mono ?_; rintro e w1 ⟨rfl, hb⟩; have B1 := LBox.grow (by assumption) hb; have b0 := B1.c0; have b1 := B1.c1))
    go_ret
    exact ⟨rfl, B1.below⟩
  · obtain ⟨p1, p2, h1, h2⟩ := Lay.may_iff.1 hm
    rw [hm] at M
    rw [Lay.words_in hm]
    clear hm
    have C := hide (fun w => lgone P T p1 p2 h1 h2 w)
    have D := hide (fun w => lmaps P T p1 p2 w)
    have e : Lay.total P T = Lay.gone P T + Lay.maps P := by unfold Lay.total Lay.gone; omega
    rw [e]
    clear e
    have mS : 0 ≤ Lay.gone P T ∧ Lay.gone P T ≤ 100000 := by unfold Lay.gone Lay.maps; omega
    have mM : 0 ≤ Lay.maps P ∧ Lay.maps P ≤ 100000 := by unfold Lay.maps; omega
    obtain ⟨mS1, mS2⟩ := mS
    obtain ⟨mM1, mM2⟩ := mM
    generalize Lay.gone P T = S at *
    generalize Lay.maps P = N at *
    go_enter Try.func78, Try.ntmps78
    have B0 := LBox.new w P T 26
    go_wp2_with (first | (go_at_call 50; refine (M.out _).mono ?_; rintro e w1 ⟨rfl, hb⟩; have B1 := LBox.grow (by assumption) hb; have b0 := B1.c0; have b1 := B1.c1))
    have hne : Nonempty (Over w1) := ⟨⟨_, Below.refl _ _⟩⟩
    have c0 := fun u => over_cell B1.c0 u
    have c1 := fun u => over_cell B1.c1 u
    refine over_region (by kernel_rfl) (by kernel_rfl) ?_
    repeat (go_big_quiet_step (first | (go_at_call 93; exact over_call _ (C.out _)) | (go_at_call 96; exact over_call _ (D.out _))))
    refine wpQuiet_nil ?_
    rintro _ ⟨u, rfl⟩
    go_wp2
    go_ret
    refine ⟨ret_int ?_, (B1.grow u.h).below⟩
    first | rfl | omega

theorem ret_two {k : IntKind} {a b : Int} {c d : Bool} (h : a = b) (h' : c = d) : Ending.returned (.tuple #[.int k a, .bool c]) = .returned (.tuple #[.int k b, .bool d]) := by rw [h, h']

set_option maxHeartbeats 2000000 in
theorem lpage (P T k p : Int) (w : World) :
    Calls Try.prog 58 #[.agg #[.int .i64 P, .int .i64 T], .int .i64 k, .int .i64 p] w fun e w' => e = .returned (.tuple #[.int .i64 (Lay.page P T k p).1, .bool (Lay.page P T k p).2]) ∧ Below w.heap.size w w' := by
  have M := hide (fun w => lmay P T w)
  have C := hide (fun w => lbelow p P w)
  unfold Lay.page
  cases hm : Lay.may P T
  · rw [hm] at M
    rw [Bool.false_and, Bool.false_and, if_neg Bool.false_ne_true]
    clear hm C
    go_enter Try.func58, Try.ntmps58
    have B0 := LBox.new w P T 26
    go_wp2_with (first | (go_at_call 50; refine (M.out _).mono ?_; rintro e w1 ⟨rfl, hb⟩; have B1 := LBox.grow (by assumption) hb; have b0 := B1.c0; have b1 := B1.c1))
    go_ret2
    exact ⟨rfl, B1.below⟩
  cases hc : Lay.below p P
  · rw [hm] at M
    rw [hc] at C
    rw [Bool.true_and, Bool.false_and, if_neg Bool.false_ne_true]
    clear hm hc
    go_enter Try.func58, Try.ntmps58
    have B0 := LBox.new w P T 26
    go_wp2_with (first | (go_at_call 50; refine (M.out _).mono ?_; rintro e w1 ⟨rfl, hb⟩; have B1 := LBox.grow (by assumption) hb; have b0 := B1.c0; have b1 := B1.c1) | (go_at_call 82; refine (C.out _).mono ?_; rintro e w1 ⟨rfl, rfl⟩))
    go_ret2
    exact ⟨rfl, B1.below⟩
  obtain ⟨m1, m2, m3, m4⟩ := Lay.may_iff.1 hm
  obtain ⟨c1, c2⟩ := Lay.below_iff.1 hc
  rw [hm] at M
  rw [hc] at C
  rw [Bool.true_and, Bool.true_and]
  clear hm hc
  by_cases h14 : k = 14
  · subst h14
    have I := hide (fun w => lindex P T m1 m2 m3 m4 w)
    have e : (if (decide ((9 : Int) ≤ 14) && decide ((14 : Int) ≤ 14)) = true then (if (14 : Int) = 14 then Lay.index P T + p else Lay.states T + 5 * p + (14 - 9), true) else ((0 : Int), false)) = (Lay.index P T + p, true) := rfl
    rw [e]
    clear e
    have mS : 0 ≤ Lay.index P T ∧ Lay.index P T ≤ 100000 := by unfold Lay.index; omega
    obtain ⟨mS1, mS2⟩ := mS
    generalize Lay.index P T = S at *
    go_enter Try.func58, Try.ntmps58
    have B0 := LBox.new w P T 26
    go_wp2_with (first | (go_at_call 50; refine (M.out _).mono ?_; rintro e w1 ⟨rfl, hb⟩; have B1 := LBox.grow (by assumption) hb; have b0 := B1.c0; have b1 := B1.c1) | (go_at_call 82; refine (C.out _).mono ?_; rintro e w1 ⟨rfl, rfl⟩) | (go_at_call 83; refine (I.out _).mono ?_; rintro e w1 ⟨rfl, hb⟩; have B1 := LBox.grow (by assumption) hb; have b0 := B1.c0; have b1 := B1.c1))
    go_ret2
    exact ⟨ret_two (by first | rfl | omega) rfl, B1.below⟩
  have d14 : (k == 14) = false := by simp [h14]
  by_cases h9 : 9 ≤ k ∧ k ≤ 13
  · obtain ⟨k1, k2⟩ := h9
    have I := hide (fun w => lstates P T m3 m4 w)
    rw [if_pos (by simp; omega), if_neg h14]
    have mS : 0 ≤ Lay.states T ∧ Lay.states T ≤ 100000 := by unfold Lay.states; omega
    obtain ⟨mS1, mS2⟩ := mS
    generalize Lay.states T = S at *
    clear h14
    go_enter Try.func58, Try.ntmps58
    have B0 := LBox.new w P T 26
    go_wp2_with (first | (go_at_call 50; refine (M.out _).mono ?_; rintro e w1 ⟨rfl, hb⟩; have B1 := LBox.grow (by assumption) hb; have b0 := B1.c0; have b1 := B1.c1) | (go_at_call 82; refine (C.out _).mono ?_; rintro e w1 ⟨rfl, rfl⟩) | (go_at_call 84; refine (I.out _).mono ?_; rintro e w1 ⟨rfl, hb⟩; have B1 := LBox.grow (by assumption) hb; have b0 := B1.c0; have b1 := B1.c1))
    go_ret2
    exact ⟨ret_two (by first | rfl | omega) rfl, B1.below⟩
  rw [if_neg (by simp; omega)]
  by_cases k1 : 9 ≤ k
  · have k2 : decide (k ≤ 13) = false := by simp; omega
    clear h14 h9
    go_enter Try.func58, Try.ntmps58
    have B0 := LBox.new w P T 26
    go_wp2_with (first | (go_at_call 50; refine (M.out _).mono ?_; rintro e w1 ⟨rfl, hb⟩; have B1 := LBox.grow (by assumption) hb; have b0 := B1.c0; have b1 := B1.c1) | (go_at_call 82; refine (C.out _).mono ?_; rintro e w1 ⟨rfl, rfl⟩))
    go_ret2
    exact ⟨rfl, B1.below⟩
  · have k2 : decide (9 ≤ k) = false := by simp; omega
    clear h14 h9
    go_enter Try.func58, Try.ntmps58
    have B0 := LBox.new w P T 26
    go_wp2_with (first | (go_at_call 50; refine (M.out _).mono ?_; rintro e w1 ⟨rfl, hb⟩; have B1 := LBox.grow (by assumption) hb; have b0 := B1.c0; have b1 := B1.c1) | (go_at_call 82; refine (C.out _).mono ?_; rintro e w1 ⟨rfl, rfl⟩))
    go_ret2
    exact ⟨rfl, B1.below⟩

def Lay.alone (a : Int) : Int := if a < 5 then a + 1 else 6

theorem lalone (a : Int) (h1 : 0 ≤ a) (w : World) :
    Calls Try.prog 90 #[.int .i64 a] w fun e w' => e = .returned (.int .i64 (Lay.alone a)) ∧ w' = w := by
  by_cases k0 : a = 0
  · subst k0
    go_enter Try.func90, Try.ntmps90
    go_wp2
    go_ret
    exact ⟨rfl, rfl⟩
  by_cases k1 : a = 1
  · subst k1
    go_enter Try.func90, Try.ntmps90
    go_wp2
    go_ret
    exact ⟨rfl, rfl⟩
  by_cases k2 : a = 2
  · subst k2
    go_enter Try.func90, Try.ntmps90
    go_wp2
    go_ret
    exact ⟨rfl, rfl⟩
  by_cases k3 : a = 3
  · subst k3
    go_enter Try.func90, Try.ntmps90
    go_wp2
    go_ret
    exact ⟨rfl, rfl⟩
  by_cases k4 : a = 4
  · subst k4
    go_enter Try.func90, Try.ntmps90
    go_wp2
    go_ret
    exact ⟨rfl, rfl⟩
  have d0 : (a == 0) = false := by simp [k0]
  have d1 : (a == 1) = false := by simp [k1]
  have d2 : (a == 2) = false := by simp [k2]
  have d3 : (a == 3) = false := by simp [k3]
  have d4 : (a == 4) = false := by simp [k4]
  have e : Lay.alone a = 6 := if_neg (by omega)
  rw [e]
  clear e k0 k1 k2 k3 k4
  go_enter Try.func90, Try.ntmps90
  go_wp2
  go_ret
  exact ⟨rfl, rfl⟩

end Go.Proofs.Ytafamfjgehnddaa
