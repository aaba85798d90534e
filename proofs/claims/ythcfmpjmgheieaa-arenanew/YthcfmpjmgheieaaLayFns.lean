/- The calls of package layout: how many words, the word of each thing, each at every argument. -/
import Derived.Test.YthcfmpjmgheieaaLayCalls
namespace Go.Proofs.Ythcfmpjmgheieaa
open Go.RowKit

theorem over_cell {w : World} {p : Addr} {v : Value} (h : w.cell? p = some v) (u : Over w) : u.w'.cell? p = some v :=
  (u.h.cell (block_lt_of_cell h)).trans h

/-- A layout lies in block b of the world w, which has grown of w0. -/
structure LBox (w0 w : World) (b : Nat) (P T : Int) : Prop where
  below : Below w0.heap.size w0 w
  c0 : w.cell? ⟨b, 0, none⟩ = some (.int .i64 P)
  c1 : w.cell? ⟨b, 1, none⟩ = some (.int .i64 T)

theorem LBox.new (w : World) (P T : Int) (t : TypeId) : LBox w (w.alloc (.cells #[.int .i64 P, .int .i64 T] t)) w.heap.size P T :=
  ⟨grown1 _ _, cell_of_heap (heap_alloc_at _ _), cell_of_heap (heap_alloc_at _ _)⟩

theorem LBox.grow {w0 w w' : World} {b : Nat} {P T : Int} (h : LBox w0 w b P T) (hb : Below w.heap.size w w') : LBox w0 w' b P T :=
  ⟨h.below.trans (hb.mono h.below.size), (hb.cell (block_lt_of_cell h.c0)).trans h.c0, (hb.cell (block_lt_of_cell h.c1)).trans h.c1⟩

set_option maxHeartbeats 2000000 in
theorem lindex (P T : Int) (p1 : 1 ≤ P) (p2 : P ≤ 4096) (h1 : 1 ≤ T) (h2 : T ≤ 64) (w : World) :
    Calls Try.prog 103 #[.agg #[.int .i64 P, .int .i64 T]] w fun e w' => e = .returned (.int .i64 (Lay.index P T)) ∧ Below w.heap.size w w' := by
  have C := hide (fun w => lstates P T h1 h2 w)
  have e : Lay.index P T = Lay.states T + 5 * P := by unfold Lay.index Lay.states; omega
  rw [e]
  clear e
  have mS : 0 ≤ Lay.states T ∧ Lay.states T ≤ 100000 := by unfold Lay.states; omega
  obtain ⟨mS1, mS2⟩ := mS
  generalize Lay.states T = S at *
  go_enter Try.func103, Try.ntmps103
  go_wp2_with fail
  have B0 := LBox.new w P T 46
  generalize (w.alloc (.cells #[.int .i64 P, .int .i64 T] 46)) = w1 at *
  have hne : Nonempty (Over w1) := ⟨⟨_, Below.refl _ _⟩⟩
  have c0 := fun u => over_cell B0.c0 u
  have c1 := fun u => over_cell B0.c1 u
  refine over_region (by kernel_rfl) (by kernel_rfl) ?_
  repeat (go_big_quiet_step (first | (go_at_call 109; exact over_call _ (C.out _))))
  refine wpQuiet_nil ?_
  rintro _ ⟨u, rfl⟩
  go_wp2
  go_ret
  refine ⟨ret_int ?_, (B0.grow u.h).below⟩
  first | rfl | omega

set_option maxHeartbeats 2000000 in
theorem lused (P T : Int) (p1 : 1 ≤ P) (p2 : P ≤ 4096) (h1 : 1 ≤ T) (h2 : T ≤ 64) (w : World) :
    Calls Try.prog 92 #[.agg #[.int .i64 P, .int .i64 T]] w fun e w' => e = .returned (.int .i64 (Lay.used P T)) ∧ Below w.heap.size w w' := by
  have C := hide (fun w => lindex P T p1 p2 h1 h2 w)
  have e : Lay.used P T = Lay.index P T + P := by unfold Lay.index Lay.used; omega
  rw [e]
  clear e
  have mS : 0 ≤ Lay.index P T ∧ Lay.index P T ≤ 100000 := by unfold Lay.index; omega
  obtain ⟨mS1, mS2⟩ := mS
  generalize Lay.index P T = S at *
  go_enter Try.func92, Try.ntmps92
  go_wp2_with fail
  have B0 := LBox.new w P T 46
  generalize (w.alloc (.cells #[.int .i64 P, .int .i64 T] 46)) = w1 at *
  have hne : Nonempty (Over w1) := ⟨⟨_, Below.refl _ _⟩⟩
  have c0 := fun u => over_cell B0.c0 u
  have c1 := fun u => over_cell B0.c1 u
  refine over_region (by kernel_rfl) (by kernel_rfl) ?_
  repeat (go_big_quiet_step (first | (go_at_call 103; exact over_call _ (C.out _))))
  refine wpQuiet_nil ?_
  rintro _ ⟨u, rfl⟩
  go_wp2
  go_ret
  refine ⟨ret_int ?_, (B0.grow u.h).below⟩
  first | rfl | omega

set_option maxHeartbeats 2000000 in
theorem lgone (P T : Int) (p1 : 1 ≤ P) (p2 : P ≤ 4096) (h1 : 1 ≤ T) (h2 : T ≤ 64) (w : World) :
    Calls Try.prog 85 #[.agg #[.int .i64 P, .int .i64 T]] w fun e w' => e = .returned (.int .i64 (Lay.gone P T)) ∧ Below w.heap.size w w' := by
  have C := hide (fun w => lused P T p1 p2 h1 h2 w)
  have D := hide (fun w => lmaps P T p1 p2 w)
  have e : Lay.gone P T = Lay.used P T + Lay.maps P := by unfold Lay.gone Lay.used; omega
  rw [e]
  clear e
  have mS : 0 ≤ Lay.used P T ∧ Lay.used P T ≤ 100000 := by unfold Lay.used; omega
  obtain ⟨mS1, mS2⟩ := mS
  generalize Lay.used P T = S at *
  have mM : 0 ≤ Lay.maps P ∧ Lay.maps P ≤ 100000 := by unfold Lay.maps; omega
  obtain ⟨mM1, mM2⟩ := mM
  generalize Lay.maps P = M at *
  go_enter Try.func85, Try.ntmps85
  go_wp2_with fail
  have B0 := LBox.new w P T 46
  generalize (w.alloc (.cells #[.int .i64 P, .int .i64 T] 46)) = w1 at *
  have hne : Nonempty (Over w1) := ⟨⟨_, Below.refl _ _⟩⟩
  have c0 := fun u => over_cell B0.c0 u
  have c1 := fun u => over_cell B0.c1 u
  refine over_region (by kernel_rfl) (by kernel_rfl) ?_
  repeat (go_big_quiet_step (first | (go_at_call 92; exact over_call _ (C.out _)) | (go_at_call 86; exact over_call _ (D.out _))))
  refine wpQuiet_nil ?_
  rintro _ ⟨u, rfl⟩
  go_wp2
  go_ret
  refine ⟨ret_int ?_, (B0.grow u.h).below⟩
  first | rfl | omega

set_option maxHeartbeats 2000000 in
theorem lwords (P T : Int) (w : World) :
    Calls Try.prog 74 #[.agg #[.int .i64 P, .int .i64 T]] w fun e w' => e = .returned (.int .i64 (Lay.words P T)) ∧ Below w.heap.size w w' := by
  have M := hide (fun w => lmay P T w)
  cases hm : Lay.may P T
  · rw [hm] at M
    rw [Lay.words_out hm]
    clear hm
    go_enter Try.func74, Try.ntmps74
    have B0 := LBox.new w P T 46
    go_wp2_with (first | (go_at_call 51; refine (M.out _).mono ?_; rintro e w1 ⟨rfl, hb⟩; have B1 := LBox.grow (by assumption) hb; have b0 := B1.c0; have b1 := B1.c1))
    go_ret
    exact ⟨rfl, B1.below⟩
  · obtain ⟨p1, p2, h1, h2⟩ := Lay.may_iff.1 hm
    rw [hm] at M
    rw [Lay.words_in hm]
    clear hm
    have C := hide (fun w => lgone P T p1 p2 h1 h2 w)
    have D := hide (fun w => lmaps P T p1 p2 w)
    have e : Lay.total P T = Lay.gone P T + Lay.maps P := by unfold Lay.total Lay.gone; omega
    rw [e]
    clear e
    have mS : 0 ≤ Lay.gone P T ∧ Lay.gone P T ≤ 100000 := by unfold Lay.gone Lay.maps; omega
    have mM : 0 ≤ Lay.maps P ∧ Lay.maps P ≤ 100000 := by unfold Lay.maps; omega
    obtain ⟨mS1, mS2⟩ := mS
    obtain ⟨mM1, mM2⟩ := mM
    generalize Lay.gone P T = S at *
    generalize Lay.maps P = N at *
    go_enter Try.func74, Try.ntmps74
    have B0 := LBox.new w P T 46
    go_wp2_with (first | (go_at_call 51; refine (M.out _).mono ?_; rintro e w1 ⟨rfl, hb⟩; have B1 := LBox.grow (by assumption) hb; have b0 := B1.c0; have b1 := B1.c1))
    have hne : Nonempty (Over w1) := ⟨⟨_, Below.refl _ _⟩⟩
    have c0 := fun u => over_cell B1.c0 u
    have c1 := fun u => over_cell B1.c1 u
    refine over_region (by kernel_rfl) (by kernel_rfl) ?_
    repeat (go_big_quiet_step (first | (go_at_call 85; exact over_call _ (C.out _)) | (go_at_call 86; exact over_call _ (D.out _))))
    refine wpQuiet_nil ?_
    rintro _ ⟨u, rfl⟩
    go_wp2
    go_ret
    refine ⟨ret_int ?_, (B1.grow u.h).below⟩
    first | rfl | omega

theorem ret_two {k : IntKind} {a b : Int} {c d : Bool} (h : a = b) (h' : c = d) : Ending.returned (.tuple #[.int k a, .bool c]) = .returned (.tuple #[.int k b, .bool d]) := by rw [h, h']

def Lay.alone (a : Int) : Int := if a < 5 then a + 1 else 6

end Go.Proofs.Ythcfmpjmgheieaa
