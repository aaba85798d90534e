/- The law's Lay: what lays a span, by numbers. -/
import Derived.Test.YtgdliebllmgibaaDoorDocMay
import Derived.Test.YtgdliebllmgibaaDoorRecNew
import Derived.Test.YtgdliebllmgibaaDoorClsRef
import Derived.Test.YtgdliebllmgibaaDoorOnesRef
import Derived.Test.YtgdliebllmgibaaDoorPhaseM
import Derived.Deep.WholeRow
namespace Go.Proofs.YtgdliebllmgibaaDoor
open Go Go.RowKit

/-- Its class, and its pages. -/
def layCN (P pg k : Nat) : Nat × Nat := if k % 15 = 14 ∨ P - pg < Cls.pages ((k % 15 : Nat) : Int) then (14, 1 + k % (P - pg)) else (k % 15, Cls.pages ((k % 15 : Nat) : Int))
theorem buildLL (P T pg c n g : Int) (m : Nat) (u : World) : (Instr.build 38 #[(0, .int .i64 5), (1, .agg #[.int .i64 P, .int .i64 T]), (3, .int .i64 pg), (4, .int .i64 c), (5, .int .i64 n), (6, .int .i64 g), (10, .int .u64 (m : Int))]).run Tryd.prog u = .ok (.agg #[.int .i64 5, .int .i64 P, .int .i64 T, .int .i64 0, .int .i64 pg, .int .i64 c, .int .i64 n, .int .i64 g, .int .i64 0, .int .i64 0, .int .i64 0, .int .u64 (m : Int), .bool false, .slice none 0 0, .slice none 0 0, .bool false, .int .i64 0, .bool false, .pointer none, .int .i64 0, .int .i64 0, .int .u64 0, .int .u64 0, .int .i64 0, .int .i64 0, .int .i64 0, .int .i64 0, .int .u64 0, .slice none 0 0, .slice none 0 0, .int .i64 0, .int .i64 0]) u := run_build u _ _ _ (by kernel_rfl)
/-- On the way: the layout, the result. -/
structure LwAt (w u : World) (bl rb : Nat) (P T : Int) : Prop where
  below : Below w.heap.size w u
  c0 : u.cell? ⟨bl, 0, none⟩ = some (.int .i64 P)
  c1 : u.cell? ⟨bl, 1, none⟩ = some (.int .i64 T)
  res : ∃ cs : Array Value, cs.size = 32 ∧ u.heap[rb]? = some (.cells cs 38 (0, 0))
theorem LwAt.grow {w u u' : World} {bl rb : Nat} {P T : Int} (h : LwAt w u bl rb P T) (b : Below u.heap.size u u') : LwAt w u' bl rb P T :=
  ⟨h.below.trans (b.mono h.below.size), (b.cell (block_lt_of_cell h.c0)).trans h.c0, (b.cell (block_lt_of_cell h.c1)).trans h.c1, (by obtain ⟨cs, h1, h2⟩ := h.res; exact ⟨cs, h1, (b.block _ (lt_of_heap h2)).trans h2⟩)⟩

set_option maxRecDepth 100000 in
set_option maxHeartbeats 8000000 in
theorem lawLayS (P : Nat) (T : Int) (hP : P ≤ 4096) (pg : Nat) (hpg : pg < P) (k : Nat) (hk : k < 1000000) (mask : Nat) (hmask : mask < 18446744073709551616) (cc : Nat) (hcc : k % 15 = cc) (pc : Nat) (hpc : Cls.pages ((cc : Nat) : Int) = pc) (h1 : ¬ cc = 14) (h2 : pc ≤ P - pg) (w : World) :
    Calls Tryd.prog 7 #[.agg #[.int .i64 (P : Int), .int .i64 T], .int .i64 (pg : Int), .int .i64 (k : Int), .int .u64 (mask : Int)] w fun e w' => e = .returned (.agg #[.int .i64 5, .int .i64 (P : Int), .int .i64 T, .int .i64 0, .int .i64 (pg : Int), .int .i64 ((cc : Int)), .int .i64 ((pc : Int)), .int .i64 (1 + (k : Int)), .int .i64 0, .int .i64 0, .int .i64 0, .int .u64 ((mask &&& slotsB ((cc : Int)) : Nat) : Int), .bool false, .slice none 0 0, .slice none 0 0, .bool false, .int .i64 0, .bool false, .pointer none, .int .i64 0, .int .i64 0, .int .u64 0, .int .u64 0, .int .i64 0, .int .i64 0, .int .i64 0, .int .i64 0, .int .u64 0, .slice none 0 0, .slice none 0 0, .int .i64 0, .int .i64 0]) ∧ Below w.heap.size w w' := by
  have HP := hide (fun (w : World) => rpages ((cc : Nat) : Int) w)
  have HSL := hide (fun (w : World) => rslots ((cc : Int)) w)
  have HON := hide (fun (w : World) => ones16R (Cls.slots ((cc : Int)) : Int) w)
  obtain ⟨so, hso⟩ : ∃ so, slotsB ((cc : Int)) = so := ⟨_, rfl⟩
  have hsob : so < 18446744073709551616 := by
    rw [← hso]; unfold slotsB
    have := Plain.hold_le (Cls.slots ((cc : Int)) : Int)
    unfold Plain.ones
    have h2 : 2 ^ Plain.hold (Cls.slots ((cc : Int)) : Int) ≤ 2 ^ 64 := Nat.pow_le_pow_right (by omega) this
    have h3 : 0 < 2 ^ Plain.hold (Cls.slots ((cc : Int)) : Int) := Nat.pos_of_ne_zero (by simp)
    omega
  have hand : bits BinOp.and IntKind.u64 (mask : Int) (so : Int) = ((mask &&& so : Nat) : Int) := bits_and_u64_nat mask so hmask hsob
  have hso' : Plain.ones (Plain.hold (Cls.slots ((cc : Int)) : Int)) = so := hso
  rw [hso'] at HON
  rw [hso]
  have hci : (k : Int) % 15 = (cc : Int) := by omega
  rw [hpc] at HP
  have d0 : ((cc : Int) == 14) = false := by rw [beq_eq_false_iff_ne]; omega
  have d1 : decide ((pc : Int) > (P : Int) - (pg : Int)) = false := by simp; omega
  have d2 : decide ((P : Int) - (pg : Int) < (pc : Int)) = false := by simp; omega
  obtain ⟨sl, hsl⟩ : ∃ sl : Int, (Cls.slots ((cc : Int)) : Int) = sl := ⟨_, rfl⟩
  rw [hsl] at HSL HON
  have bf := buildLL (P : Int) T (pg : Int) ((cc : Int)) ((pc : Int)) (1 + (k : Int)) (mask &&& so)
  have BF := hide bf
  have HAND := hide hand
  have B0 := LBox.new w (P : Int) T 24
  have I1 : Hid (LwAt w ((w.alloc (.cells #[.int .i64 (P : Int), .int .i64 T] 24)).alloc (.cells #[.int .i64 0, .int .i64 0, .int .i64 0, .int .i64 0, .int .i64 0, .int .i64 0, .int .i64 0, .int .i64 0, .int .i64 0, .int .i64 0, .int .i64 0, .int .u64 0, .bool false, .slice none 0 0, .slice none 0 0, .bool false, .int .i64 0, .bool false, .pointer none, .int .i64 0, .int .i64 0, .int .u64 0, .int .u64 0, .int .i64 0, .int .i64 0, .int .i64 0, .int .i64 0, .int .u64 0, .slice none 0 0, .slice none 0 0, .int .i64 0, .int .i64 0] 38)) w.heap.size (w.heap.size + 1) (P : Int) T) := hide ⟨(grown1 _ _).trans ((grown1 _ _).mono (by simp)), (cell_of_heap (heap_alloc_old (heap_alloc_at w _))), (cell_of_heap (heap_alloc_old (heap_alloc_at w _))), ⟨#[.int .i64 0, .int .i64 0, .int .i64 0, .int .i64 0, .int .i64 0, .int .i64 0, .int .i64 0, .int .i64 0, .int .i64 0, .int .i64 0, .int .i64 0, .int .u64 0, .bool false, .slice none 0 0, .slice none 0 0, .bool false, .int .i64 0, .bool false, .pointer none, .int .i64 0, .int .i64 0, .int .u64 0, .int .u64 0, .int .i64 0, .int .i64 0, .int .i64 0, .int .i64 0, .int .u64 0, .slice none 0 0, .slice none 0 0, .int .i64 0, .int .i64 0], rfl, by have := heap_alloc_at (w.alloc (.cells #[.int .i64 (P : Int), .int .i64 T] 24)) (.cells #[.int .i64 0, .int .i64 0, .int .i64 0, .int .i64 0, .int .i64 0, .int .i64 0, .int .i64 0, .int .i64 0, .int .i64 0, .int .i64 0, .int .i64 0, .int .u64 0, .bool false, .slice none 0 0, .slice none 0 0, .bool false, .int .i64 0, .bool false, .pointer none, .int .i64 0, .int .i64 0, .int .u64 0, .int .u64 0, .int .i64 0, .int .i64 0, .int .i64 0, .int .i64 0, .int .u64 0, .slice none 0 0, .slice none 0 0, .int .i64 0, .int .i64 0] 38); simpa using this⟩⟩
  clear B0 bf hand hso hso' hsl hcc hpc hmask hsob
  go_enter Tryd.func7, Tryd.ntmps7
  go_wp2_with fail
  generalize ((w.alloc (.cells #[.int .i64 (P : Int), .int .i64 T] 24)).alloc (.cells #[.int .i64 0, .int .i64 0, .int .i64 0, .int .i64 0, .int .i64 0, .int .i64 0, .int .i64 0, .int .i64 0, .int .i64 0, .int .i64 0, .int .i64 0, .int .u64 0, .bool false, .slice none 0 0, .slice none 0 0, .bool false, .int .i64 0, .bool false, .pointer none, .int .i64 0, .int .i64 0, .int .u64 0, .int .u64 0, .int .i64 0, .int .i64 0, .int .i64 0, .int .i64 0, .int .u64 0, .slice none 0 0, .slice none 0 0, .int .i64 0, .int .i64 0] 38)) = w1 at *
  obtain ⟨bl, hbl⟩ : ∃ bl, w.heap.size = bl := ⟨_, rfl⟩
  have HBL := hide hbl
  rw [hbl] at I1
  rw [hbl]
  clear hbl
  refine (HP.out _).mono ?_
  rintro e w2 ⟨rfl, b2⟩
  have I2 := hide (I1.out.grow b2)
  clear I1 b2 HP
  have c0 := I2.out.c0
  have c1 := I2.out.c1
  go_wp2
  clear c0 c1
  have J3 := hide (I2.out.grow ((Alike.drewN w2 1).below _))
  clear I2
  have hne : Nonempty (Mem (fun u => LwAt w u bl (bl + 1) (P : Int) T)) := ⟨⟨_, J3.out⟩⟩
  have u0 : ∀ u : Mem (fun u => LwAt w u bl (bl + 1) (P : Int) T), u.w'.cell? ⟨bl, 0, none⟩ = some (.int .i64 (P : Int)) := fun u => u.h.c0
  have u1 : ∀ u : Mem (fun u => LwAt w u bl (bl + 1) (P : Int) T), u.w'.cell? ⟨bl, 1, none⟩ = some (.int .i64 T) := fun u => u.h.c1
  refine region_start (J := fun u => LwAt w u bl (bl + 1) (P : Int) T) (by kernel_rfl) ?_
  refine stretch (fuel := 5) (by kernel_rfl) (fun _ _ _ _ _ h => h) J3.out [0, 1, 2, 3, 4, 5, 6, 7] (by kernel_rfl) ?_
  simp only [List.filterMap_cons, List.filterMap_nil, List.getElem?_toArray, List.getElem?_cons_zero, List.getElem?_cons_succ]
  show wpQuiet _ _ _ _ [_, _, _, _, _, _, _, _] _
  repeat (go_big_quiet_step (fail))
  refine wpQuiet_nil ?_
  refine wpAnyJ_writer (i := 8) rfl (by kernel_rfl) (fun K' hK => ?_)
  go_simp
  refine (HSL.out _).mono ?_
  rintro e w4 ⟨rfl, b4⟩
  have J4 := hide (J3.out.grow b4)
  refine hK _ _ J4.out ?_
  clear hK K' b4 J3
  refine wpAnyJ_writer (i := 9) rfl (by kernel_rfl) (fun K' hK => ?_)
  go_simp
  refine (HON.out _).mono ?_
  rintro e w5 ⟨rfl, rfl⟩
  refine hK _ _ J4.out ?_
  clear hK K'
  have bf := BF.out
  have hand := HAND.out
  refine stretch (fuel := 1) (by kernel_rfl) (fun _ _ _ _ _ h => h) J4.out [10, 11] (by kernel_rfl) ?_
  simp only [List.filterMap_cons, List.filterMap_nil, List.getElem?_toArray, List.getElem?_cons_zero, List.getElem?_cons_succ]
  show wpQuiet _ _ _ _ [_, _] _
  repeat (go_big_quiet_step (fail))
  refine wpQuiet_nil ?_
  clear u0 u1 bf hand
  refine wpAnyJ_writer (i := 12) rfl (by kernel_rfl) (fun K' hK => ?_)
  obtain ⟨old, hos, hold⟩ := J4.out.res
  have HR : Hid ((w5.setRow (bl + 1) #[.int .i64 5, .int .i64 (P : Int), .int .i64 T, .int .i64 0, .int .i64 (pg : Int), .int .i64 ((cc : Int)), .int .i64 ((pc : Int)), .int .i64 (1 + (k : Int)), .int .i64 0, .int .i64 0, .int .i64 0, .int .u64 ((mask &&& so : Nat) : Int), .bool false, .slice none 0 0, .slice none 0 0, .bool false, .int .i64 0, .bool false, .pointer none, .int .i64 0, .int .i64 0, .int .u64 0, .int .u64 0, .int .i64 0, .int .i64 0, .int .i64 0, .int .i64 0, .int .u64 0, .slice none 0 0, .slice none 0 0, .int .i64 0, .int .i64 0]).heap[bl + 1]? = some (.cells #[.int .i64 5, .int .i64 (P : Int), .int .i64 T, .int .i64 0, .int .i64 (pg : Int), .int .i64 ((cc : Int)), .int .i64 ((pc : Int)), .int .i64 (1 + (k : Int)), .int .i64 0, .int .i64 0, .int .i64 0, .int .u64 ((mask &&& so : Nat) : Int), .bool false, .slice none 0 0, .slice none 0 0, .bool false, .int .i64 0, .bool false, .pointer none, .int .i64 0, .int .i64 0, .int .u64 0, .int .u64 0, .int .i64 0, .int .i64 0, .int .i64 0, .int .i64 0, .int .u64 0, .slice none 0 0, .slice none 0 0, .int .i64 0, .int .i64 0] 38 (0, 0))) := hide (setRow_heap _ _ _ _ _ _ hold)
  have J5 : Hid (Below w.heap.size w (w5.setRow (bl + 1) #[.int .i64 5, .int .i64 (P : Int), .int .i64 T, .int .i64 0, .int .i64 (pg : Int), .int .i64 ((cc : Int)), .int .i64 ((pc : Int)), .int .i64 (1 + (k : Int)), .int .i64 0, .int .i64 0, .int .i64 0, .int .u64 ((mask &&& so : Nat) : Int), .bool false, .slice none 0 0, .slice none 0 0, .bool false, .int .i64 0, .bool false, .pointer none, .int .i64 0, .int .i64 0, .int .u64 0, .int .u64 0, .int .i64 0, .int .i64 0, .int .i64 0, .int .i64 0, .int .u64 0, .slice none 0 0, .slice none 0 0, .int .i64 0, .int .i64 0])) := hide (below_setRow J4.out.below (by rw [HBL.out]; omega) _)
  have J6 : Hid (LwAt w (w5.setRow (bl + 1) #[.int .i64 5, .int .i64 (P : Int), .int .i64 T, .int .i64 0, .int .i64 (pg : Int), .int .i64 ((cc : Int)), .int .i64 ((pc : Int)), .int .i64 (1 + (k : Int)), .int .i64 0, .int .i64 0, .int .i64 0, .int .u64 ((mask &&& so : Nat) : Int), .bool false, .slice none 0 0, .slice none 0 0, .bool false, .int .i64 0, .bool false, .pointer none, .int .i64 0, .int .i64 0, .int .u64 0, .int .u64 0, .int .i64 0, .int .i64 0, .int .i64 0, .int .i64 0, .int .u64 0, .slice none 0 0, .slice none 0 0, .int .i64 0, .int .i64 0]) bl (bl + 1) (P : Int) T) := hide ⟨J5.out, (cell_setRow_other _ _ _ _ (show bl ≠ bl + 1 by omega)).trans J4.out.c0, (cell_setRow_other _ _ _ _ (show bl ≠ bl + 1 by omega)).trans J4.out.c1, ⟨_, rfl, HR.out⟩⟩
  refine wp_store_row 38 _ _ rfl (bl + 1) _ rfl rfl _ _ hold (by kernel_rfl) hos (by kernel_rfl) ?_
  refine hK _ _ J6.out ?_
  clear hK K' hos hold
  refine wpAnyJ_done (by kernel_rfl) ?_
  clear hne J4 J6
  go_wp2
  refine bodyPost_ret (results_cell_row (p := 8) rfl _ _ (bl + 1) 38 _ (0, 0) _ rfl HR.out Tryd.underlying38 rfl (by kernel_rfl)) rfl ?_
  exact ⟨rfl, J5.out⟩

set_option maxRecDepth 100000 in
set_option maxHeartbeats 8000000 in
theorem lawLayG (P : Nat) (T : Int) (hP : P ≤ 4096) (pg : Nat) (hpg : pg < P) (k : Nat) (hk : k < 1000000) (mask : Nat) (hmask : mask < 18446744073709551616) (cc : Nat) (hcc : k % 15 = cc) (pc : Nat) (hpc : Cls.pages ((cc : Nat) : Int) = pc) (h1 : cc = 14) (w : World) :
    Calls Tryd.prog 7 #[.agg #[.int .i64 (P : Int), .int .i64 T], .int .i64 (pg : Int), .int .i64 (k : Int), .int .u64 (mask : Int)] w fun e w' => e = .returned (.agg #[.int .i64 5, .int .i64 (P : Int), .int .i64 T, .int .i64 0, .int .i64 (pg : Int), .int .i64 (14), .int .i64 (((1 + k % (P - pg) : Nat) : Int)), .int .i64 (1 + (k : Int)), .int .i64 0, .int .i64 0, .int .i64 0, .int .u64 ((mask &&& slotsB (14) : Nat) : Int), .bool false, .slice none 0 0, .slice none 0 0, .bool false, .int .i64 0, .bool false, .pointer none, .int .i64 0, .int .i64 0, .int .u64 0, .int .u64 0, .int .i64 0, .int .i64 0, .int .i64 0, .int .i64 0, .int .u64 0, .slice none 0 0, .slice none 0 0, .int .i64 0, .int .i64 0]) ∧ Below w.heap.size w w' := by
  have HP := hide (fun (w : World) => rpages ((cc : Nat) : Int) w)
  have HSL := hide (fun (w : World) => rslots (14) w)
  have HON := hide (fun (w : World) => ones16R (Cls.slots (14) : Int) w)
  obtain ⟨so, hso⟩ : ∃ so, slotsB (14) = so := ⟨_, rfl⟩
  have hsob : so < 18446744073709551616 := by
    rw [← hso]; unfold slotsB
    have := Plain.hold_le (Cls.slots (14) : Int)
    unfold Plain.ones
    have h2 : 2 ^ Plain.hold (Cls.slots (14) : Int) ≤ 2 ^ 64 := Nat.pow_le_pow_right (by omega) this
    have h3 : 0 < 2 ^ Plain.hold (Cls.slots (14) : Int) := Nat.pos_of_ne_zero (by simp)
    omega
  have hand : bits BinOp.and IntKind.u64 (mask : Int) (so : Int) = ((mask &&& so : Nat) : Int) := bits_and_u64_nat mask so hmask hsob
  have hso' : Plain.ones (Plain.hold (Cls.slots (14) : Int)) = so := hso
  rw [hso'] at HON
  rw [hso]
  have hci : (k : Int) % 15 = (cc : Int) := by omega
  rw [hpc] at HP
  obtain ⟨pp, hpp⟩ : ∃ x : Nat, P - pg = x := ⟨_, rfl⟩
  have hpp0 : 1 ≤ pp := by omega
  have hppi : (P : Int) - (pg : Int) = (pp : Int) := by omega
  have dz : ((pp : Int) == 0) = false := by rw [beq_eq_false_iff_ne]; omega
  have dz' : ¬ (pp : Int) = 0 := by omega
  obtain ⟨nn, hnn⟩ : ∃ x : Nat, 1 + k % (P - pg) = x := ⟨_, rfl⟩
  have hnn9 : nn ≤ 4097 := by have : k % (P - pg) < P - pg := Nat.mod_lt _ (by omega); omega
  rw [hnn]
  have hni : 1 + (k : Int) % (pp : Int) = (nn : Int) := by rw [← hnn, hpp]; omega
  have d0 : ((cc : Int) == 14) = true := by simp; omega
  have H1 := hide h1
  clear h1
  obtain ⟨sl, hsl⟩ : ∃ sl : Int, (Cls.slots (14) : Int) = sl := ⟨_, rfl⟩
  rw [hsl] at HSL HON
  have bf := buildLL (P : Int) T (pg : Int) (14) ((nn : Int)) (1 + (k : Int)) (mask &&& so)
  have BF := hide bf
  have HAND := hide hand
  have B0 := LBox.new w (P : Int) T 24
  have I1 : Hid (LwAt w ((w.alloc (.cells #[.int .i64 (P : Int), .int .i64 T] 24)).alloc (.cells #[.int .i64 0, .int .i64 0, .int .i64 0, .int .i64 0, .int .i64 0, .int .i64 0, .int .i64 0, .int .i64 0, .int .i64 0, .int .i64 0, .int .i64 0, .int .u64 0, .bool false, .slice none 0 0, .slice none 0 0, .bool false, .int .i64 0, .bool false, .pointer none, .int .i64 0, .int .i64 0, .int .u64 0, .int .u64 0, .int .i64 0, .int .i64 0, .int .i64 0, .int .i64 0, .int .u64 0, .slice none 0 0, .slice none 0 0, .int .i64 0, .int .i64 0] 38)) w.heap.size (w.heap.size + 1) (P : Int) T) := hide ⟨(grown1 _ _).trans ((grown1 _ _).mono (by simp)), (cell_of_heap (heap_alloc_old (heap_alloc_at w _))), (cell_of_heap (heap_alloc_old (heap_alloc_at w _))), ⟨#[.int .i64 0, .int .i64 0, .int .i64 0, .int .i64 0, .int .i64 0, .int .i64 0, .int .i64 0, .int .i64 0, .int .i64 0, .int .i64 0, .int .i64 0, .int .u64 0, .bool false, .slice none 0 0, .slice none 0 0, .bool false, .int .i64 0, .bool false, .pointer none, .int .i64 0, .int .i64 0, .int .u64 0, .int .u64 0, .int .i64 0, .int .i64 0, .int .i64 0, .int .i64 0, .int .u64 0, .slice none 0 0, .slice none 0 0, .int .i64 0, .int .i64 0], rfl, by have := heap_alloc_at (w.alloc (.cells #[.int .i64 (P : Int), .int .i64 T] 24)) (.cells #[.int .i64 0, .int .i64 0, .int .i64 0, .int .i64 0, .int .i64 0, .int .i64 0, .int .i64 0, .int .i64 0, .int .i64 0, .int .i64 0, .int .i64 0, .int .u64 0, .bool false, .slice none 0 0, .slice none 0 0, .bool false, .int .i64 0, .bool false, .pointer none, .int .i64 0, .int .i64 0, .int .u64 0, .int .u64 0, .int .i64 0, .int .i64 0, .int .i64 0, .int .i64 0, .int .u64 0, .slice none 0 0, .slice none 0 0, .int .i64 0, .int .i64 0] 38); simpa using this⟩⟩
  clear B0 bf hand hso hso' hsl hcc hpc hmask hsob
  go_enter Tryd.func7, Tryd.ntmps7
  go_wp2_with fail
  generalize ((w.alloc (.cells #[.int .i64 (P : Int), .int .i64 T] 24)).alloc (.cells #[.int .i64 0, .int .i64 0, .int .i64 0, .int .i64 0, .int .i64 0, .int .i64 0, .int .i64 0, .int .i64 0, .int .i64 0, .int .i64 0, .int .i64 0, .int .u64 0, .bool false, .slice none 0 0, .slice none 0 0, .bool false, .int .i64 0, .bool false, .pointer none, .int .i64 0, .int .i64 0, .int .u64 0, .int .u64 0, .int .i64 0, .int .i64 0, .int .i64 0, .int .i64 0, .int .u64 0, .slice none 0 0, .slice none 0 0, .int .i64 0, .int .i64 0] 38)) = w1 at *
  obtain ⟨bl, hbl⟩ : ∃ bl, w.heap.size = bl := ⟨_, rfl⟩
  have HBL := hide hbl
  rw [hbl] at I1
  rw [hbl]
  clear hbl
  refine (HP.out _).mono ?_
  rintro e w2 ⟨rfl, b2⟩
  have I2 := hide (I1.out.grow b2)
  clear I1 b2 HP
  have c0 := I2.out.c0
  have c1 := I2.out.c1
  go_wp2
  go_quiet (fail)
  clear c0 c1
  go_wp2
  have I3 := hide (I2.out.grow ((Alike.drewN w2 nq).below _))
  clear I2
  generalize w2.drewN nq = w3 at *
  have J3 := hide (I3.out.grow ((Alike.drewN w3 1).below _))
  clear I3
  have hne : Nonempty (Mem (fun u => LwAt w u bl (bl + 1) (P : Int) T)) := ⟨⟨_, J3.out⟩⟩
  have u0 : ∀ u : Mem (fun u => LwAt w u bl (bl + 1) (P : Int) T), u.w'.cell? ⟨bl, 0, none⟩ = some (.int .i64 (P : Int)) := fun u => u.h.c0
  have u1 : ∀ u : Mem (fun u => LwAt w u bl (bl + 1) (P : Int) T), u.w'.cell? ⟨bl, 1, none⟩ = some (.int .i64 T) := fun u => u.h.c1
  refine region_start (J := fun u => LwAt w u bl (bl + 1) (P : Int) T) (by kernel_rfl) ?_
  refine stretch (fuel := 5) (by kernel_rfl) (fun _ _ _ _ _ h => h) J3.out [0, 1, 2, 3, 4, 5, 6, 7] (by kernel_rfl) ?_
  simp only [List.filterMap_cons, List.filterMap_nil, List.getElem?_toArray, List.getElem?_cons_zero, List.getElem?_cons_succ]
  show wpQuiet _ _ _ _ [_, _, _, _, _, _, _, _] _
  repeat (go_big_quiet_step (fail))
  refine wpQuiet_nil ?_
  refine wpAnyJ_writer (i := 8) rfl (by kernel_rfl) (fun K' hK => ?_)
  go_simp
  refine (HSL.out _).mono ?_
  rintro e w4 ⟨rfl, b4⟩
  have J4 := hide (J3.out.grow b4)
  refine hK _ _ J4.out ?_
  clear hK K' b4 J3
  refine wpAnyJ_writer (i := 9) rfl (by kernel_rfl) (fun K' hK => ?_)
  go_simp
  refine (HON.out _).mono ?_
  rintro e w5 ⟨rfl, rfl⟩
  refine hK _ _ J4.out ?_
  clear hK K'
  have bf := BF.out
  have hand := HAND.out
  refine stretch (fuel := 1) (by kernel_rfl) (fun _ _ _ _ _ h => h) J4.out [10, 11] (by kernel_rfl) ?_
  simp only [List.filterMap_cons, List.filterMap_nil, List.getElem?_toArray, List.getElem?_cons_zero, List.getElem?_cons_succ]
  show wpQuiet _ _ _ _ [_, _] _
  repeat (go_big_quiet_step (fail))
  refine wpQuiet_nil ?_
  clear u0 u1 bf hand
  refine wpAnyJ_writer (i := 12) rfl (by kernel_rfl) (fun K' hK => ?_)
  obtain ⟨old, hos, hold⟩ := J4.out.res
  have HR : Hid ((w5.setRow (bl + 1) #[.int .i64 5, .int .i64 (P : Int), .int .i64 T, .int .i64 0, .int .i64 (pg : Int), .int .i64 (14), .int .i64 ((nn : Int)), .int .i64 (1 + (k : Int)), .int .i64 0, .int .i64 0, .int .i64 0, .int .u64 ((mask &&& so : Nat) : Int), .bool false, .slice none 0 0, .slice none 0 0, .bool false, .int .i64 0, .bool false, .pointer none, .int .i64 0, .int .i64 0, .int .u64 0, .int .u64 0, .int .i64 0, .int .i64 0, .int .i64 0, .int .i64 0, .int .u64 0, .slice none 0 0, .slice none 0 0, .int .i64 0, .int .i64 0]).heap[bl + 1]? = some (.cells #[.int .i64 5, .int .i64 (P : Int), .int .i64 T, .int .i64 0, .int .i64 (pg : Int), .int .i64 (14), .int .i64 ((nn : Int)), .int .i64 (1 + (k : Int)), .int .i64 0, .int .i64 0, .int .i64 0, .int .u64 ((mask &&& so : Nat) : Int), .bool false, .slice none 0 0, .slice none 0 0, .bool false, .int .i64 0, .bool false, .pointer none, .int .i64 0, .int .i64 0, .int .u64 0, .int .u64 0, .int .i64 0, .int .i64 0, .int .i64 0, .int .i64 0, .int .u64 0, .slice none 0 0, .slice none 0 0, .int .i64 0, .int .i64 0] 38 (0, 0))) := hide (setRow_heap _ _ _ _ _ _ hold)
  have J5 : Hid (Below w.heap.size w (w5.setRow (bl + 1) #[.int .i64 5, .int .i64 (P : Int), .int .i64 T, .int .i64 0, .int .i64 (pg : Int), .int .i64 (14), .int .i64 ((nn : Int)), .int .i64 (1 + (k : Int)), .int .i64 0, .int .i64 0, .int .i64 0, .int .u64 ((mask &&& so : Nat) : Int), .bool false, .slice none 0 0, .slice none 0 0, .bool false, .int .i64 0, .bool false, .pointer none, .int .i64 0, .int .i64 0, .int .u64 0, .int .u64 0, .int .i64 0, .int .i64 0, .int .i64 0, .int .i64 0, .int .u64 0, .slice none 0 0, .slice none 0 0, .int .i64 0, .int .i64 0])) := hide (below_setRow J4.out.below (by rw [HBL.out]; omega) _)
  have J6 : Hid (LwAt w (w5.setRow (bl + 1) #[.int .i64 5, .int .i64 (P : Int), .int .i64 T, .int .i64 0, .int .i64 (pg : Int), .int .i64 (14), .int .i64 ((nn : Int)), .int .i64 (1 + (k : Int)), .int .i64 0, .int .i64 0, .int .i64 0, .int .u64 ((mask &&& so : Nat) : Int), .bool false, .slice none 0 0, .slice none 0 0, .bool false, .int .i64 0, .bool false, .pointer none, .int .i64 0, .int .i64 0, .int .u64 0, .int .u64 0, .int .i64 0, .int .i64 0, .int .i64 0, .int .i64 0, .int .u64 0, .slice none 0 0, .slice none 0 0, .int .i64 0, .int .i64 0]) bl (bl + 1) (P : Int) T) := hide ⟨J5.out, (cell_setRow_other _ _ _ _ (show bl ≠ bl + 1 by omega)).trans J4.out.c0, (cell_setRow_other _ _ _ _ (show bl ≠ bl + 1 by omega)).trans J4.out.c1, ⟨_, rfl, HR.out⟩⟩
  refine wp_store_row 38 _ _ rfl (bl + 1) _ rfl rfl _ _ hold (by kernel_rfl) hos (by kernel_rfl) ?_
  refine hK _ _ J6.out ?_
  clear hK K' hos hold
  refine wpAnyJ_done (by kernel_rfl) ?_
  clear hne J4 J6
  go_wp2
  refine bodyPost_ret (results_cell_row (p := 8) rfl _ _ (bl + 1) 38 _ (0, 0) _ rfl HR.out Tryd.underlying38 rfl (by kernel_rfl)) rfl ?_
  exact ⟨rfl, J5.out⟩

set_option maxRecDepth 100000 in
set_option maxHeartbeats 8000000 in
theorem lawLayH (P : Nat) (T : Int) (hP : P ≤ 4096) (pg : Nat) (hpg : pg < P) (k : Nat) (hk : k < 1000000) (mask : Nat) (hmask : mask < 18446744073709551616) (cc : Nat) (hcc : k % 15 = cc) (pc : Nat) (hpc : Cls.pages ((cc : Nat) : Int) = pc) (h1 : ¬ cc = 14) (h2 : P - pg < pc) (w : World) :
    Calls Tryd.prog 7 #[.agg #[.int .i64 (P : Int), .int .i64 T], .int .i64 (pg : Int), .int .i64 (k : Int), .int .u64 (mask : Int)] w fun e w' => e = .returned (.agg #[.int .i64 5, .int .i64 (P : Int), .int .i64 T, .int .i64 0, .int .i64 (pg : Int), .int .i64 (14), .int .i64 (((1 + k % (P - pg) : Nat) : Int)), .int .i64 (1 + (k : Int)), .int .i64 0, .int .i64 0, .int .i64 0, .int .u64 ((mask &&& slotsB (14) : Nat) : Int), .bool false, .slice none 0 0, .slice none 0 0, .bool false, .int .i64 0, .bool false, .pointer none, .int .i64 0, .int .i64 0, .int .u64 0, .int .u64 0, .int .i64 0, .int .i64 0, .int .i64 0, .int .i64 0, .int .u64 0, .slice none 0 0, .slice none 0 0, .int .i64 0, .int .i64 0]) ∧ Below w.heap.size w w' := by
  have HP := hide (fun (w : World) => rpages ((cc : Nat) : Int) w)
  have HSL := hide (fun (w : World) => rslots (14) w)
  have HON := hide (fun (w : World) => ones16R (Cls.slots (14) : Int) w)
  obtain ⟨so, hso⟩ : ∃ so, slotsB (14) = so := ⟨_, rfl⟩
  have hsob : so < 18446744073709551616 := by
    rw [← hso]; unfold slotsB
    have := Plain.hold_le (Cls.slots (14) : Int)
    unfold Plain.ones
    have h2 : 2 ^ Plain.hold (Cls.slots (14) : Int) ≤ 2 ^ 64 := Nat.pow_le_pow_right (by omega) this
    have h3 : 0 < 2 ^ Plain.hold (Cls.slots (14) : Int) := Nat.pos_of_ne_zero (by simp)
    omega
  have hand : bits BinOp.and IntKind.u64 (mask : Int) (so : Int) = ((mask &&& so : Nat) : Int) := bits_and_u64_nat mask so hmask hsob
  have hso' : Plain.ones (Plain.hold (Cls.slots (14) : Int)) = so := hso
  rw [hso'] at HON
  rw [hso]
  have hci : (k : Int) % 15 = (cc : Int) := by omega
  rw [hpc] at HP
  obtain ⟨pp, hpp⟩ : ∃ x : Nat, P - pg = x := ⟨_, rfl⟩
  have hpp0 : 1 ≤ pp := by omega
  have hppi : (P : Int) - (pg : Int) = (pp : Int) := by omega
  have dz : ((pp : Int) == 0) = false := by rw [beq_eq_false_iff_ne]; omega
  have dz' : ¬ (pp : Int) = 0 := by omega
  obtain ⟨nn, hnn⟩ : ∃ x : Nat, 1 + k % (P - pg) = x := ⟨_, rfl⟩
  have hnn9 : nn ≤ 4097 := by have : k % (P - pg) < P - pg := Nat.mod_lt _ (by omega); omega
  rw [hnn]
  have hni : 1 + (k : Int) % (pp : Int) = (nn : Int) := by rw [← hnn, hpp]; omega
  have d0 : ((cc : Int) == 14) = false := by rw [beq_eq_false_iff_ne]; omega
  have d1 : decide ((pc : Int) > (P : Int) - (pg : Int)) = true := by simp; omega
  have d2 : decide ((P : Int) - (pg : Int) < (pc : Int)) = true := by simp; omega
  have d3 : decide ((pp : Int) < (pc : Int)) = true := by simp; omega
  have d4 : decide (pp < pc) = true := by simp; omega
  obtain ⟨sl, hsl⟩ : ∃ sl : Int, (Cls.slots (14) : Int) = sl := ⟨_, rfl⟩
  rw [hsl] at HSL HON
  have bf := buildLL (P : Int) T (pg : Int) (14) ((nn : Int)) (1 + (k : Int)) (mask &&& so)
  have BF := hide bf
  have HAND := hide hand
  have B0 := LBox.new w (P : Int) T 24
  have I1 : Hid (LwAt w ((w.alloc (.cells #[.int .i64 (P : Int), .int .i64 T] 24)).alloc (.cells #[.int .i64 0, .int .i64 0, .int .i64 0, .int .i64 0, .int .i64 0, .int .i64 0, .int .i64 0, .int .i64 0, .int .i64 0, .int .i64 0, .int .i64 0, .int .u64 0, .bool false, .slice none 0 0, .slice none 0 0, .bool false, .int .i64 0, .bool false, .pointer none, .int .i64 0, .int .i64 0, .int .u64 0, .int .u64 0, .int .i64 0, .int .i64 0, .int .i64 0, .int .i64 0, .int .u64 0, .slice none 0 0, .slice none 0 0, .int .i64 0, .int .i64 0] 38)) w.heap.size (w.heap.size + 1) (P : Int) T) := hide ⟨(grown1 _ _).trans ((grown1 _ _).mono (by simp)), (cell_of_heap (heap_alloc_old (heap_alloc_at w _))), (cell_of_heap (heap_alloc_old (heap_alloc_at w _))), ⟨#[.int .i64 0, .int .i64 0, .int .i64 0, .int .i64 0, .int .i64 0, .int .i64 0, .int .i64 0, .int .i64 0, .int .i64 0, .int .i64 0, .int .i64 0, .int .u64 0, .bool false, .slice none 0 0, .slice none 0 0, .bool false, .int .i64 0, .bool false, .pointer none, .int .i64 0, .int .i64 0, .int .u64 0, .int .u64 0, .int .i64 0, .int .i64 0, .int .i64 0, .int .i64 0, .int .u64 0, .slice none 0 0, .slice none 0 0, .int .i64 0, .int .i64 0], rfl, by have := heap_alloc_at (w.alloc (.cells #[.int .i64 (P : Int), .int .i64 T] 24)) (.cells #[.int .i64 0, .int .i64 0, .int .i64 0, .int .i64 0, .int .i64 0, .int .i64 0, .int .i64 0, .int .i64 0, .int .i64 0, .int .i64 0, .int .i64 0, .int .u64 0, .bool false, .slice none 0 0, .slice none 0 0, .bool false, .int .i64 0, .bool false, .pointer none, .int .i64 0, .int .i64 0, .int .u64 0, .int .u64 0, .int .i64 0, .int .i64 0, .int .i64 0, .int .i64 0, .int .u64 0, .slice none 0 0, .slice none 0 0, .int .i64 0, .int .i64 0] 38); simpa using this⟩⟩
  clear B0 bf hand hso hso' hsl hcc hpc hmask hsob
  go_enter Tryd.func7, Tryd.ntmps7
  go_wp2_with fail
  generalize ((w.alloc (.cells #[.int .i64 (P : Int), .int .i64 T] 24)).alloc (.cells #[.int .i64 0, .int .i64 0, .int .i64 0, .int .i64 0, .int .i64 0, .int .i64 0, .int .i64 0, .int .i64 0, .int .i64 0, .int .i64 0, .int .i64 0, .int .u64 0, .bool false, .slice none 0 0, .slice none 0 0, .bool false, .int .i64 0, .bool false, .pointer none, .int .i64 0, .int .i64 0, .int .u64 0, .int .u64 0, .int .i64 0, .int .i64 0, .int .i64 0, .int .i64 0, .int .u64 0, .slice none 0 0, .slice none 0 0, .int .i64 0, .int .i64 0] 38)) = w1 at *
  obtain ⟨bl, hbl⟩ : ∃ bl, w.heap.size = bl := ⟨_, rfl⟩
  have HBL := hide hbl
  rw [hbl] at I1
  rw [hbl]
  clear hbl
  refine (HP.out _).mono ?_
  rintro e w2 ⟨rfl, b2⟩
  have I2 := hide (I1.out.grow b2)
  clear I1 b2 HP
  have c0 := I2.out.c0
  have c1 := I2.out.c1
  go_wp2
  go_quiet (fail)
  clear c0 c1
  go_wp2
  have I3 := hide (I2.out.grow ((Alike.drewN w2 nq).below _))
  clear I2
  generalize w2.drewN nq = w3 at *
  have J3 := hide (I3.out.grow ((Alike.drewN w3 1).below _))
  clear I3
  have hne : Nonempty (Mem (fun u => LwAt w u bl (bl + 1) (P : Int) T)) := ⟨⟨_, J3.out⟩⟩
  have u0 : ∀ u : Mem (fun u => LwAt w u bl (bl + 1) (P : Int) T), u.w'.cell? ⟨bl, 0, none⟩ = some (.int .i64 (P : Int)) := fun u => u.h.c0
  have u1 : ∀ u : Mem (fun u => LwAt w u bl (bl + 1) (P : Int) T), u.w'.cell? ⟨bl, 1, none⟩ = some (.int .i64 T) := fun u => u.h.c1
  refine region_start (J := fun u => LwAt w u bl (bl + 1) (P : Int) T) (by kernel_rfl) ?_
  refine stretch (fuel := 5) (by kernel_rfl) (fun _ _ _ _ _ h => h) J3.out [0, 1, 2, 3, 4, 5, 6, 7] (by kernel_rfl) ?_
  simp only [List.filterMap_cons, List.filterMap_nil, List.getElem?_toArray, List.getElem?_cons_zero, List.getElem?_cons_succ]
  show wpQuiet _ _ _ _ [_, _, _, _, _, _, _, _] _
  repeat (go_big_quiet_step (fail))
  refine wpQuiet_nil ?_
  refine wpAnyJ_writer (i := 8) rfl (by kernel_rfl) (fun K' hK => ?_)
  go_simp
  refine (HSL.out _).mono ?_
  rintro e w4 ⟨rfl, b4⟩
  have J4 := hide (J3.out.grow b4)
  refine hK _ _ J4.out ?_
  clear hK K' b4 J3
  refine wpAnyJ_writer (i := 9) rfl (by kernel_rfl) (fun K' hK => ?_)
  go_simp
  refine (HON.out _).mono ?_
  rintro e w5 ⟨rfl, rfl⟩
  refine hK _ _ J4.out ?_
  clear hK K'
  have bf := BF.out
  have hand := HAND.out
  refine stretch (fuel := 1) (by kernel_rfl) (fun _ _ _ _ _ h => h) J4.out [10, 11] (by kernel_rfl) ?_
  simp only [List.filterMap_cons, List.filterMap_nil, List.getElem?_toArray, List.getElem?_cons_zero, List.getElem?_cons_succ]
  show wpQuiet _ _ _ _ [_, _] _
  repeat (go_big_quiet_step (fail))
  refine wpQuiet_nil ?_
  clear u0 u1 bf hand
  refine wpAnyJ_writer (i := 12) rfl (by kernel_rfl) (fun K' hK => ?_)
  obtain ⟨old, hos, hold⟩ := J4.out.res
  have HR : Hid ((w5.setRow (bl + 1) #[.int .i64 5, .int .i64 (P : Int), .int .i64 T, .int .i64 0, .int .i64 (pg : Int), .int .i64 (14), .int .i64 ((nn : Int)), .int .i64 (1 + (k : Int)), .int .i64 0, .int .i64 0, .int .i64 0, .int .u64 ((mask &&& so : Nat) : Int), .bool false, .slice none 0 0, .slice none 0 0, .bool false, .int .i64 0, .bool false, .pointer none, .int .i64 0, .int .i64 0, .int .u64 0, .int .u64 0, .int .i64 0, .int .i64 0, .int .i64 0, .int .i64 0, .int .u64 0, .slice none 0 0, .slice none 0 0, .int .i64 0, .int .i64 0]).heap[bl + 1]? = some (.cells #[.int .i64 5, .int .i64 (P : Int), .int .i64 T, .int .i64 0, .int .i64 (pg : Int), .int .i64 (14), .int .i64 ((nn : Int)), .int .i64 (1 + (k : Int)), .int .i64 0, .int .i64 0, .int .i64 0, .int .u64 ((mask &&& so : Nat) : Int), .bool false, .slice none 0 0, .slice none 0 0, .bool false, .int .i64 0, .bool false, .pointer none, .int .i64 0, .int .i64 0, .int .u64 0, .int .u64 0, .int .i64 0, .int .i64 0, .int .i64 0, .int .i64 0, .int .u64 0, .slice none 0 0, .slice none 0 0, .int .i64 0, .int .i64 0] 38 (0, 0))) := hide (setRow_heap _ _ _ _ _ _ hold)
  have J5 : Hid (Below w.heap.size w (w5.setRow (bl + 1) #[.int .i64 5, .int .i64 (P : Int), .int .i64 T, .int .i64 0, .int .i64 (pg : Int), .int .i64 (14), .int .i64 ((nn : Int)), .int .i64 (1 + (k : Int)), .int .i64 0, .int .i64 0, .int .i64 0, .int .u64 ((mask &&& so : Nat) : Int), .bool false, .slice none 0 0, .slice none 0 0, .bool false, .int .i64 0, .bool false, .pointer none, .int .i64 0, .int .i64 0, .int .u64 0, .int .u64 0, .int .i64 0, .int .i64 0, .int .i64 0, .int .i64 0, .int .u64 0, .slice none 0 0, .slice none 0 0, .int .i64 0, .int .i64 0])) := hide (below_setRow J4.out.below (by rw [HBL.out]; omega) _)
  have J6 : Hid (LwAt w (w5.setRow (bl + 1) #[.int .i64 5, .int .i64 (P : Int), .int .i64 T, .int .i64 0, .int .i64 (pg : Int), .int .i64 (14), .int .i64 ((nn : Int)), .int .i64 (1 + (k : Int)), .int .i64 0, .int .i64 0, .int .i64 0, .int .u64 ((mask &&& so : Nat) : Int), .bool false, .slice none 0 0, .slice none 0 0, .bool false, .int .i64 0, .bool false, .pointer none, .int .i64 0, .int .i64 0, .int .u64 0, .int .u64 0, .int .i64 0, .int .i64 0, .int .i64 0, .int .i64 0, .int .u64 0, .slice none 0 0, .slice none 0 0, .int .i64 0, .int .i64 0]) bl (bl + 1) (P : Int) T) := hide ⟨J5.out, (cell_setRow_other _ _ _ _ (show bl ≠ bl + 1 by omega)).trans J4.out.c0, (cell_setRow_other _ _ _ _ (show bl ≠ bl + 1 by omega)).trans J4.out.c1, ⟨_, rfl, HR.out⟩⟩
  refine wp_store_row 38 _ _ rfl (bl + 1) _ rfl rfl _ _ hold (by kernel_rfl) hos (by kernel_rfl) ?_
  refine hK _ _ J6.out ?_
  clear hK K' hos hold
  refine wpAnyJ_done (by kernel_rfl) ?_
  clear hne J4 J6
  go_wp2
  refine bodyPost_ret (results_cell_row (p := 8) rfl _ _ (bl + 1) 38 _ (0, 0) _ rfl HR.out Tryd.underlying38 rfl (by kernel_rfl)) rfl ?_
  exact ⟨rfl, J5.out⟩

/-- What lays a span, by numbers, whichever of the three it is. -/
theorem lawLay (P : Nat) (T : Int) (hP : P ≤ 4096) (pg : Nat) (hpg : pg < P) (k : Nat) (hk : k < 1000000) (mask : Nat) (hmask : mask < 18446744073709551616) :
    ∃ c n : Nat, c ≤ 14 ∧ 1 ≤ n ∧ pg + n ≤ P ∧ (c = 14 ∨ n = Cls.pages (c : Int)) ∧ ∀ w : World, Calls Tryd.prog 7 #[.agg #[.int .i64 (P : Int), .int .i64 T], .int .i64 (pg : Int), .int .i64 (k : Int), .int .u64 (mask : Int)] w fun e w' => e = .returned (.agg #[.int .i64 5, .int .i64 (P : Int), .int .i64 T, .int .i64 0, .int .i64 (pg : Int), .int .i64 (c : Int), .int .i64 (n : Int), .int .i64 (1 + (k : Int)), .int .i64 0, .int .i64 0, .int .i64 0, .int .u64 ((mask &&& slotsB (c : Int) : Nat) : Int), .bool false, .slice none 0 0, .slice none 0 0, .bool false, .int .i64 0, .bool false, .pointer none, .int .i64 0, .int .i64 0, .int .u64 0, .int .u64 0, .int .i64 0, .int .i64 0, .int .i64 0, .int .i64 0, .int .u64 0, .slice none 0 0, .slice none 0 0, .int .i64 0, .int .i64 0]) ∧ Below w.heap.size w w' := by
  have hmod : k % (P - pg) < P - pg := Nat.mod_lt _ (by omega)
  by_cases h1 : k % 15 = 14
  · exact ⟨14, 1 + k % (P - pg), by omega, by omega, by omega, .inl rfl, fun w => lawLayG P T hP pg hpg k hk mask hmask _ h1 _ rfl rfl w⟩
  · by_cases h2 : Cls.pages ((k % 15 : Nat) : Int) ≤ P - pg
    · have h3 : ∀ c : Nat, c < 14 → 1 ≤ Cls.pages (c : Int) := by decide
      have := h3 (k % 15) (by omega)
      exact ⟨k % 15, Cls.pages ((k % 15 : Nat) : Int), by omega, this, by omega, .inr rfl, fun w => lawLayS P T hP pg hpg k hk mask hmask _ rfl _ rfl h1 h2 w⟩
    · exact ⟨14, 1 + k % (P - pg), by omega, by omega, by omega, .inl rfl, fun w => lawLayH P T hP pg hpg k hk mask hmask _ rfl _ rfl h1 (by omega) w⟩
end Go.Proofs.YtgdliebllmgibaaDoor
