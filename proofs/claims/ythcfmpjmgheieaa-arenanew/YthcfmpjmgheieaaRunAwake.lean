/- awake: the document's example. -/
import Derived.Test.YthcfmpjmgheieaaRunOwn
namespace Go.Proofs.Ythcfmpjmgheieaa
open Go.RowKit

theorem aw1 : takeA 3 [(kOf 0 8, 0, ())] = (0, 0) ∧ takeS [] 3 1 [(kOf 0 8, 0, ())] = (2, [(40963, 0, ())]) := by decide
theorem aw2 : takeA 2 [(40963, 0, ())] = (3, 0) ∧ takeS [] 2 2 [(40963, 0, ())] = (3, [(24581, 0, ())]) := by decide
theorem aw3 : putA 8 0 3 [(24581, 0, ())] = 0 ∧ putS 8 [] 0 3 3 [(24581, 0, ())] = (4, [(24576, 0, ()), (24581, 0, ())]) := by decide
theorem aw4 : takeA 3 [(24576, 0, ()), (24581, 0, ())] = (0, 0) := by decide
theorem aw0 : ([] : List Nat).getD 0 0 = 0 := rfl
theorem awF1 : Fit 1 8 [] 1 [(kOf 0 8, 0, ())] := Fit.new (ds := []) (by decide) (by decide) (by decide)
theorem awF2 : Fit 2 8 [] 2 [(40963, 0, ())] := by have := awF1.take 3; rw [aw1.2] at this; exact this
theorem awF3 : Fit 3 8 [] 3 [(24581, 0, ())] := by have := awF2.take 2; rw [aw2.2] at this; exact this
theorem awF4 : Fit 4 8 [] 4 [(24576, 0, ()), (24581, 0, ())] := by have := awF3.put 0 3; rw [aw3.2] at this; exact this
theorem awR0 : (([(24576, 0, ()), (24581, 0, ())] : RL).map (·.1)).map rOf = [(0, 3), (5, 3)] := by decide
theorem awR : runsOf [(24576, 0, ()), (24581, 0, ())] = [(0, 3), (5, 3)] := (runsOf_is awF4.good (by rw [awR0]) (by decide)).symm

set_option maxRecDepth 100000 in
set_option maxHeartbeats 2000000 in
theorem awake20 (w : World) : Calls Try.prog 18 #[] w fun e w' => e = .returned (.bool true) ∧ Below w.heap.size w w' := by
  have F1 := awF1
  have F2 := awF2
  have F3 := awF3
  have F4 := awF4
  have HR := awR
  obtain ⟨L1, e1⟩ : ∃ L1 : RL, L1 = [(kOf 0 8, 0, ())] := ⟨_, rfl⟩
  obtain ⟨L2, e2⟩ : ∃ L2 : RL, L2 = [(40963, 0, ())] := ⟨_, rfl⟩
  obtain ⟨L3, e3⟩ : ∃ L3 : RL, L3 = [(24581, 0, ())] := ⟨_, rfl⟩
  obtain ⟨L4, e4⟩ : ∃ L4 : RL, L4 = [(24576, 0, ()), (24581, 0, ())] := ⟨_, rfl⟩
  obtain ⟨l4, e5⟩ : ∃ l4 : List (Int × Int), l4 = [(0, 3), (5, 3)] := ⟨_, rfl⟩
  have a1 : takeA 3 L1 = (0, 0) := by rw [e1]; exact aw1.1
  have s1 : takeS [] 3 1 L1 = (2, L2) := by rw [e1, e2]; exact aw1.2
  have a2 : takeA 2 L2 = (3, 0) := by rw [e2]; exact aw2.1
  have s2 : takeS [] 2 2 L2 = (3, L3) := by rw [e2, e3]; exact aw2.2
  have a3 : putA 8 0 3 L3 = 0 := by rw [e3]; exact aw3.1
  have s3 : putS 8 [] 0 3 3 L3 = (4, L4) := by rw [e3, e4]; exact aw3.2
  have a4 : takeA 3 L4 = (0, 0) := by rw [e4]; exact aw4
  rw [← e4, ← e5] at HR
  rw [← e1] at F1
  rw [← e2] at F2
  rw [← e3] at F3
  rw [← e4] at F4
  have N0 : Hid (Calls Try.prog 8 #[.int .i64 8, .slice none 0 0] w fun e w' => ∃ r, e = .returned (.pointer (some ⟨r, 0, none⟩)) ∧ Own (Sep (RR r 8 [] 1 L1) Nought) w w') := hide (by
    have := newP (pg := 8) (ds := []) (R := Nought) Loc.nought (Own.start w) (by decide) (by decide) (by decide) none 0 (fun _ => ⟨rfl, rfl⟩) (fun h => absurd rfl h)
    rw [aw0] at this
    rw [e1]
    exact this)
  have T1 : ∀ (r : Nat) (w1 : World), Own (Sep (RR r 8 [] 1 L1) Nought) w w1 → Hid (Calls Try.prog 11 #[.pointer (some ⟨r, 0, none⟩), .int .i64 3] w1 fun e w' => e = .returned (.tuple #[.int .i64 0, .int .i64 0]) ∧ Own (Sep (RR r 8 [] 2 L2) Nought) w w') := fun r w1 h => hide (by
    have := takeP Loc.nought h (F1.fine (by decide)) 3
    rw [a1, s1] at this; exact this)
  have T2 : ∀ (r : Nat) (w1 : World), Own (Sep (RR r 8 [] 2 L2) Nought) w w1 → Hid (Calls Try.prog 11 #[.pointer (some ⟨r, 0, none⟩), .int .i64 2] w1 fun e w' => e = .returned (.tuple #[.int .i64 3, .int .i64 0]) ∧ Own (Sep (RR r 8 [] 3 L3) Nought) w w') := fun r w1 h => hide (by
    have := takeP Loc.nought h (F2.fine (by decide)) 2
    rw [a2, s2] at this; exact this)
  have T3 : ∀ (r : Nat) (w1 : World), Own (Sep (RR r 8 [] 3 L3) Nought) w w1 → Hid (Calls Try.prog 13 #[.pointer (some ⟨r, 0, none⟩), .int .i64 0, .int .i64 3] w1 fun e w' => e = .returned (.int .i64 0) ∧ Own (Sep (RR r 8 [] 4 L4) Nought) w w') := fun r w1 h => hide (by
    have := putP Loc.nought h (F3.fine (by decide)) 0 3 (by decide)
    rw [a3, s3] at this; exact this)
  have T4 : ∀ (r : Nat) (w1 : World), Own (Sep (RR r 8 [] 4 L4) Nought) w w1 → Hid (Calls Try.prog 30 #[.pointer (some ⟨r, 0, none⟩)] w1 fun e w' => ∃ v, e = .returned v ∧ Own (Sep (RR r 8 [] 4 L4) (Sep (RV v l4) Nought)) w w') := fun r w1 h => hide (by
    have := listP Loc.nought h (F4.fine (by decide))
    rw [HR] at this; exact this)
  have T5 : ∀ (r : Nat) (v : Value) (w1 : World), Own (Sep (RR r 8 [] 4 L4) (Sep (RV v l4) Nought)) w w1 → Hid (Calls Try.prog 11 #[.pointer (some ⟨r, 0, none⟩), .int .i64 3] w1 fun e w' => e = .returned (.tuple #[.int .i64 0, .int .i64 0]) ∧ ∃ dn L, Own (Sep (RR r 8 [] dn L) (Sep (RV v l4) Nought)) w w') := fun r v w1 h => hide (by
    have := takeP (Loc.rv.sep Loc.nought) h (F4.fine (by decide)) 3
    rw [a4] at this
    exact this.mono fun _ _ ⟨q1, q2⟩ => ⟨q1, _, _, q2⟩)
  have E5 := hide e5
  clear F1 F2 F3 F4 HR a1 a2 a3 a4 s1 s2 s3 e1 e2 e3 e4 e5
  go_enter Try.func18, Try.ntmps18
  go_wp2_with fail
  refine N0.out.mono ?_
  rintro e w1 ⟨r, rfl, o1⟩
  have C1 := T1 r w1 o1
  clear N0 T1 o1
  go_wp2_with fail
  refine C1.out.mono ?_
  rintro e w2 ⟨rfl, o2⟩
  have C2 := T2 r w2 o2
  clear C1 T2 o2
  go_wp2_with fail
  refine C2.out.mono ?_
  rintro e w3 ⟨rfl, o3⟩
  have C3 := T3 r w3 o3
  clear C2 T3 o3
  go_wp2_with fail
  refine C3.out.mono ?_
  rintro e w4 ⟨rfl, o4⟩
  have C4 := T4 r w4 o4
  clear C3 T4 o4
  go_wp2_with fail
  refine C4.out.mono ?_
  rintro e w5 ⟨v, rfl, o5⟩
  have C5 := T5 r v w5 o5
  clear C4 T5 o5
  go_wp2_with fail
  refine C5.out.mono ?_
  rintro e w6 ⟨rfl, dn6, L6, o6⟩
  have hB6 : Below w.heap.size w w6 := o6.back
  have hV6 : RunsV w6 v l4 := by obtain ⟨_, h, _⟩ := o6.mid; exact h
  have HV6 := hide hV6
  have HB6 := hide hB6
  clear C5 o6 hB6 hV6
  go_wp2_with fail
  have hA : Below w6.heap.size w6 (w6.alloc (.cells #[.int .i64 0, .int .i64 3, .int .i64 5, .int .i64 3] 84)) := (Below.refl _ w6).alloc (Nat.le_refl _) _
  have hc := heap_alloc_at w6 (.cells #[.int .i64 0, .int .i64 3, .int .i64 5, .int .i64 3] 84)
  have hW2 : RunsV (w6.alloc (.cells #[.int .i64 0, .int .i64 3, .int .i64 5, .int .i64 3] 84)) (.slice (some ⟨w6.heap.size, 0, none⟩) 2 2) l4 := by
    rw [E5.out]
    refine ⟨_, _, rfl, fun _ => ⟨w6.heap.size, rfl, lt_of_heap hc, fun i hi => ?_⟩⟩
    match i, hi with
    | 0, _ => exact ⟨cell_of_heap hc, cell_of_heap hc⟩
    | 1, _ => exact ⟨cell_of_heap hc, cell_of_heap hc⟩
  refine (sameRuns _ v _ l4 (HV6.out.below hA) hW2 (by rw [E5.out]; decide)).mono ?_
  rintro e w7 ⟨rfl, h7⟩
  have HB7 : Hid (Below w.heap.size w w7) := hide ((HB6.out.trans (hA.mono HB6.out.size)).trans (h7.below _))
  clear h7 hW2 hc hA
  go_wp2
  go_ret
  exact ⟨rfl, HB7.out⟩
end Go.Proofs.Ythcfmpjmgheieaa
