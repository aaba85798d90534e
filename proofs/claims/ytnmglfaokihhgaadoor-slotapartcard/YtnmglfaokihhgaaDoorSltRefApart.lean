/- Whether bytes are apart: the document's call. -/
import Derived.Test.YtnmglfaokihhgaaDoorSltApart
namespace Go.Proofs.YtnmglfaokihhgaaDoor
open Go.RowKit

namespace Cls
/-- The four numbers by their place. -/
def four (a n t m : Int) (k : Nat) : Int := [a, n, t, m].getD k 0
theorem four_out {a n t m : Int} {k : Nat} (hk : k < 4) (h : ¬ nears (four a n t m k)) : aparts a n t m = false := by
  unfold aparts
  rw [if_neg]
  intro ⟨h1, h2, h3, h4⟩
  obtain rfl | rfl | rfl | rfl : k = 0 ∨ k = 1 ∨ k = 2 ∨ k = 3 := by omega
  · exact h h1
  · exact h h2
  · exact h h3
  · exact h h4
end Cls

theorem four_cell (a n t m : Int) (w : World) (k : Nat) (hk : k < 4) : (w.alloc (Obj.cells #[.int .i64 a, .int .i64 n, .int .i64 t, .int .i64 m] 34)).cell? ⟨w.heap.size, k, none⟩ = some (.int .i64 (Cls.four a n t m k)) := by
  rw [cell_of_heap (heap_alloc_at w _)]
  obtain rfl | rfl | rfl | rfl : k = 0 ∨ k = 1 ∨ k = 2 ∨ k = 3 := by omega
  all_goals rfl

set_option maxHeartbeats 2000000 in
theorem rapart (a n t m : Int) (b : Bool) (hv : Cls.aparts a n t m = b) (w : World) :
    Calls Tryd.prog 14 #[.int .i64 a, .int .i64 n, .int .i64 t, .int .i64 m] w fun e w' => e = .returned (.bool b) ∧ Below w.heap.size w w' := by
  have HV := hide hv
  have HC := hide (fun k hk => four_cell a n t m w k hk)
  have HB := hide ((Below.refl w.heap.size w).alloc (Nat.le_refl _) (Obj.cells #[.int .i64 a, .int .i64 n, .int .i64 t, .int .i64 m] 34))
  have HQ : Hid (Cls.four a n t m 0 = a ∧ Cls.four a n t m 1 = n ∧ Cls.four a n t m 2 = t ∧ Cls.four a n t m 3 = m) := hide ⟨rfl, rfl, rfl, rfl⟩
  clear hv
  go_enter Tryd.func14, Tryd.ntmps14
  go_wp2
  go_loop [10] (fun i => ∃ k : Nat, k ≤ 4 ∧ i = .int .i64 (k : Int) ∧ Hid (∀ j : Nat, j < k → Cls.nears (Cls.four a n t m j))) (fun i => 4 - (intOf i).toNat)
  case atStart => exact ⟨0, Nat.zero_le _, rfl, fun i hi => absurd hi (by omega)⟩
  case round =>
    obtain ⟨k, hk, rfl, hall⟩ := hrel
    by_cases hlt : k < 4
    · have hc := HC.out k hlt
      by_cases hn : Cls.nears (Cls.four a n t m k)
      · have HN := hide hn
        generalize hq : Cls.four a n t m k = q at *
        have HQK := hide hq
        unfold Cls.nears at hn
        have d1 : decide (q < 0) = false := by simp; omega
        have d2 : decide (1099511627776 < q) = false := by simp; omega
        clear hn hq
        go_wp2
        go_round
        case rel =>
          refine ⟨k + 1, by omega, by go_num, fun j hj => ?_⟩
          by_cases he : j = k
          · subst he; rw [HQK.out]; exact HN.out
          · exact hall.out j (by omega)
        case measure => simp [intOf]; omega
      · have hw := Cls.four_out hlt hn
        obtain rfl := HV.out.symm.trans hw
        generalize hq : Cls.four a n t m k = q at *
        clear hq hw
        by_cases h0 : q < 0
        · have d1 : decide (q < 0) = true := by simpa using h0
          clear hn h0
          go_wp2
          go_ret
          exact ⟨rfl, HB.out⟩
        · have d1 : decide (q < 0) = false := by simpa using h0
          have d2 : decide (1099511627776 < q) = true := by simp; unfold Cls.nears at hn; omega
          clear hn h0
          go_wp2
          go_ret
          exact ⟨rfl, HB.out⟩
    · obtain rfl : k = 4 := by omega
      have h1 := hall.out 0 (by omega)
      have h2 := hall.out 1 (by omega)
      have h3 := hall.out 2 (by omega)
      have h4 := hall.out 3 (by omega)
      rw [HQ.out.1] at h1
      rw [HQ.out.2.1] at h2
      rw [HQ.out.2.2.1] at h3
      rw [HQ.out.2.2.2] at h4
      have hb : ((n == 0) || (m == 0) || decide (a + n ≤ t) || decide (t + m ≤ a)) = b := by
        have := HV.out
        unfold Cls.aparts at this
        rw [if_pos ⟨h1, h2, h3, h4⟩] at this
        exact this
      unfold Cls.nears at h1 h2 h3 h4
      generalize e1 : (n == 0) = x at hb
      generalize e2 : (m == 0) = y at hb
      generalize e3 : decide (a + n ≤ t) = z at hb
      generalize e4 : decide (t + m ≤ a) = u at hb
      subst hb
      clear HC HV HQ hall hlt
      cases x <;> cases y <;> cases z <;> cases u <;> (
        go_wp2
        go_ret
        exact ⟨rfl, HB.out⟩)

theorem rapartOk (a n t m : Int) (b : Bool) (hv : Cls.aparts a n t m = b) {w0 w : World} (hok : ClsOk w0 w) :
    Calls Tryd.prog 14 #[.int .i64 a, .int .i64 n, .int .i64 t, .int .i64 m] w fun e w' => e = .returned (.bool b) ∧ ClsOk w0 w' :=
  (rapart a n t m b hv w).mono fun _ _ ⟨he, hb⟩ => ⟨he, hok.grow hb⟩

theorem awakeOk5 {w0 w : World} (hok : ClsOk w0 w) : Calls Tryd.prog 15 #[] w fun e w' => e = .returned (.bool true) ∧ ClsOk w0 w' := by
  have B := hide (fun w (h : ClsOk w0 w) => sbeginOk 1 4 2 9216 true (by decide +kernel) h)
  have O1 := hide (fun w (h : ClsOk w0 w) => sofOk 1 4 9216 2 true (by omega) (by decide +kernel) h)
  have O2 := hide (fun w (h : ClsOk w0 w) => sofOk 1 4 9217 0 false (by omega) (by decide +kernel) h)
  go_enter Tryd.func15, Tryd.ntmps15
  go_wp2_with fail
  refine (B.out _ (by assumption)).mono ?_
  rintro e w1 ⟨rfl, hok⟩
  go_wp2_with fail
  refine (O1.out _ (by assumption)).mono ?_
  rintro e w1 ⟨rfl, hok⟩
  go_wp2_with fail
  refine (O2.out _ (by assumption)).mono ?_
  rintro e w1 ⟨rfl, hok⟩
  go_wp2
  go_ret
  exact ⟨rfl, by assumption⟩

end Go.Proofs.YtnmglfaokihhgaaDoor
