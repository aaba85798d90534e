/- A swap of both stores: they answer alike, and hold the same behind it; and any access of both. -/
import Derived.Test.YtlanfpefifegpaaStoreDo
namespace Go.Proofs.Ytlanfpefifegpaa
open Go.RowKit

set_option maxHeartbeats 400000 in
theorem do_cas_old (w : World) (p b q c : Nat) (s : St) (h : Both w p b q c s) (kind : Nat) (hk : kind < 256) (h4 : kind % 4 = 2) (h8 : kind % 8 ≤ 3) (i : Nat) (hi : i < s.words.length) (v old : Nat) (hv : v < 18446744073709551616) :
    Calls Try.prog 10 #[.pointer (some ⟨p, 0, none⟩), .pointer (some ⟨q, 0, none⟩), .agg #[.int .u8 (kind : Int), .int .i64 (i : Int), .int .u64 (v : Int), .int .u64 (old : Int)]] w fun e w' => e = .returned (.bool true) ∧ BothPost w p b q c s.words.length w' := by
  have c0 : w.cell? ⟨q, 0, none⟩ = some (.slice (some ⟨c, 0, none⟩) s.words.length s.words.length) := cell_of_heap h.ra.head
  have hl := h.ra.len
  obtain ⟨hp, hb, hq', hc⟩ := lt_both h
  have HA := hide (h.alloc (.cells #[.int .u8 (kind : Int), .int .i64 (i : Int), .int .u64 (v : Int), .int .u64 (old : Int)] 30))
  have HO : Hid (Only (Four p b q c) w (w.alloc (.cells #[.int .u8 (kind : Int), .int .i64 (i : Int), .int .u64 (v : Int), .int .u64 (old : Int)] 30))) := (Only.refl _ w).alloc _
  have HB : Hid (Boxed w.heap.size kind (i : Int) v old (w.alloc (.cells #[.int .u8 (kind : Int), .int .i64 (i : Int), .int .u64 (v : Int), .int .u64 (old : Int)] 30))) := heap_alloc_at w _
  have HBd : Hid (Boxed w.heap.size kind (i : Int) v old (w.alloc (.cells #[.int .u8 (kind : Int), .int .i64 (i : Int), .int .u64 (v : Int), .int .u64 (old : Int)] 30)).drew) := HB.out
  have hq : (kind : Int) % 4 = 2 := by omega
  have g : decide ((3 : Int) < (kind : Int) % 8) = false := by simp; omega
  clear h h4
  go_enter Try.func10, Try.ntmps10
  go_wp2_with fail
  go_quiet (fail)
  go_wp2_with fail
  refine (s_cas _ p b s (HA.out.drewN _).sa i hi old v hv).mono ?_
  rintro e w1 ⟨rfl, hs1, ho1⟩
  have hB1 := Boxed.kept (w := (w.alloc (.cells #[.int .u8 (kind : Int), .int .i64 (i : Int), .int .u64 (v : Int), .int .u64 (old : Int)] 30)).drewN _) HB.out ho1 (by omega)
  have d1 : w1.cell? ⟨w.heap.size, 1, none⟩ = some (.int .i64 (i : Int)) := cell_of_heap hB1
  have d2 : w1.cell? ⟨w.heap.size, 2, none⟩ = some (.int .u64 (v : Int)) := cell_of_heap hB1
  have K1 := hide ho1
  have K2 := hide hs1
  clear ho1 hs1 hB1
  go_wp2_with fail
  refine (r_cas _ q c s (both_kept (HA.out.drewN _) K1.out) i hi old v hv).mono ?_
  rintro e w2 ⟨rfl, hs2, ho2⟩
  go_wp2
  go_ret
  exact ⟨rfl, both_step (HA.out.drewN _) (HO.out.drewN _) K1.out K2.out ho2 hs2 (cas_len ..)⟩

set_option maxHeartbeats 400000 in
theorem do_cas_now (w : World) (p b q c : Nat) (s : St) (h : Both w p b q c s) (kind : Nat) (hk : kind < 256) (h4 : kind % 4 = 2) (h8 : 3 < kind % 8) (i : Nat) (hi : i < s.words.length) (v old : Nat) (hv : v < 18446744073709551616) :
    Calls Try.prog 10 #[.pointer (some ⟨p, 0, none⟩), .pointer (some ⟨q, 0, none⟩), .agg #[.int .u8 (kind : Int), .int .i64 (i : Int), .int .u64 (v : Int), .int .u64 (old : Int)]] w fun e w' => e = .returned (.bool true) ∧ BothPost w p b q c s.words.length w' := by
  obtain ⟨x, hx⟩ : ∃ x, s.words.getD i 0 = x := ⟨_, rfl⟩
  have cx : w.cell? ⟨c, i, none⟩ = some (.int .u64 (x : Int)) := (cell_of_heap h.ra.row).trans ((wordVals_get _ _ hi).trans (by rw [hx]))
  clear hx
  have c0 : w.cell? ⟨q, 0, none⟩ = some (.slice (some ⟨c, 0, none⟩) s.words.length s.words.length) := cell_of_heap h.ra.head
  have hl := h.ra.len
  obtain ⟨hp, hb, hq', hc⟩ := lt_both h
  have HA := hide (h.alloc (.cells #[.int .u8 (kind : Int), .int .i64 (i : Int), .int .u64 (v : Int), .int .u64 (old : Int)] 30))
  have HO : Hid (Only (Four p b q c) w (w.alloc (.cells #[.int .u8 (kind : Int), .int .i64 (i : Int), .int .u64 (v : Int), .int .u64 (old : Int)] 30))) := (Only.refl _ w).alloc _
  have HB : Hid (Boxed w.heap.size kind (i : Int) v old (w.alloc (.cells #[.int .u8 (kind : Int), .int .i64 (i : Int), .int .u64 (v : Int), .int .u64 (old : Int)] 30))) := heap_alloc_at w _
  have HBd : Hid (Boxed w.heap.size kind (i : Int) v old (w.alloc (.cells #[.int .u8 (kind : Int), .int .i64 (i : Int), .int .u64 (v : Int), .int .u64 (old : Int)] 30)).drew) := HB.out
  have hq : (kind : Int) % 4 = 2 := by omega
  have g : (3 : Int) < (kind : Int) % 8 := by omega
  clear h h4
  go_enter Try.func10, Try.ntmps10
  go_wp2_with fail
  go_quiet (fail)
  go_wp2_with fail
  go_quiet (fail)
  go_wp2_with fail
  refine (s_cas _ p b s (HA.out.drewN _).sa i hi x v hv).mono ?_
  rintro e w1 ⟨rfl, hs1, ho1⟩
  have hB1 := Boxed.kept (w := (w.alloc (.cells #[.int .u8 (kind : Int), .int .i64 (i : Int), .int .u64 (v : Int), .int .u64 (old : Int)] 30)).drewN _) HB.out ho1 (by omega)
  have d1 : w1.cell? ⟨w.heap.size, 1, none⟩ = some (.int .i64 (i : Int)) := cell_of_heap hB1
  have d2 : w1.cell? ⟨w.heap.size, 2, none⟩ = some (.int .u64 (v : Int)) := cell_of_heap hB1
  have K1 := hide ho1
  have K2 := hide hs1
  clear ho1 hs1 hB1
  go_wp2_with fail
  refine (r_cas _ q c s (both_kept (HA.out.drewN _) K1.out) i hi x v hv).mono ?_
  rintro e w2 ⟨rfl, hs2, ho2⟩
  go_wp2
  go_ret
  exact ⟨rfl, both_step (HA.out.drewN _) (HO.out.drewN _) K1.out K2.out ho2 hs2 (cas_len ..)⟩

set_option maxHeartbeats 400000 in
theorem do_cas_low (w : World) (p b q c : Nat) (s : St) (h : Both w p b q c s) (kind : Nat) (hk : kind < 256) (h4 : kind % 4 = 2) (t : Int) (ht : t < 0 ∨ (s.words.length : Int) ≤ t) (v old : Nat) (h0 : t < 0) :
    Calls Try.prog 10 #[.pointer (some ⟨p, 0, none⟩), .pointer (some ⟨q, 0, none⟩), .agg #[.int .u8 (kind : Int), .int .i64 t, .int .u64 (v : Int), .int .u64 (old : Int)]] w fun e w' => e = .returned (.bool true) ∧ BothPost w p b q c s.words.length w' := by
  have c0 : w.cell? ⟨q, 0, none⟩ = some (.slice (some ⟨c, 0, none⟩) s.words.length s.words.length) := cell_of_heap h.ra.head
  have hl := h.ra.len
  obtain ⟨hp, hb, hq', hc⟩ := lt_both h
  have HA := hide (h.alloc (.cells #[.int .u8 (kind : Int), .int .i64 t, .int .u64 (v : Int), .int .u64 (old : Int)] 30))
  have HO : Hid (Only (Four p b q c) w (w.alloc (.cells #[.int .u8 (kind : Int), .int .i64 t, .int .u64 (v : Int), .int .u64 (old : Int)] 30))) := (Only.refl _ w).alloc _
  have HB : Hid (Boxed w.heap.size kind t v old (w.alloc (.cells #[.int .u8 (kind : Int), .int .i64 t, .int .u64 (v : Int), .int .u64 (old : Int)] 30))) := heap_alloc_at w _
  have HBd : Hid (Boxed w.heap.size kind t v old (w.alloc (.cells #[.int .u8 (kind : Int), .int .i64 t, .int .u64 (v : Int), .int .u64 (old : Int)] 30)).drew) := HB.out
  have hq : (kind : Int) % 4 = 2 := by omega
  have g : decide ((0 : Int) ≤ t) = false := by simp; omega
  clear h h4
  go_enter Try.func10, Try.ntmps10
  go_wp2_with fail
  go_quiet (fail)
  go_wp2_with fail
  refine (s_cas_out _ p b s (HA.out.drewN _).sa t ht _ _).mono ?_
  rintro e w1 ⟨rfl, rfl⟩
  go_wp2_with fail
  refine (r_cas_out _ q c s (HA.out.drewN _).ra t ht _ _).mono ?_
  rintro e w2 ⟨rfl, rfl⟩
  go_wp2
  go_ret
  exact ⟨rfl, both_same (HA.out.drewN _) (HO.out.drewN _)⟩

set_option maxHeartbeats 400000 in
theorem do_cas_high (w : World) (p b q c : Nat) (s : St) (h : Both w p b q c s) (kind : Nat) (hk : kind < 256) (h4 : kind % 4 = 2) (t : Int) (ht : t < 0 ∨ (s.words.length : Int) ≤ t) (v old : Nat) (h0 : 0 ≤ t) :
    Calls Try.prog 10 #[.pointer (some ⟨p, 0, none⟩), .pointer (some ⟨q, 0, none⟩), .agg #[.int .u8 (kind : Int), .int .i64 t, .int .u64 (v : Int), .int .u64 (old : Int)]] w fun e w' => e = .returned (.bool true) ∧ BothPost w p b q c s.words.length w' := by
  have c0 : w.cell? ⟨q, 0, none⟩ = some (.slice (some ⟨c, 0, none⟩) s.words.length s.words.length) := cell_of_heap h.ra.head
  have hl := h.ra.len
  obtain ⟨hp, hb, hq', hc⟩ := lt_both h
  have HA := hide (h.alloc (.cells #[.int .u8 (kind : Int), .int .i64 t, .int .u64 (v : Int), .int .u64 (old : Int)] 30))
  have HO : Hid (Only (Four p b q c) w (w.alloc (.cells #[.int .u8 (kind : Int), .int .i64 t, .int .u64 (v : Int), .int .u64 (old : Int)] 30))) := (Only.refl _ w).alloc _
  have HB : Hid (Boxed w.heap.size kind t v old (w.alloc (.cells #[.int .u8 (kind : Int), .int .i64 t, .int .u64 (v : Int), .int .u64 (old : Int)] 30))) := heap_alloc_at w _
  have HBd : Hid (Boxed w.heap.size kind t v old (w.alloc (.cells #[.int .u8 (kind : Int), .int .i64 t, .int .u64 (v : Int), .int .u64 (old : Int)] 30)).drew) := HB.out
  have hq : (kind : Int) % 4 = 2 := by omega
  have g : decide (t < (s.words.length : Int)) = false := by simp; omega
  clear h h4
  go_enter Try.func10, Try.ntmps10
  go_wp2_with fail
  go_quiet (fail)
  go_wp2_with fail
  refine (s_cas_out _ p b s (HA.out.drewN _).sa t ht _ _).mono ?_
  rintro e w1 ⟨rfl, rfl⟩
  go_wp2_with fail
  refine (r_cas_out _ q c s (HA.out.drewN _).ra t ht _ _).mono ?_
  rintro e w2 ⟨rfl, rfl⟩
  go_wp2
  go_ret
  exact ⟨rfl, both_same (HA.out.drewN _) (HO.out.drewN _)⟩

theorem do_any (w : World) (p b q c : Nat) (s : St) (h : Both w p b q c s) (kind : Nat) (hk : kind < 256) (t : Int) (v old : Nat) (hv : v < 18446744073709551616) :
    Calls Try.prog 10 #[.pointer (some ⟨p, 0, none⟩), .pointer (some ⟨q, 0, none⟩), .agg #[.int .u8 (kind : Int), .int .i64 t, .int .u64 (v : Int), .int .u64 (old : Int)]] w fun e w' => e = .returned (.bool true) ∧ BothPost w p b q c s.words.length w' := by
  by_cases ht : t < 0 ∨ (s.words.length : Int) ≤ t
  · rcases (by omega : kind % 4 = 0 ∨ kind % 4 = 1 ∨ kind % 4 = 2 ∨ kind % 4 = 3) with h4 | h4 | h4 | h4
    · exact do_load_out w p b q c s h kind hk h4 t ht v old
    · exact do_put_out w p b q c s h kind hk h4 t ht v old
    · by_cases h0 : t < 0
      · exact do_cas_low w p b q c s h kind hk h4 t ht v old h0
      · exact do_cas_high w p b q c s h kind hk h4 t ht v old (by omega)
    · exact do_add_out w p b q c s h kind hk h4 t ht v old
  · obtain ⟨i, rfl⟩ : ∃ i : Nat, t = (i : Int) := ⟨t.toNat, by omega⟩
    have hi : i < s.words.length := by omega
    rcases (by omega : kind % 4 = 0 ∨ kind % 4 = 1 ∨ kind % 4 = 2 ∨ kind % 4 = 3) with h4 | h4 | h4 | h4
    · exact do_load w p b q c s h kind hk h4 i hi v old
    · exact do_put w p b q c s h kind hk h4 i hi v old hv
    · by_cases h8 : kind % 8 ≤ 3
      · exact do_cas_old w p b q c s h kind hk h4 h8 i hi v old hv
      · exact do_cas_now w p b q c s h kind hk h4 (by omega) i hi v old hv
    · exact do_add w p b q c s h kind hk h4 i hi v old

end Go.Proofs.Ytlanfpefifegpaa
