/- An access of both stores, the program's and the document's: they answer alike, and hold the same behind it. -/
import Derived.Test.YtlanfpefifegpaaStoreWord
import Derived.Test.YtlanfpefifegpaaPhase
namespace Go.Proofs.Ytlanfpefifegpaa
open Go.RowKit

/-- Both stores lie there, apart from each other, and hold the same. -/
structure Both (w : World) (p b q c : Nat) (s : St) : Prop where
  sa : StoreAt 53 w p b s
  ra : StoreAt 36 w q c s
  ne : p ≠ q ∧ p ≠ c ∧ b ≠ q ∧ b ≠ c

def Four (p b q c : Nat) (k : Nat) : Prop := k = p ∨ k = b ∨ k = q ∨ k = c

theorem StoreAt.alloc {T : TypeId} {w : World} {p b : Nat} {s : St} (h : StoreAt T w p b s) (o : Obj) : StoreAt T (w.alloc o) p b s :=
  ⟨heap_alloc_old h.head, heap_alloc_old h.row, h.ne, h.len, h.bd⟩
theorem StoreAt.drewN {T : TypeId} {w : World} {p b : Nat} {s : St} (h : StoreAt T w p b s) (n : Nat) : StoreAt T (w.drewN n) p b s := ⟨h.head, h.row, h.ne, h.len, h.bd⟩
theorem StoreAt.drew {T : TypeId} {w : World} {p b : Nat} {s : St} (h : StoreAt T w p b s) : StoreAt T w.drew p b s := ⟨h.head, h.row, h.ne, h.len, h.bd⟩
theorem Both.alloc {w : World} {p b q c : Nat} {s : St} (h : Both w p b q c s) (o : Obj) : Both (w.alloc o) p b q c s := ⟨h.sa.alloc o, h.ra.alloc o, h.ne⟩
theorem Both.drewN {w : World} {p b q c : Nat} {s : St} (h : Both w p b q c s) (n : Nat) : Both (w.drewN n) p b q c s := ⟨h.sa.drewN n, h.ra.drewN n, h.ne⟩
theorem Both.drew {w : World} {p b q c : Nat} {s : St} (h : Both w p b q c s) : Both w.drew p b q c s := ⟨h.sa.drew, h.ra.drew, h.ne⟩
theorem Only.drewN {S : Nat → Prop} {a w : World} (h : Only S a w) (n : Nat) : Only S a (w.drewN n) := ⟨h.os, h.tape, h.output, h.size, h.block⟩

/-- What becomes of both. -/
def BothPost (w : World) (p b q c n : Nat) (w' : World) : Prop := ∃ s, Both w' p b q c s ∧ s.words.length = n ∧ Only (Four p b q c) w w'

theorem both_same {w wA : World} {p b q c : Nat} {s : St} (hA : Both wA p b q c s) (ho : Only (Four p b q c) w wA) : BothPost w p b q c s.words.length wA := ⟨s, hA, rfl, ho⟩

/-- The program's store first, then the document's. -/
theorem both_kept {wA w1 : World} {p b q c : Nat} {s : St} (hA : Both wA p b q c s) (h1 : Only (fun k => k = p ∨ k = b) wA w1) : StoreAt 36 w1 q c s :=
  hA.ra.kept h1 (by have := hA.ne; omega) (by have := hA.ne; omega)

theorem both_step {w wA w1 w2 : World} {p b q c n : Nat} {s s' : St} (hA : Both wA p b q c s) (ho : Only (Four p b q c) w wA) (h1 : Only (fun k => k = p ∨ k = b) wA w1) (hs : StoreAt 53 w1 p b s') (h2 : Only (fun k => k = q ∨ k = c) w1 w2) (hr : StoreAt 36 w2 q c s')
    (hn : s'.words.length = n) : BothPost w p b q c n w2 := by
  refine ⟨s', ⟨hs.kept h2 (by have := hA.ne; omega) (by have := hA.ne; omega), hr, hA.ne⟩, hn, (ho.trans (h1.mono fun k _ hk => ?_)).trans (h2.mono fun k _ hk => ?_)⟩
  · rcases hk with rfl | rfl
    · exact .inl rfl
    · exact .inr (.inl rfl)
  · rcases hk with rfl | rfl
    · exact .inr (.inr (.inl rfl))
    · exact .inr (.inr (.inr rfl))

/-- An access, boxed in block g. -/
def Boxed (g : Nat) (kind i v old : Int) (w : World) : Prop := w.heap[g]? = some (.cells #[.int .u8 kind, .int .i64 i, .int .u64 v, .int .u64 old] 30 (0, 0))

theorem Boxed.kept {g : Nat} {kind i v old : Int} {w w' : World} {S : Nat → Prop} (h : Boxed g kind i v old w) (ho : Only S w w') (hS : ¬ S g) : Boxed g kind i v old w' := (ho.block _ (lt_of_heap h) hS).trans h

theorem cas_len (s : St) (i o n : Nat) : (s.cas i o n).words.length = s.words.length := by unfold St.cas; split <;> exact access_len ..

theorem lt_both {w : World} {p b q c : Nat} {s : St} (h : Both w p b q c s) : p < w.heap.size ∧ b < w.heap.size ∧ q < w.heap.size ∧ c < w.heap.size := ⟨lt_of_heap h.sa.head, lt_of_heap h.sa.row, lt_of_heap h.ra.head, lt_of_heap h.ra.row⟩

set_option maxHeartbeats 400000 in
theorem do_load (w : World) (p b q c : Nat) (s : St) (h : Both w p b q c s) (kind : Nat) (hk : kind < 256) (h4 : kind % 4 = 0) (i : Nat) (hi : i < s.words.length) (v old : Nat) :
    Calls Try.prog 10 #[.pointer (some ⟨p, 0, none⟩), .pointer (some ⟨q, 0, none⟩), .agg #[.int .u8 (kind : Int), .int .i64 (i : Int), .int .u64 (v : Int), .int .u64 (old : Int)]] w fun e w' => e = .returned (.bool true) ∧ BothPost w p b q c s.words.length w' := by
  obtain ⟨hp, hb, hq', hc⟩ := lt_both h
  have HA := hide (h.alloc (.cells #[.int .u8 (kind : Int), .int .i64 (i : Int), .int .u64 (v : Int), .int .u64 (old : Int)] 30))
  have HO : Hid (Only (Four p b q c) w (w.alloc (.cells #[.int .u8 (kind : Int), .int .i64 (i : Int), .int .u64 (v : Int), .int .u64 (old : Int)] 30))) := (Only.refl _ w).alloc _
  have HB : Hid (Boxed w.heap.size kind (i : Int) v old (w.alloc (.cells #[.int .u8 (kind : Int), .int .i64 (i : Int), .int .u64 (v : Int), .int .u64 (old : Int)] 30))) := heap_alloc_at w _
  have HBd : Hid (Boxed w.heap.size kind (i : Int) v old (w.alloc (.cells #[.int .u8 (kind : Int), .int .i64 (i : Int), .int .u64 (v : Int), .int .u64 (old : Int)] 30)).drew) := HB.out
  have hq : (kind : Int) % 4 = 0 := by omega
  clear h
  go_enter Try.func10, Try.ntmps10
  go_wp2_with fail
  refine (s_load _ p b s HA.out.sa i hi).mono ?_
  rintro e w1 ⟨rfl, hs1, ho1⟩
  have hB1 := HB.out.kept ho1 (by omega)
  have d1 : w1.cell? ⟨w.heap.size, 1, none⟩ = some (.int .i64 (i : Int)) := cell_of_heap hB1
  have d2 : w1.cell? ⟨w.heap.size, 2, none⟩ = some (.int .u64 (v : Int)) := cell_of_heap hB1
  have K1 := hide ho1
  have K2 := hide hs1
  clear ho1 hs1 hB1
  go_wp2_with fail
  refine (r_load _ q c s (both_kept HA.out K1.out) i hi).mono ?_
  rintro e w2 ⟨rfl, hs2, ho2⟩
  go_wp2
  go_ret
  exact ⟨rfl, both_step HA.out HO.out K1.out K2.out ho2 hs2 (access_len ..)⟩

set_option maxHeartbeats 400000 in
theorem do_add (w : World) (p b q c : Nat) (s : St) (h : Both w p b q c s) (kind : Nat) (hk : kind < 256) (h4 : kind % 4 = 3) (i : Nat) (hi : i < s.words.length) (v old : Nat) :
    Calls Try.prog 10 #[.pointer (some ⟨p, 0, none⟩), .pointer (some ⟨q, 0, none⟩), .agg #[.int .u8 (kind : Int), .int .i64 (i : Int), .int .u64 (v : Int), .int .u64 (old : Int)]] w fun e w' => e = .returned (.bool true) ∧ BothPost w p b q c s.words.length w' := by
  obtain ⟨hp, hb, hq', hc⟩ := lt_both h
  have HA := hide (h.alloc (.cells #[.int .u8 (kind : Int), .int .i64 (i : Int), .int .u64 (v : Int), .int .u64 (old : Int)] 30))
  have HO : Hid (Only (Four p b q c) w (w.alloc (.cells #[.int .u8 (kind : Int), .int .i64 (i : Int), .int .u64 (v : Int), .int .u64 (old : Int)] 30))) := (Only.refl _ w).alloc _
  have HB : Hid (Boxed w.heap.size kind (i : Int) v old (w.alloc (.cells #[.int .u8 (kind : Int), .int .i64 (i : Int), .int .u64 (v : Int), .int .u64 (old : Int)] 30))) := heap_alloc_at w _
  have HBd : Hid (Boxed w.heap.size kind (i : Int) v old (w.alloc (.cells #[.int .u8 (kind : Int), .int .i64 (i : Int), .int .u64 (v : Int), .int .u64 (old : Int)] 30)).drew) := HB.out
  have hq : (kind : Int) % 4 = 3 := by omega
  clear h
  go_enter Try.func10, Try.ntmps10
  go_wp2_with fail
  refine (s_add _ p b s HA.out.sa i hi v).mono ?_
  rintro e w1 ⟨rfl, hs1, ho1⟩
  have hB1 := HB.out.kept ho1 (by omega)
  have d1 : w1.cell? ⟨w.heap.size, 1, none⟩ = some (.int .i64 (i : Int)) := cell_of_heap hB1
  have d2 : w1.cell? ⟨w.heap.size, 2, none⟩ = some (.int .u64 (v : Int)) := cell_of_heap hB1
  have K1 := hide ho1
  have K2 := hide hs1
  clear ho1 hs1 hB1
  go_wp2_with fail
  refine (r_add _ q c s (both_kept HA.out K1.out) i hi v).mono ?_
  rintro e w2 ⟨rfl, hs2, ho2⟩
  go_wp2
  go_ret
  exact ⟨rfl, both_step HA.out HO.out K1.out K2.out ho2 hs2 (access_len ..)⟩

set_option maxHeartbeats 400000 in
theorem do_load_out (w : World) (p b q c : Nat) (s : St) (h : Both w p b q c s) (kind : Nat) (hk : kind < 256) (h4 : kind % 4 = 0) (t : Int) (ht : t < 0 ∨ (s.words.length : Int) ≤ t) (v old : Nat) :
    Calls Try.prog 10 #[.pointer (some ⟨p, 0, none⟩), .pointer (some ⟨q, 0, none⟩), .agg #[.int .u8 (kind : Int), .int .i64 t, .int .u64 (v : Int), .int .u64 (old : Int)]] w fun e w' => e = .returned (.bool true) ∧ BothPost w p b q c s.words.length w' := by
  obtain ⟨hp, hb, hq', hc⟩ := lt_both h
  have HA := hide (h.alloc (.cells #[.int .u8 (kind : Int), .int .i64 t, .int .u64 (v : Int), .int .u64 (old : Int)] 30))
  have HO : Hid (Only (Four p b q c) w (w.alloc (.cells #[.int .u8 (kind : Int), .int .i64 t, .int .u64 (v : Int), .int .u64 (old : Int)] 30))) := (Only.refl _ w).alloc _
  have HB : Hid (Boxed w.heap.size kind t v old (w.alloc (.cells #[.int .u8 (kind : Int), .int .i64 t, .int .u64 (v : Int), .int .u64 (old : Int)] 30))) := heap_alloc_at w _
  have HBd : Hid (Boxed w.heap.size kind t v old (w.alloc (.cells #[.int .u8 (kind : Int), .int .i64 t, .int .u64 (v : Int), .int .u64 (old : Int)] 30)).drew) := HB.out
  have hq : (kind : Int) % 4 = 0 := by omega
  clear h
  go_enter Try.func10, Try.ntmps10
  go_wp2_with fail
  refine (s_load_out _ p b s HA.out.sa t ht).mono ?_
  rintro e w1 ⟨rfl, rfl⟩
  go_wp2_with fail
  refine (r_load_out _ q c s HA.out.ra t ht).mono ?_
  rintro e w2 ⟨rfl, rfl⟩
  go_wp2
  go_ret
  exact ⟨rfl, both_same HA.out HO.out⟩

set_option maxHeartbeats 400000 in
theorem do_add_out (w : World) (p b q c : Nat) (s : St) (h : Both w p b q c s) (kind : Nat) (hk : kind < 256) (h4 : kind % 4 = 3) (t : Int) (ht : t < 0 ∨ (s.words.length : Int) ≤ t) (v old : Nat) :
    Calls Try.prog 10 #[.pointer (some ⟨p, 0, none⟩), .pointer (some ⟨q, 0, none⟩), .agg #[.int .u8 (kind : Int), .int .i64 t, .int .u64 (v : Int), .int .u64 (old : Int)]] w fun e w' => e = .returned (.bool true) ∧ BothPost w p b q c s.words.length w' := by
  obtain ⟨hp, hb, hq', hc⟩ := lt_both h
  have HA := hide (h.alloc (.cells #[.int .u8 (kind : Int), .int .i64 t, .int .u64 (v : Int), .int .u64 (old : Int)] 30))
  have HO : Hid (Only (Four p b q c) w (w.alloc (.cells #[.int .u8 (kind : Int), .int .i64 t, .int .u64 (v : Int), .int .u64 (old : Int)] 30))) := (Only.refl _ w).alloc _
  have HB : Hid (Boxed w.heap.size kind t v old (w.alloc (.cells #[.int .u8 (kind : Int), .int .i64 t, .int .u64 (v : Int), .int .u64 (old : Int)] 30))) := heap_alloc_at w _
  have HBd : Hid (Boxed w.heap.size kind t v old (w.alloc (.cells #[.int .u8 (kind : Int), .int .i64 t, .int .u64 (v : Int), .int .u64 (old : Int)] 30)).drew) := HB.out
  have hq : (kind : Int) % 4 = 3 := by omega
  clear h
  go_enter Try.func10, Try.ntmps10
  go_wp2_with fail
  refine (s_add_out _ p b s HA.out.sa t ht _).mono ?_
  rintro e w1 ⟨rfl, rfl⟩
  go_wp2_with fail
  refine (r_add_out _ q c s HA.out.ra t ht _).mono ?_
  rintro e w2 ⟨rfl, rfl⟩
  go_wp2
  go_ret
  exact ⟨rfl, both_same HA.out HO.out⟩

set_option maxHeartbeats 400000 in
theorem do_put (w : World) (p b q c : Nat) (s : St) (h : Both w p b q c s) (kind : Nat) (hk : kind < 256) (h4 : kind % 4 = 1) (i : Nat) (hi : i < s.words.length) (v old : Nat) (hv : v < 18446744073709551616) :
    Calls Try.prog 10 #[.pointer (some ⟨p, 0, none⟩), .pointer (some ⟨q, 0, none⟩), .agg #[.int .u8 (kind : Int), .int .i64 (i : Int), .int .u64 (v : Int), .int .u64 (old : Int)]] w fun e w' => e = .returned (.bool true) ∧ BothPost w p b q c s.words.length w' := by
  obtain ⟨hp, hb, hq', hc⟩ := lt_both h
  have HA := hide (h.alloc (.cells #[.int .u8 (kind : Int), .int .i64 (i : Int), .int .u64 (v : Int), .int .u64 (old : Int)] 30))
  have HO : Hid (Only (Four p b q c) w (w.alloc (.cells #[.int .u8 (kind : Int), .int .i64 (i : Int), .int .u64 (v : Int), .int .u64 (old : Int)] 30))) := (Only.refl _ w).alloc _
  have HB : Hid (Boxed w.heap.size kind (i : Int) v old (w.alloc (.cells #[.int .u8 (kind : Int), .int .i64 (i : Int), .int .u64 (v : Int), .int .u64 (old : Int)] 30))) := heap_alloc_at w _
  have HBd : Hid (Boxed w.heap.size kind (i : Int) v old (w.alloc (.cells #[.int .u8 (kind : Int), .int .i64 (i : Int), .int .u64 (v : Int), .int .u64 (old : Int)] 30)).drew) := HB.out
  have hq : (kind : Int) % 4 = 1 := by omega
  clear h
  have d1 : ∀ u : Mem (Boxed w.heap.size kind (i : Int) v old), u.w'.cell? ⟨w.heap.size, 1, none⟩ = some (.int .i64 (i : Int)) := fun u => cell_of_heap u.h
  have d2 : ∀ u : Mem (Boxed w.heap.size kind (i : Int) v old), u.w'.cell? ⟨w.heap.size, 2, none⟩ = some (.int .u64 (v : Int)) := fun u => cell_of_heap u.h
  have hne : Nonempty (Mem (Boxed w.heap.size kind (i : Int) v old)) := ⟨⟨_, HB.out⟩⟩
  go_enter Try.func10, Try.ntmps10
  go_wp2
  clear h4 hq hk
  refine region_start (J := Boxed w.heap.size kind (i : Int) v old) (by kernel_rfl) ?_
  refine stretch (fuel := 4) (by kernel_rfl) (fun _ _ _ _ _ h => h) HBd.out [0, 1, 2, 3, 4, 6, 7, 8, 9, 10] (by kernel_rfl) ?_
  simp only [List.filterMap_cons, List.filterMap_nil, List.getElem?_toArray, List.getElem?_cons_zero, List.getElem?_cons_succ]
  show wpQuiet _ _ _ _ [_, _, _, _, _, _, _, _, _, _] _
  repeat (go_big_quiet_step (fail))
  refine wpQuiet_nil ?_
  refine wpAnyJ_writer (i := 5) rfl (by kernel_rfl) (fun K hK => ?_)
  go_simp
  refine (s_put _ p b s HA.out.drew.sa i hi v hv).mono ?_
  rintro e w1 ⟨rfl, hs1, ho1⟩
  have hB1 := hide (Boxed.kept (w := (w.alloc (.cells #[.int .u8 (kind : Int), .int .i64 (i : Int), .int .u64 (v : Int), .int .u64 (old : Int)] 30)).drew) HB.out ho1 (by omega))
  refine hK _ _ hB1.out ?_
  clear hK K
  refine wpAnyJ_writer (i := 11) rfl (by kernel_rfl) (fun K hK => ?_)
  go_simp
  refine (r_put _ q c s (both_kept HA.out.drew ho1) i hi v hv).mono ?_
  rintro e w2 ⟨rfl, hs2, ho2⟩
  have hB2 := hide (hB1.out.kept ho2 (by omega))
  refine hK _ _ hB2.out ?_
  clear hK K
  refine stretch (fuel := 0) (by kernel_rfl) (fun _ _ _ _ _ h => h) hB2.out [12, 13] (by kernel_rfl) ?_
  simp only [List.filterMap_cons, List.filterMap_nil, List.getElem?_toArray, List.getElem?_cons_zero, List.getElem?_cons_succ]
  show wpQuiet _ _ _ _ [_, _] _
  repeat (go_big_quiet_step (fail))
  refine wpQuiet_nil ?_
  refine wpAnyJ_done (by kernel_rfl) ?_
  go_wp2
  go_ret
  exact ⟨rfl, both_step HA.out.drew HO.out.drew ho1 hs1 ho2 hs2 (access_len ..)⟩

set_option maxHeartbeats 400000 in
theorem do_put_out (w : World) (p b q c : Nat) (s : St) (h : Both w p b q c s) (kind : Nat) (hk : kind < 256) (h4 : kind % 4 = 1) (t : Int) (ht : t < 0 ∨ (s.words.length : Int) ≤ t) (v old : Nat) :
    Calls Try.prog 10 #[.pointer (some ⟨p, 0, none⟩), .pointer (some ⟨q, 0, none⟩), .agg #[.int .u8 (kind : Int), .int .i64 t, .int .u64 (v : Int), .int .u64 (old : Int)]] w fun e w' => e = .returned (.bool true) ∧ BothPost w p b q c s.words.length w' := by
  obtain ⟨hp, hb, hq', hc⟩ := lt_both h
  have HA := hide (h.alloc (.cells #[.int .u8 (kind : Int), .int .i64 t, .int .u64 (v : Int), .int .u64 (old : Int)] 30))
  have HO : Hid (Only (Four p b q c) w (w.alloc (.cells #[.int .u8 (kind : Int), .int .i64 t, .int .u64 (v : Int), .int .u64 (old : Int)] 30))) := (Only.refl _ w).alloc _
  have HB : Hid (Boxed w.heap.size kind t v old (w.alloc (.cells #[.int .u8 (kind : Int), .int .i64 t, .int .u64 (v : Int), .int .u64 (old : Int)] 30))) := heap_alloc_at w _
  have HBd : Hid (Boxed w.heap.size kind t v old (w.alloc (.cells #[.int .u8 (kind : Int), .int .i64 t, .int .u64 (v : Int), .int .u64 (old : Int)] 30)).drew) := HB.out
  have hq : (kind : Int) % 4 = 1 := by omega
  clear h
  have d1 : ∀ u : Mem (Boxed w.heap.size kind t v old), u.w'.cell? ⟨w.heap.size, 1, none⟩ = some (.int .i64 t) := fun u => cell_of_heap u.h
  have d2 : ∀ u : Mem (Boxed w.heap.size kind t v old), u.w'.cell? ⟨w.heap.size, 2, none⟩ = some (.int .u64 (v : Int)) := fun u => cell_of_heap u.h
  have hne : Nonempty (Mem (Boxed w.heap.size kind t v old)) := ⟨⟨_, HB.out⟩⟩
  go_enter Try.func10, Try.ntmps10
  go_wp2
  clear h4 hq hk
  refine region_start (J := Boxed w.heap.size kind t v old) (by kernel_rfl) ?_
  refine stretch (fuel := 4) (by kernel_rfl) (fun _ _ _ _ _ h => h) HBd.out [0, 1, 2, 3, 4, 6, 7, 8, 9, 10] (by kernel_rfl) ?_
  simp only [List.filterMap_cons, List.filterMap_nil, List.getElem?_toArray, List.getElem?_cons_zero, List.getElem?_cons_succ]
  show wpQuiet _ _ _ _ [_, _, _, _, _, _, _, _, _, _] _
  repeat (go_big_quiet_step (fail))
  refine wpQuiet_nil ?_
  refine wpAnyJ_writer (i := 5) rfl (by kernel_rfl) (fun K hK => ?_)
  go_simp
  refine (s_put_out _ p b s HA.out.drew.sa t ht _).mono ?_
  rintro e w1 ⟨rfl, rfl⟩
  have hB1 : Hid (Boxed w.heap.size kind t v old (w.alloc (.cells #[.int .u8 (kind : Int), .int .i64 t, .int .u64 (v : Int), .int .u64 (old : Int)] 30)).drew) := HB.out
  refine hK _ _ hB1.out ?_
  clear hK K
  refine wpAnyJ_writer (i := 11) rfl (by kernel_rfl) (fun K hK => ?_)
  go_simp
  refine (r_put_out _ q c s HA.out.drew.ra t ht _).mono ?_
  rintro e w2 ⟨rfl, rfl⟩
  have hB2 := hB1
  refine hK _ _ hB2.out ?_
  clear hK K
  refine stretch (fuel := 0) (by kernel_rfl) (fun _ _ _ _ _ h => h) hB2.out [12, 13] (by kernel_rfl) ?_
  simp only [List.filterMap_cons, List.filterMap_nil, List.getElem?_toArray, List.getElem?_cons_zero, List.getElem?_cons_succ]
  show wpQuiet _ _ _ _ [_, _] _
  repeat (go_big_quiet_step (fail))
  refine wpQuiet_nil ?_
  refine wpAnyJ_done (by kernel_rfl) ?_
  go_wp2
  go_ret
  exact ⟨rfl, both_same HA.out.drew HO.out.drew⟩

end Go.Proofs.Ytlanfpefifegpaa
