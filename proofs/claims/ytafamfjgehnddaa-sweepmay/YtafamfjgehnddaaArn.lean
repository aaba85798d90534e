/- Package arena: the arena in memory, its calls. -/
import Derived.Test.YtafamfjgehnddaaLayFns
import Derived.Test.YtafamfjgehnddaaStoreMade
import Derived.Test.YtafamfjgehnddaaRunOwn
namespace Go.Proofs.Ytafamfjgehnddaa
open Go.RowKit

theorem StoreAt.copy {T : TypeId} {w : World} {p b : Nat} {s : St} (h : StoreAt T w p b s) :
    StoreAt T (w.alloc (.cells #[.slice (some ⟨b, 0, none⟩) s.words.length s.words.length, .int .i64 s.kind, .int .i64 s.place, .int .u64 s.old, .int .u64 s.new, .int .i64 s.count] T)) w.heap.size b s :=
  ⟨heap_alloc_at _ _, heap_alloc_old h.row, by have := lt_of_heap h.row; omega, h.len, h.bd⟩

/-- A store of n words, all 0 but the first. -/
def St.first (n : Nat) : St := ⟨(List.replicate n 0).set 0 1, 0, 0, 0, 0, 0⟩

theorem Lay.words_nat {P T : Int} (hm : Lay.may P T = true) : ∃ n : Nat, Lay.words P T = (n : Int) ∧ 1 ≤ n ∧ n ≤ 65536 := by
  obtain ⟨m1, m2, m3, m4⟩ := Lay.may_iff.1 hm
  obtain ⟨n1, n2, _⟩ := Lay.maps_bd m1 m2
  refine ⟨(Lay.words P T).toNat, ?_⟩
  unfold Lay.words Lay.total
  simp only [hm, if_true]
  omega

set_option maxHeartbeats 2000000 in
theorem words52 (P T : Int) (hm : Lay.may P T = true) (w : World) :
    Calls Try.prog 56 #[.agg #[.int .i64 P, .int .i64 T]] w fun e w' => ∃ p b, e = .returned (.pointer (some ⟨p, 0, none⟩)) ∧ StoreAt 104 w' p b (St.first (Lay.words P T).toNat) ∧ w.heap.size ≤ p ∧ w.heap.size ≤ b ∧ Below w.heap.size w w' := by
  obtain ⟨n, hn, n1, n2⟩   := Lay.words_nat hm
  have M := hide (fun w => lwords P T w)
  rw [hn] at M ⊢
  clear hn hm
  go_enter Try.func56, Try.ntmps56
  have B0 := LBox.new w P T 26
  have b0 := B0.c0
  have b1 := B0.c1
  go_wp2_with fail
  refine (M.out _).mono ?_
  rintro e w1 ⟨rfl, hb⟩
  have B1 := LBox.grow (by assumption) hb
  go_wp2_with fail
  refine (new_in _ n n1 n2).mono ?_
  rintro e w2 ⟨p, b, rfl, hS, hp, hb1, hb2⟩
  have B2 := B1.below.trans (hb2.mono B1.below.size)
  have c0 : w2.cell? ⟨p, 0, none⟩ = _ := cell_of_heap hS.head
  have c1 : w2.cell? ⟨p, 1, none⟩ = _ := cell_of_heap hS.head
  have c2 : w2.cell? ⟨p, 2, none⟩ = _ := cell_of_heap hS.head
  have c3 : w2.cell? ⟨p, 3, none⟩ = _ := cell_of_heap hS.head
  have c4 : w2.cell? ⟨p, 4, none⟩ = _ := cell_of_heap hS.head
  have c5 : w2.cell? ⟨p, 5, none⟩ = _ := cell_of_heap hS.head
  simp [St.zero] at c0 c1 c2 c3 c4 c5
  have HS := hide hS
  have HB2 := hide B2
  have p0 : w.heap.size ≤ p := Nat.le_trans B1.below.size hp
  have q0 : w.heap.size ≤ b := Nat.le_trans B1.below.size hb1
  clear hb hb2 B0 b0 b1 B2 hS B1 M hp hb1
  have HC := hide (HS.out.copy)
  have hpl : p < w2.heap.size := lt_of_heap HS.out.head
  have hbl : b < w2.heap.size := lt_of_heap HS.out.row
  have hrl : (List.replicate n 0).length = n := by simp
  unfold St.zero at HC
  simp only [hrl] at HC
  go_wp2_with fail
  refine (s_put _ _ b _ HC.out 0 (by simp; omega) 1 (by omega)).mono ?_
  rintro e w3 ⟨rfl, hS3, ho⟩
  have HS3 := hide hS3
  have HO := hide ho
  clear hS3 ho c0 c1 c2 c3 c4 c5
  go_wp2
  go_ret
  refine ⟨p, b, rfl, ⟨?_, ?_, HS.out.ne, ?_, ?_⟩, p0, q0, ?_⟩
  · rw [HO.out.block p (by simp; omega) (by rintro (e | e); omega; exact HS.out.ne e), Below.heap_alloc _ _ _ hpl, HS.out.head]
    simp [St.first, St.zero]
  · rw [HS3.out.row]; simp [St.first, St.put, St.access]
  · simpa [St.first] using n2
  · simp only [St.first]; exact set_lt _ (by intro x hx; rw [List.eq_of_mem_replicate hx]; omega) 0 1 (by omega)
  · refine (HB2.out.alloc (by have := HB2.out.size; omega) _).trans (HO.out.below (by have := HB2.out.size; simp; omega) (fun i hi => ?_))
    have := HB2.out.size
    rcases hi with rfl | rfl <;> omega
end Go.Proofs.Ytafamfjgehnddaa
