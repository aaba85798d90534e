/- The document's layouts: May, maps, Words. Words that are held against each other. The document's arena. The document's machine in memory: what it is made of, what was told, what came of it; told, now, tell. The document's machine: tell; load, put, cas: told, done now, or not. The document's machine: load, put, cas, add: told ahead of now, not to be done now, done now (printed by gen/docacc.py). What a step of the document's machine leaves. The document's machine: fresh, idle, body, Step, of a pop and of a push. The document's machine: take and leave, by what was told of the attempts. A take's step, a leave's, of the document's machine. The document's New: a machine that has not begun. A list of numbers of 8 bits that came in, opened (any seat). What laws play with: setups by numbers, who is picked. Both runs, held against each other: same. Both arenas of a setup without draws; both held against each other. Takes and leaves of both sides, in rows: what lies in memory while threads play with the lock. -/
import Derived.Test.YtgenkjmcddjaoaaGreatLayFns
import Derived.Test.YtgenkjmcddjaoaaGreatOver
import Derived.Test.YtgenkjmcddjaoaaGreatStoreMade
import Derived.Test.YtgenkjmcddjaoaaGreatArnNew
import Derived.Test.YtgenkjmcddjaoaaGreatXS
import Derived.Test.YtgenkjmcddjaoaaGreatBo
import Derived.RangeFuncBox
import Derived.Maps.AppendAt
import Derived.Deep.CutRange
import Derived.Deep.CutBlock
import Derived.Test.YtgenkjmcddjaoaaGreatBase
import Derived.Test.YtgenkjmcddjaoaaGreatHeap
import Derived.Deep.Slices
import Derived.ChangeSame
import Derived.Carry
import Derived.Test.YtgenkjmcddjaoaaGreatLayCalls
import Derived.Test.YtgenkjmcddjaoaaGreatSepAc
import Derived.Test.YtgenkjmcddjaoaaGreatLK
import Derived.Deep.WholeRow
namespace Go.Proofs.YtgenkjmcddjaoaaGreat
open Go.RowKit

theorem rlmay (P T : Int) (w : World) :
    Calls Tryz.prog 69 #[.agg #[.int .i64 P, .int .i64 T]] w fun e w' => e = .returned (.bool (Lay.may P T)) ∧ Below w.heap.size w w' := by
  unfold Lay.may
  by_cases h0 : 1 ≤ P
  rotate_left
  · rw [decide_eq_false h0]
    have d0 := decide_eq_false h0
    go_enter Tryz.func69, Tryz.ntmps69
    go_wp2
    go_ret
    exact ⟨rfl, grown1 _ _⟩
  by_cases h1 : P ≤ 4096
  rotate_left
  · rw [decide_eq_true h0, decide_eq_false h1]
    have d1 := decide_eq_false h1
    go_enter Tryz.func69, Tryz.ntmps69
    go_wp2
    go_ret
    exact ⟨rfl, grown1 _ _⟩
  by_cases h2 : 1 ≤ T
  rotate_left
  · rw [decide_eq_true h0, decide_eq_true h1, decide_eq_false h2]
    have d2 := decide_eq_false h2
    go_enter Tryz.func69, Tryz.ntmps69
    go_wp2
    go_ret
    exact ⟨rfl, grown1 _ _⟩
  by_cases h3 : T ≤ 64
  rotate_left
  · rw [decide_eq_true h0, decide_eq_true h1, decide_eq_true h2, decide_eq_false h3]
    have d3 := decide_eq_false h3
    go_enter Tryz.func69, Tryz.ntmps69
    go_wp2
    go_ret
    exact ⟨rfl, grown1 _ _⟩
  rw [decide_eq_true h0, decide_eq_true h1, decide_eq_true h2, decide_eq_true h3]
  go_enter Tryz.func69, Tryz.ntmps69
  go_wp2
  go_ret
  exact ⟨rfl, grown1 _ _⟩

theorem rlmaps (P T : Int) (h1 : 1 ≤ P) (h2 : P ≤ 4096) (w : World) :
    Calls Tryz.prog 68 #[.agg #[.int .i64 P, .int .i64 T]] w fun e w' => e = .returned (.int .i64 (Lay.maps P)) ∧ Below w.heap.size w w' := by
  unfold Lay.maps
  go_enter Tryz.func68, Tryz.ntmps68
  go_wp2
  go_ret
  exact ⟨ret_int (by first | rfl | omega), grown1 _ _⟩

set_option maxHeartbeats 2000000 in
theorem rlwords (P T : Int) (w : World) :
    Calls Tryz.prog 67 #[.agg #[.int .i64 P, .int .i64 T]] w fun e w' => e = .returned (.int .i64 (Lay.words P T)) ∧ Below w.heap.size w w' := by
  have M := hide (fun w => rlmay P T w)
  cases hm : Lay.may P T
  · rw [hm] at M
    rw [Lay.words_out hm]
    clear hm
    go_enter Tryz.func67, Tryz.ntmps67
    have B0 := LBox.new w P T 59
    go_wp2_with (first | (go_at_call 69; refine (M.out _).mono ?_; rintro e w1 ⟨rfl, hb⟩; have B1 := LBox.grow (by assumption) hb; have b0 := B1.c0; have b1 := B1.c1))
    go_ret
    exact ⟨rfl, B1.below⟩
  · obtain ⟨p1, p2, h1, h2⟩ := Lay.may_iff.1 hm
    rw [hm] at M
    rw [Lay.words_in hm]
    clear hm
    have D := hide (fun w => rlmaps P T p1 p2 w)
    have mM : 0 ≤ Lay.maps P ∧ Lay.maps P ≤ 100000 := by unfold Lay.maps; omega
    obtain ⟨mM1, mM2⟩ := mM
    unfold Lay.total
    generalize Lay.maps P = N at *
    go_enter Tryz.func67, Tryz.ntmps67
    have B0 := LBox.new w P T 59
    go_wp2_with (first | (go_at_call 69; refine (M.out _).mono ?_; rintro e w1 ⟨rfl, hb⟩; have B1 := LBox.grow (by assumption) hb; have b0 := B1.c0; have b1 := B1.c1))
    have hne : Nonempty (Over w1) := ⟨⟨_, Below.refl _ _⟩⟩
    have c0 := fun u => over_cell B1.c0 u
    have c1 := fun u => over_cell B1.c1 u
    refine over_region (by kernel_rfl) (by kernel_rfl) ?_
    repeat (go_big_quiet_step ((go_at_call 68; exact over_call _ (D.out _))))
    refine wpQuiet_nil ?_
    rintro _ ⟨u, rfl⟩
    go_wp2
    go_ret
    exact ⟨ret_int (by first | rfl | omega), (B1.grow u.h).below⟩
end Go.Proofs.YtgenkjmcddjaoaaGreat

namespace Go.Proofs.YtgenkjmcddjaoaaGreat
open Go.RowKit

theorem same_words (w : World) (ga gb : Nat) (xs : List Nat) (ha : WordsAt w ga xs) (hb : WordsAt w gb xs) (hl : xs.length ≤ 65536) :
    Calls Tryz.prog 39 #[.slice (some ⟨ga, 0, none⟩) xs.length xs.length, .slice (some ⟨gb, 0, none⟩) xs.length xs.length] w fun e w' => e = .returned (.bool true) ∧ ∃ q, w' = w.drewN q := by
  go_enter Tryz.func39, Tryz.ntmps39
  go_wp2
  go_loopw [5] (fun i wr => ∃ k q : Nat, k ≤ xs.length ∧ i = .int .i64 k ∧ wr = w.drewN q) (fun i _ => xs.length - (intOf i).toNat)
  case atStart => exact ⟨0, 0, by omega, rfl, rfl⟩
  case round =>
    obtain ⟨k, q, hk, rfl, rfl⟩ := hrel
    by_cases hlt : k < xs.length
    · have c1 := ha.cell k hlt
      have c2 := hb.cell k hlt
      generalize xs.getD k 0 = x at *
      go_wp2
      go_quiet (fail)
      go_wp2
      go_roundw
      case rel => exact ⟨k + 1, _, by omega, by go_num, rfl⟩
      case measure => simp [intOf]; omega
    · go_wp2
      go_ret
      exact ⟨rfl, _, rfl⟩
end Go.Proofs.YtgenkjmcddjaoaaGreat

namespace Go.Proofs.YtgenkjmcddjaoaaGreat
open Go.RowKit

/-- The document's store at p. -/
def S2 (p : Nat) (s : St) : Res := fun w G => ∃ b, StoreAt 98 w p b s ∧ ∀ x, G x ↔ x = p ∨ x = b
theorem Loc.s2 {p : Nat} {s : St} : Loc (S2 p s) :=
  ⟨fun ⟨b, h, e⟩ o hn => ⟨b, h.kept o (hn p ((e p).2 (.inl rfl))) (hn b ((e b).2 (.inr rfl))), e⟩, fun {w G x} ⟨b, h, e⟩ hx => by
    rcases (e x).1 hx with rfl | rfl
    · exact lt_of_heap h.head
    · exact lt_of_heap h.row⟩
theorem Own.store2 {p : Nat} {s : St} {R : Res} {w0 w : World} (l : Loc R) (h : Own (Sep (S2 p s) R) w0 w) :
    ∃ b, StoreAt 98 w p b s ∧ ∀ {w' s'}, StoreAt 98 w' p b s' → Only (fun k => k = p ∨ k = b) w w' → Own (Sep (S2 p s') R) w0 w' := by
  obtain ⟨G, ⟨G1, G2, ⟨b, h1, e⟩, r, c, d⟩, h2, h3⟩ := h
  refine ⟨b, h1, fun {w' s'} g1 g2 => ?_⟩
  exact Own.step (G1 := G1) (G1' := G1) (G2 := G2) l h3 (fun x hx => h2 x ((d x).2 hx)) r c ⟨b, g1, e⟩ (g2.mono (fun x _ hx => (e x).2 hx)) (fun x hx => .inl hx)
theorem StoreAt.begin {T : TypeId} {w : World} {p b n : Nat} (h : StoreAt T w p b (St.zero n)) : StoreAt T (w.setCell ⟨b, 0, none⟩ (.int .u64 1)) p b (St.first n) := by
  refine ⟨?_, ?_, h.ne, ?_, ?_⟩
  · rw [heap_setCell_ne h.ne, h.head]; simp [St.first, St.zero]
  · rw [heap_setCell_at h.row]
    congr 2
    simp only [St.zero, St.first, wordVals, List.setIfInBounds_toArray]
    rw [List.map_set]
    rfl
  · have := h.len; simpa [St.first, St.zero] using this
  · simp only [St.first]; exact set_lt _ (by intro x hx; rw [List.eq_of_mem_replicate hx]; omega) 0 1 (by omega)

/-- The document's arena's head at m. -/
def MObj (p r : Nat) (P T : Int) : Obj := .cells #[.pointer (some ⟨p, 0, none⟩), .pointer (some ⟨r, 0, none⟩), .int .i64 P, .int .i64 T] 61 (0, 0)
def MH (m p r : Nat) (P T : Int) : Res := fun w G => w.heap[m]? = some (MObj p r P T) ∧ ∀ x, G x ↔ x = m
theorem Loc.mh {m p r : Nat} {P T : Int} : Loc (MH m p r P T) :=
  ⟨fun ⟨h, e⟩ o hn => ⟨(o.block m (lt_of_heap h) (hn m ((e m).2 rfl))).trans h, e⟩, fun {w G x} ⟨h, e⟩ hx => by rw [(e x).1 hx]; exact lt_of_heap h⟩
/-- The document's arena. -/
def MX (m : Nat) (P T : Int) (p r : Nat) (s : St) (pg : Nat) (ds : List Nat) (dn : Nat) (L : RL) : Res := Sep (MH m p r P T) (Sep (S2 p s) (RX r pg ds dn L))
theorem Loc.mx {m : Nat} {P T : Int} {p r : Nat} {s : St} {pg : Nat} {ds : List Nat} {dn : Nat} {L : RL} : Loc (MX m P T p r s pg ds dn L) := Loc.mh.sep (Loc.s2.sep Loc.rx)
theorem Own.mhead {m p r : Nat} {P T : Int} {R R' : Res} {w0 w : World} (h : Own R' w0 w) (e : R' = Sep (MH m p r P T) R) : w.heap[m]? = some (MObj p r P T) := by
  subst e
  obtain ⟨_, ⟨_, _, ⟨h1, _⟩, _⟩, _⟩ := h
  exact h1
theorem Own.mstore {p : Nat} {s : St} {R R' : Res} {w0 w : World} (h : Own R' w0 w) (e : R' = Sep (S2 p s) R) : ∃ b, StoreAt 98 w p b s := by
  subst e
  obtain ⟨_, ⟨_, _, ⟨b, h1, _⟩, _⟩, _⟩ := h
  exact ⟨b, h1⟩

/-- The same, its words at b. -/
def S2b (p b : Nat) (s : St) : Res := fun w G => StoreAt 98 w p b s ∧ ∀ x, G x ↔ x = p ∨ x = b
theorem Loc.s2b {p b : Nat} {s : St} : Loc (S2b p b s) :=
  ⟨fun ⟨h, e⟩ o hn => ⟨h.kept o (hn p ((e p).2 (.inl rfl))) (hn b ((e b).2 (.inr rfl))), e⟩, fun {w G x} ⟨h, e⟩ hx => by
    rcases (e x).1 hx with rfl | rfl
    · exact lt_of_heap h.head
    · exact lt_of_heap h.row⟩
theorem Own.fix2 {p : Nat} {s : St} {R : Res} {w0 w : World} (h : Own (Sep (S2 p s) R) w0 w) : ∃ b, Own (Sep (S2b p b s) R) w0 w := by
  obtain ⟨G, ⟨G1, G2, ⟨b, h1, e⟩, r, c, d⟩, h2, h3⟩ := h
  exact ⟨b, G, ⟨G1, G2, ⟨h1, e⟩, r, c, d⟩, h2, h3⟩
theorem Own.bstore {p b : Nat} {s : St} {R R' : Res} {w0 w : World} (h : Own R' w0 w) (e : R' = Sep (S2b p b s) R) : StoreAt 98 w p b s := by
  subst e
  obtain ⟨_, ⟨_, _, ⟨h1, _⟩, _⟩, _⟩ := h
  exact h1
def MXb (m : Nat) (P T : Int) (p b r : Nat) (s : St) (pg : Nat) (ds : List Nat) (dn : Nat) (L : RL) : Res := Sep (MH m p r P T) (Sep (S2b p b s) (RX r pg ds dn L))
theorem Loc.mxb {m : Nat} {P T : Int} {p b r : Nat} {s : St} {pg : Nat} {ds : List Nat} {dn : Nat} {L : RL} : Loc (MXb m P T p b r s pg ds dn L) := Loc.mh.sep (Loc.s2b.sep Loc.rx)

theorem memNil (P T : Int) (hm : Lay.may P T = false) (a : Option Addr) (n c : Nat) (w : World) :
    Calls Tryz.prog 49 #[.agg #[.int .i64 P, .int .i64 T, .slice a n c]] w fun e w' => e = .returned (.pointer none) ∧ Below w.heap.size w w' := by
  have M := hide (fun w => rlmay P T w)
  rw [hm] at M
  have h0 : DrawsIn w a [] := fun h => absurd rfl h
  have HW := SetAt.new w P T a n c [] h0 48 59
  have c0 := HW.l0
  have c1 := HW.l1
  have HB := hide HW.below
  clear h0 HW
  go_enter Tryz.func49, Tryz.ntmps49
  go_wp2_with fail
  refine (M.out _).mono ?_
  rintro e w1 ⟨rfl, hb⟩
  have HB1 := hide (HB.out.trans (hb.mono HB.out.size))
  clear hb c0 c1
  go_wp2
  go_ret
  exact ⟨rfl, HB1.out⟩

set_option maxRecDepth 100000 in
set_option maxHeartbeats 4000000 in
theorem memNew {R : Res} {w0 w : World} (l : Loc R) (ho : Own R w0 w) (pg : Nat) (T : Int) (hm : Lay.may pg T = true) (ds : List Nat) (hl : ds.length ≤ 1000000000) (a : Option Addr) (c : Nat) (hz : a = none → ds = [] ∧ c = 0) (hd : DrawsIn w a ds) :
    Calls Tryz.prog 49 #[.agg #[.int .i64 (pg : Int), .int .i64 T, .slice a ds.length c]] w fun e w' => ∃ m p r, e = .returned (.pointer (some ⟨m, 0, none⟩)) ∧ Own (Sep (MX m (pg : Int) T p r (St.first (Lay.words pg T).toNat) pg ds 1 [(kOf 0 pg, ds.getD 0 0, ())]) R) w0 w' := by
  have M := hide (fun w => rlmay pg T w)
  rw [hm] at M
  have W := hide (fun w => rlwords pg T w)
  obtain ⟨k, hk, k1, k2⟩ := Lay.words_nat hm
  rw [hk] at W ⊢
  rw [Int.toNat_natCast]
  obtain ⟨m1, m2, m3, m4⟩ := Lay.may_iff.1 hm
  obtain ⟨n, hn⟩ : ∃ n, ds.length = n := ⟨_, rfl⟩
  have HL := hide hn
  have HW := SetAt.new w pg T a n c ds hd 48 59
  have c0 := HW.l0
  have c1 := HW.l1
  have HW2 := hide HW
  have HO := hide ho
  clear hd HW ho hm hk
  rw [hn]
  clear hn
  go_enter Tryz.func49, Tryz.ntmps49
  go_wp2_with fail
  refine (M.out _).mono ?_
  rintro e w1 ⟨rfl, hb⟩
  have H1 := hide (HW2.out.grow hb)
  clear hb HW2 c0 c1
  go_wp2
  have J1 : Hid (SetAt w w.heap.size pg T a n c ds w1.drew) := hide (H1.out.grow ((Alike.drewN w1 1).below _))
  have u0 : ∀ u : Mem (SetAt w w.heap.size pg T a n c ds), u.w'.cell? ⟨w.heap.size, 0, none⟩ = some (.int .i64 (pg : Int)) := fun u => u.h.c0
  have u1 : ∀ u : Mem (SetAt w w.heap.size pg T a n c ds), u.w'.cell? ⟨w.heap.size, 1, none⟩ = some (.int .i64 T) := fun u => u.h.c1
  have u2 : ∀ u : Mem (SetAt w w.heap.size pg T a n c ds), u.w'.cell? ⟨w.heap.size, 2, none⟩ = some (.slice a n c) := fun u => u.h.c2
  have u3 : ∀ u : Mem (SetAt w w.heap.size pg T a n c ds), u.w'.cell? ⟨w.heap.size + 1, 0, none⟩ = some (.int .i64 (pg : Int)) := fun u => u.h.l0
  have u4 : ∀ u : Mem (SetAt w w.heap.size pg T a n c ds), u.w'.cell? ⟨w.heap.size + 1, 1, none⟩ = some (.int .i64 T) := fun u => u.h.l1
  have hne : Nonempty (Mem (SetAt w w.heap.size pg T a n c ds)) := ⟨⟨_, J1.out⟩⟩
  refine region_start (J := SetAt w w.heap.size pg T a n c ds) (by kernel_rfl) ?_
  refine stretch (fuel := 6) (by kernel_rfl) (fun _ _ _ _ _ h => h) (J1.out) [0, 3, 4, 5, 6, 8] (by kernel_rfl) ?_
  simp only [List.filterMap_cons, List.filterMap_nil, List.getElem?_toArray, List.getElem?_cons_zero, List.getElem?_cons_succ]
  show wpQuiet _ _ _ _ [_, _, _, _, _, _] _
  repeat (go_big_quiet_step (fail))
  refine wpQuiet_nil ?_
  refine wpAnyJ_writer (i := 1) rfl (by kernel_rfl) (fun K hK => ?_)
  go_simp
  refine (W.out _).mono ?_
  rintro e w2 ⟨rfl, hb2⟩
  have J2 := hide (J1.out.grow hb2)
  refine hK _ _ J2.out ?_
  clear hK K hb2
  refine wpAnyJ_writer (i := 2) rfl (by kernel_rfl) (fun K hK => ?_)
  go_simp
  refine (rnew_in _ k k1 k2).mono ?_
  rintro e w3 ⟨p, b, rfl, hS, hp, hb1, hb3⟩
  have J3 := hide (J2.out.grow hb3)
  have O3 := hide (Own.fresh (R1 := S2 p (St.zero k)) l (HO.out.below l J2.out.below) (G := fun x => x = p ∨ x = b) ⟨b, hS, fun _ => Iff.rfl⟩ (by rintro x (rfl | rfl) <;> assumption) hb3)
  refine hK _ _ J3.out ?_
  clear hK K hS hp hb1 hb3 W
  refine wpAnyJ_writer (i := 7) rfl (by kernel_rfl) (fun K hK => ?_)
  go_simp
  have HN := xnewB (pg := pg) (ds := ds) (Loc.s2.sep l) O3.out (by omega) (by omega) hl a c hz J3.out.row
  rw [HL.out] at HN
  refine HN.mono ?_
  rintro e w4 ⟨r, rfl, o4, hb4⟩
  have J4 : Hid (SetAt w w.heap.size pg T a n c ds w4) := hide (J3.out.grow hb4)
  have O4 := hide o4
  refine hK _ _ J4.out ?_
  clear hK K HN o4 O3 hb4
  refine stretch (fuel := 2) (by kernel_rfl) (fun _ _ _ _ _ h => h) (J4.out) [9] (by kernel_rfl) ?_
  simp only [List.filterMap_cons, List.filterMap_nil, List.getElem?_toArray, List.getElem?_cons_zero, List.getElem?_cons_succ]
  show wpQuiet _ _ _ _ [_] _
  repeat (go_big_quiet_step (fail))
  refine wpQuiet_nil ?_
  refine wpAnyJ_writer (i := 10) rfl (by kernel_rfl) (fun K hK => ?_)
  go_simp
  have J5 := hide (J4.out.grow (grown1 w4 (MObj p r pg T)))
  have O5 := hide (Own.fresh (R1 := MH w4.heap.size p r pg T) (Loc.rx.sep (Loc.s2.sep l)) O4.out (G := fun x => x = w4.heap.size) ⟨heap_alloc_at _ _, fun _ => Iff.rfl⟩ (fun x hx => by rw [hx]; exact Nat.le_refl _) (grown1 w4 _))
  refine hK _ _ J5.out ?_
  clear hK K
  refine stretch (fuel := 0) (by kernel_rfl) (fun _ _ _ _ _ h => h) (J5.out) [11] (by kernel_rfl) ?_
  simp only [List.filterMap_cons, List.filterMap_nil, List.getElem?_toArray, List.getElem?_cons_zero, List.getElem?_cons_succ]
  show wpQuiet _ _ _ _ [_] _
  repeat (go_big_quiet_step (fail))
  refine wpQuiet_nil ?_
  refine wpAnyJ_done (by kernel_rfl) ?_
  clear u0 u1 u2 u3 u4 hne J1 J2 J3 J4 J5 H1 O4
  generalize w4.alloc (MObj p r pg T) = U at *
  generalize w4.heap.size = m at *
  obtain ⟨b', hS, hk⟩ := (O5.out.cast (R' := Sep (S2 p (St.zero k)) (Sep (MH m p r pg T) (Sep (RX r pg ds 1 [(kOf 0 pg, ds.getD 0 0, ())]) R))) (by ac_rfl)).store2 (Loc.mh.sep (Loc.rx.sep l))
  have e0 : U.cell? ⟨m, 0, none⟩ = some (.pointer (some ⟨p, 0, none⟩)) := cell_of_heap (O5.out.mhead rfl)
  have e1 : U.cell? ⟨p, 0, none⟩ = some (.slice (some ⟨b', 0, none⟩) k k) := by rw [cell_of_heap hS.head]; simp [St.zero]
  have e2 : U.cell? ⟨b', 0, none⟩ = some (.int .u64 0) := by
    rw [cell_of_heap hS.row]
    obtain ⟨k', rfl⟩ : ∃ k', k = k' + 1 := ⟨k - 1, by omega⟩
    simp [St.zero, wordVals, List.replicate_succ]
  have e3 : U.frozen? ⟨b', 0, none⟩ = false := frozen_of_heap hS.row
  have O6 := hide (hk hS.begin ((Only.refl (fun k => k = p ∨ k = b') U).setCell (p := ⟨b', 0, none⟩) (.inl (.inr rfl)) _))
  clear hk hS O5
  go_wp2
  go_ret
  exact ⟨m, p, r, rfl, O6.out.cast (by unfold MX; ac_rfl)⟩
end Go.Proofs.YtgenkjmcddjaoaaGreat

namespace Go.Proofs.YtgenkjmcddjaoaaGreat
open Go Go.RowKit

/-- What a machine is made of. -/
structure MK where
  what : Int
  P : Int
  T : Int
  thread : Int
  page : Int
  cls : Int
  pages : Int
  gen : Int
  head : Int
  size : Int
  most : Int
  mask : Nat
  drop : Bool
  list : Value
/-- What turns. -/
structure MV where
  log : Value
  done : Bool
  at_ : Nat
  used : Bool
  mem : Value
  d0 : Int
  d1 : Int
  d2 : Nat
  d3 : Nat
  got : Int
  code : Int
  n : Int
  gens : Int
  freed : Nat
  live : Value
  marks : Value
  full : Int
  e0 : Int
def mCells (k : MK) (v : MV) : Array Value :=
  #[.int .i64 k.what, .int .i64 k.P, .int .i64 k.T, .int .i64 k.thread, .int .i64 k.page, .int .i64 k.cls, .int .i64 k.pages, .int .i64 k.gen, .int .i64 k.head, .int .i64 k.size, .int .i64 k.most, .int .u64 (k.mask : Int), .bool k.drop, k.list,
    v.log, .bool v.done, .int .i64 (v.at_ : Int), .bool v.used, v.mem, .int .i64 v.d0, .int .i64 v.d1, .int .u64 (v.d2 : Int), .int .u64 (v.d3 : Int), .int .i64 v.got, .int .i64 v.code, .int .i64 v.n, .int .i64 v.gens, .int .u64 (v.freed : Int), v.live, v.marks, .int .i64 v.full, .int .i64 v.e0]
def mObj (k : MK) (v : MV) : Obj := .cells (mCells k v) 66 (0, 0)

/-- What was told, in a row by itself. -/
def LogR (v : Value) (l : List Nat) : Res := fun W G => W.ownsRow 0 25 1 v l.length (wordVals l) ∧ ∀ x, G x ↔ v.ownBlock = some x
theorem Loc.logR {v : Value} {l : List Nat} : Loc (LogR v l) := by
  refine ⟨fun {w w' M G} ⟨h1, h2⟩ o hn => ⟨⟨h1.1, ?_⟩, h2⟩, fun {w G x} ⟨h1, h2⟩ hx => ?_⟩
  · rcases h1.2 with h0 | ⟨g, cap, cur, e, hb, hg, h4⟩
    · exact .inl h0
    · exact .inr ⟨g, cap, cur, e, hb, (o.block g (lt_of_heap hg) (hn g ((h2 g).2 (by rw [e]; rfl)))).trans hg, h4⟩
  · rcases h1.2 with ⟨e, _⟩ | ⟨g, cap, cur, e, hb, hg, h4⟩
    · have := (h2 x).1 hx; rw [e] at this; cases this
    · have := (h2 x).1 hx
      rw [e] at this
      obtain rfl : g = x := by simpa [Value.ownBlock] using this
      exact lt_of_heap hg
theorem Own.log {R R' : Res} {w0 w : World} {v : Value} {l : List Nat} (h : Own R' w0 w) (e : R' = Sep (LogR v l) R) : w.ownsRow 0 25 1 v l.length (wordVals l) := by
  obtain ⟨_, ⟨_, _, a, _⟩, _⟩ := h.cast e
  exact a.1
theorem log_cell {W : World} {v : Value} {l : List Nat} (h : W.ownsRow 0 25 1 v l.length (wordVals l)) (i : Nat) (hi : i < l.length) : ∃ g c, v = .slice (some ⟨g, 0, none⟩) l.length c ∧ W.cell? ⟨g, i, none⟩ = some (.int .u64 (l.getD i 0 : Nat)) := by
  rcases h.2 with ⟨_, h0⟩ | ⟨g, cap, cur, e, hb, hg, _⟩
  · omega
  · have h' := h
    rw [e] at h'
    refine ⟨g, cap, e, ?_⟩
    rw [World.ownsRow.cellAt h' i (by omega)]
    simp [wordVals, hi]

section
variable {R : Res} {w0 w : World} {b : Nat} {k : MK} {v : MV} {l : List Nat}

set_option maxHeartbeats 1000000 in
theorem m_told1 (lR : Loc R) (h : Own (Sep (BO b (mObj k v)) (Sep (LogR v.log l) R)) w0 w) (a : Nat) (ha : v.at_ = a) (hl : a < l.length) (hl2 : l.length < 4611686018427387904) (x : Nat) (hx : l.getD a 0 = x) :
    Calls Tryz.prog 131 #[.pointer (some ⟨b, 0, none⟩)] w fun e w' => e = .returned (.tuple #[.int .u64 (x : Int), .bool true]) ∧ Own (Sep (BO b (mObj k { v with at_ := a + 1 })) (Sep (LogR v.log l) R)) w0 w' := by
  have hb := Own.boAt h
  have hL := h.log (R := Sep (BO b (mObj k v)) R) (by ac_rfl)
  obtain ⟨g, c, hv, hc⟩ := log_cell hL a hl
  rw [hx] at hc
  have lB : Loc (Sep (BO b (mObj k v)) (Sep (LogR v.log l) R)) := Loc.bo.sep (Loc.logR.sep lR)
  have c14 : w.cell? ⟨b, 14, none⟩ = some v.log := cell_of_heap hb
  have c16 : w.cell? ⟨b, 16, none⟩ = some (.int .i64 (a : Int)) := by rw [← ha]; exact cell_of_heap hb
  rw [hv] at c14
  have hgl := lt_of_heap hb
  have HO := hide h
  have HC := hide hc
  have HX := hide hx
  have HV := hide hv
  have HB := hide hb
  obtain ⟨m, hm⟩ : ∃ m, l.length = m := ⟨_, rfl⟩
  have HM := hide hm
  rw [hm] at c14 hl hl2
  have HA := hide ha
  clear h hL hc hb hx ha hm
  go_enter Tryz.func131, Tryz.ntmps131
  go_wp2
  go_quiet (fail)
  have O1 := hide (HO.out.below lB ((Alike.drewN w nq).below _))
  have HC1 : Hid ((w.drewN nq).cell? ⟨g, a, none⟩ = some (.int .u64 (x : Int))) := HC
  clear c14 c16 HB HO HC
  generalize w.drewN nq = w1 at *
  have hb1 := Own.boAt O1.out
  have c16 : w1.cell? ⟨b, 16, none⟩ = some (.int .i64 (a : Int)) := by have := HA.out; rw [← this]; exact cell_of_heap hb1
  have f16 : ∀ o, w1.frozen? ⟨b, o, none⟩ = false := fun o => frozen_of_heap hb1
  have O2 : Hid (Own (Sep (BO b (mObj k { v with at_ := a + 1 })) (Sep (LogR v.log l) R)) w0 (w1.setCell ⟨b, 16, none⟩ (.int .i64 ((a : Int) + 1)))) := hide (Own.boSet (Loc.logR.sep lR) O1.out 16 (.int .i64 ((a : Int) + 1)))
  go_wp2
  clear c16 f16 O1 hb1
  generalize w1.setCell ⟨b, 16, none⟩ (.int .i64 ((a : Int) + 1)) = w2 at *
  have hb2 := Own.boAt O2.out
  have HC2 : Hid (w2.cell? ⟨g, a, none⟩ = some (.int .u64 (x : Int))) := hide (by
    have hL2 := O2.out.log (R := Sep (BO b (mObj k { v with at_ := a + 1 })) R) (by ac_rfl)
    obtain ⟨g', c', hv', hc'⟩ := log_cell hL2 a (by rw [HM.out]; exact hl)
    rw [HX.out] at hc'
    have this : g = g' := by
      have e := HV.out.symm.trans hv'
      simp at e
      exact e.1
    rw [this]; exact hc')
  have c14 : w2.cell? ⟨b, 14, none⟩ = some (.slice (some ⟨g, 0, none⟩) m c) := by
    have : w2.cell? ⟨b, 14, none⟩ = some v.log := cell_of_heap hb2
    rw [this, HV.out, HM.out]
  have c16 : w2.cell? ⟨b, 16, none⟩ = some (.int .i64 ((a : Int) + 1)) := cell_of_heap hb2
  have cg := HC2.out
  clear hb2 HC1
  go_quiet (fail)
  go_wp2
  go_ret2
  exact ⟨rfl, O2.out.below (Loc.bo.sep (Loc.logR.sep lR)) ((Alike.drewN w2 _).below _)⟩

set_option maxHeartbeats 1000000 in
theorem m_told0 (lR : Loc R) (h : Own (Sep (BO b (mObj k v)) (Sep (LogR v.log l) R)) w0 w) (a : Nat) (ha : v.at_ = a) (hl : l.length ≤ a) :
    Calls Tryz.prog 131 #[.pointer (some ⟨b, 0, none⟩)] w fun e w' => e = .returned (.tuple #[.int .u64 0, .bool false]) ∧ Own (Sep (BO b (mObj k v)) (Sep (LogR v.log l) R)) w0 w' := by
  have hb := Own.boAt h
  have hL := h.log (R := Sep (BO b (mObj k v)) R) (by ac_rfl)
  have lB : Loc (Sep (BO b (mObj k v)) (Sep (LogR v.log l) R)) := Loc.bo.sep (Loc.logR.sep lR)
  have c14 : w.cell? ⟨b, 14, none⟩ = some v.log := cell_of_heap hb
  have c16 : w.cell? ⟨b, 16, none⟩ = some (.int .i64 (a : Int)) := by rw [← ha]; exact cell_of_heap hb
  obtain ⟨va, vc, hv⟩ := ownsRow_slice hL
  rw [hv] at c14
  obtain ⟨m, hm⟩ : ∃ m, l.length = m := ⟨_, rfl⟩
  rw [hm] at c14 hl
  have HO := hide h
  clear h hL hb ha hm hv
  go_enter Tryz.func131, Tryz.ntmps131
  go_wp2
  go_quiet (fail)
  have O1 := hide (HO.out.below lB ((Alike.drewN w nq).below _))
  clear c14 c16 HO
  generalize w.drewN nq = w1 at *
  go_wp2
  go_ret2
  exact ⟨rfl, O1.out⟩

theorem m_now1 (lR : Loc R) (h : Own (Sep (BO b (mObj k v)) R) w0 w) (hu : v.used = false) :
    Calls Tryz.prog 132 #[.pointer (some ⟨b, 0, none⟩)] w fun e w' => e = .returned (.bool true) ∧ Own (Sep (BO b (mObj k { v with used := true })) R) w0 w' := by
  have hb := Own.boAt h
  have c17 : w.cell? ⟨b, 17, none⟩ = some (.bool false) := by rw [← hu]; exact cell_of_heap hb
  have f17 : ∀ o, w.frozen? ⟨b, o, none⟩ = false := fun o => frozen_of_heap hb
  have O2 : Hid (Own (Sep (BO b (mObj k { v with used := true })) R) w0 (w.setCell ⟨b, 17, none⟩ (.bool true))) := hide (Own.boSet lR h 17 (.bool true))
  clear h hb hu
  go_enter Tryz.func132, Tryz.ntmps132
  go_wp2
  go_ret
  exact ⟨rfl, O2.out⟩
theorem m_now0 (h : Own (Sep (BO b (mObj k v)) R) w0 w) (hu : v.used = true) :
    Calls Tryz.prog 132 #[.pointer (some ⟨b, 0, none⟩)] w fun e w' => e = .returned (.bool false) ∧ w' = w := by
  have hb := Own.boAt h
  have c17 : w.cell? ⟨b, 17, none⟩ = some (.bool true) := by rw [← hu]; exact cell_of_heap hb
  clear h hb hu
  go_enter Tryz.func132, Tryz.ntmps132
  go_wp2
  go_ret
  exact ⟨rfl, rfl⟩
end
end Go.Proofs.YtgenkjmcddjaoaaGreat

namespace Go.Proofs.YtgenkjmcddjaoaaGreat
open Go Go.RowKit

theorem infoW12 : (Tryz.prog.info? 25).map (fun i => (i.zero, i.size, i.bytes)) = some (some (.int .u64 0), 1, 8) := by kernel_rfl
theorem only_of_grown {w w' : World} {row : Option Nat} (h : w.grownBy w' row) : Only (fun k => row = some k) w w' :=
  ⟨h.os, h.tape, h.output, h.size, fun k hk hn => h.block k hk (fun e => hn e.symm)⟩

theorem Own.logStep {R : Res} {w0 w w3 : World} {v lv : Value} {l : List Nat} {x : Nat} {tmp : Obj} (lR : Loc R) (h : Own (Sep (LogR v l) R) w0 w) (hown : w3.ownsRow 0 25 1 lv (l.length + 1) (wordVals l ++ [.int .u64 (x : Int)]))
    (hgrow : (w.alloc tmp).grownBy w3 v.ownBlock) (hblk : lv.ownBlock = v.ownBlock ∨ lv.ownBlock = some (w.alloc tmp).heap.size) : Own (Sep (LogR lv (l ++ [x])) R) w0 w3 := by
  obtain ⟨G, ⟨G1, G2, ⟨a1, a2⟩, r, c, d⟩, h2, h3⟩ := Own.below (Loc.logR.sep lR) h (grown1 w tmp)
  have e : wordVals (l ++ [x]) = wordVals l ++ [.int .u64 (x : Int)] := by simp [wordVals]
  refine Own.step (G1 := G1) (G1' := fun y => lv.ownBlock = some y) (G2 := G2) lR h3 (fun y hy => h2 y ((d y).2 hy)) r c ⟨?_, fun _ => Iff.rfl⟩ ((only_of_grown hgrow).mono (fun y _ hy => (a2 y).2 hy)) (fun y hy => ?_)
  · rw [List.length_append, List.length_singleton, e]; exact hown
  · rcases hblk with q | q
    · exact .inl ((a2 y).2 (q ▸ hy))
    · rw [q] at hy
      exact .inr (by have : (w.alloc tmp).heap.size = y := by simpa using hy
                     omega)

/-- The machine's turn behind an access: what it tells. -/
def MV.told (v : MV) (lv : Value) (s : St) : MV := { v with log := lv, at_ := v.at_ + 1, d0 := s.kind, d1 := s.place, d2 := s.old, d3 := s.new }

section
variable {R : Res} {w0 w : World} {b : Nat} {k : MK} {v : MV} {l : List Nat} {qb : Nat} {P T : Int} {pb rb : Nat} {s : St} {pg : Nat} {ds : List Nat} {dn : Nat} {L : RL}

set_option maxRecDepth 100000 in
set_option maxHeartbeats 4000000 in
theorem m_tell (lR : Loc R) (h : Own (Sep (BO b (mObj k v)) (Sep (LogR v.log l) (Sep (MX qb P T pb rb s pg ds dn L) R))) w0 w) (hm : v.mem = .pointer (some ⟨qb, 0, none⟩)) (x : Nat) (hll : l.length < 1099511627776) (hat : v.at_ < 4611686018427387904) :
    Calls Tryz.prog 134 #[.pointer (some ⟨b, 0, none⟩), .int .u64 (x : Int)] w fun e w' => e = .returned (.tuple #[.int .u64 (x : Int), .bool true]) ∧ ∃ lv, Own (Sep (BO b (mObj k (v.told lv s))) (Sep (LogR lv (l ++ [x])) (Sep (MX qb P T pb rb s pg ds dn L) R))) w0 w' := by
  obtain ⟨i0, hi, hz0, hz1, hz2⟩ := info_parts infoW12
  have lM : Loc (Sep (MX qb P T pb rb s pg ds dn L) R) := Loc.mx.sep lR
  have lB : Loc (Sep (LogR v.log l) (Sep (MX qb P T pb rb s pg ds dn L) R)) := Loc.logR.sep lM
  have hb := Own.boAt h
  have hq := h.mhead (m := qb) (p := pb) (r := rb) (P := P) (T := T) (R := Sep (BO b (mObj k v)) (Sep (LogR v.log l) (Sep (S2 pb s) (Sep (RX rb pg ds dn L) R)))) (by unfold MX; ac_rfl)
  obtain ⟨wb, hS⟩ := h.mstore (p := pb) (s := s) (R := Sep (BO b (mObj k v)) (Sep (LogR v.log l) (Sep (MH qb pb rb P T) (Sep (RX rb pg ds dn L) R)))) (by unfold MX; ac_rfl)
  have c18 : w.cell? ⟨b, 18, none⟩ = some (.pointer (some ⟨qb, 0, none⟩)) := by rw [← hm]; exact cell_of_heap hb
  have cq0 : w.cell? ⟨qb, 0, none⟩ = some (.pointer (some ⟨pb, 0, none⟩)) := cell_of_heap hq
  have s1 : w.cell? ⟨pb, 1, none⟩ = some (.int .i64 s.kind) := cell_of_heap hS.head
  have s2 : w.cell? ⟨pb, 2, none⟩ = some (.int .i64 s.place) := cell_of_heap hS.head
  have s3 : w.cell? ⟨pb, 3, none⟩ = some (.int .u64 (s.old : Int)) := cell_of_heap hS.head
  have s4 : w.cell? ⟨pb, 4, none⟩ = some (.int .u64 (s.new : Int)) := cell_of_heap hS.head
  have b19 : w.cell? ⟨b, 19, none⟩ = some (.int .i64 v.d0) := cell_of_heap hb
  have b20 : w.cell? ⟨b, 20, none⟩ = some (.int .i64 v.d1) := cell_of_heap hb
  have b21 : w.cell? ⟨b, 21, none⟩ = some (.int .u64 (v.d2 : Int)) := cell_of_heap hb
  have b22 : w.cell? ⟨b, 22, none⟩ = some (.int .u64 (v.d3 : Int)) := cell_of_heap hb
  have fb : ∀ o, w.frozen? ⟨b, o, none⟩ = false := fun o => frozen_of_heap hb
  have O1 : Hid (Own (Sep (BO b (mObj k { v with d0 := s.kind, d1 := s.place, d2 := s.old, d3 := s.new })) (Sep (LogR v.log l) (Sep (MX qb P T pb rb s pg ds dn L) R))) w0 ((((w.setCell ⟨b, 19, none⟩ (.int .i64 s.kind)).setCell ⟨b, 20, none⟩ (.int .i64 s.place)).setCell ⟨b, 21, none⟩ (.int .u64 (s.old : Int))).setCell ⟨b, 22, none⟩ (.int .u64 (s.new : Int)))) :=
    hide (Own.boSet lB (Own.boSet lB (Own.boSet lB (Own.boSet lB h 19 (.int .i64 s.kind)) 20 (.int .i64 s.place)) 21 (.int .u64 (s.old : Int))) 22 (.int .u64 (s.new : Int)))
  clear h hb hq hS hm
  go_enter Tryz.func134, Tryz.ntmps134
  go_upto_region 2 with fail
  clear c18 cq0 s1 s2 s3 s4 b19 b20 b21 b22 fb
  generalize (((w.setCell ⟨b, 19, none⟩ (.int .i64 s.kind)).setCell ⟨b, 20, none⟩ (.int .i64 s.place)).setCell ⟨b, 21, none⟩ (.int .u64 (s.old : Int))).setCell ⟨b, 22, none⟩ (.int .u64 (s.new : Int)) = w1 at *
  have hrow := O1.out.log (R := Sep (BO b (mObj k { v with d0 := s.kind, d1 := s.place, d2 := s.old, d3 := s.new })) (Sep (MX qb P T pb rb s pg ds dn L) R)) (by ac_rfl)
  obtain ⟨va, vc, hv⟩ := ownsRow_slice hrow
  have c14 : w1.cell? ⟨b, 14, none⟩ = some (.slice va l.length vc) := by rw [← hv]; exact cell_of_heap (Own.boAt O1.out)
  have HROW : Hid (w1.ownsRow 0 25 1 (.slice va l.length vc) l.length (wordVals l)) := hide (by rw [← hv]; exact hrow)
  have HV := hide hv
  clear hrow hv
  go_wp2_with (at_builtin; refine wpList_append_own_at _ rfl _ _ 62 rfl 0 25 i0 (.int .u64 0) 1 8 Tryz.underlying62 hi hz0 hz1 hz2 rfl (by decide) _ _ _ rfl (HROW.out.alloc _) ⟨_, 0, none⟩ 1 1 [.int .u64 (x : Int)] rfl rfl (cell_one_new _ _ _) (by simp [Value.oneCell']) (by unfold maxLen; omega) (by omega) (by omega) ?_; intro lv w3 hown' hgrow' _ hblk; rw [← HV.out] at hgrow' hblk; have O3 := hide ((Own.logStep (Loc.bo.sep lM) (O1.out.cast BO.swap) hown' hgrow' hblk).cast BO.swap.symm); obtain ⟨la, lc, hlv⟩ := ownsRow_slice hown'; subst hlv; have hb3 := Own.boAt O3.out; have c14' : w3.cell? ⟨b, 14, none⟩ = some v.log := cell_of_heap hb3; rw [HV.out] at c14'; have f14 : ∀ o, w3.frozen? ⟨b, o, none⟩ = false := fun o => frozen_of_heap hb3; have O4 : Hid (Own (Sep (BO b (mObj k { v with log := .slice la (l.length + 1) lc, d0 := s.kind, d1 := s.place, d2 := s.old, d3 := s.new })) (Sep (LogR (.slice la (l.length + 1) lc) (l ++ [x])) (Sep (MX qb P T pb rb s pg ds dn L) R))) w0 (w3.setCell ⟨b, 14, none⟩ (.slice la (l.length + 1) lc))) := hide (Own.boSet (Loc.logR.sep lM) O3.out 14 (.slice la (l.length + 1) lc)); have c16 : (w3.setCell ⟨b, 14, none⟩ (.slice la (l.length + 1) lc)).cell? ⟨b, 16, none⟩ = some (.int .i64 (v.at_ : Int)) := cell_of_heap (Own.boAt O4.out); have f16 : ∀ o, (w3.setCell ⟨b, 14, none⟩ (.slice la (l.length + 1) lc)).frozen? ⟨b, o, none⟩ = false := fun o => frozen_of_heap (Own.boAt O4.out); have O5 : Hid (Own (Sep (BO b (mObj k (v.told (.slice la (l.length + 1) lc) s))) (Sep (LogR (.slice la (l.length + 1) lc) (l ++ [x])) (Sep (MX qb P T pb rb s pg ds dn L) R))) w0 ((w3.setCell ⟨b, 14, none⟩ (.slice la (l.length + 1) lc)).setCell ⟨b, 16, none⟩ (.int .i64 ((v.at_ : Int) + 1)))) := hide (Own.boSet (Loc.logR.sep lM) O4.out 16 (.int .i64 ((v.at_ : Int) + 1))))
  go_ret2
  exact ⟨rfl, _, O5.out⟩
end
end Go.Proofs.YtgenkjmcddjaoaaGreat

namespace Go.Proofs.YtgenkjmcddjaoaaGreat
open Go Go.RowKit

section
variable {R : Res} {w0 w : World} {b : Nat} {k : MK} {v : MV} {l : List Nat} {qb : Nat} {P T : Int} {pb rb : Nat} {s : St} {pg : Nat} {ds : List Nat} {dn : Nat} {L : RL}
theorem MX.toS : Sep (MX qb P T pb rb s pg ds dn L) R = Sep (S2 pb s) (Sep (MH qb pb rb P T) (Sep (RX rb pg ds dn L) R)) := by unfold MX; ac_rfl
theorem mxLoad (lR : Loc R) (h : Own (Sep (MX qb P T pb rb s pg ds dn L) R) w0 w) (i : Nat) (hi : i < s.words.length) :
    Calls Tryz.prog 174 #[.pointer (some ⟨pb, 0, none⟩), .int .i64 (i : Int)] w fun e w' => e = .returned (.tuple #[.int .u64 (s.words.getD i 0 : Nat), .int .i64 0]) ∧ Own (Sep (MX qb P T pb rb (s.load i) pg ds dn L) R) w0 w' := by
  obtain ⟨c, hS, q⟩ := (h.cast MX.toS).store2 (Loc.mh.sep (Loc.rx.sep lR))
  exact (r_load w pb c s hS i hi).mono fun _ _ ⟨e, h1, h2⟩ => ⟨e, (q h1 h2).cast MX.toS.symm⟩
theorem mxPut (lR : Loc R) (h : Own (Sep (MX qb P T pb rb s pg ds dn L) R) w0 w) (i : Nat) (hi : i < s.words.length) (x : Nat) (hx : x < 18446744073709551616) :
    Calls Tryz.prog 133 #[.pointer (some ⟨pb, 0, none⟩), .int .i64 (i : Int), .int .u64 (x : Int)] w fun e w' => e = .returned (.int .i64 0) ∧ Own (Sep (MX qb P T pb rb (s.put i x) pg ds dn L) R) w0 w' := by
  obtain ⟨c, hS, q⟩ := (h.cast MX.toS).store2 (Loc.mh.sep (Loc.rx.sep lR))
  exact (r_put w pb c s hS i hi x hx).mono fun _ _ ⟨e, h1, h2⟩ => ⟨e, (q h1 h2).cast MX.toS.symm⟩
theorem mxCas (lR : Loc R) (h : Own (Sep (MX qb P T pb rb s pg ds dn L) R) w0 w) (i : Nat) (hi : i < s.words.length) (o n : Nat) (hn : n < 18446744073709551616) :
    Calls Tryz.prog 177 #[.pointer (some ⟨pb, 0, none⟩), .int .i64 (i : Int), .int .u64 (o : Int), .int .u64 (n : Int)] w fun e w' => e = .returned (.tuple #[.int .u64 (s.words.getD i 0 : Nat), .int .i64 (s.casCode i o)]) ∧ Own (Sep (MX qb P T pb rb (s.cas i o n) pg ds dn L) R) w0 w' := by
  obtain ⟨c, hS, q⟩ := (h.cast MX.toS).store2 (Loc.mh.sep (Loc.rx.sep lR))
  exact (r_cas w pb c s hS i hi o n hn).mono fun _ _ ⟨e, h1, h2⟩ => ⟨e, (q h1 h2).cast MX.toS.symm⟩
theorem mxAdd (lR : Loc R) (h : Own (Sep (MX qb P T pb rb s pg ds dn L) R) w0 w) (i : Nat) (hi : i < s.words.length) (x : Nat) :
    Calls Tryz.prog 186 #[.pointer (some ⟨pb, 0, none⟩), .int .i64 (i : Int), .int .u64 (x : Int)] w fun e w' => e = .returned (.tuple #[.int .u64 (s.words.getD i 0 : Nat), .int .i64 0]) ∧ Own (Sep (MX qb P T pb rb (s.add i x) pg ds dn L) R) w0 w' := by
  obtain ⟨c, hS, q⟩ := (h.cast MX.toS).store2 (Loc.mh.sep (Loc.rx.sep lR))
  exact (r_add w pb c s hS i hi x).mono fun _ _ ⟨e, h1, h2⟩ => ⟨e, (q h1 h2).cast MX.toS.symm⟩


set_option maxHeartbeats 1000000 in
theorem m_load_old (lR : Loc R) (h : Own (Sep (BO b (mObj k v)) (Sep (LogR v.log l) (Sep (MX qb P T pb rb s pg ds dn L) R))) w0 w) (a : Nat) (ha : v.at_ = a) (hl : a < l.length) (hl2 : l.length < 4611686018427387904) (x : Nat) (hx : l.getD a 0 = x) (i : Int) :
    Calls Tryz.prog 126 #[.pointer (some ⟨b, 0, none⟩), .int .i64 i] w fun e w' => e = .returned (.tuple #[.int .u64 (x : Int), .bool true]) ∧ Own (Sep (BO b (mObj k { v with at_ := a + 1 })) (Sep (LogR v.log l) (Sep (MX qb P T pb rb s pg ds dn L) R))) w0 w' := by
  have HT := hide (m_told1 (Loc.mx.sep lR) h a ha hl hl2 x hx)
  clear h ha hl hx
  go_enter Tryz.func126, Tryz.ntmps126
  go_wp2_with fail
  refine HT.out.mono ?_
  rintro e w1 ⟨rfl, o1⟩
  have O1 := hide o1
  clear o1 HT
  go_wp2
  go_ret2
  exact ⟨rfl, O1.out⟩

set_option maxHeartbeats 1000000 in
theorem m_load_no (lR : Loc R) (h : Own (Sep (BO b (mObj k v)) (Sep (LogR v.log l) (Sep (MX qb P T pb rb s pg ds dn L) R))) w0 w) (a : Nat) (ha : v.at_ = a) (hl : l.length ≤ a) (hu : v.used = true) (i : Int) :
    Calls Tryz.prog 126 #[.pointer (some ⟨b, 0, none⟩), .int .i64 i] w fun e w' => e = .returned (.tuple #[.int .u64 0, .bool false]) ∧ Own (Sep (BO b (mObj k v)) (Sep (LogR v.log l) (Sep (MX qb P T pb rb s pg ds dn L) R))) w0 w' := by
  have HT := hide (m_told0 (Loc.mx.sep lR) h a ha hl)
  clear h ha hl
  go_enter Tryz.func126, Tryz.ntmps126
  go_wp2_with fail
  refine HT.out.mono ?_
  rintro e w1 ⟨rfl, o1⟩
  have O1 := hide o1
  clear o1 HT
  go_wp2_with fail
  refine (m_now0 O1.out hu).mono ?_
  rintro e w2 ⟨rfl, rfl⟩
  go_wp2
  go_ret2
  exact ⟨rfl, O1.out⟩

set_option maxHeartbeats 2000000 in
theorem m_load_now (lR : Loc R) (h : Own (Sep (BO b (mObj k v)) (Sep (LogR v.log l) (Sep (MX qb P T pb rb s pg ds dn L) R))) w0 w) (a : Nat) (ha : v.at_ = a) (hl : l.length ≤ a) (ha2 : a < 4611686018427387904) (hll : l.length < 1099511627776) (hu : v.used = false) (hm : v.mem = .pointer (some ⟨qb, 0, none⟩)) (i : Nat) (hi : i < s.words.length) (x : Nat) (hx : s.words.getD i 0 = x) (s' : St) (hs : (s.load i) = s') :
    Calls Tryz.prog 126 #[.pointer (some ⟨b, 0, none⟩), .int .i64 (i : Int)] w fun e w' => e = .returned (.tuple #[.int .u64 (x : Int), .bool true]) ∧ ∃ lv, Own (Sep (BO b (mObj k (({ v with used := true } : MV).told lv s'))) (Sep (LogR lv (l ++ [x])) (Sep (MX qb P T pb rb s' pg ds dn L) R))) w0 w' := by
  have HT := hide (m_told0 (Loc.mx.sep lR) h a ha hl)
  have HX := hide hx
  have HMM := hide hm
  have HAT := hide ha
  have lQ : Loc (Sep (BO b (mObj k { v with used := true })) (Sep (LogR v.log l) R)) := Loc.bo.sep (Loc.logR.sep lR)
  have q0 : w.cell? ⟨b, 18, none⟩ = some (.pointer (some ⟨qb, 0, none⟩)) := by rw [← hm]; exact cell_of_heap (Own.boAt h)
  clear h ha hl hx q0
  go_enter Tryz.func126, Tryz.ntmps126
  go_wp2_with fail
  refine HT.out.mono ?_
  rintro e w1 ⟨rfl, o1⟩
  have O1 := hide o1
  clear o1 HT
  go_wp2_with fail
  refine (m_now1 (Loc.logR.sep (Loc.mx.sep lR)) O1.out hu).mono ?_
  rintro e w2 ⟨rfl, o2⟩
  have O2 : Hid (Own (Sep (BO b (mObj k { v with used := true })) (Sep (LogR v.log l) (Sep (MX qb P T pb rb s pg ds dn L) R))) w0 w2) := hide o2
  clear o2 O1
  have c18 : w2.cell? ⟨b, 18, none⟩ = some (.pointer (some ⟨qb, 0, none⟩)) := by have := HMM.out; rw [← this]; exact cell_of_heap (Own.boAt O2.out)
  have cq : w2.cell? ⟨qb, 0, none⟩ = some (.pointer (some ⟨pb, 0, none⟩)) := cell_of_heap (O2.out.mhead (m := qb) (p := pb) (r := rb) (P := P) (T := T) (R := Sep (BO b (mObj k { v with used := true })) (Sep (LogR v.log l) (Sep (S2 pb s) (Sep (RX rb pg ds dn L) R)))) (by unfold MX; ac_rfl))
  go_wp2_with fail
  refine (mxLoad lQ (O2.out.cast (by ac_rfl)) i hi).mono ?_
  rintro e w3 ⟨rfl, o3⟩
  rw [HX.out]
  rw [hs] at o3
  have O3 := hide (o3.cast (R' := (Sep (BO b (mObj k { v with used := true })) (Sep (LogR v.log l) (Sep (MX qb P T pb rb s' pg ds dn L) R)))) (by ac_rfl))
  clear o3 O2 c18 cq
  have HTL := hide (m_tell (v := { v with used := true }) lR O3.out HMM.out x hll (by have := HAT.out; show v.at_ < _; omega))
  clear O3
  go_wp2_with fail
  refine HTL.out.mono ?_
  rintro e w4 ⟨rfl, lv, o4⟩
  have O4 := hide o4
  clear o4 HTL
  go_wp2
  go_ret2
  exact ⟨rfl, lv, O4.out⟩


set_option maxHeartbeats 1000000 in
theorem m_put_old (lR : Loc R) (h : Own (Sep (BO b (mObj k v)) (Sep (LogR v.log l) (Sep (MX qb P T pb rb s pg ds dn L) R))) w0 w) (a : Nat) (ha : v.at_ = a) (hl : a < l.length) (hl2 : l.length < 4611686018427387904) (x : Nat) (hx : l.getD a 0 = x) (i : Int) (y : Nat) :
    Calls Tryz.prog 84 #[.pointer (some ⟨b, 0, none⟩), .int .i64 i, .int .u64 (y : Int)] w fun e w' => e = .returned (.tuple #[.int .u64 (x : Int), .bool true]) ∧ Own (Sep (BO b (mObj k { v with at_ := a + 1 })) (Sep (LogR v.log l) (Sep (MX qb P T pb rb s pg ds dn L) R))) w0 w' := by
  have HT := hide (m_told1 (Loc.mx.sep lR) h a ha hl hl2 x hx)
  clear h ha hl hx
  go_enter Tryz.func84, Tryz.ntmps84
  go_wp2_with fail
  refine HT.out.mono ?_
  rintro e w1 ⟨rfl, o1⟩
  have O1 := hide o1
  clear o1 HT
  go_wp2
  go_ret2
  exact ⟨rfl, O1.out⟩

set_option maxHeartbeats 1000000 in
theorem m_put_no (lR : Loc R) (h : Own (Sep (BO b (mObj k v)) (Sep (LogR v.log l) (Sep (MX qb P T pb rb s pg ds dn L) R))) w0 w) (a : Nat) (ha : v.at_ = a) (hl : l.length ≤ a) (hu : v.used = true) (i : Int) (y : Nat) :
    Calls Tryz.prog 84 #[.pointer (some ⟨b, 0, none⟩), .int .i64 i, .int .u64 (y : Int)] w fun e w' => e = .returned (.tuple #[.int .u64 0, .bool false]) ∧ Own (Sep (BO b (mObj k v)) (Sep (LogR v.log l) (Sep (MX qb P T pb rb s pg ds dn L) R))) w0 w' := by
  have HT := hide (m_told0 (Loc.mx.sep lR) h a ha hl)
  clear h ha hl
  go_enter Tryz.func84, Tryz.ntmps84
  go_wp2_with fail
  refine HT.out.mono ?_
  rintro e w1 ⟨rfl, o1⟩
  have O1 := hide o1
  clear o1 HT
  go_wp2_with fail
  refine (m_now0 O1.out hu).mono ?_
  rintro e w2 ⟨rfl, rfl⟩
  go_wp2
  go_ret2
  exact ⟨rfl, O1.out⟩

set_option maxHeartbeats 2000000 in
theorem m_put_now (lR : Loc R) (h : Own (Sep (BO b (mObj k v)) (Sep (LogR v.log l) (Sep (MX qb P T pb rb s pg ds dn L) R))) w0 w) (a : Nat) (ha : v.at_ = a) (hl : l.length ≤ a) (ha2 : a < 4611686018427387904) (hll : l.length < 1099511627776) (hu : v.used = false) (hm : v.mem = .pointer (some ⟨qb, 0, none⟩)) (i : Nat) (hi : i < s.words.length) (y : Nat) (hy : y < 18446744073709551616) (x : Nat) (hx : s.words.getD i 0 = x) (s' : St) (hs : (s.put i y) = s') :
    Calls Tryz.prog 84 #[.pointer (some ⟨b, 0, none⟩), .int .i64 (i : Int), .int .u64 (y : Int)] w fun e w' => e = .returned (.tuple #[.int .u64 (x : Int), .bool true]) ∧ ∃ lv, Own (Sep (BO b (mObj k (({ v with used := true } : MV).told lv s'))) (Sep (LogR lv (l ++ [x])) (Sep (MX qb P T pb rb s' pg ds dn L) R))) w0 w' := by
  have HT := hide (m_told0 (Loc.mx.sep lR) h a ha hl)
  have HX := hide hx
  have HMM := hide hm
  have HAT := hide ha
  have lQ : Loc (Sep (BO b (mObj k { v with used := true })) (Sep (LogR v.log l) R)) := Loc.bo.sep (Loc.logR.sep lR)
  have q0 : w.cell? ⟨b, 18, none⟩ = some (.pointer (some ⟨qb, 0, none⟩)) := by rw [← hm]; exact cell_of_heap (Own.boAt h)
  clear h ha hl hx q0
  go_enter Tryz.func84, Tryz.ntmps84
  go_wp2_with fail
  refine HT.out.mono ?_
  rintro e w1 ⟨rfl, o1⟩
  have O1 := hide o1
  clear o1 HT
  go_wp2_with fail
  refine (m_now1 (Loc.logR.sep (Loc.mx.sep lR)) O1.out hu).mono ?_
  rintro e w2 ⟨rfl, o2⟩
  have O2 : Hid (Own (Sep (BO b (mObj k { v with used := true })) (Sep (LogR v.log l) (Sep (MX qb P T pb rb s pg ds dn L) R))) w0 w2) := hide o2
  clear o2 O1
  have c18 : w2.cell? ⟨b, 18, none⟩ = some (.pointer (some ⟨qb, 0, none⟩)) := by have := HMM.out; rw [← this]; exact cell_of_heap (Own.boAt O2.out)
  have cq : w2.cell? ⟨qb, 0, none⟩ = some (.pointer (some ⟨pb, 0, none⟩)) := cell_of_heap (O2.out.mhead (m := qb) (p := pb) (r := rb) (P := P) (T := T) (R := Sep (BO b (mObj k { v with used := true })) (Sep (LogR v.log l) (Sep (S2 pb s) (Sep (RX rb pg ds dn L) R)))) (by unfold MX; ac_rfl))
  go_wp2_with fail
  refine (mxPut lQ (O2.out.cast (by ac_rfl)) i hi y hy).mono ?_
  rintro e w3 ⟨rfl, o3⟩
  rw [hs] at o3
  have O3 := hide (o3.cast (R' := (Sep (BO b (mObj k { v with used := true })) (Sep (LogR v.log l) (Sep (MX qb P T pb rb s' pg ds dn L) R)))) (by ac_rfl))
  clear o3 O2 c18 cq
  obtain ⟨wb3, hS3⟩ := O3.out.mstore (p := pb) (s := s') (R := Sep (MH qb pb rb P T) (Sep (RX rb pg ds dn L) (Sep (BO b (mObj k { v with used := true })) (Sep (LogR v.log l) R)))) (by unfold MX; ac_rfl)
  have hq3 := O3.out.mhead (m := qb) (p := pb) (r := rb) (P := P) (T := T) (R := Sep (S2 pb (s')) (Sep (RX rb pg ds dn L) (Sep (BO b (mObj k { v with used := true })) (Sep (LogR v.log l) R)))) (by unfold MX; ac_rfl)
  have b18 : w3.cell? ⟨b, 18, none⟩ = some (.pointer (some ⟨qb, 0, none⟩)) := by rw [← HMM.out]; exact cell_of_heap (O3.out.has (m := b) (o := mObj k { v with used := true }) (R := Sep (MX qb P T pb rb (s') pg ds dn L) (Sep (LogR v.log l) R)) (by ac_rfl))
  have q0 : w3.cell? ⟨qb, 0, none⟩ = some (.pointer (some ⟨pb, 0, none⟩)) := cell_of_heap hq3
  have p3 : w3.cell? ⟨pb, 3, none⟩ = some (.int .u64 (x : Int)) := by
    have hold : s'.old = x := by rw [← hs]; exact HX.out
    rw [← hold]; exact cell_of_heap hS3.head
  clear hS3 hq3
  have HTL := hide (m_tell (v := { v with used := true }) lR O3.out HMM.out x hll (by have := HAT.out; show v.at_ < _; omega))
  clear O3
  go_wp2_with fail
  refine HTL.out.mono ?_
  rintro e w4 ⟨rfl, lv, o4⟩
  have O4 := hide o4
  clear o4 HTL
  go_wp2
  go_ret2
  exact ⟨rfl, lv, O4.out⟩


set_option maxHeartbeats 1000000 in
theorem m_cas_old (lR : Loc R) (h : Own (Sep (BO b (mObj k v)) (Sep (LogR v.log l) (Sep (MX qb P T pb rb s pg ds dn L) R))) w0 w) (a : Nat) (ha : v.at_ = a) (hl : a < l.length) (hl2 : l.length < 4611686018427387904) (x : Nat) (hx : l.getD a 0 = x) (i : Int) (o n : Nat) :
    Calls Tryz.prog 129 #[.pointer (some ⟨b, 0, none⟩), .int .i64 i, .int .u64 (o : Int), .int .u64 (n : Int)] w fun e w' => e = .returned (.tuple #[.bool (decide (x = o)), .bool true]) ∧ Own (Sep (BO b (mObj k { v with at_ := a + 1 })) (Sep (LogR v.log l) (Sep (MX qb P T pb rb s pg ds dn L) R))) w0 w' := by
  have HT := hide (m_told1 (Loc.mx.sep lR) h a ha hl hl2 x hx)
  clear h ha hl hx
  go_enter Tryz.func129, Tryz.ntmps129
  go_wp2_with fail
  refine HT.out.mono ?_
  rintro e w1 ⟨rfl, o1⟩
  have O1 := hide o1
  clear o1 HT
  by_cases e : x = o
  · have d : ((x : Int) == (o : Int)) = true := by simp [e]
    have dN : (x == o) = true := by simp [e]
    go_wp2
    go_ret2
    exact ⟨by simp [e], O1.out⟩
  · have d : ((x : Int) == (o : Int)) = false := by rw [beq_eq_false_iff_ne]; omega
    have dN : (x == o) = false := by rw [beq_eq_false_iff_ne]; exact e
    go_wp2
    go_ret2
    exact ⟨by simp [e], O1.out⟩

set_option maxHeartbeats 1000000 in
theorem m_cas_no (lR : Loc R) (h : Own (Sep (BO b (mObj k v)) (Sep (LogR v.log l) (Sep (MX qb P T pb rb s pg ds dn L) R))) w0 w) (a : Nat) (ha : v.at_ = a) (hl : l.length ≤ a) (hu : v.used = true) (i : Int) (o n : Nat) :
    Calls Tryz.prog 129 #[.pointer (some ⟨b, 0, none⟩), .int .i64 i, .int .u64 (o : Int), .int .u64 (n : Int)] w fun e w' => e = .returned (.tuple #[.bool false, .bool false]) ∧ Own (Sep (BO b (mObj k v)) (Sep (LogR v.log l) (Sep (MX qb P T pb rb s pg ds dn L) R))) w0 w' := by
  have HT := hide (m_told0 (Loc.mx.sep lR) h a ha hl)
  clear h ha hl
  go_enter Tryz.func129, Tryz.ntmps129
  go_wp2_with fail
  refine HT.out.mono ?_
  rintro e w1 ⟨rfl, o1⟩
  have O1 := hide o1
  clear o1 HT
  go_wp2_with fail
  refine (m_now0 O1.out hu).mono ?_
  rintro e w2 ⟨rfl, rfl⟩
  go_wp2
  go_ret2
  exact ⟨rfl, O1.out⟩

set_option maxHeartbeats 2000000 in
theorem m_cas_now (lR : Loc R) (h : Own (Sep (BO b (mObj k v)) (Sep (LogR v.log l) (Sep (MX qb P T pb rb s pg ds dn L) R))) w0 w) (a : Nat) (ha : v.at_ = a) (hl : l.length ≤ a) (ha2 : a < 4611686018427387904) (hll : l.length < 1099511627776) (hu : v.used = false) (hm : v.mem = .pointer (some ⟨qb, 0, none⟩)) (i : Nat) (hi : i < s.words.length) (o n : Nat) (hn : n < 18446744073709551616) (x : Nat) (hx : s.words.getD i 0 = x) (s' : St) (hs : (s.cas i o n) = s') :
    Calls Tryz.prog 129 #[.pointer (some ⟨b, 0, none⟩), .int .i64 (i : Int), .int .u64 (o : Int), .int .u64 (n : Int)] w fun e w' => e = .returned (.tuple #[.bool (decide (x = o)), .bool true]) ∧ ∃ lv, Own (Sep (BO b (mObj k (({ v with used := true } : MV).told lv s'))) (Sep (LogR lv (l ++ [x])) (Sep (MX qb P T pb rb s' pg ds dn L) R))) w0 w' := by
  have HT := hide (m_told0 (Loc.mx.sep lR) h a ha hl)
  have HX := hide hx
  have HMM := hide hm
  have HAT := hide ha
  have lQ : Loc (Sep (BO b (mObj k { v with used := true })) (Sep (LogR v.log l) R)) := Loc.bo.sep (Loc.logR.sep lR)
  have q0 : w.cell? ⟨b, 18, none⟩ = some (.pointer (some ⟨qb, 0, none⟩)) := by rw [← hm]; exact cell_of_heap (Own.boAt h)
  clear h ha hl hx q0
  go_enter Tryz.func129, Tryz.ntmps129
  go_wp2_with fail
  refine HT.out.mono ?_
  rintro e w1 ⟨rfl, o1⟩
  have O1 := hide o1
  clear o1 HT
  go_wp2_with fail
  refine (m_now1 (Loc.logR.sep (Loc.mx.sep lR)) O1.out hu).mono ?_
  rintro e w2 ⟨rfl, o2⟩
  have O2 : Hid (Own (Sep (BO b (mObj k { v with used := true })) (Sep (LogR v.log l) (Sep (MX qb P T pb rb s pg ds dn L) R))) w0 w2) := hide o2
  clear o2 O1
  have c18 : w2.cell? ⟨b, 18, none⟩ = some (.pointer (some ⟨qb, 0, none⟩)) := by have := HMM.out; rw [← this]; exact cell_of_heap (Own.boAt O2.out)
  have cq : w2.cell? ⟨qb, 0, none⟩ = some (.pointer (some ⟨pb, 0, none⟩)) := cell_of_heap (O2.out.mhead (m := qb) (p := pb) (r := rb) (P := P) (T := T) (R := Sep (BO b (mObj k { v with used := true })) (Sep (LogR v.log l) (Sep (S2 pb s) (Sep (RX rb pg ds dn L) R)))) (by unfold MX; ac_rfl))
  go_wp2_with fail
  refine (mxCas lQ (O2.out.cast (by ac_rfl)) i hi o n hn).mono ?_
  rintro e w3 ⟨rfl, o3⟩
  rw [HX.out]
  rw [hs] at o3
  have O3 := hide (o3.cast (R' := (Sep (BO b (mObj k { v with used := true })) (Sep (LogR v.log l) (Sep (MX qb P T pb rb s' pg ds dn L) R)))) (by ac_rfl))
  clear o3 O2 c18 cq
  have HTL := hide (m_tell (v := { v with used := true }) lR O3.out HMM.out x hll (by have := HAT.out; show v.at_ < _; omega))
  clear O3
  go_wp2_with fail
  refine HTL.out.mono ?_
  rintro e w4 ⟨rfl, lv, o4⟩
  have O4 := hide o4
  clear o4 HTL
  by_cases e : x = o
  · have d : ((x : Int) == (o : Int)) = true := by simp [e]
    have dN : (x == o) = true := by simp [e]
    go_wp2
    go_ret2
    exact ⟨by simp [e], lv, O4.out⟩
  · have d : ((x : Int) == (o : Int)) = false := by rw [beq_eq_false_iff_ne]; omega
    have dN : (x == o) = false := by rw [beq_eq_false_iff_ne]; exact e
    go_wp2
    go_ret2
    exact ⟨by simp [e], lv, O4.out⟩

end
end Go.Proofs.YtgenkjmcddjaoaaGreat

namespace Go.Proofs.YtgenkjmcddjaoaaGreat
open Go Go.RowKit

/-- What a step leaves: what was told, what it did. -/
structure Left (v v' : MV) (lv : Value) (s' : St) : Prop where
  log : v'.log = lv
  done : v'.done = v.done
  d0 : v'.d0 = s'.kind
  d1 : v'.d1 = s'.place
  d2 : v'.d2 = s'.old
  d3 : v'.d3 = s'.new
end Go.Proofs.YtgenkjmcddjaoaaGreat

namespace Go.Proofs.YtgenkjmcddjaoaaGreat
open Go Go.RowKit

/-- What is told ahead of the first step. -/
def MV.fresh (v : MV) : MV := { v with at_ := 0, used := false, d0 := 0, d1 := 0, d2 := 0, d3 := 0, got := -1, code := 2, n := 0, gens := 0, freed := 0, live := .slice none 0 0, marks := .slice none 0 0, full := 0 }

theorem asObj {R : Res} {w0 u : World} {b : Nat} {k : MK} {v : MV} (c : Array Value) (e : c = mCells k v) (h : Own (Sep (BO b (.cells c 66 (0, 0))) R) w0 u) : Own (Sep (BO b (mObj k v)) R) w0 u := by subst e; exact h

section
variable {R : Res} {w0 w : World} {b : Nat} {k : MK} {v : MV}
set_option maxRecDepth 100000 in
set_option maxHeartbeats 400000 in
theorem m_fresh (lR : Loc R) (h : Own (Sep (BO b (mObj k v)) R) w0 w) :
    Calls Tryz.prog 51 #[.pointer (some ⟨b, 0, none⟩)] w fun e w' => e = .returned (.tuple #[]) ∧ Own (Sep (BO b (mObj k v.fresh)) R) w0 w' := by
  have hb := Own.boAt h
  have c16 : w.cell? ⟨b, 16, none⟩ = some (.int .i64 (v.at_ : Int)) := cell_of_heap hb
  have c17 : w.cell? ⟨b, 17, none⟩ = some (.bool v.used) := cell_of_heap hb
  have c19 : w.cell? ⟨b, 19, none⟩ = some (.int .i64 v.d0) := cell_of_heap hb
  have c20 : w.cell? ⟨b, 20, none⟩ = some (.int .i64 v.d1) := cell_of_heap hb
  have c21 : w.cell? ⟨b, 21, none⟩ = some (.int .u64 (v.d2 : Int)) := cell_of_heap hb
  have c22 : w.cell? ⟨b, 22, none⟩ = some (.int .u64 (v.d3 : Int)) := cell_of_heap hb
  have c23 : w.cell? ⟨b, 23, none⟩ = some (.int .i64 v.got) := cell_of_heap hb
  have c24 : w.cell? ⟨b, 24, none⟩ = some (.int .i64 v.code) := cell_of_heap hb
  have c25 : w.cell? ⟨b, 25, none⟩ = some (.int .i64 v.n) := cell_of_heap hb
  have c26 : w.cell? ⟨b, 26, none⟩ = some (.int .i64 v.gens) := cell_of_heap hb
  have c27 : w.cell? ⟨b, 27, none⟩ = some (.int .u64 (v.freed : Int)) := cell_of_heap hb
  have c28 : w.cell? ⟨b, 28, none⟩ = some v.live := cell_of_heap hb
  have c29 : w.cell? ⟨b, 29, none⟩ = some v.marks := cell_of_heap hb
  have c30 : w.cell? ⟨b, 30, none⟩ = some (.int .i64 v.full) := cell_of_heap hb
  have fb : ∀ o, w.frozen? ⟨b, o, none⟩ = false := fun o => frozen_of_heap hb
  have B := fun (c : Array Value) (u : World) (q : Nat) (x : Value) (hh : Own (Sep (BO b (.cells c 66 (0, 0))) R) w0 u) => Own.boSet lR hh q x
  have HE := hide (B _ _ 24 (.int .i64 2) (B _ _ 30 (.int .i64 0) (B _ _ 29 (.slice none 0 0) (B _ _ 28 (.slice none 0 0) (B _ _ 27 (.int .u64 0) (B _ _ 26 (.int .i64 0) (B _ _ 25 (.int .i64 0) (B _ _ 23 (.int .i64 (-1)) (B _ _ 22 (.int .u64 0) (B _ _ 21 (.int .u64 0) (B _ _ 20 (.int .i64 0) (B _ _ 19 (.int .i64 0) (B _ _ 17 (.bool false) (B _ _ 16 (.int .i64 0) h))))))))))))))
  clear h hb B
  go_enter Tryz.func51, Tryz.ntmps51
  go_wp2
  go_end0
  exact ⟨rfl, asObj _ (by kernel_rfl) HE.out⟩
theorem m_idle (lR : Loc R) (h : Own (Sep (BO b (mObj k v)) R) w0 w) :
    Calls Tryz.prog 101 #[.pointer (some ⟨b, 0, none⟩)] w fun e w' => e = .returned (.tuple #[]) ∧ Own (Sep (BO b (mObj k { v with got := -1, code := 2, live := .slice none 0 0 })) R) w0 w' := by
  have hb := Own.boAt h
  have c23 : w.cell? ⟨b, 23, none⟩ = some (.int .i64 v.got) := cell_of_heap hb
  have c24 : w.cell? ⟨b, 24, none⟩ = some (.int .i64 v.code) := cell_of_heap hb
  have c28 : w.cell? ⟨b, 28, none⟩ = some v.live := cell_of_heap hb
  have fb : ∀ o, w.frozen? ⟨b, o, none⟩ = false := fun o => frozen_of_heap hb
  have HE : Hid (Own (Sep (BO b (mObj k { v with got := -1, code := 2, live := .slice none 0 0 })) R) w0 (((w.setCell ⟨b, 23, none⟩ (.int .i64 (-1))).setCell ⟨b, 24, none⟩ (.int .i64 2)).setCell ⟨b, 28, none⟩ (.slice none 0 0))) := hide (Own.boSet lR (Own.boSet lR (Own.boSet lR h 23 (.int .i64 (-1))) 24 (.int .i64 2)) 28 (.slice none 0 0))
  clear h hb
  go_enter Tryz.func101, Tryz.ntmps101
  go_wp2
  go_end0
  exact ⟨rfl, HE.out⟩

/-- What is left of a machine whose text came to an end with the page g (ok), or did not. -/
def MV.ended (v : MV) (g : Int) (ok : Bool) : MV := if ok = true then { v with got := g } else { { v with got := g } with got := -1, code := 2, live := .slice none 0 0 }

set_option maxRecDepth 100000 in
set_option maxHeartbeats 1000000 in
theorem body_pop (h : Own (Sep (BO b (mObj k v)) R) w0 w) (hwh : k.what = 1) (g : Int) (ok : Bool) (G : MV → Res → Prop) (R0 : Res) (l0 : Loc R0)
    (hp : ∀ u, Own (Sep (BO b (mObj k v)) R) w0 u → Calls Tryz.prog 81 #[.pointer (some ⟨b, 0, none⟩), .int .i64 k.head, .int .i64 0] u fun e u' => e = .returned (.tuple #[.int .i64 g, .bool ok]) ∧ ∃ v' F, Loc F ∧ G v' F ∧ Own (Sep (BO b (mObj k v')) (Sep F R0)) w0 u') :
    Calls Tryz.prog 56 #[.pointer (some ⟨b, 0, none⟩)] w fun e w' => e = .returned (.bool ok) ∧ ∃ v' F, Loc F ∧ G v' F ∧ Own (Sep (BO b (mObj k (v'.ended g ok))) (Sep F R0)) w0 w' := by
  have hb := Own.boAt h
  have c0 : w.cell? ⟨b, 0, none⟩ = some (.int .i64 1) := by rw [← hwh]; exact cell_of_heap hb
  have c8 : w.cell? ⟨b, 8, none⟩ = some (.int .i64 k.head) := cell_of_heap hb
  have HP := hide (hp _ h)
  clear h hb hp
  go_enter Tryz.func56, Tryz.ntmps56
  go_wp2_with fail
  refine HP.out.mono ?_
  rintro e w1 ⟨rfl, v', F, lF, hG, o1⟩
  have O1 := hide o1
  have HG := hide hG
  have c23 : w1.cell? ⟨b, 23, none⟩ = some (.int .i64 v'.got) := cell_of_heap (Own.boAt o1)
  have f23 : ∀ o, w1.frozen? ⟨b, o, none⟩ = false := fun o => frozen_of_heap (Own.boAt o1)
  have O2 : Hid (Own (Sep (BO b (mObj k { v' with got := g })) (Sep F R0)) w0 (w1.setCell ⟨b, 23, none⟩ (.int .i64 g))) := hide (Own.boSet (lF.sep l0) o1 23 (.int .i64 g))
  clear o1 hG HP c0 c8 O1
  cases ok with
  | true =>
    go_wp2
    go_ret
    exact ⟨rfl, v', F, lF, HG.out, O2.out⟩
  | false =>
    go_wp2_with fail
    refine (m_idle (lF.sep l0) O2.out).mono ?_
    rintro e w2 ⟨rfl, o2⟩
    have O3 := hide o2
    go_wp2
    go_ret
    exact ⟨rfl, v', F, lF, HG.out, O3.out⟩

set_option maxRecDepth 100000 in
set_option maxHeartbeats 1000000 in
theorem body_push (lR : Loc R) (h : Own (Sep (BO b (mObj k v)) R) w0 w) (hwh : k.what = 2) (ok : Bool) (G : MV → Res → Prop) (R0 : Res) (l0 : Loc R0)
    (hp : ∀ u, Own (Sep (BO b (mObj k v)) R) w0 u → Calls Tryz.prog 82 #[.pointer (some ⟨b, 0, none⟩), .int .i64 k.head, .int .i64 k.page] u fun e u' => e = .returned (.bool ok) ∧ ∃ v' F, Loc F ∧ G v' F ∧ Own (Sep (BO b (mObj k v')) (Sep F R0)) w0 u') :
    Calls Tryz.prog 56 #[.pointer (some ⟨b, 0, none⟩)] w fun e w' => e = .returned (.bool ok) ∧ ∃ v' F, Loc F ∧ G v' F ∧ Own (Sep (BO b (mObj k (if ok = true then v' else { v' with got := -1, code := 2, live := .slice none 0 0 }))) (Sep F R0)) w0 w' := by
  have hb := Own.boAt h
  have c0 : w.cell? ⟨b, 0, none⟩ = some (.int .i64 2) := by rw [← hwh]; exact cell_of_heap hb
  have HO := hide h
  have HPF := hide hp
  clear h hb hp
  go_enter Tryz.func56, Tryz.ntmps56
  go_wp2
  have O1 := hide (HO.out.below (Loc.bo.sep lR) ((Alike.drewN w 1).below _))
  have J1 : Hid (Cel b 8 (.int .i64 k.head) w.drew ∧ Cel b 4 (.int .i64 k.page) w.drew) := hide ⟨cell_of_heap (Own.boAt O1.out), cell_of_heap (Own.boAt O1.out)⟩
  have hne : Nonempty (Mem (fun u => Cel b 8 (.int .i64 k.head) u ∧ Cel b 4 (.int .i64 k.page) u)) := ⟨⟨_, J1.out⟩⟩
  have U8 : ∀ u : Mem (fun u => Cel b 8 (.int .i64 k.head) u ∧ Cel b 4 (.int .i64 k.page) u), u.w'.cell? ⟨b, 8, none⟩ = some (.int .i64 k.head) := fun u => u.h.1
  have U4 : ∀ u : Mem (fun u => Cel b 8 (.int .i64 k.head) u ∧ Cel b 4 (.int .i64 k.page) u), u.w'.cell? ⟨b, 4, none⟩ = some (.int .i64 k.page) := fun u => u.h.2
  have HP := hide (HPF.out _ O1.out)
  clear HPF HO O1 c0
  refine region_start (J := fun u => Cel b 8 (.int .i64 k.head) u ∧ Cel b 4 (.int .i64 k.page) u) (by kernel_rfl) ?_
  refine stretch (fuel := 2) (by kernel_rfl) (fun _ _ _ _ _ h => h) J1.out [0, 1, 2, 3, 4, 5, 6, 7, 8] (by kernel_rfl) ?_
  simp only [List.filterMap_cons, List.filterMap_nil, List.getElem?_toArray, List.getElem?_cons_zero, List.getElem?_cons_succ]
  show wpQuiet _ _ _ _ [_, _, _, _, _, _, _, _, _] _
  repeat (go_big_quiet_step (fail))
  refine wpQuiet_nil ?_
  refine wpAnyJ_writer (i := 9) rfl (by kernel_rfl) (fun K' hK => ?_)
  go_simp
  refine HP.out.mono ?_
  rintro e w1 ⟨rfl, v', F, lF, hG, o1⟩
  have O1 := hide o1
  have HG := hide hG
  have J2 : Hid (Cel b 8 (.int .i64 k.head) w1 ∧ Cel b 4 (.int .i64 k.page) w1) := hide ⟨cell_of_heap (Own.boAt o1), cell_of_heap (Own.boAt o1)⟩
  refine hK _ _ J2.out ?_
  clear hK K' o1 hG HP
  refine stretch (fuel := 0) (by kernel_rfl) (fun _ _ _ _ _ h => h) J2.out [10] (by kernel_rfl) ?_
  simp only [List.filterMap_cons, List.filterMap_nil, List.getElem?_toArray, List.getElem?_cons_zero, List.getElem?_cons_succ]
  show wpQuiet _ _ _ _ [_] _
  repeat (go_big_quiet_step (fail))
  refine wpQuiet_nil ?_
  refine wpAnyJ_done (by kernel_rfl) ?_
  clear U8 U4 hne J1 J2
  cases ok with
  | true =>
    go_wp2
    go_ret
    exact ⟨rfl, v', F, lF, HG.out, O1.out⟩
  | false =>
    go_wp2_with fail
    refine (m_idle (lF.sep l0) O1.out).mono ?_
    rintro e w2 ⟨rfl, o2⟩
    have O3 := hide o2
    go_wp2
    go_ret
    exact ⟨rfl, v', F, lF, HG.out, O3.out⟩

set_option maxRecDepth 100000 in
set_option maxHeartbeats 2000000 in
/-- A step: what its text does, behind fresh. -/
theorem m_step {qb : Nat} {pb rb : Nat} {s : St} {pg : Nat} {ds : List Nat} {dn : Nat} {L : RL} {l : List Nat} (lR : Loc R) (h : Own (Sep (BO b (mObj k v)) (Sep (LogR v.log l) (Sep (MX qb k.P k.T pb rb s pg ds dn L) R))) w0 w) (hdn : v.done = false) (ok : Bool) (s' : St) (G : MV → Res → Prop)
    (hG : ∀ v' F, G v' F → v'.d0 = s'.kind ∧ v'.d1 = s'.place ∧ v'.d2 = s'.old ∧ v'.d3 = s'.new)
    (hp : ∀ (R0 : Res) (_ : Loc R0) (u : World), Own (Sep (BO b (mObj k { v.fresh with mem := .pointer (some ⟨qb, 0, none⟩) })) (Sep (LogR v.log l) (Sep (MX qb k.P k.T pb rb s pg ds dn L) R0))) w0 u → Calls Tryz.prog 56 #[.pointer (some ⟨b, 0, none⟩)] u fun e u' => e = .returned (.bool ok) ∧ ∃ v' F, Loc F ∧ G v' F ∧ Own (Sep (BO b (mObj k v')) (Sep F R0)) w0 u') :
    Calls Tryz.prog 23 #[.pointer (some ⟨b, 0, none⟩), .pointer (some ⟨qb, 0, none⟩)] w fun e w' => e = .returned s'.did ∧ ∃ v' F, Loc F ∧ G v' F ∧ Own (Sep (BO b (mObj k { v' with done := ok })) (Sep F R)) w0 w' := by
  have lM : Loc (Sep (LogR v.log l) (Sep (MX qb k.P k.T pb rb s pg ds dn L) R)) := Loc.logR.sep (Loc.mx.sep lR)
  obtain ⟨ZO, hZO⟩ : ∃ ZO, (Obj.cells #[.int .i64 0, .int .i64 0, .int .u64 0, .int .u64 0] 27 (0, 0)) = ZO := ⟨_, rfl⟩
  have lR0 : Loc (Sep (BO w.heap.size ZO) R) := Loc.bo.sep lR
  have O1 : Hid (Own (Sep (BO b (mObj k v)) (Sep (LogR v.log l) (Sep (MX qb k.P k.T pb rb s pg ds dn L) (Sep (BO w.heap.size ZO) R)))) w0 (w.alloc (.cells #[.int .i64 0, .int .i64 0, .int .u64 0, .int .u64 0] 27))) :=
    hide ((Own.boNew (m := w.heap.size) (o := ZO) (Loc.bo.sep lM) h (by rw [← hZO]; exact heap_alloc_at w _) (Nat.le_refl _) (grown1 w _)).cast (by ac_rfl))
  have HZO := hide hZO
  have HG := hide hG
  have HP := hide hp
  have HDN := hide hdn
  clear h hZO hG hp hdn
  go_enter Tryz.func23, Tryz.ntmps23
  go_upto_region 1 with fail
  generalize w.alloc (.cells #[.int .i64 0, .int .i64 0, .int .u64 0, .int .u64 0] 27) = w1 at *
  generalize w.heap.size = rb' at *
  have hb := Own.boAt O1.out
  have hq := O1.out.mhead (m := qb) (p := pb) (r := rb) (P := k.P) (T := k.T) (R := Sep (BO b (mObj k v)) (Sep (LogR v.log l) (Sep (S2 pb s) (Sep (RX rb pg ds dn L) (Sep (BO rb' ZO) R))))) (by unfold MX; ac_rfl)
  have c15 : w1.cell? ⟨b, 15, none⟩ = some (.bool false) := by have := HDN.out; rw [← this]; exact cell_of_heap hb
  have c1 : w1.cell? ⟨b, 1, none⟩ = some (.int .i64 k.P) := cell_of_heap hb
  have c2 : w1.cell? ⟨b, 2, none⟩ = some (.int .i64 k.T) := cell_of_heap hb
  have q2 : w1.cell? ⟨qb, 2, none⟩ = some (.int .i64 k.P) := cell_of_heap hq
  have q3 : w1.cell? ⟨qb, 3, none⟩ = some (.int .i64 k.T) := cell_of_heap hq
  clear hb hq
  go_quiet (fail)
  have O2 := hide (O1.out.below (Loc.bo.sep (Loc.logR.sep (Loc.mx.sep lR0))) ((Alike.drewN w1 nq).below _))
  clear O1 c15 c1 c2 q2 q3
  generalize w1.drewN nq = w2 at *
  go_wp2_with fail
  refine (m_fresh (Loc.logR.sep (Loc.mx.sep lR0)) O2.out).mono ?_
  rintro e w3 ⟨rfl, o3⟩
  have c18 : w3.cell? ⟨b, 18, none⟩ = some v.mem := cell_of_heap (Own.boAt o3)
  have f3 : ∀ o, w3.frozen? ⟨b, o, none⟩ = false := fun o => frozen_of_heap (Own.boAt o3)
  have O4 : Hid (Own (Sep (BO b (mObj k { v.fresh with mem := .pointer (some ⟨qb, 0, none⟩) })) (Sep (LogR v.log l) (Sep (MX qb k.P k.T pb rb s pg ds dn L) (Sep (BO rb' ZO) R)))) w0 (w3.setCell ⟨b, 18, none⟩ (.pointer (some ⟨qb, 0, none⟩)))) := hide (Own.boSet (Loc.logR.sep (Loc.mx.sep lR0)) o3 18 (.pointer (some ⟨qb, 0, none⟩)))
  clear o3 O2
  go_wp2_with fail
  clear c18 f3
  generalize w3.setCell ⟨b, 18, none⟩ (.pointer (some ⟨qb, 0, none⟩)) = w4 at *
  refine (HP.out _ lR0 _ O4.out).mono ?_
  rintro e w5 ⟨rfl, v', F, lF, hg, o5⟩
  have HGG := hide hg
  have c15 : w5.cell? ⟨b, 15, none⟩ = some (.bool v'.done) := cell_of_heap (Own.boAt o5)
  have f5 : ∀ o, w5.frozen? ⟨b, o, none⟩ = false := fun o => frozen_of_heap (Own.boAt o5)
  have O6 : Hid (Own (Sep (BO b (mObj k { v' with done := ok })) (Sep F (Sep (BO rb' ZO) R))) w0 (w5.setCell ⟨b, 15, none⟩ (.bool ok))) := hide (Own.boSet (lF.sep lR0) o5 15 (.bool ok))
  clear o5 O4 HP hg
  have hD := HG.out v' F HGG.out
  have d0 : (w5.setCell ⟨b, 15, none⟩ (.bool ok)).cell? ⟨b, 19, none⟩ = some (.int .i64 s'.kind) := by rw [← hD.1]; exact cell_of_heap (Own.boAt O6.out)
  have d1 : (w5.setCell ⟨b, 15, none⟩ (.bool ok)).cell? ⟨b, 20, none⟩ = some (.int .i64 s'.place) := by rw [← hD.2.1]; exact cell_of_heap (Own.boAt O6.out)
  have d2 : (w5.setCell ⟨b, 15, none⟩ (.bool ok)).cell? ⟨b, 21, none⟩ = some (.int .u64 (s'.old : Int)) := by rw [← hD.2.2.1]; exact cell_of_heap (Own.boAt O6.out)
  have d3 : (w5.setCell ⟨b, 15, none⟩ (.bool ok)).cell? ⟨b, 22, none⟩ = some (.int .u64 (s'.new : Int)) := by rw [← hD.2.2.2]; exact cell_of_heap (Own.boAt O6.out)
  have hR := O6.out.has (m := rb') (o := ZO) (R := Sep (BO b (mObj k { v' with done := ok })) (Sep F R)) (by ac_rfl)
  have hR' : (w5.setCell ⟨b, 15, none⟩ (.bool ok)).heap[rb']? = some (.cells #[.int .i64 0, .int .i64 0, .int .u64 0, .int .u64 0] 27 (0, 0)) := by rw [HZO.out]; exact hR
  have r0 : (w5.setCell ⟨b, 15, none⟩ (.bool ok)).cell? ⟨rb', 0, none⟩ = some (.int .i64 0) := cell_of_heap hR'
  have r1 : (w5.setCell ⟨b, 15, none⟩ (.bool ok)).cell? ⟨rb', 1, none⟩ = some (.int .i64 0) := cell_of_heap hR'
  have r2 : (w5.setCell ⟨b, 15, none⟩ (.bool ok)).cell? ⟨rb', 2, none⟩ = some (.int .u64 0) := cell_of_heap hR'
  have r3 : (w5.setCell ⟨b, 15, none⟩ (.bool ok)).cell? ⟨rb', 3, none⟩ = some (.int .u64 0) := cell_of_heap hR'
  have fr : ∀ o, (w5.setCell ⟨b, 15, none⟩ (.bool ok)).frozen? ⟨rb', o, none⟩ = false := fun o => frozen_of_heap hR'
  have O7 := hide (O6.out.cast (R' := Sep (BO rb' (.cells #[.int .i64 0, .int .i64 0, .int .u64 0, .int .u64 0] 27 (0, 0))) (Sep (BO b (mObj k { v' with done := ok })) (Sep F R))) (by rw [HZO.out]; ac_rfl))
  clear hR hR' hD
  go_wp2
  clear d0 d1 d2 d3 r0 r1 r2 r3 fr c15 f5
  refine Own.putDid (Q := bodyPost _ _ _ _ _) (Loc.bo.sep (lF.sep lR)) O7.out ?_
  intro W hW z0 z1 z2 z3
  refine bodyPost_ret (by simp [results, Tryz.results23, z0, z1, z2, z3, go_sem]; try rfl) rfl ?_
  exact ⟨rfl, v', F, lF, HGG.out, hW⟩
end
end Go.Proofs.YtgenkjmcddjaoaaGreat

namespace Go.Proofs.YtgenkjmcddjaoaaGreat
open Go Go.RowKit

theorem MV.atIs {v : MV} {c : Nat} (h : v.at_ = c) : ({ v with at_ := c } : MV) = v := by cases v; simp_all

section
variable {R : Res} {w0 w : World} {b : Nat} {k : MK} {v : MV} {l : List Nat} {qb : Nat} {pb rb : Nat} {s : St} {pg : Nat} {ds : List Nat} {dn : Nat} {L : RL}

/-- The same, at the lock's word. -/
theorem lock_old (lR : Loc R) (h : Own (Sep (BO b (mObj k v)) (Sep (LogR v.log l) (Sep (MX qb k.P k.T pb rb s pg ds dn L) R))) w0 w) (a : Nat) (ha : v.at_ = a) (hl : a < l.length) (hl2 : l.length < 4611686018427387904) (x : Nat) (hx : l.getD a 0 = x) (hz : x ≠ 0) (t : Nat) :
    Calls Tryz.prog 129 #[.pointer (some ⟨b, 0, none⟩), .int .i64 2, .int .u64 0, .int .u64 ((t : Int) + 1)] w fun e w' => e = .returned (.tuple #[.bool false, .bool true]) ∧ Own (Sep (BO b (mObj k { v with at_ := a + 1 })) (Sep (LogR v.log l) (Sep (MX qb k.P k.T pb rb s pg ds dn L) R))) w0 w' := by
  have := m_cas_old (P := k.P) (T := k.T) lR h a ha hl hl2 x hx 2 0 (t + 1)
  rw [decide_eq_false hz] at this
  exact this
theorem lock_no (lR : Loc R) (h : Own (Sep (BO b (mObj k v)) (Sep (LogR v.log l) (Sep (MX qb k.P k.T pb rb s pg ds dn L) R))) w0 w) (a : Nat) (ha : v.at_ = a) (hl : l.length ≤ a) (hu : v.used = true) (t : Nat) :
    Calls Tryz.prog 129 #[.pointer (some ⟨b, 0, none⟩), .int .i64 2, .int .u64 0, .int .u64 ((t : Int) + 1)] w fun e w' => e = .returned (.tuple #[.bool false, .bool false]) ∧ Own (Sep (BO b (mObj k v)) (Sep (LogR v.log l) (Sep (MX qb k.P k.T pb rb s pg ds dn L) R))) w0 w' :=
  m_cas_no lR h a ha hl hu 2 0 (t + 1)
theorem lock_now (lR : Loc R) (h : Own (Sep (BO b (mObj k v)) (Sep (LogR v.log l) (Sep (MX qb k.P k.T pb rb s pg ds dn L) R))) w0 w) (a : Nat) (ha : v.at_ = a) (hl : l.length ≤ a) (ha2 : a < 4611686018427387904) (hll : l.length < 1099511627776) (hu : v.used = false) (hm : v.mem = .pointer (some ⟨qb, 0, none⟩)) (hi : 2 < s.words.length) (t : Nat) (ht : t < 1000000) (z : Nat) (hz : s.words.getD 2 0 = z) (ok : Bool) (hok : decide (z = 0) = ok) (s' : St) (hs : s.cas 2 0 (t + 1) = s') :
    Calls Tryz.prog 129 #[.pointer (some ⟨b, 0, none⟩), .int .i64 2, .int .u64 0, .int .u64 ((t : Int) + 1)] w fun e w' => e = .returned (.tuple #[.bool ok, .bool true]) ∧ ∃ lv, Own (Sep (BO b (mObj k (({ v with used := true } : MV).told lv s'))) (Sep (LogR lv (l ++ [z])) (Sep (MX qb k.P k.T pb rb s' pg ds dn L) R))) w0 w' := by
  have := m_cas_now lR h a ha hl ha2 hll hu hm 2 hi 0 (t + 1) (by omega) z hz s' hs
  rw [hok] at this
  exact this

set_option maxRecDepth 100000 in
set_option maxHeartbeats 8000000 in
/-- A take's text: what was told were words that somebody had; one more attempt is done now. -/
theorem rtake (lR : Loc R) (h : Own (Sep (BO b (mObj k v)) (Sep (LogR v.log l) (Sep (MX qb k.P k.T pb rb s pg ds dn L) R))) w0 w) (hat : v.at_ = 0) (hu : v.used = false) (hm : v.mem = .pointer (some ⟨qb, 0, none⟩)) (hA : ∀ x ∈ l, x ≠ 0) (hAl : l.length < 1000000) (hi : 2 < s.words.length) (t : Nat) (ht : t < 1000) (z : Nat) (hz : s.words.getD 2 0 = z) (ok : Bool) (hok : decide (z = 0) = ok) (s' : St) (hs : s.cas 2 0 (t + 1) = s') :
    Calls Tryz.prog 83 #[.pointer (some ⟨b, 0, none⟩), .int .i64 (t : Int)] w fun e w' => e = .returned (.bool ok) ∧ ∃ lv v', Left v v' lv s' ∧ Own (Sep (BO b (mObj k v')) (Sep (LogR lv (l ++ [z])) (Sep (MX qb k.P k.T pb rb s' pg ds dn L) R))) w0 w' := by
  have HA := hide hA
  have HO := hide h
  have HM := hide hm
  have HU := hide hu
  have HZ := hide hz
  have HOK := hide hok
  have HS := hide hs
  have HI := hide hi
  obtain ⟨m, hml⟩ : ∃ m, l.length = m := ⟨_, rfl⟩
  have HML := hide hml
  have hm1 : m < 1000000 := by omega
  have HAT := hide (MV.atIs hat)
  clear h hA hm hu hat hz hok hs hi hAl hml
  go_enter Tryz.func83, Tryz.ntmps83
  go_wp2
  go_loopg [4] (m + 1) (fun g r4 wr => (∃ c : Nat, c ≤ m ∧ g = m + 1 - c ∧ Hid (Own (Sep (BO b (mObj k { v with at_ := c })) (Sep (LogR v.log l) (Sep (MX qb k.P k.T pb rb s pg ds dn L) R))) w0 wr)) ∨ (g = 0 ∧ ok = false ∧ Hid (∃ lv v', Left v v' lv s' ∧ v'.used = true ∧ v'.at_ = m + 1 ∧ Own (Sep (BO b (mObj k v')) (Sep (LogR lv (l ++ [z])) (Sep (MX qb k.P k.T pb rb s' pg ds dn L) R))) w0 wr)))
  case atStart => exact .inl ⟨0, by omega, by omega, by rw [HAT.out]; exact HO.out⟩
  case round =>
    rcases hrel with ⟨c, hc, rfl, hH⟩ | ⟨rfl, rfl, hH⟩
    · by_cases hlt : c < m
      · have hcA : c < l.length := by rw [HML.out]; exact hlt
        have hx0 : l.getD c 0 ≠ 0 := by rw [List.getD_eq_getElem?_getD, List.getElem?_eq_getElem hcA]; exact HA.out _ (List.getElem_mem hcA)
        have HC := hide (lock_old lR hH.out c rfl hcA (by rw [HML.out]; omega) _ rfl hx0 t)
        clear hx0 hcA hH
        go_wp2_with fail
        refine HC.out.mono ?_
        rintro e w1 ⟨rfl, o1⟩
        have O1 : Hid (Own (Sep (BO b (mObj k { v with at_ := c + 1 })) (Sep (LogR v.log l) (Sep (MX qb k.P k.T pb rb s pg ds dn L) R))) w0 w1) := hide o1
        clear o1 HC
        go_wp2
        go_roundg (m + 1 - (c + 1))
        case measure => omega
        case rel => exact .inl ⟨c + 1, by omega, rfl, O1.out⟩
      · have hcm : c = m := by omega
        subst hcm
        have HC := hide (lock_now lR hH.out c rfl (by rw [HML.out]; omega) (by omega) (by rw [HML.out]; omega) HU.out HM.out HI.out t (by omega) z HZ.out ok HOK.out s' HS.out)
        clear hH
        go_wp2_with fail
        refine HC.out.mono ?_
        rintro e w1 ⟨rfl, lv, o1⟩
        have O1 := hide o1
        clear o1 HC
        cases ok with
        | true =>
          go_wp2
          go_ret
          refine ⟨rfl, lv, _, ?_, O1.out⟩
          exact ⟨rfl, rfl, rfl, rfl, rfl, rfl⟩
        | false =>
          go_wp2
          go_roundg 0
          case measure => omega
          case rel =>
            refine .inr ⟨by trivial, by trivial, ⟨lv, _, ?_, ?_, ?_, O1.out⟩⟩
            · exact ⟨rfl, rfl, rfl, rfl, rfl, rfl⟩
            · rfl
            · rfl
    · have hlen : (l ++ [z]).length = m + 1 := by rw [List.length_append, HML.out]; rfl
      obtain ⟨lv, v', hL, hu', ha', o'⟩ := hH.out
      have O' : Hid (Own (Sep (BO b (mObj k v')) (Sep (LogR v'.log (l ++ [z])) (Sep (MX qb k.P k.T pb rb s' pg ds dn L) R))) w0 wr) := hide (by rw [hL.log]; exact o')
      have HC := hide (lock_no lR O'.out (m + 1) ha' (by rw [hlen]; omega) hu' t)
      have HL := hide hL
      clear hL hu' ha' o' hH hlen
      go_wp2_with fail
      refine HC.out.mono ?_
      rintro e w1 ⟨rfl, o1⟩
      have O1 := hide o1
      clear o1 HC O'
      go_wp2
      go_ret
      exact ⟨rfl, lv, v', HL.out, by rw [← HL.out.log]; exact O1.out⟩
end

section
variable {R : Res} {w0 w : World} {b : Nat} {k : MK} {v : MV}

set_option maxRecDepth 100000 in
set_option maxHeartbeats 1000000 in
theorem body_take (_lR : Loc R) (h : Own (Sep (BO b (mObj k v)) R) w0 w) (hwh : k.what = 3) (t : Int) (ht : k.thread = t) (ok : Bool) (G : MV → Res → Prop) (R0 : Res) (l0 : Loc R0)
    (hp : ∀ u, Own (Sep (BO b (mObj k v)) R) w0 u → Calls Tryz.prog 83 #[.pointer (some ⟨b, 0, none⟩), .int .i64 t] u fun e u' => e = .returned (.bool ok) ∧ ∃ v' F, Loc F ∧ G v' F ∧ Own (Sep (BO b (mObj k v')) (Sep F R0)) w0 u') :
    Calls Tryz.prog 56 #[.pointer (some ⟨b, 0, none⟩)] w fun e w' => e = .returned (.bool ok) ∧ ∃ v' F, Loc F ∧ G v' F ∧ Own (Sep (BO b (mObj k (if ok = true then v' else { v' with got := -1, code := 2, live := .slice none 0 0 }))) (Sep F R0)) w0 w' := by
  have hb := Own.boAt h
  have c0 : w.cell? ⟨b, 0, none⟩ = some (.int .i64 3) := by rw [← hwh]; exact cell_of_heap hb
  have c3 : w.cell? ⟨b, 3, none⟩ = some (.int .i64 t) := by rw [← ht]; exact cell_of_heap hb
  have HP := hide (hp _ h)
  clear h hb hp hwh ht
  go_enter Tryz.func56, Tryz.ntmps56
  go_wp2_with fail
  refine HP.out.mono ?_
  rintro e w1 ⟨rfl, v', F, lF, hG, o1⟩
  have O1 := hide o1
  have HG := hide hG
  clear o1 hG HP c0 c3
  cases ok with
  | true =>
    go_wp2
    go_ret
    exact ⟨rfl, v', F, lF, HG.out, O1.out⟩
  | false =>
    go_wp2_with fail
    refine (m_idle (lF.sep l0) O1.out).mono ?_
    rintro e w2 ⟨rfl, o2⟩
    have O3 := hide o2
    go_wp2
    go_ret
    exact ⟨rfl, v', F, lF, HG.out, O3.out⟩

set_option maxRecDepth 100000 in
set_option maxHeartbeats 1000000 in
/-- A leave's text: one put. -/
theorem body_leave {l : List Nat} {qb pb rb : Nat} {s : St} {pg : Nat} {ds : List Nat} {dn : Nat} {L : RL} (lR : Loc R) (h : Own (Sep (BO b (mObj k v)) (Sep (LogR v.log l) (Sep (MX qb k.P k.T pb rb s pg ds dn L) R))) w0 w) (hwh : k.what = 4) (hat : v.at_ = 0) (hu : v.used = false) (hm : v.mem = .pointer (some ⟨qb, 0, none⟩)) (hl : l = []) (hi : 2 < s.words.length) (s' : St) (hs : s.put 2 0 = s') :
    Calls Tryz.prog 56 #[.pointer (some ⟨b, 0, none⟩)] w fun e w' => e = .returned (.bool true) ∧ ∃ lv v', Left v v' lv s' ∧ Own (Sep (BO b (mObj k v')) (Sep (LogR lv (l ++ [s.words.getD 2 0])) (Sep (MX qb k.P k.T pb rb s' pg ds dn L) R))) w0 w' := by
  subst hl
  have hb := Own.boAt h
  have c0 : w.cell? ⟨b, 0, none⟩ = some (.int .i64 4) := by rw [← hwh]; exact cell_of_heap hb
  have HP : Hid (Calls Tryz.prog 84 #[.pointer (some ⟨b, 0, none⟩), .int .i64 2, .int .u64 0] w fun e w' => e = .returned (.tuple #[.int .u64 (s.words.getD 2 0 : Nat), .bool true]) ∧ ∃ lv, Own (Sep (BO b (mObj k (({ v with used := true } : MV).told lv s'))) (Sep (LogR lv ([] ++ [s.words.getD 2 0])) (Sep (MX qb k.P k.T pb rb s' pg ds dn L) R))) w0 w') :=
    hide (m_put_now lR h 0 hat (Nat.le_refl _) (by omega) (by simp) hu hm 2 hi 0 (by omega) _ rfl s' hs)
  generalize s.words.getD 2 0 = z at *
  clear h hb hwh hat hu hm hi hs
  go_enter Tryz.func56, Tryz.ntmps56
  go_wp2_with fail
  refine HP.out.mono ?_
  rintro e w1 ⟨rfl, lv, o1⟩
  have O1 := hide o1
  clear o1 HP c0
  go_wp2
  go_ret
  exact ⟨rfl, lv, (({ v with used := true } : MV).told lv s'), ⟨rfl, rfl, rfl, rfl, rfl, rfl⟩, O1.out⟩
end
end Go.Proofs.YtgenkjmcddjaoaaGreat

namespace Go.Proofs.YtgenkjmcddjaoaaGreat
open Go Go.RowKit

section
variable {R : Res} {w0 w : World} {b : Nat} {k : MK} {v : MV} {l : List Nat} {qb : Nat} {pb rb : Nat} {s : St} {pg : Nat} {ds : List Nat} {dn : Nat} {L : RL}

theorem rstepTake (lR : Loc R) (t : Nat) (ht : t < 1000) (hth : k.thread = (t : Int)) (hwh : k.what = 3) (h : Own (Sep (BO b (mObj k v)) (Sep (LogR v.log l) (Sep (MX qb k.P k.T pb rb s pg ds dn L) R))) w0 w) (hdn : v.done = false) (hA : ∀ x ∈ l, x ≠ 0) (hll : l.length < 1000000) (hi : 2 < s.words.length) (ok : Bool) (hok : decide (s.words.getD 2 0 = 0) = ok) :
    Calls Tryz.prog 23 #[.pointer (some ⟨b, 0, none⟩), .pointer (some ⟨qb, 0, none⟩)] w fun e w' => e = .returned (s.cas 2 0 (t + 1)).did ∧ ∃ v' l', v'.done = ok ∧ (ok = false → ∀ x ∈ l', x ≠ 0) ∧ l'.length = l.length + 1 ∧ Own (Sep (BO b (mObj k v')) (Sep (LogR v'.log l') (Sep (MX qb k.P k.T pb rb (s.cas 2 0 (t + 1)) pg ds dn L) R))) w0 w' := by
  obtain ⟨s', hs⟩ : ∃ s', s.cas 2 0 (t + 1) = s' := ⟨_, rfl⟩
  obtain ⟨z, hz⟩ : ∃ z, s.words.getD 2 0 = z := ⟨_, rfl⟩
  rw [hz] at hok
  rw [hs]
  refine (m_step lR h hdn ok s' (fun v' F => (v'.d0 = s'.kind ∧ v'.d1 = s'.place ∧ v'.d2 = s'.old ∧ v'.d3 = s'.new) ∧ F = Sep (LogR v'.log (l ++ [z])) (MX qb k.P k.T pb rb s' pg ds dn L)) (fun v' F hh => hh.1) (fun R0 l0 u hu => ?_)).mono ?_
  · refine (body_take (Loc.logR.sep (Loc.mx.sep l0)) hu hwh t hth ok (fun v' F => (v'.d0 = s'.kind ∧ v'.d1 = s'.place ∧ v'.d2 = s'.old ∧ v'.d3 = s'.new) ∧ F = Sep (LogR v'.log (l ++ [z])) (MX qb k.P k.T pb rb s' pg ds dn L)) R0 l0 (fun u1 hu1 => ?_)).mono ?_
    · refine (rtake l0 hu1 rfl rfl rfl hA hll hi t ht z hz ok hok s' hs).mono ?_
      rintro e u' ⟨he, lv, v', hL, ho⟩
      exact ⟨he, v', _, Loc.logR.sep Loc.mx, ⟨⟨hL.d0, hL.d1, hL.d2, hL.d3⟩, rfl⟩, ho.cast (by rw [hL.log]; ac_rfl)⟩
    · rintro e u' ⟨he, v', F, lF, ⟨hd, hF⟩, ho⟩
      refine ⟨he, _, F, lF, ⟨?_, ?_⟩, ho⟩
      · cases ok <;> exact hd
      · rw [hF]; cases ok <;> rfl
  · rintro e w' ⟨he, v', F, lF, ⟨hd, hF⟩, ho⟩
    refine ⟨he, { v' with done := ok }, l ++ [z], rfl, fun hk x hx => ?_, by simp, ?_⟩
    · rcases List.mem_append.1 hx with hx | hx
      · exact hA x hx
      · rw [List.mem_singleton] at hx
        subst hx
        rw [hk] at hok
        simpa using hok
    · rw [hF] at ho
      exact ho.cast (by ac_rfl)

theorem rstepLeave (lR : Loc R) (hwh : k.what = 4) (h : Own (Sep (BO b (mObj k v)) (Sep (LogR v.log l) (Sep (MX qb k.P k.T pb rb s pg ds dn L) R))) w0 w) (hdn : v.done = false) (hl : l = []) (hi : 2 < s.words.length) :
    Calls Tryz.prog 23 #[.pointer (some ⟨b, 0, none⟩), .pointer (some ⟨qb, 0, none⟩)] w fun e w' => e = .returned (s.put 2 0).did ∧ ∃ v' l', v'.done = true ∧ Own (Sep (BO b (mObj k v')) (Sep (LogR v'.log l') (Sep (MX qb k.P k.T pb rb (s.put 2 0) pg ds dn L) R))) w0 w' := by
  obtain ⟨s', hs⟩ : ∃ s', s.put 2 0 = s' := ⟨_, rfl⟩
  obtain ⟨z, hz⟩ : ∃ z, s.words.getD 2 0 = z := ⟨_, rfl⟩
  rw [hs]
  refine (m_step lR h hdn true s' (fun v' F => (v'.d0 = s'.kind ∧ v'.d1 = s'.place ∧ v'.d2 = s'.old ∧ v'.d3 = s'.new) ∧ F = Sep (LogR v'.log (l ++ [z])) (MX qb k.P k.T pb rb s' pg ds dn L)) (fun v' F hh => hh.1) (fun R0 l0 u hu => ?_)).mono ?_
  · have := body_leave l0 hu hwh rfl rfl rfl hl hi s' hs
    rw [hz] at this
    refine this.mono ?_
    rintro e u' ⟨he, lv, v', hL, ho⟩
    exact ⟨he, v', _, Loc.logR.sep Loc.mx, ⟨⟨hL.d0, hL.d1, hL.d2, hL.d3⟩, rfl⟩, ho.cast (by rw [hL.log]; ac_rfl)⟩
  · rintro e w' ⟨he, v', F, lF, ⟨hd, hF⟩, ho⟩
    rw [hF] at ho
    exact ⟨he, { v' with done := true }, l ++ [z], rfl, ho.cast (by ac_rfl)⟩
end
end Go.Proofs.YtgenkjmcddjaoaaGreat

namespace Go.Proofs.YtgenkjmcddjaoaaGreat
open Go Go.RowKit

section
variable {R : Res} {w0 w : World} {k : MK} {v : MV}
set_option maxRecDepth 100000 in
set_option maxHeartbeats 1000000 in
theorem m_new (lR : Loc R) (h : Own R w0 w) :
    Calls Tryz.prog 18 #[.agg (mCells k v)] w fun e w' => ∃ b, e = .returned (.pointer (some ⟨b, 0, none⟩)) ∧ Own (Sep (BO b (mObj k v.fresh)) R) w0 w' := by
  have O1 : Hid (Own (Sep (BO w.heap.size (mObj k v)) R) w0 (w.alloc (mObj k v))) := hide (Own.boNew lR h (heap_alloc_at w _) (Nat.le_refl _) (grown1 w _))
  clear h
  go_enter Tryz.func18, Tryz.ntmps18
  go_wp2_with fail
  refine (m_fresh lR O1.out).mono ?_
  rintro e w1 ⟨rfl, o1⟩
  have O2 := hide o1
  clear O1 o1
  go_wp2
  go_ret
  exact ⟨_, rfl, O2.out⟩
end
end Go.Proofs.YtgenkjmcddjaoaaGreat

namespace Go.Proofs.YtgenkjmcddjaoaaGreat
open Go.ChangeShapes Go.WideShapes Go.ChangeAt Go.RowKit Go.Deep

theorem laidOut : laidOutB Tryz.prog = true := by kernel_rfl
theorem cellsU8 : Tryz.prog.cellsOf 5 = 1 := by kernel_rfl

theorem add_at (b o k : Nat) : (⟨b, o, none⟩ : Addr).add k = ⟨b, o + k, none⟩ := by
  by_cases h : k = 0
  · subst h; simp [Addr.add]
  · simp [Addr.add, h]

/-- The place k of such a list. -/
structure ByteAt (w : World) (b o k x : Nat) : Prop where
  cell : w.cell? ⟨b, o + k, none⟩ = some (.int .u8 (x : Int))
  lt : b < w.heap.size
  hx : x < 256

theorem ByteAt.kept {w w' : World} {b o k x : Nat} {B : Nat} (h : ByteAt w b o k x) (hb : Below B w w') (hB : b < B) : ByteAt w' b o k x :=
  ⟨(hb.cell (p := ⟨b, _, none⟩) hB).trans h.cell, Nat.lt_of_lt_of_le h.lt hb.size, h.hx⟩

def BytesIn (w : World) (ao : Option Addr) (len : Nat) : Prop := ∀ k, k < len → ∃ b o x, ao = some ⟨b, o, none⟩ ∧ ByteAt w b o k x

set_option maxRecDepth 100000 in
theorem open_bytes {H : Type} {enc : TypeId × Value → H} {W : World} {v : Value} {d : DataW H} {ps : List MemPlace} {base : Nat} (hv : Value.okWide Tryz.prog W .any base 22 v)
    (h : DataW.Trod enc Tryz.prog W 0 (fun _ => true) true 22 v d ps) : ∃ ao len cap, v = .slice ao len cap ∧ len ≤ cap ∧ cap ≤ maxLen ∧ BytesIn W ao len := by
  obtain ⟨a0, len0, cap0, rfl⟩ := okWide_slice Tryz.underlying22 hv
  obtain ⟨fuel, h⟩ := h
  rw [show (Value.slice a0 len0 cap0).cells.toList = [.slice a0 len0 cap0] from rfl] at h
  rcases open_slice Tryz.underlying22 h with ⟨hc, _⟩ | ⟨a, len, cap, m, n, D, Pl, hc, _, hl, hm, hmm, _, hx⟩
  · simp only [List.cons.injEq, and_true, Value.slice.injEq] at hc
    obtain ⟨rfl, rfl, rfl⟩ := hc
    exact ⟨none, 0, 0, rfl, Nat.le_refl _, Nat.zero_le _, fun k hk => by omega⟩
  · simp only [List.cons.injEq, and_true, Value.slice.injEq] at hc
    obtain ⟨rfl, rfl, rfl⟩ := hc
    simp only [if_true] at hmm
    subst hmm
    refine ⟨some a, len0, m, rfl, hl, hm, fun k hk => ?_⟩
    rw [cellsU8] at hx
    have hspot : a.spot = none := by
      obtain ⟨cs', h1, h2⟩ := hx 0 (by omega)
      obtain ⟨_, hlen, hcell⟩ := World.cells?_some h1
      have h0 := hcell 0 (by omega)
      rw [List.getElem?_eq_getElem (by omega)] at h0
      simpa [Addr.add] using World.cell?_spot h0
    obtain ⟨b, o, sp⟩ := a
    simp only at hspot
    subst hspot
    obtain ⟨cs', h1, h2⟩ := hx k (by omega)
    obtain ⟨_, hlen, hcell⟩ := World.cells?_some h1
    match cs', hlen with
    | [v0], _ =>
      obtain ⟨n0, e0, _, w0⟩ := DataW.trod_int Tryz.underlying5 h2
      simp only [List.cons.injEq, and_true] at e0
      subst e0
      obtain ⟨x0, hx0, rfl⟩ := u8_nat w0
      have a0 := hcell 0 (by omega)
      rw [add_at, add_at] at a0
      simp only [Nat.mul_one, Nat.add_zero, List.getElem?_cons_zero] at a0
      exact ⟨b, o, x0, rfl, a0, World.block_lt_of_cell? W _ a0, hx0⟩

end Go.Proofs.YtgenkjmcddjaoaaGreat

namespace Go.Proofs.YtgenkjmcddjaoaaGreat
open Go.RowKit

set_option maxHeartbeats 1000000 in
theorem plSetup20 (p t : Nat) (hp : p < 256) (ht : t < 256) (w : World) :
    Calls Tryz.prog 14 #[.int .u8 (p : Int), .int .u8 (t : Int), .int .i64 20, .slice none 0 0] w fun e w' => e = .returned (.agg #[.int .i64 ((p % 20 + 1 : Nat) : Int), .int .i64 ((t % 6 + 1 : Nat) : Int), .slice none 0 0]) ∧ Below w.heap.size w w' := by
  obtain ⟨x, hx⟩ : ∃ x : Nat, p % 20 + 1 = x := ⟨_, rfl⟩
  obtain ⟨y, hy⟩ : ∃ y : Nat, t % 6 + 1 = y := ⟨_, rfl⟩
  have ex : 1 + (p : Int) % 20 = (x : Int) := by omega
  have ey : 1 + (t : Int) % 6 = (y : Int) := by omega
  have x1 : 1 ≤ x ∧ x ≤ 20 := by omega
  have y1 : 1 ≤ y ∧ y ≤ 6 := by omega
  rw [hx, hy]
  clear hx hy
  have h1 := heap_alloc_at w (.cells #[.int .i64 0, .int .i64 0, .slice none 0 0] 48)
  have h2 := heap_alloc_old (o := .cells #[.int .i64 x, .int .i64 y, .slice none 0 0] 48) h1
  have h3 := heap_alloc_at (w.alloc (.cells #[.int .i64 0, .int .i64 0, .slice none 0 0] 48)) (.cells #[.int .i64 x, .int .i64 y, .slice none 0 0] 48)
  have hz : (w.alloc (.cells #[.int .i64 0, .int .i64 0, .slice none 0 0] 48)).heap.size = w.heap.size + 1 := by simp
  rw [hz] at h3
  have HB := hide ((grown1 w (.cells #[.int .i64 0, .int .i64 0, .slice none 0 0] 48)).trans ((grown1 (w.alloc (.cells #[.int .i64 0, .int .i64 0, .slice none 0 0] 48)) (.cells #[.int .i64 x, .int .i64 y, .slice none 0 0] 48)).mono (by simp)))
  have H2 := hide h2
  have H3 := hide h3
  clear h1 h2 h3 hz
  go_enter Tryz.func14, Tryz.ntmps14
  go_wp2
  generalize (w.alloc (.cells #[.int .i64 0, .int .i64 0, .slice none 0 0] 48)).alloc (.cells #[.int .i64 x, .int .i64 y, .slice none 0 0] 48) = w2 at *
  generalize hb : w.heap.size = b at *
  have HBB := hide hb
  clear hb
  go_loopw [10] (fun i wr => i = .int .i64 0 ∧ wr = w2) (fun _ _ => 0)
  case atStart => exact ⟨rfl, rfl⟩
  case round =>
    obtain ⟨rfl, rfl⟩ := hrel
    have c0 : wr.cell? ⟨b + 1, 0, none⟩ = some (.int .i64 x) := cell_of_heap H3.out
    have c1 : wr.cell? ⟨b + 1, 1, none⟩ = some (.int .i64 y) := cell_of_heap H3.out
    have c2 : wr.cell? ⟨b + 1, 2, none⟩ = some (.slice none 0 0) := cell_of_heap H3.out
    have r0 : wr.cell? ⟨b, 0, none⟩ = some (.int .i64 0) := cell_of_heap H2.out
    have r1 : wr.cell? ⟨b, 1, none⟩ = some (.int .i64 0) := cell_of_heap H2.out
    have r2 : wr.cell? ⟨b, 2, none⟩ = some (.slice none 0 0) := cell_of_heap H2.out
    have fr : ∀ o, wr.frozen? ⟨b, o, none⟩ = false := fun o => frozen_of_heap H2.out
    have e4 := heap_setCell_at (o := 2) (heap_setCell_at (o := 1) (heap_setCell_at (o := 0) H2.out (.int .i64 x)) (.int .i64 y)) (.slice none 0 0)
    have hl := Nat.le_refl b
    have H4 := hide e4
    have HB4 : Hid (Below b w (((wr.setCell ⟨b, 0, none⟩ (.int .i64 x)).setCell ⟨b, 1, none⟩ (.int .i64 y)).setCell ⟨b, 2, none⟩ (.slice none 0 0))) := hide (((HB.out.setCell (p := ⟨b, 0, none⟩) hl _).setCell (p := ⟨b, 1, none⟩) hl _).setCell (p := ⟨b, 2, none⟩) hl _)
    clear e4 hl
    go_wp2
    clear r0 r1 r2 fr c0 c1 c2 H2 H3 HB
    generalize ((wr.setCell ⟨b, 0, none⟩ (.int .i64 x)).setCell ⟨b, 1, none⟩ (.int .i64 y)).setCell ⟨b, 2, none⟩ (.slice none 0 0) = w4 at *
    have z0 : w4.cell? ⟨b, 0, none⟩ = some (.int .i64 x) := cell_of_heap H4.out
    have z1 : w4.cell? ⟨b, 1, none⟩ = some (.int .i64 y) := cell_of_heap H4.out
    have z2 : w4.cell? ⟨b, 2, none⟩ = some (.slice none 0 0) := cell_of_heap H4.out
    refine bodyPost_ret (by simp [results, Tryz.results14, z0, z1, z2, go_sem]; try rfl) rfl ?_
    exact ⟨rfl, by rw [HBB.out]; exact HB4.out⟩

set_option maxHeartbeats 1000000 in
theorem plSetup60 (p t : Nat) (hp : p < 256) (ht : t < 256) (w : World) :
    Calls Tryz.prog 14 #[.int .u8 (p : Int), .int .u8 (t : Int), .int .i64 60, .slice none 0 0] w fun e w' => e = .returned (.agg #[.int .i64 ((p % 60 + 1 : Nat) : Int), .int .i64 ((t % 6 + 1 : Nat) : Int), .slice none 0 0]) ∧ Below w.heap.size w w' := by
  obtain ⟨x, hx⟩ : ∃ x : Nat, p % 60 + 1 = x := ⟨_, rfl⟩
  obtain ⟨y, hy⟩ : ∃ y : Nat, t % 6 + 1 = y := ⟨_, rfl⟩
  have ex : 1 + (p : Int) % 60 = (x : Int) := by omega
  have ey : 1 + (t : Int) % 6 = (y : Int) := by omega
  have x1 : 1 ≤ x ∧ x ≤ 60 := by omega
  have y1 : 1 ≤ y ∧ y ≤ 6 := by omega
  rw [hx, hy]
  clear hx hy
  have h1 := heap_alloc_at w (.cells #[.int .i64 0, .int .i64 0, .slice none 0 0] 48)
  have h2 := heap_alloc_old (o := .cells #[.int .i64 x, .int .i64 y, .slice none 0 0] 48) h1
  have h3 := heap_alloc_at (w.alloc (.cells #[.int .i64 0, .int .i64 0, .slice none 0 0] 48)) (.cells #[.int .i64 x, .int .i64 y, .slice none 0 0] 48)
  have hz : (w.alloc (.cells #[.int .i64 0, .int .i64 0, .slice none 0 0] 48)).heap.size = w.heap.size + 1 := by simp
  rw [hz] at h3
  have HB := hide ((grown1 w (.cells #[.int .i64 0, .int .i64 0, .slice none 0 0] 48)).trans ((grown1 (w.alloc (.cells #[.int .i64 0, .int .i64 0, .slice none 0 0] 48)) (.cells #[.int .i64 x, .int .i64 y, .slice none 0 0] 48)).mono (by simp)))
  have H2 := hide h2
  have H3 := hide h3
  clear h1 h2 h3 hz
  go_enter Tryz.func14, Tryz.ntmps14
  go_wp2
  generalize (w.alloc (.cells #[.int .i64 0, .int .i64 0, .slice none 0 0] 48)).alloc (.cells #[.int .i64 x, .int .i64 y, .slice none 0 0] 48) = w2 at *
  generalize hb : w.heap.size = b at *
  have HBB := hide hb
  clear hb
  go_loopw [10] (fun i wr => i = .int .i64 0 ∧ wr = w2) (fun _ _ => 0)
  case atStart => exact ⟨rfl, rfl⟩
  case round =>
    obtain ⟨rfl, rfl⟩ := hrel
    have c0 : wr.cell? ⟨b + 1, 0, none⟩ = some (.int .i64 x) := cell_of_heap H3.out
    have c1 : wr.cell? ⟨b + 1, 1, none⟩ = some (.int .i64 y) := cell_of_heap H3.out
    have c2 : wr.cell? ⟨b + 1, 2, none⟩ = some (.slice none 0 0) := cell_of_heap H3.out
    have r0 : wr.cell? ⟨b, 0, none⟩ = some (.int .i64 0) := cell_of_heap H2.out
    have r1 : wr.cell? ⟨b, 1, none⟩ = some (.int .i64 0) := cell_of_heap H2.out
    have r2 : wr.cell? ⟨b, 2, none⟩ = some (.slice none 0 0) := cell_of_heap H2.out
    have fr : ∀ o, wr.frozen? ⟨b, o, none⟩ = false := fun o => frozen_of_heap H2.out
    have e4 := heap_setCell_at (o := 2) (heap_setCell_at (o := 1) (heap_setCell_at (o := 0) H2.out (.int .i64 x)) (.int .i64 y)) (.slice none 0 0)
    have hl := Nat.le_refl b
    have H4 := hide e4
    have HB4 : Hid (Below b w (((wr.setCell ⟨b, 0, none⟩ (.int .i64 x)).setCell ⟨b, 1, none⟩ (.int .i64 y)).setCell ⟨b, 2, none⟩ (.slice none 0 0))) := hide (((HB.out.setCell (p := ⟨b, 0, none⟩) hl _).setCell (p := ⟨b, 1, none⟩) hl _).setCell (p := ⟨b, 2, none⟩) hl _)
    clear e4 hl
    go_wp2
    clear r0 r1 r2 fr c0 c1 c2 H2 H3 HB
    generalize ((wr.setCell ⟨b, 0, none⟩ (.int .i64 x)).setCell ⟨b, 1, none⟩ (.int .i64 y)).setCell ⟨b, 2, none⟩ (.slice none 0 0) = w4 at *
    have z0 : w4.cell? ⟨b, 0, none⟩ = some (.int .i64 x) := cell_of_heap H4.out
    have z1 : w4.cell? ⟨b, 1, none⟩ = some (.int .i64 y) := cell_of_heap H4.out
    have z2 : w4.cell? ⟨b, 2, none⟩ = some (.slice none 0 0) := cell_of_heap H4.out
    refine bodyPost_ret (by simp [results, Tryz.results14, z0, z1, z2, go_sem]; try rfl) rfl ?_
    exact ⟨rfl, by rw [HBB.out]; exact HB4.out⟩

theorem plWho (w : World) (ao : Option Addr) (len cap : Nat) (hB : BytesIn w ao len) (i n : Nat) (hi : i < 1000000) (hn : 1 ≤ n) (hn2 : n ≤ 64) :
    Calls Tryz.prog 7 #[.slice ao len cap, .int .i64 (i : Int), .int .i64 (n : Int)] w fun e w' => (∃ t : Nat, t < n ∧ e = .returned (.int .i64 (t : Int))) ∧ w' = w := by
  by_cases h : i < len
  · obtain ⟨b, o, x, rfl, hc⟩ := hB i h
    have c := hc.cell
    have hx := hc.hx
    have hm : x % n < n := Nat.mod_lt _ (by omega)
    have e1 : ((x % n : Nat) : Int) = (x : Int) % (n : Int) := by simp
    clear hB hc
    go_enter Tryz.func7, Tryz.ntmps7
    go_wp2
    go_ret
    exact ⟨⟨x % n, hm, by rw [e1]; rfl⟩, rfl⟩
  · clear hB
    have hm : i % n < n := Nat.mod_lt _ (by omega)
    have e1 : ((i % n : Nat) : Int) = (i : Int) % (n : Int) := by simp
    go_enter Tryz.func7, Tryz.ntmps7
    go_wp2
    go_ret
    exact ⟨⟨i % n, hm, by rw [e1]; rfl⟩, rfl⟩
end Go.Proofs.YtgenkjmcddjaoaaGreat

namespace Go.Proofs.YtgenkjmcddjaoaaGreat
open Go.RowKit

theorem Own.xcell {x pg : Nat} {ds : List Nat} {dn : Nat} {L : RL} {R R' : Res} {w0 w : World} (h : Own R' w0 w) (e : R' = Sep (RX x pg ds dn L) R) : CellIs x 3 (.int .i64 (dn : Int)) w := by
  subst e
  obtain ⟨_, ⟨_, _, ⟨gf, vt, a, c, fb, h1, _, _⟩, _⟩, _⟩ := h
  exact cell_of_heap h1.head
theorem Own.runsV {v : Value} {l : List (Int × Int)} {R R' : Res} {w0 w : World} (h : Own R' w0 w) (e : R' = Sep (RV v l) R) : RunsV w v l := by
  subst e
  obtain ⟨_, ⟨_, _, ⟨h1, _⟩, _⟩, _⟩ := h
  exact h1
theorem Own.nodesV {v : Value} {l : List (Int × Nat)} {R R' : Res} {w0 w : World} (h : Own R' w0 w) (e : R' = Sep (NV v l) R) : NodesV w v l := by
  subst e
  obtain ⟨_, ⟨_, _, ⟨h1, _⟩, _⟩, _⟩ := h
  exact h1

end Go.Proofs.YtgenkjmcddjaoaaGreat

namespace Go.Proofs.YtgenkjmcddjaoaaGreat
open Go.RowKit

set_option maxHeartbeats 4000000 in
set_option maxRecDepth 100000 in
theorem plArenas {R : Res} {w0 w : World} (lR : Loc R) (h : Own R w0 w) (pg : Nat) (T : Int) (hm : Lay.may pg T = true) :
    Calls Tryz.prog 15 #[.agg #[.int .i64 (pg : Int), .int .i64 T, .slice none 0 0]] w fun e w' => ∃ q p r a p' r', e = .returned (.tuple #[.pointer (some ⟨q, 0, none⟩), .pointer (some ⟨a, 0, none⟩)]) ∧
      Own (Sep (AX q (pg : Int) T p r (St.first (Lay.words pg T).toNat) pg [] 1 [(kOf 0 pg, ([] : List Nat).getD 0 0, ())]) (Sep (MX a (pg : Int) T p' r' (St.first (Lay.words pg T).toNat) pg [] 1 [(kOf 0 pg, ([] : List Nat).getD 0 0, ())]) R)) w0 w' := by
  have NA := fun (R : Res) (w0 u : World) (l : Loc R) (ho : Own R w0 u) => @anew R w0 u l ho pg T hm [] (by simp) none 0 (fun _ => ⟨rfl, rfl⟩) (fun h => absurd rfl h)
  have NM := fun (R : Res) (w0 u : World) (l : Loc R) (ho : Own R w0 u) => @memNew R w0 u l ho pg T hm [] (by simp) none 0 (fun _ => ⟨rfl, rfl⟩) (fun h => absurd rfl h)
  rw [List.length_nil] at NA NM
  generalize ([(kOf 0 pg, ([] : List Nat).getD 0 0, ())] : RL) = rl at *
  generalize St.first (Lay.words pg T).toNat = s at *
  have HNA := hide NA
  have HNM := hide NM
  clear NA NM hm
  obtain ⟨OO, hOO⟩ : ∃ OO : Obj, OO = .cells #[.int .i64 (pg : Int), .int .i64 T, .slice none 0 0] 48 (0, 0) := ⟨_, rfl⟩
  have HOO := hide hOO
  have O1 : Hid (Own (Sep (BO w.heap.size OO) R) w0 (w.alloc (.cells #[.int .i64 (pg : Int), .int .i64 T, .slice none 0 0] 48))) := hide (Own.boNew lR h (by rw [hOO]; exact heap_alloc_at _ _) (Nat.le_refl _) (grown1 _ _))
  clear h hOO
  go_enter Tryz.func15, Tryz.ntmps15
  go_wp2
  generalize w.alloc (.cells #[.int .i64 (pg : Int), .int .i64 T, .slice none 0 0] 48) = w1 at *
  generalize w.heap.size = B at *
  have lB : Loc (Sep (BO B OO) R) := Loc.bo.sep lR
  have O2 := hide (O1.out.below lB ((Alike.drewN w1 1).below _))
  have J2 : Hid (BkAt B OO w1.drew) := hide (Own.boAt O2.out)
  have hne : Nonempty (Mem (BkAt B OO)) := ⟨⟨_, J2.out⟩⟩
  have U0 : ∀ u : Mem (BkAt B OO), u.w'.cell? ⟨B, 0, none⟩ = some (.int .i64 (pg : Int)) := fun u => cell_of_heap (by rw [← HOO.out]; exact u.h)
  have U1 : ∀ u : Mem (BkAt B OO), u.w'.cell? ⟨B, 1, none⟩ = some (.int .i64 T) := fun u => cell_of_heap (by rw [← HOO.out]; exact u.h)
  have U2 : ∀ u : Mem (BkAt B OO), u.w'.cell? ⟨B, 2, none⟩ = some (.slice none 0 0) := fun u => cell_of_heap (by rw [← HOO.out]; exact u.h)
  clear O1
  refine region_start (J := BkAt B OO) (by kernel_rfl) ?_
  refine stretch (fuel := 4) (by kernel_rfl) (fun _ _ _ _ _ h => h) J2.out [0, 2] (by kernel_rfl) ?_
  simp only [List.filterMap_cons, List.filterMap_nil, List.getElem?_toArray, List.getElem?_cons_zero, List.getElem?_cons_succ]
  show wpQuiet _ _ _ _ [_, _] _
  repeat (go_big_quiet_step (fail))
  refine wpQuiet_nil ?_
  refine wpAnyJ_writer (i := 1) rfl (by kernel_rfl) (fun K' hK => ?_)
  go_simp
  refine (HNA.out _ _ _ lB O2.out).mono ?_
  rintro e w2 ⟨q, p, r, rfl, o2⟩
  have O3 := hide o2
  refine hK _ _ (o2.has (R := Sep (AX q pg T p r s pg [] 1 rl) R) (by ac_rfl)) ?_
  clear hK K' o2 O2 HNA
  refine wpAnyJ_writer (i := 3) rfl (by kernel_rfl) (fun K' hK => ?_)
  go_simp
  refine (HNM.out _ _ _ (Loc.ax.sep lB) O3.out).mono ?_
  rintro e w3 ⟨a, p', r', rfl, o3⟩
  have O4 := hide (o3.cast (R' := Sep (BO B OO) (Sep (AX q pg T p r s pg [] 1 rl) (Sep (MX a pg T p' r' s pg [] 1 rl) R))) (by ac_rfl))
  refine hK _ _ (Own.boAt O4.out) ?_
  clear hK K' o3 O3 HNM
  refine stretch (fuel := 0) (by kernel_rfl) (fun _ _ _ _ _ h => h) (Own.boAt O4.out) [4, 5] (by kernel_rfl) ?_
  simp only [List.filterMap_cons, List.filterMap_nil, List.getElem?_toArray, List.getElem?_cons_zero, List.getElem?_cons_succ]
  show wpQuiet _ _ _ _ [_, _] _
  repeat (go_big_quiet_step (fail))
  refine wpQuiet_nil ?_
  refine wpAnyJ_done (by kernel_rfl) ?_
  clear hne U0 U1 U2 J2
  have O5 := hide O4.out.drop
  clear O4
  go_wp2_with fail
  refine (storeX O5.out).mono ?_
  rintro e w4 ⟨rfl, rfl⟩
  go_wp2_with fail
  refine (runsX O5.out).mono ?_
  rintro e w4 ⟨rfl, rfl⟩
  go_wp2
  go_ret2
  exact ⟨q, p, r, a, p', r', rfl, O5.out⟩

theorem Own.loose2 {p b : Nat} {s : St} {R : Res} {w0 w : World} (h : Own (Sep (S2b p b s) R) w0 w) : Own (Sep (S2 p s) R) w0 w := by
  obtain ⟨G, ⟨G1, G2, ⟨h1, e⟩, r, c, d⟩, h2, h3⟩ := h
  exact ⟨G, ⟨G1, G2, ⟨b, h1, e⟩, r, c, d⟩, h2, h3⟩
/-- What is read of the document's arena. -/
def MTw (a p r b n : Nat) (P T : Int) (w : World) : Prop := w.heap[a]? = some (MObj p r P T) ∧ w.cell? ⟨p, 0, none⟩ = some (.slice (some ⟨b, 0, none⟩) n n)

set_option maxHeartbeats 8000000 in
set_option maxRecDepth 100000 in
theorem plSame {R : Res} {w0 w : World} (lR : Loc R) {q p r a p' r' pg dn : Nat} {P T : Int} {s : St} {ds : List Nat} {L : RL}
    (h : Own (Sep (AX q P T p r s pg ds dn L) (Sep (MX a P T p' r' s pg ds dn L) R)) w0 w) (hf : Fine pg ds dn L) (hl : s.words.length ≤ 65536) :
    Calls Tryz.prog 12 #[.pointer (some ⟨q, 0, none⟩), .pointer (some ⟨a, 0, none⟩)] w fun e w' => e = .returned (.bool true) ∧ Own (Sep (AX q P T p r s pg ds dn L) (Sep (MX a P T p' r' s pg ds dn L) R)) w0 w' := by
  have HF := hide hf
  have HL : Hid ((runsOf L).length ≤ 1099511627776) := hide (by rw [runsOf_length]; have := HF.out.len; omega)
  obtain ⟨b, o6⟩ := (h.cast (R' := Sep (S2 p' s) (Sep (AX q P T p r s pg ds dn L) (Sep (MH a p' r' P T) (Sep (RX r' pg ds dn L) R)))) (by unfold MX; ac_rfl)).fix2
  obtain ⟨n, hn⟩ : ∃ n, s.words.length = n := ⟨_, rfl⟩
  have s1 := hide hn
  have Q5 := hide (o6.cast (R' := Sep (AX q P T p r s pg ds dn L) (Sep (MXb a P T p' b r' s pg ds dn L) R)) (by unfold MXb; ac_rfl))
  have HLL : Hid (n ≤ 65536) := hide (by rw [← hn]; exact hl)
  have lB : Loc (Sep (MXb a P T p' b r' s pg ds dn L) R) := Loc.mxb.sep lR
  have Q6 := hide (Q5.out.below (Loc.ax.sep lB) ((Alike.drewN w 1).below _))
  clear h o6 hf hl hn Q5
  have HM3 : Hid (∀ u : World, Own (Sep (AX q P T p r s pg ds dn L) (Sep (MXb a P T p' b r' s pg ds dn L) R)) w0 u → MTw a p' r' b n P T u) := hide (fun _ h => ⟨h.mhead (R := Sep (AX q P T p r s pg ds dn L) (Sep (S2b p' b s) (Sep (RX r' pg ds dn L) R))) (by unfold MXb; ac_rfl), by
    have := (h.bstore (p := p') (b := b) (s := s) (R := Sep (AX q P T p r s pg ds dn L) (Sep (MH a p' r' P T) (Sep (RX r' pg ds dn L) R))) (by unfold MXb; ac_rfl)).head
    rw [s1.out] at this
    exact cell_of_heap this⟩)
  have M3 : Hid (∀ u : World, Own (Sep (AX q P T p r s pg ds dn L) (Sep (MXb a P T p' b r' s pg ds dn L) R)) w0 u → WordsAt u b s.words) := hide (fun u h => by
    have hS := h.bstore (p := p') (b := b) (s := s) (R := Sep (AX q P T p r s pg ds dn L) (Sep (MH a p' r' P T) (Sep (RX r' pg ds dn L) R))) (by unfold MXb; ac_rfl)
    exact ⟨hS.row⟩)
  have v0 : ∀ u : Mem (MTw a p' r' b n P T), u.w'.cell? ⟨a, 0, none⟩ = some (.pointer (some ⟨p', 0, none⟩)) := fun u => cell_of_heap u.h.1
  have v1 : ∀ u : Mem (MTw a p' r' b n P T), u.w'.cell? ⟨a, 1, none⟩ = some (.pointer (some ⟨r', 0, none⟩)) := fun u => cell_of_heap u.h.1
  have v2 : ∀ u : Mem (MTw a p' r' b n P T), u.w'.cell? ⟨p', 0, none⟩ = some (.slice (some ⟨b, 0, none⟩) n n) := fun u => u.h.2
  have hne : Nonempty (Mem (MTw a p' r' b n P T)) := ⟨⟨_, HM3.out _ Q6.out⟩⟩
  go_enter Tryz.func12, Tryz.ntmps12
  go_wp2
  refine region_start (J := MTw a p' r' b n P T) (by kernel_rfl) ?_
  refine stretch (fuel := 15) (by kernel_rfl) (fun _ _ _ _ _ h => h) (HM3.out _ Q6.out) [0, 3, 4, 5, 6, 7, 8, 9] (by kernel_rfl) ?_
  simp only [List.filterMap_cons, List.filterMap_nil, List.getElem?_toArray, List.getElem?_cons_zero, List.getElem?_cons_succ]
  show wpQuiet _ _ _ _ [_, _, _, _, _, _, _, _] _
  repeat (go_big_quiet_step (fail))
  refine wpQuiet_nil ?_
  refine wpAnyJ_writer (i := 1) rfl (by kernel_rfl) (fun K hK => ?_)
  go_simp
  refine (storeX Q6.out).mono ?_
  rintro e w6 ⟨rfl, rfl⟩
  refine hK _ _ (HM3.out _ Q6.out) ?_
  clear hK K
  refine wpAnyJ_writer (i := 2) rfl (by kernel_rfl) (fun K hK => ?_)
  go_simp
  obtain ⟨b0, hS0⟩ := AX.st Q6.out
  have HWO := words_of _ p b0 s hS0
  rw [s1.out] at HWO
  refine HWO.mono ?_
  rintro e w7 ⟨g, rfl, hg, _, b7⟩
  have O7 := hide (Q6.out.below (Loc.ax.sep lB) b7)
  have G7 := hide hg
  refine hK _ _ (HM3.out _ O7.out) ?_
  clear hK K b7 hg HWO hS0 Q6
  refine wpAnyJ_writer (i := 10) rfl (by kernel_rfl) (fun K hK => ?_)
  go_simp
  have HSW := same_words _ g b s.words G7.out (M3.out _ O7.out) (by rw [s1.out]; exact HLL.out)
  rw [s1.out] at HSW
  refine HSW.mono ?_
  rintro e w8 ⟨rfl, qn, rfl⟩
  have O8 := hide (O7.out.below (Loc.ax.sep lB) ((Alike.drewN _ qn).below _))
  refine hK _ _ (HM3.out _ O8.out) ?_
  clear hK K HSW O7 G7
  refine stretch (fuel := 6) (by kernel_rfl) (fun _ _ _ _ _ h => h) (HM3.out _ O8.out) [11, 12, 15, 16, 17, 18] (by kernel_rfl) ?_
  simp only [List.filterMap_cons, List.filterMap_nil, List.getElem?_toArray, List.getElem?_cons_zero, List.getElem?_cons_succ]
  show wpQuiet _ _ _ _ [_, _, _, _, _, _] _
  repeat (go_big_quiet_step (fail))
  refine wpQuiet_nil ?_
  refine wpAnyJ_writer (i := 13) rfl (by kernel_rfl) (fun K hK => ?_)
  go_simp
  refine (runsX O8.out).mono ?_
  rintro e w9 ⟨rfl, rfl⟩
  refine hK _ _ (HM3.out _ O8.out) ?_
  clear hK K
  refine wpAnyJ_writer (i := 14) rfl (by kernel_rfl) (fun K hK => ?_)
  go_simp
  refine (listX lB O8.out HF.out).mono ?_
  rintro e w10 ⟨v1, rfl, o10⟩
  have O10 := hide (o10.cast (R' := Sep (RX r' pg ds dn L) (Sep (MH a p' r' P T) (Sep (S2b p' b s) (Sep (AX q P T p r s pg ds dn L) (Sep (RV v1 (runsOf L)) R))))) (by unfold MXb; ac_rfl))
  have J10 : MTw a p' r' b n P T w10 := HM3.out _ (o10.cast (R' := Sep (RV v1 (runsOf L)) (Sep (AX q P T p r s pg ds dn L) (Sep (MXb a P T p' b r' s pg ds dn L) R))) (by ac_rfl)).drop1
  refine hK _ _ J10 ?_
  clear hK K o10 O8
  refine wpAnyJ_writer (i := 19) rfl (by kernel_rfl) (fun K hK => ?_)
  go_simp
  refine (xlistP (Loc.mh.sep (Loc.s2b.sep (Loc.ax.sep (Loc.rv.sep lR)))) O10.out HF.out).mono ?_
  rintro e w11 ⟨v2, rfl, o11⟩
  have O11 := hide (o11.cast (R' := Sep (RV v1 (runsOf L)) (Sep (RV v2 (runsOf L)) (Sep (AX q P T p r s pg ds dn L) (Sep (MXb a P T p' b r' s pg ds dn L) R)))) (by unfold MXb; ac_rfl))
  have J11 : MTw a p' r' b n P T w11 := HM3.out _ O11.out.drop1.drop1
  refine hK _ _ J11 ?_
  clear hK K o11 O10
  refine wpAnyJ_writer (i := 20) rfl (by kernel_rfl) (fun K hK => ?_)
  go_simp
  refine (sameRuns _ v1 v2 (runsOf L) (O11.out.runsV rfl) (O11.out.drop1.runsV rfl) HL.out).mono ?_
  rintro e w12 ⟨rfl, h12⟩
  have O12 := hide (O11.out.drop1.drop1.below (Loc.ax.sep lB) (h12.below _))
  refine hK _ _ (HM3.out _ O12.out) ?_
  clear hK K h12 O11
  refine stretch (fuel := 0) (by kernel_rfl) (fun _ _ _ _ _ h => h) (HM3.out _ O12.out) [21, 22] (by kernel_rfl) ?_
  simp only [List.filterMap_cons, List.filterMap_nil, List.getElem?_toArray, List.getElem?_cons_zero, List.getElem?_cons_succ]
  show wpQuiet _ _ _ _ [_, _] _
  repeat (go_big_quiet_step (fail))
  refine wpQuiet_nil ?_
  refine wpAnyJ_done (by kernel_rfl) ?_
  clear hne v0
  have o13 : Own (Sep (S2b p' b s) (Sep (AX q P T p r s pg ds dn L) (Sep (MH a p' r' P T) (Sep (RX r' pg ds dn L) R)))) w0 w12 := O12.out.cast (by unfold MXb; ac_rfl)
  have O13 : Hid (Own (Sep (AX q P T p r s pg ds dn L) (Sep (MX a P T p' r' s pg ds dn L) R)) w0 w12) := hide (o13.loose2.cast (by unfold MX; ac_rfl))
  clear o13 O12
  go_wp2
  go_ret
  exact ⟨rfl, O13.out⟩
end Go.Proofs.YtgenkjmcddjaoaaGreat

namespace Go.Proofs.YtgenkjmcddjaoaaGreat
open Go Go.RowKit

def kTake (P T : Int) (t : Nat) : MK := ⟨3, P, T, (t : Int), 0, 0, 0, 0, 0, 0, 0, 0, false, .slice none 0 0⟩
def kLeave (P T : Int) (t : Nat) : MK := ⟨4, P, T, (t : Int), 0, 0, 0, 0, 0, 0, 0, 0, false, .slice none 0 0⟩
def vNone : MV := ⟨.slice none 0 0, false, 0, false, .pointer none, 0, 0, 0, 0, 0, 0, 0, 0, 0, .slice none 0 0, .slice none 0 0, 0, 0⟩
/-- A thread of the game: nothing on, a take, a leave. -/
inductive LS where
  | off
  | take (m b : Nat) (v : MV) (l : List Nat)
  | leave (m b : Nat) (v : MV)
def LS.res (P T : Int) (t : Nat) : LS → Res
  | .off => Nought
  | .take m b v l => Sep (BO m (takeO P T false (t : Int))) (Sep (BO b (mObj (kTake P T t) v)) (LogR v.log l))
  | .leave m b v => Sep (BO m (leaveO P T false)) (Sep (BO b (mObj (kLeave P T t) v)) (LogR v.log []))
def LS.ref : LS → Value
  | .off => .pointer none
  | .take _ b _ _ => .pointer (some ⟨b, 0, none⟩)
  | .leave _ b _ => .pointer (some ⟨b, 0, none⟩)
def LS.ok (i : Nat) (tv tl : Value) : LS → Prop
  | .off => (∃ pa, tv = .pointer pa) ∧ ∃ pb, tl = .pointer pb
  | .take m _ v l => v.done = false ∧ (∀ x ∈ l, x ≠ 0) ∧ l.length ≤ i ∧ tv = .pointer (some ⟨m, 0, none⟩) ∧ ∃ pb, tl = .pointer pb
  | .leave m _ v => v.done = false ∧ tv = .pointer none ∧ tl = .pointer (some ⟨m, 0, none⟩)
theorem LS.ok.mono {i j : Nat} (h : i ≤ j) {tv tl : Value} : ∀ {x : LS}, x.ok i tv tl → x.ok j tv tl
  | .off, k => k
  | .take _ _ _ _, ⟨a, b, c, d⟩ => ⟨a, b, Nat.le_trans c h, d⟩
  | .leave _ _ _, k => k
theorem LS.loc {P T : Int} {t : Nat} : ∀ x : LS, Loc (x.res P T t)
  | .off => Loc.nought
  | .take _ _ _ _ => Loc.bo.sep (Loc.bo.sep Loc.logR)
  | .leave _ _ _ => Loc.bo.sep (Loc.bo.sep Loc.logR)

def refsV (S : Nat → LS) (j : Nat) : Value := (S j).ref
def machR (P T : Int) (S : Nat → LS) (j : Nat) : Res := (S j).res P T j
theorem Loc.mach {P T : Int} {S : Nat → LS} (j : Nat) : Loc (machR P T S j) := LS.loc _
theorem refsV_upd (S : Nat → LS) (t : Nat) (x : LS) : refsV (upd S t x) = upd (refsV S) t x.ref := by
  funext j; unfold refsV upd; split <;> rfl
theorem machR_upd (P T : Int) (S : Nat → LS) (t : Nat) (x : LS) : machR P T (upd S t x) = upd (machR P T S) t (x.res P T t) := by
  funext j; unfold machR upd
  by_cases e : j = t
  · subst e; simp
  · simp [e]

/-- A log of nothing lies nowhere. -/
theorem Own.logNone {R : Res} {w0 w : World} (h : Own R w0 w) : Own (Sep (LogR (.slice none 0 0) []) R) w0 w := by
  obtain ⟨G, h1, h2, h3⟩ := h
  refine ⟨G, ⟨fun _ => False, G, ⟨⟨rfl, .inl ⟨rfl, rfl⟩⟩, fun x => ⟨fun h => h.elim, fun h => by cases h⟩⟩, h1, fun x h => h.elim, fun x => ⟨.inr, fun h => h.elim (fun h => h.elim) id⟩⟩, h2, h3⟩
/-- The rows, both arenas, the machines. -/
def GameR (gT gL gR q p r a p' r' pg n : Nat) (s : St) (rl : RL) (tv tl : Nat → Value) (S : Nat → LS) (R : Res) : Res :=
  Sep (BO gT (.cells (rowN n tv) 67 (0, 0))) (Sep (BO gL (.cells (rowN n tl) 68 (0, 0))) (Sep (BO gR (.cells (rowN n (refsV S)) 55 (0, 0)))
    (Sep (AX q (pg : Int) (n : Int) p r s pg [] 1 rl) (Sep (MX a (pg : Int) (n : Int) p' r' s pg [] 1 rl) (Sep (Many (machR (pg : Int) (n : Int) S) n) R)))))
section
variable {R : Res} {gT gL gR q p r a p' r' pg n t : Nat} {s : St} {rl : RL} {tv tl : Nat → Value} {S : Nat → LS}
theorem Loc.game (l : Loc R) : Loc (GameR gT gL gR q p r a p' r' pg n s rl tv tl S R) := Loc.bo.sep (Loc.bo.sep (Loc.bo.sep (Loc.ax.sep (Loc.mx.sep ((Loc.many Loc.mach n).sep l)))))
/-- What lies beside a thread's machine. -/
def SideR (gT gL gR q p r a p' r' pg n : Nat) (s s2 : St) (rl : RL) (tv tl rv : Nat → Value) (S : Nat → LS) (t : Nat) (R : Res) : Res :=
  Sep (AX q (pg : Int) (n : Int) p r s pg [] 1 rl) (Sep (MX a (pg : Int) (n : Int) p' r' s2 pg [] 1 rl) (Sep (BO gT (.cells (rowN n tv) 67 (0, 0))) (Sep (BO gL (.cells (rowN n tl) 68 (0, 0))) (Sep (BO gR (.cells (rowN n rv) 55 (0, 0))) (Sep (Many (upd (machR (pg : Int) (n : Int) S) t Nought) n) R)))))
theorem GameR.out (ht : t < n) : GameR gT gL gR q p r a p' r' pg n s rl tv tl S R = Sep ((S t).res (pg : Int) (n : Int) t) (SideR gT gL gR q p r a p' r' pg n s s rl tv tl (refsV S) S t R) := by
  unfold GameR SideR
  rw [Many.at (machR (pg : Int) (n : Int) S) t n ht]
  show Sep _ (Sep _ (Sep _ (Sep _ (Sep _ (Sep (Sep ((S t).res (pg : Int) (n : Int) t) _) R))))) = _
  ac_rfl
/-- A thread's machine is another one. -/
theorem GameR.turn (ht : t < n) (x : LS) : Sep (x.res (pg : Int) (n : Int) t) (SideR gT gL gR q p r a p' r' pg n s s rl tv tl (upd (refsV S) t x.ref) S t R) = GameR gT gL gR q p r a p' r' pg n s rl tv tl (upd S t x) R := by
  unfold GameR SideR
  rw [refsV_upd, machR_upd, Many.put (machR (pg : Int) (n : Int) S) t (x.res (pg : Int) (n : Int) t) n ht]
  ac_rfl
theorem refs_same {x : LS} (h : (S t).ref = x.ref) : upd (refsV S) t x.ref = refsV S := by
  rw [← h]; exact upd_id _ _
theorem side_upd (x : LS) : upd (machR (pg : Int) (n : Int) (upd S t x)) t Nought = upd (machR (pg : Int) (n : Int) S) t Nought := by
  rw [machR_upd, upd_upd]
theorem GameR.start (RB : Res) : GameR gT gL gR q p r a p' r' pg n s rl (fun _ => .pointer none) (fun _ => .pointer none) (fun _ => .off) RB = Sep (BO gT (.cells (rowN n (fun _ => .pointer none)) 67 (0, 0))) (Sep (BO gL (.cells (rowN n (fun _ => .pointer none)) 68 (0, 0))) (Sep (BO gR (.cells (rowN n (fun _ => .pointer none)) 55 (0, 0)))
    (Sep (AX q (pg : Int) (n : Int) p r s pg [] 1 rl) (Sep (MX a (pg : Int) (n : Int) p' r' s pg [] 1 rl) RB)))) := by
  unfold GameR
  rw [show machR (pg : Int) (n : Int) (fun _ => .off) = (fun _ => Nought) from rfl, Many.none, Sep.nought]
  rfl
end
theorem infoTakeP : (Tryz.prog.info? 67).map (fun i => (i.zero, i.size, i.bytes)) = some (some (.pointer none), 1, 8) := by kernel_rfl
theorem infoLeaveP : (Tryz.prog.info? 68).map (fun i => (i.zero, i.size, i.bytes)) = some (some (.pointer none), 1, 8) := by kernel_rfl
theorem infoMP : (Tryz.prog.info? 55).map (fun i => (i.zero, i.size, i.bytes)) = some (some (.pointer none), 1, 8) := by kernel_rfl

section
variable {R : Res} {w0 w : World} {q : Nat} {P T : Int} {p r a p' r' : Nat} {s : St} {pg : Nat} {ds : List Nat} {dn : Nat} {L : RL}
theorem heldW (l : Loc R) (h : Own (Sep (AX q P T p r s pg ds dn L) R) w0 w) (hs : 2 < s.words.length) (x : Nat) (hx : s.words.getD 2 0 = x) (hT : (x : Int) ≤ T) (hT2 : T ≤ 1000) (v : Int) (hv : (x : Int) - 1 = v) :
    Calls Tryz.prog 24 #[.pointer (some ⟨q, 0, none⟩)] w fun e w' => e = .returned (.int .i64 v) ∧ Own (Sep (AX q P T p r s pg ds dn L) R) w0 w' := by
  have := heldX l h hs x hx hT hT2
  rw [hv] at this
  exact this
set_option maxRecDepth 100000 in
theorem rHeld (h : Own (Sep (MX a P T p' r' s pg ds dn L) R) w0 w) (hs : 2 < s.words.length) (x : Nat) (hx : s.words.getD 2 0 = x) (hx2 : x ≤ 1000) (v : Int) (hv : (x : Int) - 1 = v) :
    Calls Tryz.prog 25 #[.pointer (some ⟨a, 0, none⟩)] w fun e w' => e = .returned (.int .i64 v) ∧ Own (Sep (MX a P T p' r' s pg ds dn L) R) w0 w' := by
  have hq := h.mhead (m := a) (p := p') (r := r') (P := P) (T := T) (R := Sep (S2 p' s) (Sep (RX r' pg ds dn L) R)) (by unfold MX; ac_rfl)
  obtain ⟨b, hS⟩ := h.mstore (p := p') (s := s) (R := Sep (MH a p' r' P T) (Sep (RX r' pg ds dn L) R)) (by unfold MX; ac_rfl)
  have c0 : w.cell? ⟨a, 0, none⟩ = some (.pointer (some ⟨p', 0, none⟩)) := cell_of_heap hq
  have c1 : w.cell? ⟨p', 0, none⟩ = some (.slice (some ⟨b, 0, none⟩) s.words.length s.words.length) := cell_of_heap hS.head
  have c2 : w.cell? ⟨b, 2, none⟩ = some (.int .u64 (x : Int)) := by rw [← hx]; exact (cell_of_heap hS.row).trans (wordVals_get _ _ hs)
  have HO := hide h
  have HV := hide hv
  generalize s.words.length = len at *
  clear h hq hS hx hv
  go_enter Tryz.func25, Tryz.ntmps25
  go_wp2
  go_ret
  exact ⟨by rw [← HV.out]; rfl, HO.out⟩
end
end Go.Proofs.YtgenkjmcddjaoaaGreat
