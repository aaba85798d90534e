/- The document's layouts: May, maps, Words. Words that are held against each other. The document's arena. -/
import Derived.Test.YthcfmpjmgheieaaLayFns
import Derived.Test.YthcfmpjmgheieaaOver
import Derived.Test.YthcfmpjmgheieaaStoreMade
import Derived.Test.YthcfmpjmgheieaaAA
import Derived.Test.YthcfmpjmgheieaaXB
namespace Go.Proofs.Ythcfmpjmgheieaa
open Go.RowKit

theorem rlmay (P T : Int) (w : World) :
    Calls Try.prog 53 #[.agg #[.int .i64 P, .int .i64 T]] w fun e w' => e = .returned (.bool (Lay.may P T)) ∧ Below w.heap.size w w' := by
  unfold Lay.may
  by_cases h0 : 1 ≤ P
  rotate_left
  · rw [decide_eq_false h0]
    have d0 := decide_eq_false h0
    go_enter Try.func53, Try.ntmps53
    go_wp2
    go_ret
    exact ⟨rfl, grown1 _ _⟩
  by_cases h1 : P ≤ 4096
  rotate_left
  · rw [decide_eq_true h0, decide_eq_false h1]
    have d1 := decide_eq_false h1
    go_enter Try.func53, Try.ntmps53
    go_wp2
    go_ret
    exact ⟨rfl, grown1 _ _⟩
  by_cases h2 : 1 ≤ T
  rotate_left
  · rw [decide_eq_true h0, decide_eq_true h1, decide_eq_false h2]
    have d2 := decide_eq_false h2
    go_enter Try.func53, Try.ntmps53
    go_wp2
    go_ret
    exact ⟨rfl, grown1 _ _⟩
  by_cases h3 : T ≤ 64
  rotate_left
  · rw [decide_eq_true h0, decide_eq_true h1, decide_eq_true h2, decide_eq_false h3]
    have d3 := decide_eq_false h3
    go_enter Try.func53, Try.ntmps53
    go_wp2
    go_ret
    exact ⟨rfl, grown1 _ _⟩
  rw [decide_eq_true h0, decide_eq_true h1, decide_eq_true h2, decide_eq_true h3]
  go_enter Try.func53, Try.ntmps53
  go_wp2
  go_ret
  exact ⟨rfl, grown1 _ _⟩

theorem rlmaps (P T : Int) (h1 : 1 ≤ P) (h2 : P ≤ 4096) (w : World) :
    Calls Try.prog 75 #[.agg #[.int .i64 P, .int .i64 T]] w fun e w' => e = .returned (.int .i64 (Lay.maps P)) ∧ Below w.heap.size w w' := by
  unfold Lay.maps
  go_enter Try.func75, Try.ntmps75
  go_wp2
  go_ret
  exact ⟨ret_int (by first | rfl | omega), grown1 _ _⟩

set_option maxHeartbeats 2000000 in
theorem rlwords (P T : Int) (w : World) :
    Calls Try.prog 55 #[.agg #[.int .i64 P, .int .i64 T]] w fun e w' => e = .returned (.int .i64 (Lay.words P T)) ∧ Below w.heap.size w w' := by
  have M := hide (fun w => rlmay P T w)
  cases hm : Lay.may P T
  · rw [hm] at M
    rw [Lay.words_out hm]
    clear hm
    go_enter Try.func55, Try.ntmps55
    have B0 := LBox.new w P T 46
    go_wp2_with (first | (go_at_call 53; refine (M.out _).mono ?_; rintro e w1 ⟨rfl, hb⟩; have B1 := LBox.grow (by assumption) hb; have b0 := B1.c0; have b1 := B1.c1))
    go_ret
    exact ⟨rfl, B1.below⟩
  · obtain ⟨p1, p2, h1, h2⟩ := Lay.may_iff.1 hm
    rw [hm] at M
    rw [Lay.words_in hm]
    clear hm
    have D := hide (fun w => rlmaps P T p1 p2 w)
    have mM : 0 ≤ Lay.maps P ∧ Lay.maps P ≤ 100000 := by unfold Lay.maps; omega
    obtain ⟨mM1, mM2⟩ := mM
    unfold Lay.total
    generalize Lay.maps P = N at *
    go_enter Try.func55, Try.ntmps55
    have B0 := LBox.new w P T 46
    go_wp2_with (first | (go_at_call 53; refine (M.out _).mono ?_; rintro e w1 ⟨rfl, hb⟩; have B1 := LBox.grow (by assumption) hb; have b0 := B1.c0; have b1 := B1.c1))
    have hne : Nonempty (Over w1) := ⟨⟨_, Below.refl _ _⟩⟩
    have c0 := fun u => over_cell B1.c0 u
    have c1 := fun u => over_cell B1.c1 u
    refine over_region (by kernel_rfl) (by kernel_rfl) ?_
    repeat (go_big_quiet_step ((go_at_call 75; exact over_call _ (D.out _))))
    refine wpQuiet_nil ?_
    rintro _ ⟨u, rfl⟩
    go_wp2
    go_ret
    exact ⟨ret_int (by first | rfl | omega), (B1.grow u.h).below⟩
end Go.Proofs.Ythcfmpjmgheieaa

namespace Go.Proofs.Ythcfmpjmgheieaa
open Go.RowKit

theorem same_words (w : World) (ga gb : Nat) (xs : List Nat) (ha : WordsAt w ga xs) (hb : WordsAt w gb xs) (hl : xs.length ≤ 65536) :
    Calls Try.prog 24 #[.slice (some ⟨ga, 0, none⟩) xs.length xs.length, .slice (some ⟨gb, 0, none⟩) xs.length xs.length] w fun e w' => e = .returned (.bool true) ∧ ∃ q, w' = w.drewN q := by
  go_enter Try.func24, Try.ntmps24
  go_wp2
  go_loopw [5] (fun i wr => ∃ k q : Nat, k ≤ xs.length ∧ i = .int .i64 k ∧ wr = w.drewN q) (fun i _ => xs.length - (intOf i).toNat)
  case atStart => exact ⟨0, 0, by omega, rfl, rfl⟩
  case round =>
    obtain ⟨k, q, hk, rfl, rfl⟩ := hrel
    by_cases hlt : k < xs.length
    · have c1 := ha.cell k hlt
      have c2 := hb.cell k hlt
      generalize xs.getD k 0 = x at *
      go_wp2
      go_quiet (fail)
      go_wp2
      go_roundw
      case rel => exact ⟨k + 1, _, by omega, by go_num, rfl⟩
      case measure => simp [intOf]; omega
    · go_wp2
      go_ret
      exact ⟨rfl, _, rfl⟩
end Go.Proofs.Ythcfmpjmgheieaa

namespace Go.Proofs.Ythcfmpjmgheieaa
open Go.RowKit

/-- The document's store at p. -/
def S2 (p : Nat) (s : St) : Res := fun w G => ∃ b, StoreAt 61 w p b s ∧ ∀ x, G x ↔ x = p ∨ x = b
theorem Loc.s2 {p : Nat} {s : St} : Loc (S2 p s) :=
  ⟨fun ⟨b, h, e⟩ o hn => ⟨b, h.kept o (hn p ((e p).2 (.inl rfl))) (hn b ((e b).2 (.inr rfl))), e⟩, fun {w G x} ⟨b, h, e⟩ hx => by
    rcases (e x).1 hx with rfl | rfl
    · exact lt_of_heap h.head
    · exact lt_of_heap h.row⟩
theorem Own.store2 {p : Nat} {s : St} {R : Res} {w0 w : World} (l : Loc R) (h : Own (Sep (S2 p s) R) w0 w) :
    ∃ b, StoreAt 61 w p b s ∧ ∀ {w' s'}, StoreAt 61 w' p b s' → Only (fun k => k = p ∨ k = b) w w' → Own (Sep (S2 p s') R) w0 w' := by
  obtain ⟨G, ⟨G1, G2, ⟨b, h1, e⟩, r, c, d⟩, h2, h3⟩ := h
  refine ⟨b, h1, fun {w' s'} g1 g2 => ?_⟩
  exact Own.step (G1 := G1) (G1' := G1) (G2 := G2) l h3 (fun x hx => h2 x ((d x).2 hx)) r c ⟨b, g1, e⟩ (g2.mono (fun x _ hx => (e x).2 hx)) (fun x hx => .inl hx)
theorem StoreAt.begin {T : TypeId} {w : World} {p b n : Nat} (h : StoreAt T w p b (St.zero n)) : StoreAt T (w.setCell ⟨b, 0, none⟩ (.int .u64 1)) p b (St.first n) := by
  refine ⟨?_, ?_, h.ne, ?_, ?_⟩
  · rw [heap_setCell_ne h.ne, h.head]; simp [St.first, St.zero]
  · rw [heap_setCell_at h.row]
    congr 2
    simp only [St.zero, St.first, wordVals, List.setIfInBounds_toArray]
    rw [List.map_set]
    rfl
  · have := h.len; simpa [St.first, St.zero] using this
  · simp only [St.first]; exact set_lt _ (by intro x hx; rw [List.eq_of_mem_replicate hx]; omega) 0 1 (by omega)

/-- The document's arena's head at m. -/
def MObj (p r : Nat) (P T : Int) : Obj := .cells #[.pointer (some ⟨p, 0, none⟩), .pointer (some ⟨r, 0, none⟩), .int .i64 P, .int .i64 T] 50 (0, 0)
def MH (m p r : Nat) (P T : Int) : Res := fun w G => w.heap[m]? = some (MObj p r P T) ∧ ∀ x, G x ↔ x = m
theorem Loc.mh {m p r : Nat} {P T : Int} : Loc (MH m p r P T) :=
  ⟨fun ⟨h, e⟩ o hn => ⟨(o.block m (lt_of_heap h) (hn m ((e m).2 rfl))).trans h, e⟩, fun {w G x} ⟨h, e⟩ hx => by rw [(e x).1 hx]; exact lt_of_heap h⟩
/-- The document's arena. -/
def MX (m : Nat) (P T : Int) (p r : Nat) (s : St) (pg : Nat) (ds : List Nat) (dn : Nat) (L : RL) : Res := Sep (MH m p r P T) (Sep (S2 p s) (RX r pg ds dn L))
theorem Loc.mx {m : Nat} {P T : Int} {p r : Nat} {s : St} {pg : Nat} {ds : List Nat} {dn : Nat} {L : RL} : Loc (MX m P T p r s pg ds dn L) := Loc.mh.sep (Loc.s2.sep Loc.rx)
theorem Own.mhead {m p r : Nat} {P T : Int} {R R' : Res} {w0 w : World} (h : Own R' w0 w) (e : R' = Sep (MH m p r P T) R) : w.heap[m]? = some (MObj p r P T) := by
  subst e
  obtain ⟨_, ⟨_, _, ⟨h1, _⟩, _⟩, _⟩ := h
  exact h1
theorem Own.mstore {p : Nat} {s : St} {R R' : Res} {w0 w : World} (h : Own R' w0 w) (e : R' = Sep (S2 p s) R) : ∃ b, StoreAt 61 w p b s := by
  subst e
  obtain ⟨_, ⟨_, _, ⟨b, h1, _⟩, _⟩, _⟩ := h
  exact ⟨b, h1⟩

/-- The same, its words at b. -/
def S2b (p b : Nat) (s : St) : Res := fun w G => StoreAt 61 w p b s ∧ ∀ x, G x ↔ x = p ∨ x = b
theorem Loc.s2b {p b : Nat} {s : St} : Loc (S2b p b s) :=
  ⟨fun ⟨h, e⟩ o hn => ⟨h.kept o (hn p ((e p).2 (.inl rfl))) (hn b ((e b).2 (.inr rfl))), e⟩, fun {w G x} ⟨h, e⟩ hx => by
    rcases (e x).1 hx with rfl | rfl
    · exact lt_of_heap h.head
    · exact lt_of_heap h.row⟩
theorem Own.fix2 {p : Nat} {s : St} {R : Res} {w0 w : World} (h : Own (Sep (S2 p s) R) w0 w) : ∃ b, Own (Sep (S2b p b s) R) w0 w := by
  obtain ⟨G, ⟨G1, G2, ⟨b, h1, e⟩, r, c, d⟩, h2, h3⟩ := h
  exact ⟨b, G, ⟨G1, G2, ⟨h1, e⟩, r, c, d⟩, h2, h3⟩
theorem Own.bstore {p b : Nat} {s : St} {R R' : Res} {w0 w : World} (h : Own R' w0 w) (e : R' = Sep (S2b p b s) R) : StoreAt 61 w p b s := by
  subst e
  obtain ⟨_, ⟨_, _, ⟨h1, _⟩, _⟩, _⟩ := h
  exact h1
def MXb (m : Nat) (P T : Int) (p b r : Nat) (s : St) (pg : Nat) (ds : List Nat) (dn : Nat) (L : RL) : Res := Sep (MH m p r P T) (Sep (S2b p b s) (RX r pg ds dn L))
theorem Loc.mxb {m : Nat} {P T : Int} {p b r : Nat} {s : St} {pg : Nat} {ds : List Nat} {dn : Nat} {L : RL} : Loc (MXb m P T p b r s pg ds dn L) := Loc.mh.sep (Loc.s2b.sep Loc.rx)

theorem memNil (P T : Int) (hm : Lay.may P T = false) (a : Option Addr) (n c : Nat) (w : World) :
    Calls Try.prog 20 #[.agg #[.int .i64 P, .int .i64 T, .slice a n c]] w fun e w' => e = .returned (.pointer none) ∧ Below w.heap.size w w' := by
  have M := hide (fun w => rlmay P T w)
  rw [hm] at M
  have h0 : DrawsIn w a [] := fun h => absurd rfl h
  have HW := SetAt.new w P T a n c [] h0 40 46
  have c0 := HW.l0
  have c1 := HW.l1
  have HB := hide HW.below
  clear h0 HW
  go_enter Try.func20, Try.ntmps20
  go_wp2_with fail
  refine (M.out _).mono ?_
  rintro e w1 ⟨rfl, hb⟩
  have HB1 := hide (HB.out.trans (hb.mono HB.out.size))
  clear hb c0 c1
  go_wp2
  go_ret
  exact ⟨rfl, HB1.out⟩

set_option maxRecDepth 100000 in
set_option maxHeartbeats 4000000 in
theorem memNew {R : Res} {w0 w : World} (l : Loc R) (ho : Own R w0 w) (pg : Nat) (T : Int) (hm : Lay.may pg T = true) (ds : List Nat) (hl : ds.length ≤ 1000000000) (a : Option Addr) (c : Nat) (hz : a = none → ds = [] ∧ c = 0) (hd : DrawsIn w a ds) :
    Calls Try.prog 20 #[.agg #[.int .i64 (pg : Int), .int .i64 T, .slice a ds.length c]] w fun e w' => ∃ m p r, e = .returned (.pointer (some ⟨m, 0, none⟩)) ∧ Own (Sep (MX m (pg : Int) T p r (St.first (Lay.words pg T).toNat) pg ds 1 [(kOf 0 pg, ds.getD 0 0, ())]) R) w0 w' := by
  have M := hide (fun w => rlmay pg T w)
  rw [hm] at M
  have W := hide (fun w => rlwords pg T w)
  obtain ⟨k, hk, k1, k2⟩ := Lay.words_nat hm
  rw [hk] at W ⊢
  rw [Int.toNat_natCast]
  obtain ⟨m1, m2, m3, m4⟩ := Lay.may_iff.1 hm
  obtain ⟨n, hn⟩ : ∃ n, ds.length = n := ⟨_, rfl⟩
  have HL := hide hn
  have HW := SetAt.new w pg T a n c ds hd 40 46
  have c0 := HW.l0
  have c1 := HW.l1
  have HW2 := hide HW
  have HO := hide ho
  clear hd HW ho hm hk
  rw [hn]
  clear hn
  go_enter Try.func20, Try.ntmps20
  go_wp2_with fail
  refine (M.out _).mono ?_
  rintro e w1 ⟨rfl, hb⟩
  have H1 := hide (HW2.out.grow hb)
  clear hb HW2 c0 c1
  go_wp2
  have J1 : Hid (SetAt w w.heap.size pg T a n c ds w1.drew) := hide (H1.out.grow ((Alike.drewN w1 1).below _))
  have u0 : ∀ u : Mem (SetAt w w.heap.size pg T a n c ds), u.w'.cell? ⟨w.heap.size, 0, none⟩ = some (.int .i64 (pg : Int)) := fun u => u.h.c0
  have u1 : ∀ u : Mem (SetAt w w.heap.size pg T a n c ds), u.w'.cell? ⟨w.heap.size, 1, none⟩ = some (.int .i64 T) := fun u => u.h.c1
  have u2 : ∀ u : Mem (SetAt w w.heap.size pg T a n c ds), u.w'.cell? ⟨w.heap.size, 2, none⟩ = some (.slice a n c) := fun u => u.h.c2
  have u3 : ∀ u : Mem (SetAt w w.heap.size pg T a n c ds), u.w'.cell? ⟨w.heap.size + 1, 0, none⟩ = some (.int .i64 (pg : Int)) := fun u => u.h.l0
  have u4 : ∀ u : Mem (SetAt w w.heap.size pg T a n c ds), u.w'.cell? ⟨w.heap.size + 1, 1, none⟩ = some (.int .i64 T) := fun u => u.h.l1
  have hne : Nonempty (Mem (SetAt w w.heap.size pg T a n c ds)) := ⟨⟨_, J1.out⟩⟩
  refine region_start (J := SetAt w w.heap.size pg T a n c ds) (by kernel_rfl) ?_
  refine stretch (fuel := 6) (by kernel_rfl) (fun _ _ _ _ _ h => h) (J1.out) [0, 3, 4, 5, 6, 8] (by kernel_rfl) ?_
  simp only [List.filterMap_cons, List.filterMap_nil, List.getElem?_toArray, List.getElem?_cons_zero, List.getElem?_cons_succ]
  show wpQuiet _ _ _ _ [_, _, _, _, _, _] _
  repeat (go_big_quiet_step (fail))
  refine wpQuiet_nil ?_
  refine wpAnyJ_writer (i := 1) rfl (by kernel_rfl) (fun K hK => ?_)
  go_simp
  refine (W.out _).mono ?_
  rintro e w2 ⟨rfl, hb2⟩
  have J2 := hide (J1.out.grow hb2)
  refine hK _ _ J2.out ?_
  clear hK K hb2
  refine wpAnyJ_writer (i := 2) rfl (by kernel_rfl) (fun K hK => ?_)
  go_simp
  refine (rnew_in _ k k1 k2).mono ?_
  rintro e w3 ⟨p, b, rfl, hS, hp, hb1, hb3⟩
  have J3 := hide (J2.out.grow hb3)
  have O3 := hide (Own.fresh (R1 := S2 p (St.zero k)) l (HO.out.below l J2.out.below) (G := fun x => x = p ∨ x = b) ⟨b, hS, fun _ => Iff.rfl⟩ (by rintro x (rfl | rfl) <;> assumption) hb3)
  refine hK _ _ J3.out ?_
  clear hK K hS hp hb1 hb3 W
  refine wpAnyJ_writer (i := 7) rfl (by kernel_rfl) (fun K hK => ?_)
  go_simp
  have HN := xnewB (pg := pg) (ds := ds) (Loc.s2.sep l) O3.out (by omega) (by omega) hl a c hz J3.out.row
  rw [HL.out] at HN
  refine HN.mono ?_
  rintro e w4 ⟨r, rfl, o4, hb4⟩
  have J4 : Hid (SetAt w w.heap.size pg T a n c ds w4) := hide (J3.out.grow hb4)
  have O4 := hide o4
  refine hK _ _ J4.out ?_
  clear hK K HN o4 O3 hb4
  refine stretch (fuel := 2) (by kernel_rfl) (fun _ _ _ _ _ h => h) (J4.out) [9] (by kernel_rfl) ?_
  simp only [List.filterMap_cons, List.filterMap_nil, List.getElem?_toArray, List.getElem?_cons_zero, List.getElem?_cons_succ]
  show wpQuiet _ _ _ _ [_] _
  repeat (go_big_quiet_step (fail))
  refine wpQuiet_nil ?_
  refine wpAnyJ_writer (i := 10) rfl (by kernel_rfl) (fun K hK => ?_)
  go_simp
  have J5 := hide (J4.out.grow (grown1 w4 (MObj p r pg T)))
  have O5 := hide (Own.fresh (R1 := MH w4.heap.size p r pg T) (Loc.rx.sep (Loc.s2.sep l)) O4.out (G := fun x => x = w4.heap.size) ⟨heap_alloc_at _ _, fun _ => Iff.rfl⟩ (fun x hx => by rw [hx]; exact Nat.le_refl _) (grown1 w4 _))
  refine hK _ _ J5.out ?_
  clear hK K
  refine stretch (fuel := 0) (by kernel_rfl) (fun _ _ _ _ _ h => h) (J5.out) [11] (by kernel_rfl) ?_
  simp only [List.filterMap_cons, List.filterMap_nil, List.getElem?_toArray, List.getElem?_cons_zero, List.getElem?_cons_succ]
  show wpQuiet _ _ _ _ [_] _
  repeat (go_big_quiet_step (fail))
  refine wpQuiet_nil ?_
  refine wpAnyJ_done (by kernel_rfl) ?_
  clear u0 u1 u2 u3 u4 hne J1 J2 J3 J4 J5 H1 O4
  generalize w4.alloc (MObj p r pg T) = U at *
  generalize w4.heap.size = m at *
  obtain ⟨b', hS, hk⟩ := (O5.out.cast (R' := Sep (S2 p (St.zero k)) (Sep (MH m p r pg T) (Sep (RX r pg ds 1 [(kOf 0 pg, ds.getD 0 0, ())]) R))) (by ac_rfl)).store2 (Loc.mh.sep (Loc.rx.sep l))
  have e0 : U.cell? ⟨m, 0, none⟩ = some (.pointer (some ⟨p, 0, none⟩)) := cell_of_heap (O5.out.mhead rfl)
  have e1 : U.cell? ⟨p, 0, none⟩ = some (.slice (some ⟨b', 0, none⟩) k k) := by rw [cell_of_heap hS.head]; simp [St.zero]
  have e2 : U.cell? ⟨b', 0, none⟩ = some (.int .u64 0) := by
    rw [cell_of_heap hS.row]
    obtain ⟨k', rfl⟩ : ∃ k', k = k' + 1 := ⟨k - 1, by omega⟩
    simp [St.zero, wordVals, List.replicate_succ]
  have e3 : U.frozen? ⟨b', 0, none⟩ = false := frozen_of_heap hS.row
  have O6 := hide (hk hS.begin ((Only.refl (fun k => k = p ∨ k = b') U).setCell (p := ⟨b', 0, none⟩) (.inl (.inr rfl)) _))
  clear hk hS O5
  go_wp2
  go_ret
  exact ⟨m, p, r, rfl, O6.out.cast (by unfold MX; ac_rfl)⟩
end Go.Proofs.Ythcfmpjmgheieaa
