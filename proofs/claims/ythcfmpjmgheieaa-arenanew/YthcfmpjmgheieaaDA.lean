/- The document's tree: a row of items, rising. The document's tree: Put, Drop. The document's tree: Drop. The document's tree: Shape. The document's tree: the recursion of Shape. The document's tree beside other things (in a block of its own). -/
import Derived.Test.YthcfmpjmgheieaaTreSep
import Derived.Test.YthcfmpjmgheieaaPhaseL
import Derived.Deep.LoopGhost
import Derived.Handy
import Derived.OwnWalk
import Derived.WalkSmall
import Derived.Test.YthcfmpjmgheieaaTreSame
namespace Go.Proofs.Ythcfmpjmgheieaa
open Go.RowKit

def itemVals (L : List (It Int)) : List Value := L.flatMap fun i => [.int .i64 i.1, .int .u32 (i.2.1 : Int), .int .i64 i.2.2]
theorem itemVals_length (L : List (It Int)) : (itemVals L).length = L.length * 3 := by
  induction L with
  | nil => rfl
  | cons s l ih =>
    have e : itemVals (s :: l) = [Value.int .i64 s.1, .int .u32 (s.2.1 : Int), .int .i64 s.2.2] ++ itemVals l := rfl
    rw [e, List.length_append, ih, List.length_cons]; simp; omega
theorem itemVals_get : ∀ (L : List (It Int)) (i : Nat) (h : i < L.length), (itemVals L)[i * 3]? = some (.int .i64 L[i].1) ∧ (itemVals L)[i * 3 + 1]? = some (.int .u32 (L[i].2.1 : Int)) ∧ (itemVals L)[i * 3 + 2]? = some (.int .i64 L[i].2.2)
  | [], i, h => by simp at h
  | p :: l, 0, _ => by simp [itemVals]
  | p :: l, i + 1, h => by
    have ih := itemVals_get l i (by simpa using h)
    have e : itemVals (p :: l) = Value.int .i64 p.1 :: Value.int .u32 (p.2.1 : Int) :: Value.int .i64 p.2.2 :: itemVals l := rfl
    rw [e, show (i + 1) * 3 = i * 3 + 1 + 1 + 1 from by omega]
    simpa using ih

/-- The document's tree at block r: its slice v owns the items. -/
structure DAt (w : World) (r o : Nat) (v : Value) (L : List (It Int)) : Prop where
  head : w.cell? ⟨r, o, none⟩ = some v
  lt : r < w.heap.size
  froz : w.frozen? ⟨r, o, none⟩ = false
  row : w.ownsRow 0 132 3 v L.length (itemVals L)
  ne : v.ownBlock ≠ some r
  ris : Rising L
/-- Where a key is, or would be. -/
structure Place (L : List (It Int)) (key : Int) (p : Nat) : Prop where
  le : p ≤ L.length
  lo : ∀ j, j < p → keyAt L j < key
  hi : p < L.length → key ≤ keyAt L p

theorem DAt.slice {w : World} {r o : Nat} {v : Value} {L : List (It Int)} (h : DAt w r o v L) : ∃ a c, v = .slice a L.length c := ownsRow_slice h.row
theorem DAt.at {w : World} {r o : Nat} {a : Option Addr} {n c : Nat} {L : List (It Int)} (h : DAt w r o (.slice a n c) L) {i : Nat} (hi : i < L.length) : ∃ g, a = some ⟨g, 0, none⟩ ∧ w.cell? ⟨g, i * 3, none⟩ = some (.int .i64 (keyAt L i)) ∧ w.cell? ⟨g, i * 3 + 1, none⟩ = some (.int .u32 (L[i].2.1 : Int)) ∧ w.cell? ⟨g, i * 3 + 2, none⟩ = some (.int .i64 L[i].2.2) := by
  have hrow := h.row
  rcases hrow.2 with ⟨_, h0⟩ | ⟨g, cap, cur, e, _, hg, _⟩
  · omega
  · cases e
    have h1 := World.ownsRow.cellAt hrow (i * 3) (by omega)
    have h2 := World.ownsRow.cellAt hrow (i * 3 + 1) (by omega)
    have h3 := World.ownsRow.cellAt hrow (i * 3 + 2) (by omega)
    obtain ⟨q1, q2, q3⟩ := itemVals_get L i hi
    refine ⟨g, rfl, ?_, h2.trans q2, h3.trans q3⟩
    rw [h1, q1]; simp [keyAt, hi]

set_option maxHeartbeats 1000000 in
theorem placeT (w : World) (r o : Nat) (v : Value) (L : List (It Int)) (h : DAt w r o v L) (key : Int) (hl : L.length ≤ 1000000) :
    Calls Try.prog 70 #[.pointer (some ⟨r, o, none⟩), .int .i64 key] w fun e w' => w' = w ∧ ∃ p : Nat, e = .returned (.int .i64 (p : Int)) ∧ Place L key p := by
  obtain ⟨a, c, rfl⟩ := h.slice
  have c0 : w.cell? ⟨r, o, none⟩ = some (.slice a L.length c) := h.head
  have H := hide h
  obtain ⟨m, hm⟩ : ∃ m, L.length = m := ⟨_, rfl⟩
  have HM := hide hm
  rw [hm] at c0 hl
  clear h hm
  go_enter Try.func70, Try.ntmps70
  go_wp2
  go_loopw [5] (fun i wr => ∃ k : Nat, k ≤ m ∧ i = .int .i64 (k : Int) ∧ wr = w ∧ Hid (∀ j, j < k → keyAt L j < key)) (fun i _ => m - (intOf i).toNat)
  case atStart => exact ⟨0, Nat.zero_le _, rfl, rfl, fun j hj => by omega⟩
  case round =>
    obtain ⟨k, hk, rfl, rfl, hall⟩ := hrel
    by_cases hlt : k < m
    · obtain ⟨g, e, b0, _, _⟩ := H.out.at (i := k) (by rw [HM.out]; exact hlt)
      subst e
      have HAL := hide hall.out
      obtain ⟨y, hy⟩ : ∃ y, keyAt L k = y := ⟨_, rfl⟩
      rw [hy] at b0
      have HY := hide hy
      clear hall hy
      by_cases hyk : y < key
      · have d1 : decide (y < key) = true := by simpa using hyk
        go_wp2
        go_roundw
        case rel =>
          refine ⟨k + 1, by omega, by go_num, by first | rfl | trivial, fun j hj => ?_⟩
          by_cases q : j = k
          · rw [q, HY.out]; exact hyk
          · exact HAL.out j (by omega)
        case measure => simp [intOf]; omega
      · have d1 : decide (y < key) = false := by simp; omega
        go_wp2
        go_ret
        exact ⟨rfl, k, rfl, by rw [HM.out]; exact hk, HAL.out, fun _ => by rw [HY.out]; omega⟩
    · have HAL := hide hall.out
      clear hall
      go_wp2
      go_ret
      exact ⟨rfl, k, rfl, by rw [HM.out]; exact hk, HAL.out, fun q => by rw [HM.out] at q; omega⟩

theorem place_some {L : List (It Int)} {key : Int} {p : Nat} (hr : Rising L) (h : Place L key p) {i : It Int} (hg : getL key L = some i) : ∃ hp : p < L.length, L[p] = i ∧ keyAt L p = key := by
  obtain ⟨h1, h2⟩ := getL_spec hg
  obtain ⟨j, hj, e⟩ := List.getElem_of_mem h1
  have ek : keyAt L j = key := by simp [keyAt, hj, e, h2]
  have hpj : p = j := by
    rcases Nat.lt_trichotomy p j with q | q | q
    · have := h.hi (by omega); have := keyAt_lt hr q hj; omega
    · exact q
    · have := h.lo j q; omega
  subst hpj
  exact ⟨hj, e, ek⟩
theorem place_none {L : List (It Int)} {key : Int} {p : Nat} (h : getL key L = none) (hp : p < L.length) : keyAt L p ≠ key := by
  intro e
  exact getL_none h L[p] (List.getElem_mem _) (by rw [← e]; simp [keyAt, hp])

set_option maxHeartbeats 1000000 in
theorem hasT (w : World) (r o : Nat) (v : Value) (L : List (It Int)) (h : DAt w r o v L) (key : Int) (hl : L.length ≤ 1000000) :
    Calls Try.prog 69 #[.pointer (some ⟨r, o, none⟩), .int .i64 key] w fun e w' => e = .returned (.bool (getL key L).isSome) ∧ w' = w := by
  have HP := hide (placeT w r o v L h key hl)
  obtain ⟨B, hB⟩ : ∃ B, (getL key L).isSome = B := ⟨_, rfl⟩
  have HB := hide hB
  rw [hB]
  clear hB
  obtain ⟨a, c, rfl⟩ := h.slice
  have c0 : w.cell? ⟨r, o, none⟩ = some (.slice a L.length c) := h.head
  have H := hide h
  obtain ⟨m, hm⟩ : ∃ m, L.length = m := ⟨_, rfl⟩
  have HM := hide hm
  rw [hm] at c0 hl
  clear h hm
  go_enter Try.func69, Try.ntmps69
  go_wp2_with fail
  refine HP.out.mono ?_
  rintro e w1 ⟨hw1, p, rfl, hp⟩
  rw [hw1]
  have hpm : p ≤ m := by have := hp.le; rw [HM.out] at this; exact this
  have HPL := hide hp
  clear hw1 w1 hp HP
  by_cases hlt : p < m
  · obtain ⟨g, e, b0, _, _⟩ := H.out.at (i := p) (by rw [HM.out]; exact hlt)
    subst e
    cases hg : getL key L with
    | none =>
      have hne := place_none hg (p := p) (by rw [HM.out]; exact hlt)
      generalize keyAt L p = y at *
      have d1 : (y == key) = false := by rw [beq_eq_false_iff_ne]; exact hne
      have hb : B = false := by rw [← HB.out, hg]; rfl
      clear hg hne
      go_wp2
      go_ret
      exact ⟨ret_bool hb.symm, rfl⟩
    | some i =>
      obtain ⟨_, _, ek⟩ := place_some H.out.ris HPL.out hg
      rw [ek] at b0
      have hb : B = true := by rw [← HB.out, hg]; rfl
      clear hg ek
      go_wp2
      go_ret
      exact ⟨ret_bool hb.symm, rfl⟩
  · have hg : getL key L = none := by
      cases hg : getL key L with
      | none => rfl
      | some i => obtain ⟨q, _⟩ := place_some H.out.ris HPL.out hg; rw [HM.out] at q; omega
    have hb : B = false := by rw [← HB.out, hg]; rfl
    clear hg
    go_wp2
    go_ret
    exact ⟨ret_bool hb.symm, rfl⟩

theorem place_unique {L : List (It Int)} {key : Int} {p q : Nat} (h : Place L key p) (g : Place L key q) : p = q := by
  rcases Nat.lt_trichotomy p q with e | e | e
  · have h1 := g.lo p e; have h2 := h.hi (by have := g.le; omega); omega
  · exact e
  · have h1 := h.lo q e; have h2 := g.hi (by have := h.le; omega); omega
theorem place_there (L : List (It Int)) (key : Int) : ∃ p, Place L key p := by
  have main : ∀ n, n ≤ L.length → (∃ p, Place L key p) ∨ ∀ j, j < n → keyAt L j < key := by
    intro n
    induction n with
    | zero => exact fun _ => .inr fun j hj => by omega
    | succ n ih =>
      intro hn
      rcases ih (by omega) with h | h
      · exact .inl h
      · by_cases q : keyAt L n < key
        · refine .inr fun j hj => ?_
          by_cases e : j = n
          · rw [e]; exact q
          · exact h j (by omega)
        · exact .inl ⟨n, by omega, h, fun _ => by omega⟩
  rcases main L.length (Nat.le_refl _) with h | h
  · exact h
  · exact ⟨L.length, Nat.le_refl _, h, fun q => by omega⟩
theorem placeP (w : World) (r o : Nat) (v : Value) (L : List (It Int)) (h : DAt w r o v L) (key : Int) (hl : L.length ≤ 1000000) (p : Nat) (hp : Place L key p) :
    Calls Try.prog 70 #[.pointer (some ⟨r, o, none⟩), .int .i64 key] w fun e w' => e = .returned (.int .i64 (p : Int)) ∧ w' = w :=
  (placeT w r o v L h key hl).mono fun _ _ ⟨h1, q, h2, h3⟩ => ⟨by rw [h2, place_unique h3 hp], h1⟩
theorem DAt.alike {w w' : World} {r o : Nat} {v : Value} {L : List (It Int)} (h : DAt w r o v L) (g : Alike w w') : DAt w' r o v L := ⟨(World.cell?_of_block (a := ⟨r, o, none⟩) (by rw [g.heap])).trans h.head, by rw [g.heap]; exact h.lt, by have := h.froz; unfold World.frozen? at this ⊢; rw [g.heap]; exact this, ownsRow_alike h.row g, h.ne, h.ris⟩

end Go.Proofs.Ythcfmpjmgheieaa

namespace Go.Proofs.Ythcfmpjmgheieaa
open Go.RowKit

theorem itemVals_app (A B : List (It Int)) : itemVals (A ++ B) = itemVals A ++ itemVals B := by simp [itemVals]
theorem itemVals_one (L : List (It Int)) : ∀ u ∈ itemVals L, u.oneCell' = true := by
  intro u hu
  simp only [itemVals, List.mem_flatMap] at hu
  obtain ⟨i, _, h⟩ := hu
  simp only [List.mem_cons, List.not_mem_nil, or_false] at h
  rcases h with rfl | rfl | rfl <;> rfl
theorem infoItem : (Try.prog.info? 132).map (fun i => (i.zero, i.size, i.bytes)) = some (some (.agg #[.int .i64 0, .int .u32 0, .int .i64 0]), 3, 24) := by kernel_rfl
theorem filter_place {L : List (It Int)} {key : Int} {p : Nat} (hr : Rising L) (h : Place L key p) : L.filter (fun i => decide (i.1 < key)) = L.take p ∧ L.filter (fun i => !decide (i.1 < key)) = L.drop p := by
  have e : L = L.take p ++ L.drop p := (List.take_append_drop p L).symm
  have h1 : ∀ i ∈ L.take p, i.1 < key := fun i hi => by
    obtain ⟨j, hj, rfl⟩ := List.getElem_of_mem hi
    rw [List.length_take] at hj
    have := h.lo j (by omega)
    rw [List.getElem_take]
    simpa [keyAt, show j < L.length by omega] using this
  have h2 : ∀ i ∈ L.drop p, key ≤ i.1 := fun i hi => by
    obtain ⟨j, hj, rfl⟩ := List.getElem_of_mem hi
    rw [List.length_drop] at hj
    have k1 := h.hi (by omega)
    rw [List.getElem_drop]
    by_cases hj0 : j = 0
    · subst hj0; simpa [keyAt, show p < L.length by omega] using k1
    · have := keyAt_lt hr (i := p) (j := p + j) (by omega) (by omega)
      simp only [keyAt, List.getD_eq_getElem?_getD, List.getElem?_map, List.getElem?_eq_getElem (show p < L.length by omega), List.getElem?_eq_getElem (show p + j < L.length by omega), Option.map_some, Option.getD_some] at this k1
      omega
  have f1 := filter_lt_all h1
  have f2 := filter_ge_all h2
  constructor
  · conv => lhs; rw [e]
    rw [List.filter_append, f1.1, f2.1, List.append_nil]
  · conv => lhs; rw [e]
    rw [List.filter_append, f1.2, f2.2, List.nil_append]
theorem ins_place {L : List (It Int)} {key : Int} {p : Nat} (hr : Rising L) (h : Place L key p) (d : Nat) (x : Int) : insL key d x L = L.take p ++ (key, d, x) :: L.drop p := by
  unfold insL
  rw [(filter_place hr h).1, (filter_place hr h).2]
/-- What a cut of the row tells. -/
theorem src_take {w W : World} {L : List (It Int)} {g c : Nat} (h : w.ownsRow 0 132 3 (.slice (some ⟨g, 0, none⟩) L.length c) L.length (itemVals L)) (hb : Below w.heap.size w W) (p : Nat) (hp : p ≤ L.length) (cc : Nat) : Src W (.slice (some ⟨g, 0, none⟩) p cc) p (itemVals (L.take p)) := by
  refine .inr ⟨_, _, rfl, fun j u hj => ?_⟩
  have hjl : j < p * 3 := by have := (List.getElem?_eq_some_iff.1 hj).1; rw [itemVals_length, List.length_take] at this; omega
  have hc := World.ownsRow.cellAt h j (by omega)
  have e : (itemVals L)[j]? = some u := by
    rw [← List.take_append_drop p L, itemVals_app, List.getElem?_append_left (by rw [itemVals_length, List.length_take]; omega)]; exact hj
  have ea : (⟨g, 0, none⟩ : Addr).add j = ⟨g, j, none⟩ := by unfold Addr.add; split <;> simp_all
  rw [ea]
  exact (hb.cell (p := ⟨g, j, none⟩) ((h.lt g rfl).2)).trans (hc.trans e)
theorem src_drop {w W : World} {L : List (It Int)} {g c : Nat} (h : w.ownsRow 0 132 3 (.slice (some ⟨g, 0, none⟩) L.length c) L.length (itemVals L)) (hb : Below w.heap.size w W) (p : Nat) (hp : p ≤ L.length) (cc : Nat) (a : Nat) (ha : p < L.length → a = p * 3) : Src W (.slice (some ⟨g, a, none⟩) (L.length - p) cc) (L.length - p) (itemVals (L.drop p)) := by
  refine .inr ⟨_, _, rfl, fun j u hj => ?_⟩
  have hjl : j < (L.length - p) * 3 := by have := (List.getElem?_eq_some_iff.1 hj).1; rw [itemVals_length, List.length_drop] at this; omega
  have hap := ha (by omega)
  subst hap
  have hc := World.ownsRow.cellAt h (p * 3 + j) (by omega)
  have e : (itemVals L)[p * 3 + j]? = some u := by
    rw [← List.take_append_drop p L, itemVals_app, List.getElem?_append_right (by rw [itemVals_length, List.length_take]; omega), itemVals_length, List.length_take, show p * 3 + j - min p L.length * 3 = j by omega]
    exact hj
  have ea : (⟨g, p * 3, none⟩ : Addr).add j = ⟨g, p * 3 + j, none⟩ := by unfold Addr.add; split <;> simp_all
  rw [ea]
  exact (hb.cell (p := ⟨g, p * 3 + j, none⟩) ((h.lt g rfl).2)).trans (hc.trans e)

set_option maxRecDepth 100000 in
set_option maxHeartbeats 4000000 in
theorem dput (w : World) (r o : Nat) (v : Value) (L : List (It Int)) (h : DAt w r o v L) (key : Int) (d : Nat) (x : Int) (hg : getL key L = none) (hl : L.length ≤ 1000000) :
    Calls Try.prog 64 #[.pointer (some ⟨r, o, none⟩), .int .i64 key, .int .u32 (d : Int), .int .i64 x] w fun e w' => e = .returned (.bool true) ∧ ∃ v' W, w' = W.setCell ⟨r, o, none⟩ v' ∧ Below w.heap.size w W ∧ W.ownsRow w.heap.size 132 3 v' (L.length + 1) (itemVals (insL key d x L)) := by
  obtain ⟨i0, hi, hz0, hz1, hz2⟩ := info_parts infoItem
  have HH := hide (hasT w r o v L h key hl)
  rw [hg, Option.isSome_none] at HH
  obtain ⟨p, hp⟩ := place_there L key
  have HP := hide (placeP w r o v L h key hl p hp)
  have HI := hide (ins_place h.ris hp d x)
  have hpl := hp.le
  obtain ⟨a, c, rfl⟩ := h.slice
  have c0 := h.head
  have HD := hide h
  obtain ⟨m, hm⟩ : ∃ m, L.length = m := ⟨_, rfl⟩
  have HM := hide hm
  rw [hm] at c0 hl hpl ⊢
  have hcap : m ≤ c ∧ c ≤ 9223372036854775807 := by
    have := HD.out.row
    rcases this.2 with ⟨e, e0⟩ | ⟨g, cap, cur, e, _, _, e1, e2, _⟩
    · rw [hm] at e e0; cases e; omega
    · cases e; unfold maxLen at e2; omega
  clear h hg hp hm
  go_enter Try.func64, Try.ntmps64
  go_wp2_with fail
  refine HH.out.mono ?_
  rintro e w1 ⟨rfl, rfl⟩
  go_wp2_with fail
  refine HP.out.mono ?_
  rintro e w2 ⟨rfl, rfl⟩
  have C0 : Hid (CellIs r o (.slice a m c) w2.drew) := hide c0
  have u0 : ∀ u : Mem (CellIs r o (.slice a m c)), u.w'.cell? ⟨r, o, none⟩ = some (.slice a m c) := fun u => u.h
  have hne : Nonempty (Mem (CellIs r o (.slice a m c))) := ⟨⟨_, C0.out⟩⟩
  clear HH HP
  go_wp2
  refine startL 24 (J := CellIs r o (.slice a m c)) (by kernel_rfl) ?_
  refine stretchL (fuel := 8) (by kernel_rfl) (fun _ _ _ _ _ h => h) C0.out [0, 2, 3, 4, 5, 6, 7, 9, 10, 11, 12, 15, 16, 17, 18, 19, 20] (by kernel_rfl) ?_
  simp only [List.filterMap_cons, List.filterMap_nil, List.getElem?_toArray, List.getElem?_cons_zero, List.getElem?_cons_succ]
  show wpQuiet _ _ _ _ [_, _, _, _, _, _, _, _, _, _, _, _, _, _, _, _, _] _
  repeat (go_big_quiet_step (fail))
  -- GEN
  refine wpQuiet_nil ?_
  obtain ⟨S, hS⟩ : ∃ S, w2.heap.size = S := ⟨_, rfl⟩
  have HS := hide hS
  have hSr : r < S := by rw [← hS]; exact HD.out.lt
  have HCI : Hid (∀ U, Below S w2 U → CellIs r o (.slice a m c) U) := hide (fun U hU => (hU.cell (p := ⟨r, o, none⟩) hSr).trans c0)
  have HR0 := hide HD.out.row
  have HX1 : Hid (∀ U, Below S w2 U → Src U (.slice a p c) p (itemVals (L.take p))) := hide (fun U hU => by
    have hr := HR0.out
    rcases hr.2 with ⟨e, e0⟩ | ⟨g, cap, cur, e, _⟩
    · have hm0 := HM.out
      simp only [Value.slice.injEq] at e
      obtain ⟨rfl, _, rfl⟩ := e
      have : p = 0 := by omega
      subst this
      exact .inl ⟨rfl, rfl, by simp [itemVals]⟩
    · cases e
      exact src_take hr (by rw [HS.out]; exact hU) p (by rw [HM.out]; exact hpl) c)
  have HX2 : Hid (∀ U, Below S w2 U → Src U (.slice (if c = p then a else Option.map (fun x => x.add (p * 3)) a) (m - p) (c - p)) (m - p) (itemVals (L.drop p))) := hide (fun U hU => by
    have hr := HR0.out
    rcases hr.2 with ⟨e, e0⟩ | ⟨g, cap, cur, e, _, _, e1, _⟩
    · have hm0 := HM.out
      have hln : L = [] := List.length_eq_zero_iff.1 e0
      simp only [Value.slice.injEq] at e
      obtain ⟨rfl, _, rfl⟩ := e
      have : p = 0 := by omega
      subst this
      exact .inl ⟨by simp; omega, by omega, by rw [hln]; rfl⟩
    · cases e
      have hm0 := HM.out
      by_cases hcp : c = p
      · rw [if_pos hcp]
        have := src_drop (w := w2) hr (by rw [HS.out]; exact hU) p (by omega) (c - p) 0 (fun h => by omega)
        rw [hm0] at this; exact this
      · rw [if_neg hcp]
        have := src_drop (w := w2) hr (by rw [HS.out]; exact hU) p (by omega) (c - p) (p * 3) (fun _ => rfl)
        rw [hm0] at this
        have ea : (⟨g, 0, none⟩ : Addr).add (p * 3) = ⟨g, p * 3, none⟩ := by unfold Addr.add; split <;> simp_all
        simp only [Option.map_some, ea]; exact this)
  have HIT : Hid (itemVals (L.take p) ++ [.int .i64 key, .int .u32 (d : Int), .int .i64 x] ++ itemVals (L.drop p) = itemVals (insL key d x L)) := hide (by rw [HI.out, itemVals_app]; simp [itemVals])
  have HL1 : Hid ((itemVals (L.take p)).length = p * 3) := hide (by rw [itemVals_length, List.length_take]; have := HM.out; omega)
  have HL2 : Hid ((itemVals (L.drop p)).length = (m - p) * 3) := hide (by rw [itemVals_length, List.length_drop]; have := HM.out; omega)
  have HN1 := hide (itemVals_one (L.take p))
  have HN2 := hide (itemVals_one (L.drop p))
  have HFZ : Hid (∀ U, Below S w2 U → U.frozen? ⟨r, o, none⟩ = false) := hide (fun U hU => by have := HD.out.froz; unfold World.frozen? at this ⊢; rw [hU.block r hSr]; exact this)
  generalize (if c = p then a else Option.map (fun x => x.add (p * 3)) a) = xa at *
  have hB0 : Below S w2 w2.drew := (Alike.drewN w2 1).below _
  have hS0 : S ≤ w2.drew.heap.size := by show S ≤ w2.heap.size; omega
  clear c0 hS C0 u0 hne HD HI HM HR0
  refine twoL (i := 1) (j := 13) rfl rfl (by kernel_rfl) rfl rfl (fun K hK => ?_) (fun K hK => ?_)
  · go_simp
    have b1 : Below S w2 (w2.alloc (.cells #[] 132)).drew := ((Below.refl S w2).alloc (by have := HS.out; omega) (.cells #[] 132)).trans ((Alike.drewN _ 1).below _)
    have s1 : S ≤ (w2.alloc (.cells #[] 132)).drew.heap.size := by show S ≤ (w2.alloc (.cells #[] 132)).heap.size; simp; have := HS.out; omega
    have own1 : (w2.alloc (.cells #[] 132)).drew.ownsRow S 132 3 (.slice (some ⟨w2.heap.size, 0, none⟩) 0 0) 0 [] := ownsRow_alike (w := w2.alloc (.cells #[] 132)) ⟨rfl, .inr ⟨w2.heap.size, 0, #[], rfl, by have := HS.out; omega, heap_alloc_at _ _, Nat.le_refl _, Nat.zero_le _, rfl, rfl⟩⟩ ⟨rfl, rfl, rfl, rfl⟩
    have hz1' : (w2.alloc (.cells #[] 132)).drew.heap.size = w2.heap.size + 1 := by show (w2.alloc (.cells #[] 132)).heap.size = _; simp
    refine hK _ _ (fun _ => HCI.out _ b1) ?_
    clear hK K
    generalize (w2.alloc (.cells #[] 132)).drew = U1 at *
    have hn3 : U1.heap.size ≠ w2.heap.size := by omega
    clear hz1'
    refine twoL (i := 8) (j := 13) rfl rfl (by kernel_rfl) rfl rfl (fun K hK => ?_) (fun K hK => ?_)
    · refine oper_append _ _ _ 86 rfl S 132 i0 (.agg #[.int .i64 0, .int .u32 0, .int .i64 0]) 3 24 Try.underlying86 hi hz0 hz1 hz2 rfl (by decide) (.slice (some ⟨w2.heap.size, 0, none⟩) 0 0) 0 [] rfl own1 p (itemVals (L.take p)) (HX1.out _ b1) HL1.out HN1.out (by unfold maxLen; omega) (by omega) s1 ?_
      intro v8 u8 own8 hgr hat
      have b8 : Below S w2 u8 := b1.trans (grown_below own1 hgr s1)
      have s8 : S ≤ u8.heap.size := Nat.le_trans s1 hgr.size
      rw [List.nil_append, Nat.zero_add] at own8
      refine hK _ _ (fun _ => HCI.out _ b8) ?_
      clear hK K
      simp only [Act.put, List.getElem_toArray, List.getElem_cons_succ, List.getElem_cons_zero, List.setIfInBounds_toArray, List.set_cons_succ, List.set_cons_zero]
      refine writerL (i := 13) rfl (by kernel_rfl) rfl (fun K hK => ?_)
      go_simp
      have hit : ∀ j u, [Value.int .i64 key, .int .u32 (d : Int), .int .i64 x][j]? = some u → (u8.alloc (.cells #[.int .i64 key, .int .u32 (d : Int), .int .i64 x] 132)).cell? ((⟨u8.heap.size, 0, none⟩ : Addr).add j) = some u := cells_new _ _ _
      have b8' : Below S w2 (u8.alloc (.cells #[.int .i64 key, .int .u32 (d : Int), .int .i64 x] 132)) := b8.alloc s8 _
      have own8' := own8.alloc (.cells #[.int .i64 key, .int .u32 (d : Int), .int .i64 x] 132)
      have s8' : S ≤ (u8.alloc (.cells #[.int .i64 key, .int .u32 (d : Int), .int .i64 x] 132)).heap.size := by simp; omega
      refine hK _ _ (fun _ => HCI.out _ b8') ?_
      clear hK K own8 b8 s8 own1 b1 s1
      generalize u8.heap.size = b3 at *
      generalize u8.alloc (.cells #[.int .i64 key, .int .u32 (d : Int), .int .i64 x] 132) = U3 at *
      have own8 := own8'
      have b8 := b8'
      have s8 := s8'
      refine writerL (i := 14) rfl (by kernel_rfl) rfl (fun K hK => ?_)
      refine oper_append _ _ _ 86 rfl S 132 i0 (.agg #[.int .i64 0, .int .u32 0, .int .i64 0]) 3 24 Try.underlying86 hi hz0 hz1 hz2 rfl (by decide) v8 p (itemVals (L.take p)) rfl own8 1 [.int .i64 key, .int .u32 (d : Int), .int .i64 x] (.inr ⟨⟨b3, 0, none⟩, 1, rfl, hit⟩) rfl (by simp [Value.oneCell']) (by unfold maxLen; omega) (by omega) s8 ?_
      intro v14 u14 own14 hgr hat
      have b14 : Below S w2 u14 := b8.trans (grown_below own8 hgr s8)
      have s14 : S ≤ u14.heap.size := Nat.le_trans s8 hgr.size
      refine hK _ _ (fun _ => HCI.out _ b14) ?_
      clear hK K
      simp only [Act.put, List.getElem_toArray, List.getElem_cons_succ, List.getElem_cons_zero, List.setIfInBounds_toArray, List.set_cons_succ, List.set_cons_zero]
      refine writerL (i := 21) rfl (by kernel_rfl) rfl (fun K hK => ?_)
      refine oper_append _ _ _ 86 rfl S 132 i0 (.agg #[.int .i64 0, .int .u32 0, .int .i64 0]) 3 24 Try.underlying86 hi hz0 hz1 hz2 rfl (by decide) v14 (p + 1) (itemVals (L.take p) ++ [.int .i64 key, .int .u32 (d : Int), .int .i64 x]) rfl own14 (m - p) (itemVals (L.drop p)) (HX2.out _ b14) HL2.out HN2.out (by unfold maxLen; omega) (by omega) s14 ?_
      intro v21 u21 own21 hgr hat
      have b21 : Below S w2 u21 := b14.trans (grown_below own14 hgr s14)
      have s21 : S ≤ u21.heap.size := Nat.le_trans s14 hgr.size
      obtain ⟨a21, c21, rfl⟩ := ownsRow_slice own21
      refine hK _ _ (fun _ => HCI.out _ b21) ?_
      clear hK K
      simp only [Act.put, List.getElem_toArray, List.getElem_cons_succ, List.getElem_cons_zero, List.setIfInBounds_toArray, List.set_cons_succ, List.set_cons_zero]
      refine writerL (i := 22) rfl (by kernel_rfl) rfl (fun K hK => ?_)
      go_simp
      refine hK _ _ (fun _ => HCI.out _ b21) ?_
      clear hK K
      refine writerL (i := 23) rfl (by kernel_rfl) rfl (fun K hK => ?_)
      go_simp
      refine hK _ _ (fun _ => HCI.out _ b21) ?_
      clear hK K
      refine writerL (i := 24) rfl (by kernel_rfl) rfl (fun K hK => ?_)
      have y0 : u21.cell? ⟨r, o, none⟩ = some (.slice a m c) := HCI.out _ b21
      have yf := HFZ.out _ b21
      go_simp
      refine hK _ _ (fun h => absurd rfl h) ?_
      clear hK K
      refine doneL (by kernel_rfl) ?_
      have HB21 := hide b21
      have HO21 := hide own21
      clear y0 yf b21 own21 own14 b14
      go_wp2
      go_ret
      refine ⟨rfl, _, u21, rfl, ?_, ?_⟩
      · rw [HS.out]; exact HB21.out
      · have e := HO21.out
        have he : p + 1 + (m - p) = m + 1 := by omega
        rw [HIT.out, he] at e
        rw [HS.out, he]; exact e
    · go_simp
      have b1' : Below S w2 (U1.alloc (.cells #[.int .i64 key, .int .u32 (d : Int), .int .i64 x] 132)) := b1.alloc s1 _
      have own1' := own1.alloc (.cells #[.int .i64 key, .int .u32 (d : Int), .int .i64 x] 132)
      have s1' : S ≤ (U1.alloc (.cells #[.int .i64 key, .int .u32 (d : Int), .int .i64 x] 132)).heap.size := by simp; omega
      have hi3 := heap_alloc_at U1 (.cells #[.int .i64 key, .int .u32 (d : Int), .int .i64 x] 132)
      refine hK _ _ (fun _ => HCI.out _ b1') ?_
      clear hK K own1 b1 s1
      have hl3 := lt_of_heap hi3
      generalize U1.heap.size = b3 at *
      generalize U1.alloc (.cells #[.int .i64 key, .int .u32 (d : Int), .int .i64 x] 132) = U3 at *
      have own1 := own1'
      have b1 := b1'
      have s1 := s1'
      refine writerL (i := 8) rfl (by kernel_rfl) rfl (fun K hK => ?_)
      refine oper_append _ _ _ 86 rfl S 132 i0 (.agg #[.int .i64 0, .int .u32 0, .int .i64 0]) 3 24 Try.underlying86 hi hz0 hz1 hz2 rfl (by decide) (.slice (some ⟨w2.heap.size, 0, none⟩) 0 0) 0 [] rfl own1 p (itemVals (L.take p)) (HX1.out _ b1) HL1.out HN1.out (by unfold maxLen; omega) (by omega) s1 ?_
      intro v8 u8 own8 hgr hat
      have b8 : Below S w2 u8 := b1.trans (grown_below own1 hgr s1)
      have s8 : S ≤ u8.heap.size := Nat.le_trans s1 hgr.size
      rw [List.nil_append, Nat.zero_add] at own8
      have hit : ∀ j u, [Value.int .i64 key, .int .u32 (d : Int), .int .i64 x][j]? = some u → u8.cell? ((⟨b3, 0, none⟩ : Addr).add j) = some u := cells_at ((hgr.block b3 hl3 (by simp [Value.ownBlock]; omega)).trans hi3)
      refine hK _ _ (fun _ => HCI.out _ b8) ?_
      clear hK K
      simp only [Act.put, List.getElem_toArray, List.getElem_cons_succ, List.getElem_cons_zero, List.setIfInBounds_toArray, List.set_cons_succ, List.set_cons_zero]
      refine writerL (i := 14) rfl (by kernel_rfl) rfl (fun K hK => ?_)
      refine oper_append _ _ _ 86 rfl S 132 i0 (.agg #[.int .i64 0, .int .u32 0, .int .i64 0]) 3 24 Try.underlying86 hi hz0 hz1 hz2 rfl (by decide) v8 p (itemVals (L.take p)) rfl own8 1 [.int .i64 key, .int .u32 (d : Int), .int .i64 x] (.inr ⟨⟨b3, 0, none⟩, 1, rfl, hit⟩) rfl (by simp [Value.oneCell']) (by unfold maxLen; omega) (by omega) s8 ?_
      intro v14 u14 own14 hgr hat
      have b14 : Below S w2 u14 := b8.trans (grown_below own8 hgr s8)
      have s14 : S ≤ u14.heap.size := Nat.le_trans s8 hgr.size
      refine hK _ _ (fun _ => HCI.out _ b14) ?_
      clear hK K
      simp only [Act.put, List.getElem_toArray, List.getElem_cons_succ, List.getElem_cons_zero, List.setIfInBounds_toArray, List.set_cons_succ, List.set_cons_zero]
      refine writerL (i := 21) rfl (by kernel_rfl) rfl (fun K hK => ?_)
      refine oper_append _ _ _ 86 rfl S 132 i0 (.agg #[.int .i64 0, .int .u32 0, .int .i64 0]) 3 24 Try.underlying86 hi hz0 hz1 hz2 rfl (by decide) v14 (p + 1) (itemVals (L.take p) ++ [.int .i64 key, .int .u32 (d : Int), .int .i64 x]) rfl own14 (m - p) (itemVals (L.drop p)) (HX2.out _ b14) HL2.out HN2.out (by unfold maxLen; omega) (by omega) s14 ?_
      intro v21 u21 own21 hgr hat
      have b21 : Below S w2 u21 := b14.trans (grown_below own14 hgr s14)
      have s21 : S ≤ u21.heap.size := Nat.le_trans s14 hgr.size
      obtain ⟨a21, c21, rfl⟩ := ownsRow_slice own21
      refine hK _ _ (fun _ => HCI.out _ b21) ?_
      clear hK K
      simp only [Act.put, List.getElem_toArray, List.getElem_cons_succ, List.getElem_cons_zero, List.setIfInBounds_toArray, List.set_cons_succ, List.set_cons_zero]
      refine writerL (i := 22) rfl (by kernel_rfl) rfl (fun K hK => ?_)
      go_simp
      refine hK _ _ (fun _ => HCI.out _ b21) ?_
      clear hK K
      refine writerL (i := 23) rfl (by kernel_rfl) rfl (fun K hK => ?_)
      go_simp
      refine hK _ _ (fun _ => HCI.out _ b21) ?_
      clear hK K
      refine writerL (i := 24) rfl (by kernel_rfl) rfl (fun K hK => ?_)
      have y0 : u21.cell? ⟨r, o, none⟩ = some (.slice a m c) := HCI.out _ b21
      have yf := HFZ.out _ b21
      go_simp
      refine hK _ _ (fun h => absurd rfl h) ?_
      clear hK K
      refine doneL (by kernel_rfl) ?_
      have HB21 := hide b21
      have HO21 := hide own21
      clear y0 yf b21 own21 own14 b14
      go_wp2
      go_ret
      refine ⟨rfl, _, u21, rfl, ?_, ?_⟩
      · rw [HS.out]; exact HB21.out
      · have e := HO21.out
        have he : p + 1 + (m - p) = m + 1 := by omega
        rw [HIT.out, he] at e
        rw [HS.out, he]; exact e
  · go_simp
    have b1 : Below S w2 (w2.alloc (.cells #[.int .i64 key, .int .u32 (d : Int), .int .i64 x] 132)).drew := ((Below.refl S w2).alloc (by have := HS.out; omega) (.cells #[.int .i64 key, .int .u32 (d : Int), .int .i64 x] 132)).trans ((Alike.drewN _ 1).below _)
    have s1 : S ≤ (w2.alloc (.cells #[.int .i64 key, .int .u32 (d : Int), .int .i64 x] 132)).drew.heap.size := by show S ≤ (w2.alloc (.cells #[.int .i64 key, .int .u32 (d : Int), .int .i64 x] 132)).heap.size; simp; have := HS.out; omega
    have hi3 : (w2.alloc (.cells #[.int .i64 key, .int .u32 (d : Int), .int .i64 x] 132)).drew.heap[w2.heap.size]? = some (.cells #[.int .i64 key, .int .u32 (d : Int), .int .i64 x] 132) := heap_alloc_at w2 (.cells #[.int .i64 key, .int .u32 (d : Int), .int .i64 x] 132)
    refine hK _ _ (fun _ => HCI.out _ b1) ?_
    clear hK K
    have hl3 := lt_of_heap hi3
    obtain ⟨b3, hb3⟩ : ∃ b3, w2.heap.size = b3 := ⟨_, rfl⟩
    rw [hb3] at hi3 hl3 ⊢
    clear hb3
    generalize (w2.alloc (.cells #[.int .i64 key, .int .u32 (d : Int), .int .i64 x] 132)).drew = U1 at *
    refine writerL (i := 1) rfl (by kernel_rfl) rfl (fun K hK => ?_)
    go_simp
    have b1' : Below S w2 (U1.alloc (.cells #[] 132)) := b1.alloc s1 _
    have own1' : (U1.alloc (.cells #[] 132)).ownsRow S 132 3 (.slice (some ⟨U1.heap.size, 0, none⟩) 0 0) 0 [] := ⟨rfl, .inr ⟨U1.heap.size, 0, #[], rfl, s1, heap_alloc_at _ _, Nat.le_refl _, Nat.zero_le _, rfl, rfl⟩⟩
    have s1' : S ≤ (U1.alloc (.cells #[] 132)).heap.size := by simp; omega
    have hi3' := heap_alloc_old (o := (.cells #[] 132)) hi3
    have hn3 : b3 ≠ U1.heap.size := by omega
    refine hK _ _ (fun _ => HCI.out _ b1') ?_
    clear hK K b1 s1 hi3
    have hl3' := lt_of_heap hi3'
    generalize U1.heap.size = q1 at *
    generalize U1.alloc (.cells #[] 132) = U3 at *
    have own1 := own1'
    have b1 := b1'
    have s1 := s1'
    refine writerL (i := 8) rfl (by kernel_rfl) rfl (fun K hK => ?_)
    refine oper_append _ _ _ 86 rfl S 132 i0 (.agg #[.int .i64 0, .int .u32 0, .int .i64 0]) 3 24 Try.underlying86 hi hz0 hz1 hz2 rfl (by decide) (.slice (some ⟨q1, 0, none⟩) 0 0) 0 [] rfl own1 p (itemVals (L.take p)) (HX1.out _ b1) HL1.out HN1.out (by unfold maxLen; omega) (by omega) s1 ?_
    intro v8 u8 own8 hgr hat
    have b8 : Below S w2 u8 := b1.trans (grown_below own1 hgr s1)
    have s8 : S ≤ u8.heap.size := Nat.le_trans s1 hgr.size
    rw [List.nil_append, Nat.zero_add] at own8
    have hit : ∀ j u, [Value.int .i64 key, .int .u32 (d : Int), .int .i64 x][j]? = some u → u8.cell? ((⟨b3, 0, none⟩ : Addr).add j) = some u := cells_at ((hgr.block b3 hl3' (by simp [Value.ownBlock]; omega)).trans hi3')
    refine hK _ _ (fun _ => HCI.out _ b8) ?_
    clear hK K
    simp only [Act.put, List.getElem_toArray, List.getElem_cons_succ, List.getElem_cons_zero, List.setIfInBounds_toArray, List.set_cons_succ, List.set_cons_zero]
    refine writerL (i := 14) rfl (by kernel_rfl) rfl (fun K hK => ?_)
    refine oper_append _ _ _ 86 rfl S 132 i0 (.agg #[.int .i64 0, .int .u32 0, .int .i64 0]) 3 24 Try.underlying86 hi hz0 hz1 hz2 rfl (by decide) v8 p (itemVals (L.take p)) rfl own8 1 [.int .i64 key, .int .u32 (d : Int), .int .i64 x] (.inr ⟨⟨b3, 0, none⟩, 1, rfl, hit⟩) rfl (by simp [Value.oneCell']) (by unfold maxLen; omega) (by omega) s8 ?_
    intro v14 u14 own14 hgr hat
    have b14 : Below S w2 u14 := b8.trans (grown_below own8 hgr s8)
    have s14 : S ≤ u14.heap.size := Nat.le_trans s8 hgr.size
    refine hK _ _ (fun _ => HCI.out _ b14) ?_
    clear hK K
    simp only [Act.put, List.getElem_toArray, List.getElem_cons_succ, List.getElem_cons_zero, List.setIfInBounds_toArray, List.set_cons_succ, List.set_cons_zero]
    refine writerL (i := 21) rfl (by kernel_rfl) rfl (fun K hK => ?_)
    refine oper_append _ _ _ 86 rfl S 132 i0 (.agg #[.int .i64 0, .int .u32 0, .int .i64 0]) 3 24 Try.underlying86 hi hz0 hz1 hz2 rfl (by decide) v14 (p + 1) (itemVals (L.take p) ++ [.int .i64 key, .int .u32 (d : Int), .int .i64 x]) rfl own14 (m - p) (itemVals (L.drop p)) (HX2.out _ b14) HL2.out HN2.out (by unfold maxLen; omega) (by omega) s14 ?_
    intro v21 u21 own21 hgr hat
    have b21 : Below S w2 u21 := b14.trans (grown_below own14 hgr s14)
    have s21 : S ≤ u21.heap.size := Nat.le_trans s14 hgr.size
    obtain ⟨a21, c21, rfl⟩ := ownsRow_slice own21
    refine hK _ _ (fun _ => HCI.out _ b21) ?_
    clear hK K
    simp only [Act.put, List.getElem_toArray, List.getElem_cons_succ, List.getElem_cons_zero, List.setIfInBounds_toArray, List.set_cons_succ, List.set_cons_zero]
    refine writerL (i := 22) rfl (by kernel_rfl) rfl (fun K hK => ?_)
    go_simp
    refine hK _ _ (fun _ => HCI.out _ b21) ?_
    clear hK K
    refine writerL (i := 23) rfl (by kernel_rfl) rfl (fun K hK => ?_)
    go_simp
    refine hK _ _ (fun _ => HCI.out _ b21) ?_
    clear hK K
    refine writerL (i := 24) rfl (by kernel_rfl) rfl (fun K hK => ?_)
    have y0 : u21.cell? ⟨r, o, none⟩ = some (.slice a m c) := HCI.out _ b21
    have yf := HFZ.out _ b21
    go_simp
    refine hK _ _ (fun h => absurd rfl h) ?_
    clear hK K
    refine doneL (by kernel_rfl) ?_
    have HB21 := hide b21
    have HO21 := hide own21
    clear y0 yf b21 own21 own14 b14
    go_wp2
    go_ret
    refine ⟨rfl, _, u21, rfl, ?_, ?_⟩
    · rw [HS.out]; exact HB21.out
    · have e := HO21.out
      have he : p + 1 + (m - p) = m + 1 := by omega
      rw [HIT.out, he] at e
      rw [HS.out, he]; exact e
end Go.Proofs.Ythcfmpjmgheieaa

namespace Go.Proofs.Ythcfmpjmgheieaa
open Go.RowKit

theorem del_place {L : List (It Int)} {key : Int} {p : Nat} (hr : Rising L) (hp : p < L.length) (hk : L[p].1 = key) : delL key L = L.take p ++ L.drop (p + 1) := by
  have e : L = L.take p ++ L[p] :: L.drop (p + 1) := by rw [List.getElem_cons_drop, List.take_append_drop]
  have hr' := hr
  rw [e] at hr'
  obtain ⟨_, _, h1, h2, _⟩ := Rising.app hr'
  conv => lhs; rw [e]
  unfold delL
  rw [List.filter_append, List.filter_cons_of_neg (by simp [hk])]
  congr 1
  · rw [List.filter_eq_self]; intro i hi; have := h1 i hi; simp; omega
  · rw [List.filter_eq_self]; intro i hi; have := h2 i hi; simp; omega

theorem ddropNo (w : World) (r o : Nat) (v : Value) (L : List (It Int)) (h : DAt w r o v L) (key : Int) (hl : L.length ≤ 1000000) (hg : getL key L = none) :
    Calls Try.prog 47 #[.pointer (some ⟨r, o, none⟩), .int .i64 key] w fun e w' => e = .returned (.tuple #[.int .i64 0, .bool false]) ∧ w' = w := by
  have HH := hide (hasT w r o v L h key hl)
  rw [hg, Option.isSome_none] at HH
  clear h hg
  go_enter Try.func47, Try.ntmps47
  go_wp2_with fail
  refine HH.out.mono ?_
  rintro e w1 ⟨rfl, rfl⟩
  go_wp2
  go_ret2
  exact ⟨rfl, rfl⟩

set_option maxRecDepth 100000 in
set_option maxHeartbeats 4000000 in
theorem ddropYes (w : World) (r o : Nat) (v : Value) (L : List (It Int)) (h : DAt w r o v L) (key k : Int) (d : Nat) (x : Int) (hg : getL key L = some (k, d, x)) (hl : L.length ≤ 1000000) :
    Calls Try.prog 47 #[.pointer (some ⟨r, o, none⟩), .int .i64 key] w fun e w' => e = .returned (.tuple #[.int .i64 x, .bool true]) ∧ ∃ v' W, w' = W.setCell ⟨r, o, none⟩ v' ∧ Below w.heap.size w W ∧ W.ownsRow w.heap.size 132 3 v' (L.length - 1) (itemVals (delL key L)) := by
  obtain ⟨i0, hi, hz0, hz1, hz2⟩ := info_parts infoItem
  have HH := hide (hasT w r o v L h key hl)
  rw [hg, Option.isSome_some] at HH
  obtain ⟨p, hp⟩ := place_there L key
  have HP := hide (placeP w r o v L h key hl p hp)
  obtain ⟨hpl, hpe, _⟩ := place_some h.ris hp hg
  have HI := hide (del_place (key := key) h.ris hpl (by rw [hpe]; exact (getL_spec hg).2))
  obtain ⟨a, c, rfl⟩ := h.slice
  have c0 := h.head
  have HD := hide h
  obtain ⟨ga, rfl, _, _, cx⟩ := h.at hpl
  rw [hpe] at cx
  simp only at cx
  obtain ⟨m, hm⟩ : ∃ m, L.length = m := ⟨_, rfl⟩
  have HM := hide hm
  rw [hm] at c0 hl hpl ⊢
  have hcap : m ≤ c ∧ c ≤ 9223372036854775807 := by
    have := HD.out.row
    rcases this.2 with ⟨e, e0⟩ | ⟨g, cap, cur, e, _, _, e1, e2, _⟩
    · omega
    · cases e; unfold maxLen at e2; omega
  clear h hg hp hm hpe
  go_enter Try.func47, Try.ntmps47
  go_wp2_with fail
  refine HH.out.mono ?_
  rintro e w1 ⟨rfl, rfl⟩
  go_wp2_with fail
  refine HP.out.mono ?_
  rintro e w2 ⟨rfl, rfl⟩
  have C0 : Hid (CellIs r o (.slice (some ⟨ga, 0, none⟩) m c) w2.drew) := hide c0
  have u0 : ∀ u : Mem (CellIs r o (.slice (some ⟨ga, 0, none⟩) m c)), u.w'.cell? ⟨r, o, none⟩ = some (.slice (some ⟨ga, 0, none⟩) m c) := fun u => u.h
  have hne : Nonempty (Mem (CellIs r o (.slice (some ⟨ga, 0, none⟩) m c))) := ⟨⟨_, C0.out⟩⟩
  clear HH HP
  go_wp2
  refine startL 19 (J := CellIs r o (.slice (some ⟨ga, 0, none⟩) m c)) (by kernel_rfl) ?_
  refine stretchL (fuel := 6) (by kernel_rfl) (fun _ _ _ _ _ h => h) C0.out [0, 2, 3, 4, 5, 6, 7, 9, 10, 11, 12, 13, 14, 15] (by kernel_rfl) ?_
  simp only [List.filterMap_cons, List.filterMap_nil, List.getElem?_toArray, List.getElem?_cons_zero, List.getElem?_cons_succ]
  show wpQuiet _ _ _ _ [_, _, _, _, _, _, _, _, _, _, _, _, _, _] _
  repeat (go_big_quiet_step (fail))
  refine wpQuiet_nil ?_
  obtain ⟨S, hS⟩ : ∃ S, w2.heap.size = S := ⟨_, rfl⟩
  have HS := hide hS
  have hSr : r < S := by rw [← hS]; exact HD.out.lt
  have HCI : Hid (∀ U, Below S w2 U → CellIs r o (.slice (some ⟨ga, 0, none⟩) m c) U) := hide (fun U hU => (hU.cell (p := ⟨r, o, none⟩) hSr).trans c0)
  have HR0 := hide HD.out.row
  have HX1 : Hid (∀ U, Below S w2 U → Src U (.slice (some ⟨ga, 0, none⟩) p c) p (itemVals (L.take p))) := hide (fun U hU => src_take HR0.out (by rw [HS.out]; exact hU) p (by rw [HM.out]; omega) c)
  have HX2 : Hid (∀ U, Below S w2 U → Src U (.slice (if c = p + 1 then some ⟨ga, 0, none⟩ else some ⟨ga, (p + 1) * 3, none⟩) (m - (p + 1)) (c - (p + 1))) (m - (p + 1)) (itemVals (L.drop (p + 1)))) := hide (fun U hU => by
    have hm0 := HM.out
    by_cases hcp : c = p + 1
    · rw [if_pos hcp]
      have := src_drop (w := w2) HR0.out (by rw [HS.out]; exact hU) (p + 1) (by omega) (c - (p + 1)) 0 (fun h => by omega)
      rw [hm0] at this; exact this
    · rw [if_neg hcp]
      have := src_drop (w := w2) HR0.out (by rw [HS.out]; exact hU) (p + 1) (by omega) (c - (p + 1)) ((p + 1) * 3) (fun _ => rfl)
      rw [hm0] at this; exact this)
  have HIT : Hid (itemVals (L.take p) ++ itemVals (L.drop (p + 1)) = itemVals (delL key L)) := hide (by rw [HI.out, itemVals_app])
  have HL1 : Hid ((itemVals (L.take p)).length = p * 3) := hide (by rw [itemVals_length, List.length_take]; have := HM.out; omega)
  have HL2 : Hid ((itemVals (L.drop (p + 1))).length = (m - (p + 1)) * 3) := hide (by rw [itemVals_length, List.length_drop]; have := HM.out; omega)
  have HN1 := hide (itemVals_one (L.take p))
  have HN2 := hide (itemVals_one (L.drop (p + 1)))
  have HFZ : Hid (∀ U, Below S w2 U → U.frozen? ⟨r, o, none⟩ = false) := hide (fun U hU => by have := HD.out.froz; unfold World.frozen? at this ⊢; rw [hU.block r hSr]; exact this)
  generalize (if c = p + 1 then some ⟨ga, 0, none⟩ else some ⟨ga, (p + 1) * 3, none⟩ : Option Addr) = xa at *
  clear c0 cx hS C0 u0 hne HD HI HM HR0
  refine writerL (i := 1) rfl (by kernel_rfl) rfl (fun K hK => ?_)
  go_simp
  have b1 : Below S w2 (w2.alloc (.cells #[] 132)).drew := ((Below.refl S w2).alloc (by have := HS.out; omega) (.cells #[] 132)).trans ((Alike.drewN _ 1).below _)
  have s1 : S ≤ (w2.alloc (.cells #[] 132)).drew.heap.size := by show S ≤ (w2.alloc (.cells #[] 132)).heap.size; simp; have := HS.out; omega
  have own1 : (w2.alloc (.cells #[] 132)).drew.ownsRow S 132 3 (.slice (some ⟨w2.heap.size, 0, none⟩) 0 0) 0 [] := ownsRow_alike (w := w2.alloc (.cells #[] 132)) ⟨rfl, .inr ⟨w2.heap.size, 0, #[], rfl, by have := HS.out; omega, heap_alloc_at _ _, Nat.le_refl _, Nat.zero_le _, rfl, rfl⟩⟩ ⟨rfl, rfl, rfl, rfl⟩
  refine hK _ _ (fun _ => HCI.out _ b1) ?_
  clear hK K
  generalize (w2.alloc (.cells #[] 132)).drew = U1 at *
  refine writerL (i := 8) rfl (by kernel_rfl) rfl (fun K hK => ?_)
  refine oper_append _ _ _ 86 rfl S 132 i0 (.agg #[.int .i64 0, .int .u32 0, .int .i64 0]) 3 24 Try.underlying86 hi hz0 hz1 hz2 rfl (by decide) (.slice (some ⟨w2.heap.size, 0, none⟩) 0 0) 0 [] rfl own1 p (itemVals (L.take p)) (HX1.out _ b1) HL1.out HN1.out (by unfold maxLen; omega) (by omega) s1 ?_
  intro v8 u8 own8 hgr hat
  have b8 : Below S w2 u8 := b1.trans (grown_below own1 hgr s1)
  have s8 : S ≤ u8.heap.size := Nat.le_trans s1 hgr.size
  rw [List.nil_append, Nat.zero_add] at own8
  refine hK _ _ (fun _ => HCI.out _ b8) ?_
  clear hK K
  simp only [Act.put, List.getElem_toArray, List.getElem_cons_succ, List.getElem_cons_zero, List.setIfInBounds_toArray, List.set_cons_succ, List.set_cons_zero]
  refine writerL (i := 16) rfl (by kernel_rfl) rfl (fun K hK => ?_)
  refine oper_append _ _ _ 86 rfl S 132 i0 (.agg #[.int .i64 0, .int .u32 0, .int .i64 0]) 3 24 Try.underlying86 hi hz0 hz1 hz2 rfl (by decide) v8 p (itemVals (L.take p)) rfl own8 (m - (p + 1)) (itemVals (L.drop (p + 1))) (HX2.out _ b8) HL2.out HN2.out (by unfold maxLen; omega) (by omega) s8 ?_
  intro v21 u21 own21 hgr hat
  have b21 : Below S w2 u21 := b8.trans (grown_below own8 hgr s8)
  have s21 : S ≤ u21.heap.size := Nat.le_trans s8 hgr.size
  obtain ⟨a21, c21, rfl⟩ := ownsRow_slice own21
  refine hK _ _ (fun _ => HCI.out _ b21) ?_
  clear hK K
  simp only [Act.put, List.getElem_toArray, List.getElem_cons_succ, List.getElem_cons_zero, List.setIfInBounds_toArray, List.set_cons_succ, List.set_cons_zero]
  refine writerL (i := 17) rfl (by kernel_rfl) rfl (fun K hK => ?_)
  go_simp
  refine hK _ _ (fun _ => HCI.out _ b21) ?_
  clear hK K
  refine writerL (i := 18) rfl (by kernel_rfl) rfl (fun K hK => ?_)
  go_simp
  refine hK _ _ (fun _ => HCI.out _ b21) ?_
  clear hK K
  refine writerL (i := 19) rfl (by kernel_rfl) rfl (fun K hK => ?_)
  have y0 : u21.cell? ⟨r, o, none⟩ = some (.slice (some ⟨ga, 0, none⟩) m c) := HCI.out _ b21
  have yf := HFZ.out _ b21
  go_simp
  refine hK _ _ (fun h => absurd rfl h) ?_
  clear hK K
  refine doneL (by kernel_rfl) ?_
  have HB21 := hide b21
  have HO21 := hide own21
  clear y0 yf b21 own21 own8 b8
  go_wp2
  go_ret2
  refine ⟨rfl, _, u21, rfl, ?_, ?_⟩
  · rw [HS.out]; exact HB21.out
  · have e := HO21.out
    have he : p + (m - (p + 1)) = m - 1 := by omega
    rw [HIT.out, he] at e
    rw [HS.out, he]; exact e
end Go.Proofs.Ythcfmpjmgheieaa

namespace Go.Proofs.Ythcfmpjmgheieaa
open Go.RowKit

theorem wpList_append_src {P : Program} (w : World) {ops : Array Oper} {rest : List Oper} {o : Oper} {a : Act} {Q : Exit → Act → World → Prop}
    (hg : o.guard = none) (s x : Operand) (t : TypeId) (hop : o.op = Op.call { callee := Callee.builtin Builtin.append, args := #[s, x], argTypes := #[t, t] })
    (base : Nat) (e : TypeId) (i : TypeInfo) (z : Value) (size bytes : Nat) (h1 : P.underlying t = some (.slice e)) (h2 : P.info? e = some i) (h3 : i.zero = some z) (h4 : i.size = size) (h5 : i.bytes = bytes) (h6 : z.cells.size = size) (h7 : 0 < size)
    (v : Value) (k : Nat) (xs : List Value) (hs : a.eval s = v) (hown : w.ownsRow base e size v k xs) (m : Nat) (news : List Value) (hx : Src w (a.eval x) m news) (hn : news.length = m * size)
    (h1c : ∀ u ∈ news, u.oneCell' = true) (b1 : k + m ≤ maxLen) (b2 : (k + m) * bytes ≤ 140737488355328) (b3 : base ≤ w.heap.size)
    (hK : ∀ v' w', w'.ownsRow base e size v' (k + m) (xs ++ news) → w.grownBy w' v.ownBlock → wpList P ops Q rest (a.put o.dst v') w') :
    wpList P ops Q (o :: rest) a w := by
  refine wpList_plain hg fun K hK' => ?_
  exact oper_append w s x t hop base e i z size bytes h1 h2 h3 h4 h5 h6 h7 v k xs hs hown m news hx hn h1c b1 b2 b3 (fun v' w' q1 q2 _ => hK' _ _ (hK v' w' q1 q2))

/-- The items of L lie where v tells. -/
def LRow (w : World) (v : Value) (L : List (It Int)) : Prop := ∃ a c, v = .slice a L.length c ∧ L.length ≤ c ∧ c ≤ 9223372036854775807 ∧ ∀ i (_ : i < L.length), ∃ g o, a = some ⟨g, o, none⟩ ∧ g < w.heap.size ∧ w.cell? ⟨g, o + i * 3, none⟩ = some (.int .i64 L[i].1) ∧ w.cell? ⟨g, o + i * 3 + 1, none⟩ = some (.int .u32 (L[i].2.1 : Int))
theorem LRow.below {w w' : World} {v : Value} {L : List (It Int)} (h : LRow w v L) (b : Below w.heap.size w w') : LRow w' v L := by
  obtain ⟨a, c, e, h1, h2, h3⟩ := h
  refine ⟨a, c, e, h1, h2, fun i hi => ?_⟩
  obtain ⟨g, o, e2, hg, q1, q2⟩ := h3 i hi
  exact ⟨g, o, e2, Nat.lt_of_lt_of_le hg b.size, (b.cell (p := ⟨g, o + i * 3, none⟩) hg).trans q1, (b.cell (p := ⟨g, o + i * 3 + 1, none⟩) hg).trans q2⟩
theorem lrow_take {w : World} {a : Option Addr} {n c : Nat} {L : List (It Int)} (h : LRow w (.slice a n c) L) (k : Nat) (hk : k ≤ L.length) : LRow w (.slice a k c) (L.take k) := by
  obtain ⟨a', c', e, h1, h2, h3⟩ := h
  cases e
  have hl : (L.take k).length = k := by rw [List.length_take]; omega
  refine ⟨a, c, by rw [hl], by omega, h2, fun i hi => ?_⟩
  obtain ⟨g, o, e2, hg, q1, q2⟩ := h3 i (by omega)
  rw [List.getElem_take]
  exact ⟨g, o, e2, hg, q1, q2⟩
theorem lrow_drop {w : World} {a : Option Addr} {n c : Nat} {L : List (It Int)} (h : LRow w (.slice a n c) L) (k : Nat) (hk : k ≤ L.length) : LRow w (.slice (if c = k then a else Option.map (fun x => x.add (k * 3)) a) (n - k) (c - k)) (L.drop k) := by
  obtain ⟨a', c', e, h1, h2, h3⟩ := h
  cases e
  have hl : (L.drop k).length = L.length - k := List.length_drop
  refine ⟨_, _, by rw [hl], by omega, by omega, fun i hi => ?_⟩
  obtain ⟨g, o, e2, hg, q1, q2⟩ := h3 (k + i) (by omega)
  subst e2
  have hck : c ≠ k := by omega
  rw [List.getElem_drop, if_neg hck]
  have ea : (⟨g, o, none⟩ : Addr).add (k * 3) = ⟨g, o + k * 3, none⟩ := by unfold Addr.add; split <;> simp_all
  refine ⟨g, o + k * 3, by simp [ea], hg, ?_, ?_⟩
  · rw [show o + k * 3 + i * 3 = o + (k + i) * 3 by omega]; exact q1
  · rw [show o + k * 3 + i * 3 + 1 = o + (k + i) * 3 + 1 by omega]; exact q2
theorem infoNode : (Try.prog.info? 111).map (fun i => (i.zero, i.size, i.bytes)) = some (some (.agg #[.int .i64 0, .int .i64 0]), 2, 16) := by kernel_rfl
theorem src_of_owns {w W : World} {base e size n : Nat} {v : Value} {xs : List Value} (h : w.ownsRow base e size v n xs) (hb : Below w.heap.size w W) : Src W v n xs := by
  have h0 := h.1
  rcases h.2 with ⟨rfl, rfl⟩ | ⟨g, cap, cur, rfl, q1, q2, _⟩
  · exact .inl ⟨rfl, rfl, List.length_eq_zero_iff.1 (by simpa using h0)⟩
  · refine .inr ⟨_, _, rfl, fun j u hj => ?_⟩
    have := World.ownsRow.cells h (g := g) rfl j u hj
    have ea : (⟨g, 0, none⟩ : Addr).add j = ⟨g, j, none⟩ := by unfold Addr.add; split <;> simp_all
    rw [ea] at this ⊢
    exact (hb.cell (p := ⟨g, j, none⟩) (lt_of_heap q2)).trans this
theorem nodeVals_one (l : List (Int × Nat)) : ∀ u ∈ nodeVals l, u.oneCell' = true := by
  intro u hu
  simp only [nodeVals, List.mem_flatMap] at hu
  obtain ⟨i, _, h⟩ := hu
  simp only [List.mem_cons, List.not_mem_nil, or_false] at h
  rcases h with rfl | rfl <;> rfl
theorem root_first0 {M : List (It Int)} {k : Int} {d : Nat} {x : Int} {A B : List (It Int)} (e : M = A ++ (k, d, x) :: B) (ha : ∀ y ∈ A, Abv k d y.1 y.2.1) (hb : ∀ y ∈ B, Abv k d y.1 y.2.1) (hr : Rising M) {q : Nat} (hq : q < M.length)
    (h1 : ∀ j (_ : j < M.length), (M[j]).2.1 ≤ (M[q]).2.1) (h2 : ∀ j (_ : j < q), (M[j]).2.1 < (M[q]).2.1) : q = A.length := by
  subst e
  obtain ⟨_, _, a1, a2, _⟩ := Rising.app hr
  have hR : (A ++ (k, d, x) :: B)[A.length]'(by simp) = (k, d, x) := by simp
  rcases Nat.lt_trichotomy q A.length with u | u | u
  · have m1 : (A ++ (k, d, x) :: B)[q] = A[q] := by simp [u]
    have m2 := h1 A.length (by simp)
    rw [hR, m1] at m2
    have m3 := ha A[q] (List.getElem_mem _)
    have m4 := a1 A[q] (List.getElem_mem _)
    unfold Abv at m3
    simp only at m2 m3 m4
    omega
  · exact u
  · have m0 := h2 A.length u
    rw [hR] at m0
    have m1 : (A ++ (k, d, x) :: B)[q] ∈ B := by
      rw [List.getElem_append_right (by omega), List.getElem_cons]
      split
      · omega
      · exact List.getElem_mem _
    have m3 := hb _ m1
    unfold Abv at m3
    simp only at m0 m3
    omega
/-- The root is the first of the greatest draws. -/
theorem root_first {p : Nat} {k : Int} {d : Nat} {x : Int} {l r : Tr Int} (hh : (Tr.node p k d x l r).Heap) (hr : Rising (Tr.node p k d x l r).items) {q : Nat} (hq : q < (Tr.node p k d x l r).items.length)
    (h1 : ∀ j (_ : j < (Tr.node p k d x l r).items.length), ((Tr.node p k d x l r).items[j]).2.1 ≤ ((Tr.node p k d x l r).items[q]).2.1) (h2 : ∀ j (_ : j < q), ((Tr.node p k d x l r).items[j]).2.1 < ((Tr.node p k d x l r).items[q]).2.1) : q = l.items.length :=
  root_first0 rfl hh.1 hh.2.1 hr hq h1 h2
end Go.Proofs.Ythcfmpjmgheieaa

namespace Go.Proofs.Ythcfmpjmgheieaa
open Go.RowKit

theorem addr_add (g o k : Nat) : (⟨g, o, none⟩ : Addr).add k = ⟨g, o + k, none⟩ := by unfold Addr.add; split <;> simp_all
theorem LRow.alike {w w' : World} {v : Value} {L : List (It Int)} (h : LRow w v L) (b : Alike w w') : LRow w' v L := h.below (b.below _)
theorem LRow.at {w : World} {a : Option Addr} {n c : Nat} {L : List (It Int)} (h : LRow w (.slice a n c) L) (h0 : 0 < n) : L.length = n ∧ n ≤ c ∧ c ≤ 9223372036854775807 ∧ ∃ g o, a = some ⟨g, o, none⟩ ∧ ∀ i (_ : i < L.length), w.cell? ⟨g, o + i * 3, none⟩ = some (.int .i64 L[i].1) ∧ w.cell? ⟨g, o + i * 3 + 1, none⟩ = some (.int .u32 (L[i].2.1 : Int)) := by
  obtain ⟨a', c', e, h1, h2, h3⟩ := h
  cases e
  refine ⟨rfl, h1, h2, ?_⟩
  obtain ⟨g, o, e2, _, _, _⟩ := h3 0 h0
  refine ⟨g, o, e2, fun i hi => ?_⟩
  obtain ⟨g', o', e3, _, q1, q2⟩ := h3 i hi
  rw [e2] at e3
  cases e3
  exact ⟨q1, q2⟩
theorem ownsRow_keep {w w' : World} {base e size n : Nat} {v : Value} {xs : List Value} (h : w.ownsRow base e size v n xs) (b : Below w.heap.size w w') : w'.ownsRow base e size v n xs := by
  refine ⟨h.1, ?_⟩
  rcases h.2 with h0 | ⟨g, cap, cur, h1, h2, h3, h4⟩
  · exact .inl h0
  · exact .inr ⟨g, cap, cur, h1, h2, (b.block g (lt_of_heap h3)).trans h3, h4⟩
def ShapeEnd (w : World) (n : Nat) (L : List (Int × Nat)) : Ending → World → Prop := fun ex w' => ∃ v', ex = .returned v' ∧ Below w.heap.size w w' ∧ w'.ownsRow w.heap.size 111 2 v' n (nodeVals L)

set_option maxRecDepth 100000 in
set_option maxHeartbeats 2000000 in
theorem shapeNil (w : World) (a : Option Addr) (c : Nat) (e : Int) : Calls Try.prog 80 #[.slice a 0 c, .int .i64 e] w (ShapeEnd w 0 []) := by
  go_enter Try.func80, Try.ntmps80
  go_wp2
  go_ret
  exact ⟨_, rfl, Below.refl _ _, rfl, .inl ⟨rfl, rfl⟩⟩

set_option maxRecDepth 100000 in
set_option maxHeartbeats 4000000 in
theorem shapeNode (w : World) (g o n c q e : Nat) (f : Nat → Nat) (key : Int) (S1 S2 : List (Int × Nat))
    (hn : 0 < n) (hc : n ≤ c ∧ c ≤ 9223372036854775807) (hn1 : n ≤ 1000000) (he : e ≤ 1000000)
    (hf : ∀ i, i < n → w.cell? ⟨g, o + i * 3 + 1, none⟩ = some (.int .u32 (f i : Int))) (hk : w.cell? ⟨g, o + q * 3, none⟩ = some (.int .i64 key))
    (hq : q < n) (hq1 : ∀ p, p < n → (∀ j, j < n → f j ≤ f p) → (∀ j, j < p → f j < f p) → p = q)
    (ih1 : ∀ W, Below w.heap.size w W → Calls Try.prog 80 #[.slice (some ⟨g, o, none⟩) q c, .int .i64 ((e : Int) + 1)] W (ShapeEnd W q S1))
    (ih2 : ∀ W xa xc m, Below w.heap.size w W → m = n - (q + 1) → xc = c - (q + 1) → (0 < m → xa = some ⟨g, o + (q + 1) * 3, none⟩) → Calls Try.prog 80 #[.slice xa m xc, .int .i64 ((e : Int) + 1)] W (ShapeEnd W (n - (q + 1)) S2))
    (hs1 : S1.length = q) (hs2 : S2.length = n - (q + 1)) :
    Calls Try.prog 80 #[.slice (some ⟨g, o, none⟩) n c, .int .i64 (e : Int)] w (ShapeEnd w n ((key, e) :: (S1 ++ S2))) := by
  have HF := hide hf
  have HQ := hide hq1
  have I1 := hide ih1
  have I2 := hide ih2
  clear hf hq1 ih1 ih2
  obtain ⟨i0, hi, hz⟩ := Option.map_eq_some_iff.1 infoNode
  obtain ⟨hz0, hz1, hz2⟩ : i0.zero = some (.agg #[.int .i64 0, .int .i64 0]) ∧ i0.size = 2 ∧ i0.bytes = 16 := by simpa using hz
  clear hz
  have d0 : ((n : Int) == 0) = false := by rw [beq_eq_false_iff_ne]; omega
  have d00 : (n == 0) = false := by rw [beq_eq_false_iff_ne]; omega
  go_enter Try.func80, Try.ntmps80
  go_wp2
  go_loopg [5, 6] n (fun m r5 r6 wr => ∃ k i : Nat, i + m = n + 1 ∧ 1 ≤ i ∧ i ≤ n ∧ k < i ∧ r5 = .int .i64 (k : Int) ∧ r6 = .int .i64 (i : Int) ∧ Alike w wr ∧ Hid (∀ j, j < i → f j ≤ f k) ∧ Hid (∀ j, j < k → f j < f k))
  case atStart => exact ⟨0, 1, by omega, by omega, by omega, by omega, rfl, rfl, Alike.refl _, (fun j hj => (by rw [show j = 0 from by omega]; exact Nat.le_refl _)), (fun j hj => (by omega))⟩
  case round =>
    obtain ⟨k, i, hm, hi1, hin, hki, rfl, rfl, hal, hA, hB⟩ := hrel
    by_cases hie : i = n
    · have d1 : decide ((i : Int) < (n : Int)) = false := by simp; omega
      have d2 : decide (i < n) = false := by simp; omega
      have hkq : k = q := HQ.out k (by omega) (fun j hj => hA.out j (by omega)) hB.out
      subst hkq
      have hk' : wr.cell? ⟨g, o + k * 3, none⟩ = some (.int .i64 key) := (World.cell?_of_block (a := ⟨g, o + k * 3, none⟩) (by rw [hal.heap])).trans hk
      have HA := hide hal
      clear hA hB hal hk
      obtain ⟨S, hS⟩ : ∃ S, wr.heap.size = S := ⟨_, rfl⟩
      have hS0 : w.heap.size = S := by rw [← hS, HA.out.heap]
      have HS0 := hide hS0
      go_wp2_with fail
      have own0 : (wr.alloc (.cells #[.int .i64 key, .int .i64 (e : Int)] 111)).ownsRow S 111 2 (.slice (some ⟨S, 0, none⟩) 1 1) 1 (nodeVals [(key, e)]) := ⟨rfl, .inr ⟨S, 1, #[.int .i64 key, .int .i64 (e : Int)], rfl, Nat.le_refl _, by rw [← hS]; exact heap_alloc_at _ _, by decide, by unfold maxLen; omega, rfl, rfl⟩⟩
      have bw0 : Below S w (wr.alloc (.cells #[.int .i64 key, .int .i64 (e : Int)] 111)) := ((HA.out.below S).alloc (by omega) _)
      have sw0 : S ≤ (wr.alloc (.cells #[.int .i64 key, .int .i64 (e : Int)] 111)).heap.size := by simp; omega
      try rw [hS]
      generalize (wr.alloc (.cells #[.int .i64 key, .int .i64 (e : Int)] 111)) = W0 at *
      refine (I1.out _ (by rw [HS0.out]; exact bw0)).mono ?_
      rintro ex W1 ⟨v1, rfl, b1, own1⟩
      have bw1 : Below S w W1 := bw0.trans (b1.mono sw0)
      have sw1 : S ≤ W1.heap.size := Nat.le_trans sw0 b1.size
      have OUT1 := hide (ownsRow_keep own0 b1)
      have SRC1 := hide (src_of_owns own1 (Below.refl _ _))
      have BW1 := hide bw1
      clear own0 bw0 b1 own1 bw1 hk' hS hS0 HA sw0
      go_wp2_with (at_builtin; refine wpList_append_src _ rfl _ _ 67 rfl S 111 i0 (.agg #[.int .i64 0, .int .i64 0]) 2 16 Try.underlying67 hi hz0 hz1 hz2 rfl (by decide) (.slice (some ⟨S, 0, none⟩) 1 1) 1 (nodeVals [(key, e)]) rfl OUT1.out k (nodeVals S1) SRC1.out (by rw [nodeVals_length, hs1]) (nodeVals_one _) (by unfold maxLen; omega) (by omega) sw1 ?_; intro v2 W2 own2 hgr)
      all_goals (
        have bw2 : Below S w W2 := BW1.out.trans (grown_below OUT1.out hgr sw1)
        have sw2 : S ≤ W2.heap.size := Nat.le_trans sw1 hgr.size
        refine (I2.out _ _ _ _ (by rw [HS0.out]; exact bw2) (by first | rfl | omega) (by first | rfl | omega) (fun h => by first | rfl | (exfalso; omega))).mono ?_
        rintro ex W3 ⟨v3, rfl, b3, own3⟩
        have bw3 : Below S w W3 := bw2.trans (b3.mono sw2)
        have sw3 : S ≤ W3.heap.size := Nat.le_trans sw2 b3.size
        have OUT3 := hide (ownsRow_keep own2 b3)
        have SRC3 := hide (src_of_owns own3 (Below.refl _ _))
        have BW3 := hide bw3
        have L0 : (nodeVals S2).length = (n - (k + 1)) * 2 := by rw [nodeVals_length, hs2]
        clear own2 hgr bw2 b3 own3 bw3 SRC1 OUT1 BW1 sw2 sw1
        go_wp2_with (at_builtin; refine wpList_append_src _ rfl _ _ 67 rfl S 111 i0 (.agg #[.int .i64 0, .int .i64 0]) 2 16 Try.underlying67 hi hz0 hz1 hz2 rfl (by decide) v2 (1 + k) (nodeVals [(key, e)] ++ nodeVals S1) rfl OUT3.out (n - (k + 1)) (nodeVals S2) SRC3.out L0 (nodeVals_one _) (by unfold maxLen; omega) (by omega) sw3 ?_; intro v4 W4 own4 hgr)
        have bw4 : Below S w W4 := BW3.out.trans (grown_below OUT3.out hgr sw3)
        have OWN4 := hide own4
        have BW4 := hide bw4
        clear own4 bw4 hgr
        go_ret
        refine ⟨_, rfl, by rw [HS0.out]; exact BW4.out, ?_⟩
        have e4 := OWN4.out
        rw [show 1 + k + (n - (k + 1)) = n by omega] at e4
        rw [HS0.out, show nodeVals ((key, e) :: (S1 ++ S2)) = nodeVals [(key, e)] ++ nodeVals S1 ++ nodeVals S2 by simp [nodeVals]]
        exact e4)
    · have d1 : decide ((i : Int) < (n : Int)) = true := by simp; omega
      have d2 : decide (i < n) = true := by simp; omega
      have x1 : wr.cell? ⟨g, o + i * 3 + 1, none⟩ = some (.int .u32 (f i : Int)) := (World.cell?_of_block (a := ⟨g, o + i * 3 + 1, none⟩) (by rw [hal.heap])).trans (HF.out i (by omega))
      have x2 : wr.cell? ⟨g, o + k * 3 + 1, none⟩ = some (.int .u32 (f k : Int)) := (World.cell?_of_block (a := ⟨g, o + k * 3 + 1, none⟩) (by rw [hal.heap])).trans (HF.out k (by omega))
      have HA := hide hal
      have HX : Hid (f k < f i → (∀ j, j < i + 1 → f j ≤ f i) ∧ ∀ j, j < i → f j < f i) := hide (fun h => ⟨fun j hj => by
        by_cases u : j = i
        · rw [u]; exact Nat.le_refl _
        · have := hA.out j (by omega); omega, fun j hj => by have := hA.out j (by omega); omega⟩)
      have HY : Hid (¬ f k < f i → ∀ j, j < i + 1 → f j ≤ f k) := hide (fun h j hj => by
        by_cases u : j = i
        · rw [u]; omega
        · exact hA.out j (by omega))
      clear hal hA hk
      by_cases hlt : f k < f i
      · obtain ⟨h1, h2⟩ := HX.out hlt
        have G1 := hide h1
        have G2 := hide h2
        clear HX HY hB h1 h2
        have d3 : decide ((f k : Int) < (f i : Int)) = true := by simp; omega
        have d4 : decide (f k < f i) = true := by simp; omega
        have E1 : Hid (∀ (y z : Nat), y = y) := hide (fun _ _ => rfl)
        go_wp2
        go_quiet (fail)
        go_wp2
        go_roundg (n - i)
        case measure => omega
        case rel => exact ⟨i, i + 1, by omega, by omega, by omega, by omega, by simp, by simp, HA.out.trans (Alike.drewN _ _), G1, G2⟩
      · have G1 := hide (HY.out hlt)
        have G2 := hB
        clear HX HY
        have d3 : decide ((f k : Int) < (f i : Int)) = false := by simp; omega
        have d4 : decide (f k < f i) = false := by simp; omega
        go_wp2
        go_quiet (fail)
        go_wp2
        go_roundg (n - i)
        case measure => omega
        case rel => exact ⟨k, i + 1, by omega, by omega, by omega, by omega, by simp, by simp, HA.out.trans (Alike.drewN _ _), G1, G2⟩

theorem shapeT : ∀ (T : Tr Int) (w : World) (a : Option Addr) (n c e : Nat), LRow w (.slice a n c) T.items → T.Heap → Rising T.items → T.items.length = n → n + e ≤ 1000000 →
    Calls Try.prog 80 #[.slice a n c, .int .i64 (e : Int)] w (ShapeEnd w n (T.shape e)) := by
  intro T
  induction T with
  | nil =>
    intro w a n c e _ _ _ hn _
    have : n = 0 := by rw [← hn]; rfl
    subst this
    exact shapeNil w a c e
  | node p k d x l r ihl ihr =>
    intro w a n c e hL hh hr hn hb
    have eit : (Tr.node p k d x l r).items = l.items ++ (k, d, x) :: r.items := rfl
    have hlen : n = l.items.length + (r.items.length + 1) := by rw [← hn, eit]; simp
    obtain ⟨h1, h2, h3, g, o, rfl, hC⟩ := hL.at (by omega)
    have htk : (Tr.node p k d x l r).items.take l.items.length = l.items := by rw [eit]; simp
    have hdr : (Tr.node p k d x l r).items.drop (l.items.length + 1) = r.items := by rw [eit, List.drop_append]; simp
    have hri : Rising l.items ∧ Rising r.items := by
      rw [eit] at hr
      obtain ⟨q1, q2, _, _, _⟩ := Rising.app hr
      first | exact ⟨q1, q2⟩ | exact ⟨q1, q2.tail⟩ | exact ⟨q1, (by cases q2; assumption)⟩
    have hkk : (Tr.node p k d x l r).items[l.items.length]'(by omega) = (k, d, x) := by simp [eit]
    refine shapeNode w g o n c l.items.length e (fun i => if h : i < (Tr.node p k d x l r).items.length then ((Tr.node p k d x l r).items[i]).2.1 else 0) k (l.shape (e + 1)) (r.shape (e + 1)) (by omega) ⟨h2, h3⟩ (by omega) (by omega) ?_ ?_ (by omega) ?_ ?_ ?_ ?_ ?_
    · intro i hi
      rw [dif_pos (by omega)]
      exact (hC i (by omega)).2
    · have := (hC l.items.length (by omega)).1
      rw [hkk] at this
      exact this
    · intro p' hp h4 h5
      refine root_first hh hr (by omega) (fun j hj => ?_) (fun j hj => ?_)
      · have := h4 j (by omega)
        rw [dif_pos hj, dif_pos (show p' < _ by omega)] at this
        exact this
      · have := h5 j hj
        rw [dif_pos (show j < _ by omega), dif_pos (show p' < _ by omega)] at this
        exact this
    · intro W bW
      have := ihl W (some ⟨g, o, none⟩) l.items.length c (e + 1) (by rw [← htk]; have := lrow_take (hL.below bW) l.items.length (by omega); rw [htk] at this ⊢; exact this) hh.2.2.1 hri.1 rfl (by omega)
      rw [show ((e + 1 : Nat) : Int) = (e : Int) + 1 by omega] at this
      exact this
    · intro W xa xc m bW em ec hxa
      have hm : m = r.items.length := by omega
      have hrow : LRow W (.slice xa m xc) r.items := by
        have h0 := lrow_drop (hL.below bW) (l.items.length + 1) (by omega)
        rw [hdr] at h0
        by_cases h0m : 0 < m
        · rw [hxa h0m, em, ec]
          rw [if_neg (by omega)] at h0
          have ea := addr_add g o ((l.items.length + 1) * 3)
          simp only [Option.map_some, ea] at h0
          exact h0
        · refine ⟨xa, xc, by rw [hm], by omega, by omega, fun i hi => by omega⟩
      have := ihr W xa m xc (e + 1) hrow hh.2.2.2 hri.2 hm.symm (by omega)
      rw [show ((e + 1 : Nat) : Int) = (e : Int) + 1 by omega, em] at this
      rw [em]
      exact this
    · rw [Tr.shape_length, ← Tr.size_items]
    · rw [Tr.shape_length, ← Tr.size_items]; omega

theorem lrow_dat {w : World} {r o : Nat} {a : Option Addr} {n c : Nat} {L : List (It Int)} (h : DAt w r o (.slice a n c) L) : LRow w (.slice a n c) L := by
  have hrow := h.row
  rcases hrow.2 with ⟨e, h0⟩ | ⟨g, cap, cur, e, _, hg, hm, hx, _⟩
  · cases e
    exact ⟨none, 0, by rw [h0], by omega, by omega, fun i hi => by omega⟩
  · cases e
    refine ⟨_, _, rfl, hm, by unfold maxLen at hx; omega, fun i hi => ?_⟩
    obtain ⟨g', e', q1, q2, _⟩ := h.at hi
    cases e'
    refine ⟨g, 0, rfl, lt_of_heap hg, ?_, ?_⟩
    · rw [Nat.zero_add, q1]; simp [keyAt, hi]
    · rw [Nat.zero_add, q2]

set_option maxRecDepth 100000 in
set_option maxHeartbeats 2000000 in
theorem dshape (w : World) (r o : Nat) (v : Value) (L : List (It Int)) (h : DAt w r o v L) (hl : L.length ≤ 1000000) :
    Calls Try.prog 60 #[.pointer (some ⟨r, o, none⟩)] w (ShapeEnd w L.length (shp L)) := by
  obtain ⟨a, c, rfl⟩ := h.slice
  have c0 : w.cell? ⟨r, o, none⟩ = some (.slice a L.length c) := h.head
  obtain ⟨g1, g2⟩ := treeOf_good L h.ris
  have HS := hide (shapeT (treeOf L) w a L.length c 0 (by rw [g1]; exact lrow_dat h) g2 (by rw [g1]; exact h.ris) (by rw [g1]) (by omega))
  obtain ⟨m, hm⟩ : ∃ m, L.length = m := ⟨_, rfl⟩
  rw [hm] at c0 HS hl ⊢
  clear h g1 g2 hm
  go_enter Try.func60, Try.ntmps60
  go_wp2_with fail
  refine HS.out.mono ?_
  rintro ex W1 ⟨v1, rfl, b1, own1⟩
  have B1 := hide b1
  have O1 := hide own1
  clear b1 own1 HS
  go_wp2
  go_ret
  exact ⟨_, rfl, B1.out, O1.out⟩
end Go.Proofs.Ythcfmpjmgheieaa

namespace Go.Proofs.Ythcfmpjmgheieaa
open Go.RowKit

theorem own_lt {w : World} {base e size n : Nat} {v : Value} {xs : List Value} (h : w.ownsRow base e size v n xs) {x : Nat} (hx : v.ownBlock = some x) : base ≤ x ∧ x < w.heap.size := by
  rcases h.2 with ⟨h0, _⟩ | ⟨g, cap, cur, h1, h2, h3, h4⟩
  · rw [h0] at hx; simp [Value.ownBlock] at hx
  · rw [h1] at hx; simp only [Value.ownBlock, Option.some.injEq] at hx; rw [← hx]; exact ⟨h2, lt_of_heap h3⟩
theorem ownsRow_kept {w w' : World} {base base' e size n : Nat} {v : Value} {xs : List Value} (h : w.ownsRow base e size v n xs) (hb : base' ≤ base) (o : ∀ x, v.ownBlock = some x → x < w.heap.size → w'.heap[x]? = w.heap[x]?) : w'.ownsRow base' e size v n xs := by
  refine ⟨h.1, ?_⟩
  rcases h.2 with h0 | ⟨g, cap, cur, h1, h2, h3, h4⟩
  · exact .inl h0
  · exact .inr ⟨g, cap, cur, h1, by omega, (o g (by rw [h1]; rfl) (lt_of_heap h3)).trans h3, h4⟩
theorem DAt.kept {w w' : World} {r o : Nat} {v : Value} {L : List (It Int)} {M : Nat → Prop} (h : DAt w r o v L) (k : Only M w w') (hr : ¬ M r) (hv : ∀ x, v.ownBlock = some x → ¬ M x) : DAt w' r o v L := by
  have e := k.block r h.lt hr
  exact ⟨(World.cell?_of_block (a := ⟨r, o, none⟩) e).trans h.head, Nat.lt_of_lt_of_le h.lt k.size, by have := h.froz; unfold World.frozen? at this ⊢; rw [e]; exact this, ownsRow_kept h.row (Nat.le_refl _) (fun x hx hl => k.block x hl (hv x hx)), h.ne, h.ris⟩
theorem DAt.below {w w' : World} {r o : Nat} {v : Value} {L : List (It Int)} (h : DAt w r o v L) (b : Below w.heap.size w w') : DAt w' r o v L :=
  h.kept (Below.only b (fun _ => False)) (fun h => h) (fun _ _ h => h)
/-- A row of one's own is laid in the head. -/
theorem DAt.set {w W : World} {r o : Nat} {v v' : Value} {L L' : List (It Int)} {n : Nat} (h : DAt w r o v L) (b : Below w.heap.size w W) (hrow : W.ownsRow w.heap.size 132 3 v' n (itemVals L')) (hn : L'.length = n) (hr : Rising L') : DAt (W.setCell ⟨r, o, none⟩ v') r o v' L' := by
  have hc : W.cell? ⟨r, o, none⟩ = some v := (b.cell (p := ⟨r, o, none⟩) h.lt).trans h.head
  refine ⟨World.cell?_setCell_same _ _ _ hc, by rw [setCell_size]; exact Nat.lt_of_lt_of_le h.lt b.size, ?_, ?_, ?_, hr⟩
  · rw [World.frozen?_setCell, b.frozen (p := ⟨r, o, none⟩) h.lt]; exact h.froz
  · rw [hn]
    exact ownsRow_kept hrow (Nat.zero_le _) (fun x hx _ => Below.heap_setCell _ _ _ _ (by have := (own_lt hrow hx).1; have := h.lt; simp; omega))
  · intro hx; have := (own_lt hrow hx).1; have := h.lt; omega
theorem set_only {w W : World} {r o : Nat} {v' : Value} (b : Below w.heap.size w W) {M : Nat → Prop} (hM : M r) : Only M w (W.setCell ⟨r, o, none⟩ v') := (Below.only b M).setCell (.inl hM) v'
/-- The document's tree at block r, of the items L. -/
def RD (r : Nat) (L : List (It Int)) : Res := fun w G => ∃ v, DAt w r 0 v L ∧ ∀ x, G x ↔ x = r ∨ v.ownBlock = some x
theorem Loc.rd {r : Nat} {L : List (It Int)} : Loc (RD r L) :=
  ⟨fun ⟨v, a, b⟩ o hn => ⟨v, a.kept o (hn r ((b r).2 (.inl rfl))) (fun x hx => hn x ((b x).2 (.inr hx))), b⟩, fun ⟨_, a, b⟩ hx => by
    rcases (b _).1 hx with rfl | q
    · exact a.lt
    · exact (own_lt a.row q).2⟩
theorem Own.dtree {r : Nat} {L : List (It Int)} {R : Res} {w0 w : World} (l : Loc R) (h : Own (Sep (RD r L) R) w0 w) :
    ∃ v, DAt w r 0 v L ∧ ∀ {W v' L' n}, Below w.heap.size w W → W.ownsRow w.heap.size 132 3 v' n (itemVals L') → L'.length = n → Rising L' → Own (Sep (RD r L') R) w0 (W.setCell ⟨r, 0, none⟩ v') := by
  obtain ⟨G, ⟨G1, G2, ⟨v, a, e⟩, b, c, d⟩, h2, h3⟩ := h
  refine ⟨v, a, fun {W v' L' n} g1 g2 g3 g4 => ?_⟩
  refine Own.step (G1 := G1) (G1' := fun x => x = r ∨ v'.ownBlock = some x) (G2 := G2) l h3 (fun x hx => h2 x ((d x).2 hx)) b c ⟨v', a.set g1 g2 g3 g4, fun _ => Iff.rfl⟩ (set_only g1 ((e r).2 (.inl rfl))) (fun x hx => ?_)
  rcases hx with rfl | hx
  · exact .inl ((e x).2 (.inl rfl))
  · exact .inr (own_lt g2 hx).1

set_option maxHeartbeats 1000000 in
theorem dputNo (w : World) (r o : Nat) (v : Value) (L : List (It Int)) (h : DAt w r o v L) (key : Int) (d : Nat) (x : Int) (hl : L.length ≤ 1000000) (hg : (getL key L).isSome = true) :
    Calls Try.prog 64 #[.pointer (some ⟨r, o, none⟩), .int .i64 key, .int .u32 (d : Int), .int .i64 x] w fun e w' => e = .returned (.bool false) ∧ w' = w := by
  have HH := hide (hasT w r o v L h key hl)
  rw [hg] at HH
  clear hg h
  go_enter Try.func64, Try.ntmps64
  go_wp2_with fail
  refine HH.out.mono ?_
  rintro e w1 ⟨rfl, rfl⟩
  go_wp2
  go_ret
  exact ⟨rfl, rfl⟩
theorem delL_len {key : Int} {L : List (It Int)} {i : It Int} (hr : Rising L) (hg : getL key L = some i) : (delL key L).length = L.length - 1 := by
  obtain ⟨p, hp⟩ := place_there L key
  obtain ⟨hpl, hpe, _⟩ := place_some hr hp hg
  rw [del_place hr hpl (by rw [hpe]; exact (getL_spec hg).2), List.length_append, List.length_take, List.length_drop]
  omega
theorem dputP {R : Res} {w0 w : World} {r : Nat} {L : List (It Int)} (l : Loc R) (h : Own (Sep (RD r L) R) w0 w) (key : Int) (d : Nat) (x : Int) (hl : L.length ≤ 1000000) :
    Calls Try.prog 64 #[.pointer (some ⟨r, 0, none⟩), .int .i64 key, .int .u32 (d : Int), .int .i64 x] w fun e w' => e = .returned (.bool (getL key L).isNone) ∧ Own (Sep (RD r (putL key d x L)) R) w0 w' := by
  obtain ⟨v, a, k⟩ := h.dtree l
  cases hg : getL key L with
  | none =>
    rw [putL_no hg]
    exact (dput w r 0 v L a key d x hg hl).mono fun _ _ ⟨e, v', W, q1, q2, q3⟩ => ⟨e, by rw [q1]; exact k q2 q3 insL_length (insL_rising a.ris (fun i hi => getL_none hg i hi))⟩
  | some i =>
    rw [putL_yes hg]
    exact (dputNo w r 0 v L a key d x hl (by rw [hg]; rfl)).mono fun _ _ ⟨e, q⟩ => ⟨e, by rw [q]; exact h⟩
theorem ddropNoP {R : Res} {w0 w : World} {r : Nat} {L : List (It Int)} (l : Loc R) (h : Own (Sep (RD r L) R) w0 w) (key : Int) (hl : L.length ≤ 1000000) (hg : getL key L = none) :
    Calls Try.prog 47 #[.pointer (some ⟨r, 0, none⟩), .int .i64 key] w fun e w' => e = .returned (.tuple #[.int .i64 0, .bool false]) ∧ Own (Sep (RD r L) R) w0 w' := by
  obtain ⟨v, a, k⟩ := h.dtree l
  exact (ddropNo w r 0 v L a key hl hg).mono fun _ _ ⟨e, q⟩ => ⟨e, by rw [q]; exact h⟩
theorem ddropYesP {R : Res} {w0 w : World} {r : Nat} {L : List (It Int)} (l : Loc R) (h : Own (Sep (RD r L) R) w0 w) (key k : Int) (d : Nat) (x : Int) (hl : L.length ≤ 1000000) (hg : getL key L = some (k, d, x)) :
    Calls Try.prog 47 #[.pointer (some ⟨r, 0, none⟩), .int .i64 key] w fun e w' => e = .returned (.tuple #[.int .i64 x, .bool true]) ∧ Own (Sep (RD r (delL key L)) R) w0 w' := by
  obtain ⟨v, a, kk⟩ := h.dtree l
  exact (ddropYes w r 0 v L a key k d x hg hl).mono fun _ _ ⟨e, v', W, q1, q2, q3⟩ => ⟨e, by rw [q1]; exact kk q2 q3 (delL_len a.ris hg) (delL_rising a.ris)⟩
theorem dshapeP {R : Res} {w0 w : World} {r : Nat} {L : List (It Int)} (l : Loc R) (h : Own (Sep (RD r L) R) w0 w) (hl : L.length ≤ 1000000) :
    Calls Try.prog 60 #[.pointer (some ⟨r, 0, none⟩)] w fun e w' => ∃ v, e = .returned v ∧ NodesV w' v (shp L) ∧ Below w.heap.size w w' ∧ Own (Sep (RD r L) R) w0 w' := by
  obtain ⟨v, a, k⟩ := h.dtree l
  exact (dshape w r 0 v L a hl).mono fun _ _ ⟨v', e, b, g⟩ => ⟨v', e, nodes_of_owns g, b, h.below (Loc.rd.sep l) b⟩
end Go.Proofs.Ythcfmpjmgheieaa
