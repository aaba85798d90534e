/- The document's tree: a row of items, rising. -/
import Derived.Test.YthcfmpjmgheieaaTreSep
import Derived.Test.YthcfmpjmgheieaaPhaseL
import Derived.Deep.LoopGhost
import Derived.Handy
import Derived.OwnWalk
import Derived.WalkSmall
namespace Go.Proofs.Ythcfmpjmgheieaa
open Go.RowKit

def itemVals (L : List (It Int)) : List Value := L.flatMap fun i => [.int .i64 i.1, .int .u32 (i.2.1 : Int), .int .i64 i.2.2]
theorem itemVals_length (L : List (It Int)) : (itemVals L).length = L.length * 3 := by
  induction L with
  | nil => rfl
  | cons s l ih =>
    have e : itemVals (s :: l) = [Value.int .i64 s.1, .int .u32 (s.2.1 : Int), .int .i64 s.2.2] ++ itemVals l := rfl
    rw [e, List.length_append, ih, List.length_cons]; simp; omega
theorem itemVals_get : ∀ (L : List (It Int)) (i : Nat) (h : i < L.length), (itemVals L)[i * 3]? = some (.int .i64 L[i].1) ∧ (itemVals L)[i * 3 + 1]? = some (.int .u32 (L[i].2.1 : Int)) ∧ (itemVals L)[i * 3 + 2]? = some (.int .i64 L[i].2.2)
  | [], i, h => by simp at h
  | p :: l, 0, _ => by simp [itemVals]
  | p :: l, i + 1, h => by
    have ih := itemVals_get l i (by simpa using h)
    have e : itemVals (p :: l) = Value.int .i64 p.1 :: Value.int .u32 (p.2.1 : Int) :: Value.int .i64 p.2.2 :: itemVals l := rfl
    rw [e, show (i + 1) * 3 = i * 3 + 1 + 1 + 1 from by omega]
    simpa using ih

/-- The document's tree at block r: its slice v owns the items. -/
structure DAt (w : World) (r o : Nat) (v : Value) (L : List (It Int)) : Prop where
  head : w.cell? ⟨r, o, none⟩ = some v
  lt : r < w.heap.size
  froz : w.frozen? ⟨r, o, none⟩ = false
  row : w.ownsRow 0 132 3 v L.length (itemVals L)
  ne : v.ownBlock ≠ some r
  ris : Rising L
/-- Where a key is, or would be. -/
structure Place (L : List (It Int)) (key : Int) (p : Nat) : Prop where
  le : p ≤ L.length
  lo : ∀ j, j < p → keyAt L j < key
  hi : p < L.length → key ≤ keyAt L p

theorem DAt.slice {w : World} {r o : Nat} {v : Value} {L : List (It Int)} (h : DAt w r o v L) : ∃ a c, v = .slice a L.length c := ownsRow_slice h.row
theorem DAt.at {w : World} {r o : Nat} {a : Option Addr} {n c : Nat} {L : List (It Int)} (h : DAt w r o (.slice a n c) L) {i : Nat} (hi : i < L.length) : ∃ g, a = some ⟨g, 0, none⟩ ∧ w.cell? ⟨g, i * 3, none⟩ = some (.int .i64 (keyAt L i)) ∧ w.cell? ⟨g, i * 3 + 1, none⟩ = some (.int .u32 (L[i].2.1 : Int)) ∧ w.cell? ⟨g, i * 3 + 2, none⟩ = some (.int .i64 L[i].2.2) := by
  have hrow := h.row
  rcases hrow.2 with ⟨_, h0⟩ | ⟨g, cap, cur, e, _, hg, _⟩
  · omega
  · cases e
    have h1 := World.ownsRow.cellAt hrow (i * 3) (by omega)
    have h2 := World.ownsRow.cellAt hrow (i * 3 + 1) (by omega)
    have h3 := World.ownsRow.cellAt hrow (i * 3 + 2) (by omega)
    obtain ⟨q1, q2, q3⟩ := itemVals_get L i hi
    refine ⟨g, rfl, ?_, h2.trans q2, h3.trans q3⟩
    rw [h1, q1]; simp [keyAt, hi]

set_option maxHeartbeats 1000000 in
theorem placeT (w : World) (r o : Nat) (v : Value) (L : List (It Int)) (h : DAt w r o v L) (key : Int) (hl : L.length ≤ 1000000) :
    Calls Try.prog 70 #[.pointer (some ⟨r, o, none⟩), .int .i64 key] w fun e w' => w' = w ∧ ∃ p : Nat, e = .returned (.int .i64 (p : Int)) ∧ Place L key p := by
  obtain ⟨a, c, rfl⟩ := h.slice
  have c0 : w.cell? ⟨r, o, none⟩ = some (.slice a L.length c) := h.head
  have H := hide h
  obtain ⟨m, hm⟩ : ∃ m, L.length = m := ⟨_, rfl⟩
  have HM := hide hm
  rw [hm] at c0 hl
  clear h hm
  go_enter Try.func70, Try.ntmps70
  go_wp2
  go_loopw [5] (fun i wr => ∃ k : Nat, k ≤ m ∧ i = .int .i64 (k : Int) ∧ wr = w ∧ Hid (∀ j, j < k → keyAt L j < key)) (fun i _ => m - (intOf i).toNat)
  case atStart => exact ⟨0, Nat.zero_le _, rfl, rfl, fun j hj => by omega⟩
  case round =>
    obtain ⟨k, hk, rfl, rfl, hall⟩ := hrel
    by_cases hlt : k < m
    · obtain ⟨g, e, b0, _, _⟩ := H.out.at (i := k) (by rw [HM.out]; exact hlt)
      subst e
      have HAL := hide hall.out
      obtain ⟨y, hy⟩ : ∃ y, keyAt L k = y := ⟨_, rfl⟩
      rw [hy] at b0
      have HY := hide hy
      clear hall hy
      by_cases hyk : y < key
      · have d1 : decide (y < key) = true := by simpa using hyk
        go_wp2
        go_roundw
        case rel =>
          refine ⟨k + 1, by omega, by go_num, by first | rfl | trivial, fun j hj => ?_⟩
          by_cases q : j = k
          · rw [q, HY.out]; exact hyk
          · exact HAL.out j (by omega)
        case measure => simp [intOf]; omega
      · have d1 : decide (y < key) = false := by simp; omega
        go_wp2
        go_ret
        exact ⟨rfl, k, rfl, by rw [HM.out]; exact hk, HAL.out, fun _ => by rw [HY.out]; omega⟩
    · have HAL := hide hall.out
      clear hall
      go_wp2
      go_ret
      exact ⟨rfl, k, rfl, by rw [HM.out]; exact hk, HAL.out, fun q => by rw [HM.out] at q; omega⟩

theorem place_some {L : List (It Int)} {key : Int} {p : Nat} (hr : Rising L) (h : Place L key p) {i : It Int} (hg : getL key L = some i) : ∃ hp : p < L.length, L[p] = i ∧ keyAt L p = key := by
  obtain ⟨h1, h2⟩ := getL_spec hg
  obtain ⟨j, hj, e⟩ := List.getElem_of_mem h1
  have ek : keyAt L j = key := by simp [keyAt, hj, e, h2]
  have hpj : p = j := by
    rcases Nat.lt_trichotomy p j with q | q | q
    · have := h.hi (by omega); have := keyAt_lt hr q hj; omega
    · exact q
    · have := h.lo j q; omega
  subst hpj
  exact ⟨hj, e, ek⟩
theorem place_none {L : List (It Int)} {key : Int} {p : Nat} (h : getL key L = none) (hp : p < L.length) : keyAt L p ≠ key := by
  intro e
  exact getL_none h L[p] (List.getElem_mem _) (by rw [← e]; simp [keyAt, hp])

set_option maxHeartbeats 1000000 in
theorem hasT (w : World) (r o : Nat) (v : Value) (L : List (It Int)) (h : DAt w r o v L) (key : Int) (hl : L.length ≤ 1000000) :
    Calls Try.prog 69 #[.pointer (some ⟨r, o, none⟩), .int .i64 key] w fun e w' => e = .returned (.bool (getL key L).isSome) ∧ w' = w := by
  have HP := hide (placeT w r o v L h key hl)
  obtain ⟨B, hB⟩ : ∃ B, (getL key L).isSome = B := ⟨_, rfl⟩
  have HB := hide hB
  rw [hB]
  clear hB
  obtain ⟨a, c, rfl⟩ := h.slice
  have c0 : w.cell? ⟨r, o, none⟩ = some (.slice a L.length c) := h.head
  have H := hide h
  obtain ⟨m, hm⟩ : ∃ m, L.length = m := ⟨_, rfl⟩
  have HM := hide hm
  rw [hm] at c0 hl
  clear h hm
  go_enter Try.func69, Try.ntmps69
  go_wp2_with fail
  refine HP.out.mono ?_
  rintro e w1 ⟨hw1, p, rfl, hp⟩
  rw [hw1]
  have hpm : p ≤ m := by have := hp.le; rw [HM.out] at this; exact this
  have HPL := hide hp
  clear hw1 w1 hp HP
  by_cases hlt : p < m
  · obtain ⟨g, e, b0, _, _⟩ := H.out.at (i := p) (by rw [HM.out]; exact hlt)
    subst e
    cases hg : getL key L with
    | none =>
      have hne := place_none hg (p := p) (by rw [HM.out]; exact hlt)
      generalize keyAt L p = y at *
      have d1 : (y == key) = false := by rw [beq_eq_false_iff_ne]; exact hne
      have hb : B = false := by rw [← HB.out, hg]; rfl
      clear hg hne
      go_wp2
      go_ret
      exact ⟨ret_bool hb.symm, rfl⟩
    | some i =>
      obtain ⟨_, _, ek⟩ := place_some H.out.ris HPL.out hg
      rw [ek] at b0
      have hb : B = true := by rw [← HB.out, hg]; rfl
      clear hg ek
      go_wp2
      go_ret
      exact ⟨ret_bool hb.symm, rfl⟩
  · have hg : getL key L = none := by
      cases hg : getL key L with
      | none => rfl
      | some i => obtain ⟨q, _⟩ := place_some H.out.ris HPL.out hg; rw [HM.out] at q; omega
    have hb : B = false := by rw [← HB.out, hg]; rfl
    clear hg
    go_wp2
    go_ret
    exact ⟨ret_bool hb.symm, rfl⟩

theorem place_unique {L : List (It Int)} {key : Int} {p q : Nat} (h : Place L key p) (g : Place L key q) : p = q := by
  rcases Nat.lt_trichotomy p q with e | e | e
  · have h1 := g.lo p e; have h2 := h.hi (by have := g.le; omega); omega
  · exact e
  · have h1 := h.lo q e; have h2 := g.hi (by have := h.le; omega); omega
theorem place_there (L : List (It Int)) (key : Int) : ∃ p, Place L key p := by
  have main : ∀ n, n ≤ L.length → (∃ p, Place L key p) ∨ ∀ j, j < n → keyAt L j < key := by
    intro n
    induction n with
    | zero => exact fun _ => .inr fun j hj => by omega
    | succ n ih =>
      intro hn
      rcases ih (by omega) with h | h
      · exact .inl h
      · by_cases q : keyAt L n < key
        · refine .inr fun j hj => ?_
          by_cases e : j = n
          · rw [e]; exact q
          · exact h j (by omega)
        · exact .inl ⟨n, by omega, h, fun _ => by omega⟩
  rcases main L.length (Nat.le_refl _) with h | h
  · exact h
  · exact ⟨L.length, Nat.le_refl _, h, fun q => by omega⟩
theorem placeP (w : World) (r o : Nat) (v : Value) (L : List (It Int)) (h : DAt w r o v L) (key : Int) (hl : L.length ≤ 1000000) (p : Nat) (hp : Place L key p) :
    Calls Try.prog 70 #[.pointer (some ⟨r, o, none⟩), .int .i64 key] w fun e w' => e = .returned (.int .i64 (p : Int)) ∧ w' = w :=
  (placeT w r o v L h key hl).mono fun _ _ ⟨h1, q, h2, h3⟩ => ⟨by rw [h2, place_unique h3 hp], h1⟩
theorem DAt.alike {w w' : World} {r o : Nat} {v : Value} {L : List (It Int)} (h : DAt w r o v L) (g : Alike w w') : DAt w' r o v L := ⟨(World.cell?_of_block (a := ⟨r, o, none⟩) (by rw [g.heap])).trans h.head, by rw [g.heap]; exact h.lt, by have := h.froz; unfold World.frozen? at this ⊢; rw [g.heap]; exact this, ownsRow_alike h.row g, h.ne, h.ris⟩

end Go.Proofs.Ythcfmpjmgheieaa
