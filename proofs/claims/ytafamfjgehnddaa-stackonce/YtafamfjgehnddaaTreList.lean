/- Rising rows of items: what is there, what is put, what is dropped. (Numbers alone.) -/
import Derived.Test.YtafamfjgehnddaaTreOne
namespace Go.Proofs.Ytafamfjgehnddaa
open Go.RowKit
section
variable {α : Type}
theorem getL_spec {L : List (It α)} {key : Int} {i : It α} (h : getL key L = some i) : i ∈ L ∧ i.1 = key := by
  have h1 := List.mem_of_find?_eq_some h
  have h2 := List.find?_some h
  exact ⟨h1, by simpa using h2⟩
theorem rising_inj {L : List (It α)} (hr : Rising L) {i j : It α} (hi : i ∈ L) (hj : j ∈ L) (h : i.1 = j.1) : i = j := by
  induction L with
  | nil => cases hi
  | cons a L ih =>
    obtain ⟨h1, h2⟩ := List.pairwise_cons.1 hr
    rcases List.mem_cons.1 hi with rfl | hi'
    · rcases List.mem_cons.1 hj with rfl | hj
      · rfl
      · have := h1 j hj; omega
    · rcases List.mem_cons.1 hj with e | hj
      · have := h1 i (by assumption); rw [e] at h; omega
      · exact ih h2 (by assumption) hj
theorem getL_of_mem {L : List (It α)} (hr : Rising L) {i : It α} (hi : i ∈ L) : getL i.1 L = some i := by
  cases hg : getL i.1 L with
  | none => exact absurd rfl (getL_none hg i hi)
  | some j =>
    obtain ⟨h1, h2⟩ := getL_spec hg
    rw [rising_inj hr h1 hi h2]
theorem getL_none_of {L : List (It α)} {key : Int} (h : ∀ i ∈ L, i.1 ≠ key) : getL key L = none := by
  cases hg : getL key L with
  | none => rfl
  | some j => obtain ⟨h1, h2⟩ := getL_spec hg; exact absurd h2 (h j h1)
theorem getL_ins {L : List (It α)} {key : Int} {d : Nat} {v : α} (hr : Rising L) (h : getL key L = none) : getL key (insL key d v L) = some (key, d, v) :=
  getL_of_mem (insL_rising hr (getL_none h)) (i := (key, d, v)) (insL_mem.2 (.inl rfl))
theorem getL_del {L : List (It α)} {key : Int} : getL key (delL key L) = none := getL_none_of fun _ hi => (delL_mem.1 hi).2
theorem del_ins {L : List (It α)} {key : Int} {d : Nat} {v : α} (hr : Rising L) (h : getL key L = none) : delL key (insL key d v L) = L := by
  have hn := getL_none h
  refine rising_ext (delL_rising (insL_rising hr hn)) hr fun i => ?_
  rw [delL_mem, insL_mem]
  constructor
  · rintro ⟨rfl | hi, h2⟩
    · exact absurd rfl h2
    · exact hi
  · exact fun hi => ⟨.inr hi, hn i hi⟩
theorem delL_le {L : List (It α)} {key : Int} : (delL key L).length ≤ L.length := List.length_filter_le _ _
/-- What key is dropped, if it is there. -/
theorem putL_mem {L : List (It α)} {key : Int} {d : Nat} {v : α} {i : It α} : i ∈ putL key d v L ↔ i ∈ L ∨ (getL key L = none ∧ i = (key, d, v)) := by
  unfold putL
  cases hg : getL key L with
  | none => simp [insL_mem, or_comm]
  | some j => simp
theorem ceilL_some {L : List (It α)} {key : Int} {i : It α} (hr : Rising L) (h : ceilL key L = some i) : i ∈ L ∧ key ≤ i.1 ∧ ∀ j ∈ L, key ≤ j.1 → i.1 ≤ j.1 := by
  induction L with
  | nil => simp [ceilL] at h
  | cons a L ih =>
    obtain ⟨h1, h2⟩ := List.pairwise_cons.1 hr
    by_cases ha : a.1 < key
    · have h' : ceilL key L = some i := by simpa [ceilL, ha] using h
      obtain ⟨q1, q2, q3⟩ := ih h2 h'
      refine ⟨by simp [q1], q2, fun j hj hk => ?_⟩
      rcases List.mem_cons.1 hj with rfl | hj
      · omega
      · exact q3 j hj hk
    · have h' : a = i := by simpa [ceilL, ha] using h
      subst h'
      refine ⟨by simp, by omega, fun j hj hk => ?_⟩
      rcases List.mem_cons.1 hj with rfl | hj
      · exact Int.le_refl _
      · have := h1 j hj; omega
theorem ceilL_none {L : List (It α)} {key : Int} (h : ceilL key L = none) : ∀ j ∈ L, j.1 < key := by
  unfold ceilL at h
  rw [List.find?_eq_none] at h
  intro j hj
  simpa using h j hj
theorem ceilL_self {L : List (It α)} (hr : Rising L) {i : It α} (hi : i ∈ L) : ceilL i.1 L = some i := by
  cases hc : ceilL i.1 L with
  | none => have := ceilL_none hc i hi; omega
  | some j =>
    obtain ⟨q1, q2, q3⟩ := ceilL_some hr hc
    have := q3 i hi (Int.le_refl _)
    rw [rising_inj hr q1 hi (by omega)]
/-- The key at place i. -/
def keyAt (L : List (It α)) (i : Nat) : Int := (L.map (·.1)).getD i 0
theorem keyAt_mem {L : List (It α)} {i : Nat} (hi : i < L.length) : ∃ x ∈ L, x.1 = keyAt L i := ⟨L[i], List.getElem_mem _, by simp [keyAt, hi]⟩
theorem keyAt_lt {L : List (It α)} (hr : Rising L) {i j : Nat} (hij : i < j) (hj : j < L.length) : keyAt L i < keyAt L j := by
  have := List.pairwise_iff_getElem.1 hr i j (by omega) hj hij
  simpa [keyAt, hj, show i < L.length by omega] using this
theorem keyAt_of_mem {L : List (It α)} {x : It α} (hx : x ∈ L) : ∃ i, i < L.length ∧ keyAt L i = x.1 := by
  obtain ⟨i, hi, rfl⟩ := List.getElem_of_mem hx
  exact ⟨i, hi, by simp [keyAt, hi]⟩
/-- What Ceil finds, as the keys are gone through. -/
theorem ceil_row {L : List (It α)} (hr : Rising L) (key : Int) :
    (ceilL key L = none ∧ ∀ i, i < L.length → keyAt L i < key) ∨
    ∃ x, ceilL key L = some x ∧ x ∈ L ∧ (∃ i, i < L.length ∧ key ≤ keyAt L i) ∧ ∀ i, i < L.length → key ≤ keyAt L i → (∀ j, j < i → keyAt L j < key) → x.1 = keyAt L i := by
  cases hc : ceilL key L with
  | none =>
    refine .inl ⟨rfl, fun i hi => ?_⟩
    obtain ⟨x, hx, e⟩ := keyAt_mem hi
    rw [← e]; exact ceilL_none hc x hx
  | some x =>
    obtain ⟨q1, q2, q3⟩ := ceilL_some hr hc
    obtain ⟨j, hj, e⟩ := keyAt_of_mem q1
    refine .inr ⟨x, rfl, q1, ⟨j, hj, by rw [e]; exact q2⟩, fun i hi hk hall => ?_⟩
    obtain ⟨y, hy, ey⟩ := keyAt_mem hi
    have h1 := q3 y hy (by rw [ey]; exact hk)
    rcases Nat.lt_trichotomy i j with h | h | h
    · have := keyAt_lt hr h hj; omega
    · subst h; rw [e]
    · have := hall j h; omega
end

theorem belowAlike {a b c : World} (h : Below b.heap.size b c) (g : Alike a b) : Below a.heap.size a c := (g.below _).trans (h.mono (by rw [g.heap]; exact Nat.le_refl _))

theorem NodesV.keptB {W W' : World} {v : Value} {l : List (Int × Nat)} {M : Nat → Prop} {n : Nat} (h : NodesV W v l) (ho : Only M W W') (hv : ∀ a m c, v = .slice (some a) m c → n ≤ a.block) (hM : ∀ k, M k → k < n ∨ W.heap.size ≤ k) : NodesV W' v l := by
  obtain ⟨a, c, e, h⟩ := h
  refine ⟨a, c, e, fun hne => ?_⟩
  obtain ⟨g, e2, h2, h3⟩ := h hne
  have hg : ¬ M g := fun q => by have q1 := hM g q; have q2 := hv ⟨g, 0, none⟩ _ _ (by rw [e, e2]); simp at q2; omega
  exact ⟨g, e2, Nat.lt_of_lt_of_le h2 ho.size, fun i hi => ⟨(ho.cell (p := ⟨g, i * 2, none⟩) h2 hg).trans (h3 i hi).1, (ho.cell (p := ⟨g, i * 2 + 1, none⟩) h2 hg).trans (h3 i hi).2⟩⟩
end Go.Proofs.Ytafamfjgehnddaa
