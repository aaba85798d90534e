/- Of a shape: what stands below what. (Numbers alone.) -/
import Derived.Test.YtblodflboalbmaaTreList
import Derived.Deep.CutRange
import Derived.Deep.CutBlock
namespace Go.Proofs.Ytblodflboalbmaa
open Go.RowKit
section
variable {α : Type}
/-- The node at place i: key, depth. -/
def nk (s : List (Int × Nat)) (i : Nat) : Int := (s.getD i (0, 0)).1
def nd (s : List (Int × Nat)) (i : Nat) : Nat := (s.getD i (0, 0)).2
theorem nk_left {a b : List (Int × Nat)} {i : Nat} (h : i < a.length) : nk (a ++ b) i = nk a i := by simp [nk, List.getElem?_append, h]
theorem nd_left {a b : List (Int × Nat)} {i : Nat} (h : i < a.length) : nd (a ++ b) i = nd a i := by simp [nd, List.getElem?_append, h]
theorem nk_right {a b : List (Int × Nat)} {i : Nat} : nk (a ++ b) (a.length + i) = nk b i := by simp [nk, List.getElem?_append_right]
theorem nd_right {a b : List (Int × Nat)} {i : Nat} : nd (a ++ b) (a.length + i) = nd b i := by simp [nd, List.getElem?_append_right]
theorem nk_cons {x : Int × Nat} {b : List (Int × Nat)} {i : Nat} : nk (x :: b) (i + 1) = nk b i := by simp [nk]
theorem nd_cons {x : Int × Nat} {b : List (Int × Nat)} {i : Nat} : nd (x :: b) (i + 1) = nd b i := by simp [nd]

theorem shape_deep (T : Tr α) (e i : Nat) (h : i < (T.shape e).length) : e ≤ nd (T.shape e) i := by
  induction T generalizing e i with
  | nil => simp [Tr.shape] at h
  | node p k d v l r ihl ihr =>
    cases i with
    | zero => simp [nd, Tr.shape]
    | succ i =>
      simp only [Tr.shape, List.length_cons, List.length_append] at h
      rw [Tr.shape, nd_cons]
      by_cases hi : i < (l.shape (e + 1)).length
      · rw [nd_left hi]; have := ihl (e + 1) i hi; omega
      · obtain ⟨j, rfl⟩ : ∃ j, i = (l.shape (e + 1)).length + j := ⟨i - (l.shape (e + 1)).length, by omega⟩
        rw [nd_right]; have := ihr (e + 1) j (by omega); omega
theorem shape_first (T : Tr α) (e : Nat) (h : 0 < (T.shape e).length) : nd (T.shape e) 0 = e := by
  cases T with
  | nil => simp [Tr.shape] at h
  | node p k d v l r => simp [nd, Tr.shape]
/-- Behind another a depth is at most the one ahead, and 1. -/
theorem shape_step (T : Tr α) (e i : Nat) (h : i + 1 < (T.shape e).length) : e + 1 ≤ nd (T.shape e) (i + 1) ∧ nd (T.shape e) (i + 1) ≤ nd (T.shape e) i + 1 := by
  induction T generalizing e i with
  | nil => simp [Tr.shape] at h
  | node p k d v l r ihl ihr =>
    simp only [Tr.shape, List.length_cons, List.length_append] at h
    rw [Tr.shape, nd_cons]
    have up : ∀ j, j < (l.shape (e + 1)).length + (r.shape (e + 1)).length → e + 1 ≤ nd (l.shape (e + 1) ++ r.shape (e + 1)) j := by
      intro j hj
      by_cases hi : j < (l.shape (e + 1)).length
      · rw [nd_left hi]; exact shape_deep l _ _ hi
      · obtain ⟨m, rfl⟩ : ∃ m, j = (l.shape (e + 1)).length + m := ⟨j - (l.shape (e + 1)).length, by omega⟩
        rw [nd_right]; exact shape_deep r _ _ (by omega)
    refine ⟨up i (by omega), ?_⟩
    cases i with
    | zero =>
      have e0 : nd ((k, e) :: (l.shape (e + 1) ++ r.shape (e + 1))) 0 = e := rfl
      rw [e0]
      by_cases hi : 0 < (l.shape (e + 1)).length
      · rw [nd_left hi, shape_first l _ hi]; omega
      · have hl0 : (l.shape (e + 1)).length = 0 := by omega
        rw [List.length_eq_zero_iff.1 hl0, List.nil_append, shape_first r _ (by omega)]; omega
    | succ i =>
      rw [nd_cons]
      by_cases hi : i + 1 < (l.shape (e + 1)).length
      · rw [nd_left hi, nd_left (by omega)]; exact (ihl (e + 1) i hi).2
      · by_cases hb : i + 1 = (l.shape (e + 1)).length
        · have h0 : nd (l.shape (e + 1) ++ r.shape (e + 1)) (i + 1) = e + 1 := by
            rw [hb, show (l.shape (e + 1)).length = (l.shape (e + 1)).length + 0 from rfl, nd_right, shape_first r _ (by omega)]
          rw [h0]
          have := up i (by omega); omega
        · obtain ⟨j, hj⟩ : ∃ j, i = (l.shape (e + 1)).length + j := ⟨i - (l.shape (e + 1)).length, by omega⟩
          subst hj
          rw [show (l.shape (e + 1)).length + j + 1 = (l.shape (e + 1)).length + (j + 1) from by omega, nd_right, nd_right]
          exact (ihr (e + 1) j (by omega)).2
/-- A key of the shape is an item's. -/
theorem shape_item (T : Tr α) (e i : Nat) (h : i < (T.shape e).length) : ∃ d v, (nk (T.shape e) i, d, v) ∈ T.items := by
  induction T generalizing e i with
  | nil => simp [Tr.shape] at h
  | node p k d v l r ihl ihr =>
    cases i with
    | zero => exact ⟨d, v, by simp [nk, Tr.shape, Tr.items]⟩
    | succ i =>
      simp only [Tr.shape, List.length_cons, List.length_append] at h
      rw [Tr.shape, nk_cons]
      by_cases hi : i < (l.shape (e + 1)).length
      · rw [nk_left hi]
        obtain ⟨d', v', h'⟩ := ihl (e + 1) i hi
        exact ⟨d', v', by simp [Tr.items, h']⟩
      · obtain ⟨j, rfl⟩ : ∃ j, i = (l.shape (e + 1)).length + j := ⟨i - (l.shape (e + 1)).length, by omega⟩
        rw [nk_right]
        obtain ⟨d', v', h'⟩ := ihr (e + 1) j (by omega)
        exact ⟨d', v', by simp [Tr.items, h']⟩

/-- What stands below place i at place m. -/
structure Under (L : List (It α)) (s : List (Int × Nat)) (i m : Nat) : Prop where
  abv : ∀ x ∈ L, ∀ y ∈ L, x.1 = nk s i → y.1 = nk s m → Abv x.1 x.2.1 y.1 y.2.1
  ne : nk s m ≠ nk s i
  right : ∀ j, i < j → j < m → nk s i < nk s j → nk s i < nk s m

theorem shape_under (T : Tr α) (e : Nat) (hh : T.Heap) (hr : Rising T.items) : ∀ i m, i < m → m < (T.shape e).length → (∀ j, i < j → j ≤ m → nd (T.shape e) i < nd (T.shape e) j) → Under T.items (T.shape e) i m := by
  induction T generalizing e with
  | nil => intro i m _ hm _; simp [Tr.shape] at hm
  | node p k d v l r ihl ihr =>
    obtain ⟨r1, r2, r3, r4, r5⟩ := Rising.app hr
    simp only at r3 r4
    have inL : ∀ x ∈ (Tr.node p k d v l r).items, x.1 < k → x ∈ l.items := by
      intro x hx hk
      simp only [Tr.items, List.mem_append, List.mem_cons] at hx
      rcases hx with hx | rfl | hx
      · exact hx
      · simp at hk
      · have := r4 x hx; omega
    have inR : ∀ x ∈ (Tr.node p k d v l r).items, k < x.1 → x ∈ r.items := by
      intro x hx hk
      simp only [Tr.items, List.mem_append, List.mem_cons] at hx
      rcases hx with hx | rfl | hx
      · have := r3 x hx; omega
      · simp at hk
      · exact hx
    obtain ⟨A, hA⟩ : ∃ A, l.shape (e + 1) = A := ⟨_, rfl⟩
    obtain ⟨B, hB⟩ : ∃ B, r.shape (e + 1) = B := ⟨_, rfl⟩
    have hs : (Tr.node p k d v l r).shape e = (k, e) :: (A ++ B) := by rw [Tr.shape, hA, hB]
    have kA : ∀ j, j < A.length → nk A j < k := fun j hj => by
      obtain ⟨d', v', h'⟩ := shape_item l (e + 1) j (by rw [hA]; exact hj)
      rw [hA] at h'; exact r3 _ h'
    have kB : ∀ j, j < B.length → k < nk B j := fun j hj => by
      obtain ⟨d', v', h'⟩ := shape_item r (e + 1) j (by rw [hB]; exact hj)
      rw [hB] at h'; exact r4 _ h'
    intro i m him hm hd
    rw [hs] at hm hd ⊢
    rw [List.length_cons, List.length_append] at hm
    obtain ⟨m, rfl⟩ : ∃ m', m = m' + 1 := ⟨m - 1, by omega⟩
    cases i with
    | zero =>
      have k0 : nk ((k, e) :: (A ++ B)) 0 = k := rfl
      have key : ∀ j, j < A.length + B.length → (j < A.length ∧ nk (A ++ B) j < k) ∨ (A.length ≤ j ∧ k < nk (A ++ B) j) := by
        intro j hj
        by_cases hjA : j < A.length
        · exact .inl ⟨hjA, by rw [nk_left hjA]; exact kA j hjA⟩
        · obtain ⟨c, rfl⟩ : ∃ c, j = A.length + c := ⟨j - A.length, by omega⟩
          exact .inr ⟨by omega, by rw [nk_right]; exact kB c (by omega)⟩
      refine ⟨fun x hx y hy ex ey => ?_, ?_, fun j hj hjm hlt => ?_⟩
      · rw [k0] at ex
        rw [nk_cons] at ey
        have xr : x = (k, d, v) := rising_inj hr hx (by simp [Tr.items]) ex
        rw [xr]
        rcases key m (by omega) with ⟨_, q⟩ | ⟨_, q⟩
        · exact hh.1 y (inL y hy (by omega))
        · exact hh.2.1 y (inR y hy (by omega))
      · rw [k0, nk_cons]; rcases key m (by omega) with ⟨_, q⟩ | ⟨_, q⟩ <;> omega
      · rw [k0] at hlt ⊢
        obtain ⟨j, rfl⟩ : ∃ j', j = j' + 1 := ⟨j - 1, by omega⟩
        rw [nk_cons] at hlt ⊢
        rcases key j (by omega) with ⟨_, q⟩ | ⟨q1, _⟩
        · omega
        · rcases key m (by omega) with ⟨q2, _⟩ | ⟨_, q2⟩
          · omega
          · exact q2
    | succ i =>
      by_cases hiA : i < A.length
      · by_cases hmA : m < A.length
        · have ih := ihl (e + 1) hh.2.2.1 r1 i m (by omega) (by rw [hA]; exact hmA) (fun j h1 h2 => by
            rw [hA]
            have := hd (j + 1) (by omega) (by omega)
            rw [nd_cons, nd_cons, nd_left hiA, nd_left (by omega)] at this
            exact this)
          rw [hA] at ih
          refine ⟨fun x hx y hy ex ey => ?_, ?_, fun j hj hjm hlt => ?_⟩
          · rw [nk_cons, nk_left hiA] at ex
            rw [nk_cons, nk_left hmA] at ey
            exact ih.abv x (inL x hx (by rw [ex]; exact kA i hiA)) y (inL y hy (by rw [ey]; exact kA m hmA)) ex ey
          · rw [nk_cons, nk_cons, nk_left hiA, nk_left hmA]; exact ih.ne
          · obtain ⟨j, rfl⟩ : ∃ j', j = j' + 1 := ⟨j - 1, by omega⟩
            rw [nk_cons, nk_cons, nk_left hiA, nk_left (by omega)] at hlt
            rw [nk_cons, nk_cons, nk_left hiA, nk_left hmA]
            exact ih.right j (by omega) (by omega) hlt
        · exfalso
          have q := hd (A.length + 1) (by omega) (by omega)
          rw [nd_cons, nd_cons, nd_left hiA] at q
          have h0 : nd (A ++ B) A.length = e + 1 := by
            have := nd_right (a := A) (b := B) (i := 0)
            rw [Nat.add_zero] at this
            rw [this, ← hB]
            exact shape_first r _ (by rw [hB]; omega)
          have h1 := shape_deep l (e + 1) i (by rw [hA]; exact hiA)
          rw [hA] at h1
          omega
      · obtain ⟨a, rfl⟩ : ∃ a, i = A.length + a := ⟨i - A.length, by omega⟩
        obtain ⟨b, rfl⟩ : ∃ b, m = A.length + b := ⟨m - A.length, by omega⟩
        have haB : a < B.length := by omega
        have hbB : b < B.length := by omega
        have ih := ihr (e + 1) hh.2.2.2 r2 a b (by omega) (by rw [hB]; exact hbB) (fun j h1 h2 => by
          rw [hB]
          have := hd (A.length + j + 1) (by omega) (by omega)
          rw [nd_cons, nd_cons, nd_right, nd_right] at this
          exact this)
        rw [hB] at ih
        refine ⟨fun x hx y hy ex ey => ?_, ?_, fun j hj hjm hlt => ?_⟩
        · rw [nk_cons, nk_right] at ex ey
          exact ih.abv x (inR x hx (by rw [ex]; exact kB a haB)) y (inR y hy (by rw [ey]; exact kB b hbB)) ex ey
        · rw [nk_cons, nk_cons, nk_right, nk_right]; exact ih.ne
        · obtain ⟨j, rfl⟩ : ∃ j', j = A.length + j' + 1 := ⟨j - 1 - A.length, by omega⟩
          rw [nk_cons, nk_cons, nk_right, nk_right] at hlt ⊢
          exact ih.right j (by omega) (by omega) hlt
end
end Go.Proofs.Ytblodflboalbmaa
