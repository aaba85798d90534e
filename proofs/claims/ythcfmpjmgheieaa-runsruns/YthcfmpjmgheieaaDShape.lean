/- The document's tree: Shape. -/
import Derived.Test.YthcfmpjmgheieaaDDrop
import Derived.Test.YthcfmpjmgheieaaTreSame
import Derived.OwnWalk
namespace Go.Proofs.Ythcfmpjmgheieaa
open Go.RowKit

theorem wpList_append_src {P : Program} (w : World) {ops : Array Oper} {rest : List Oper} {o : Oper} {a : Act} {Q : Exit → Act → World → Prop}
    (hg : o.guard = none) (s x : Operand) (t : TypeId) (hop : o.op = Op.call { callee := Callee.builtin Builtin.append, args := #[s, x], argTypes := #[t, t] })
    (base : Nat) (e : TypeId) (i : TypeInfo) (z : Value) (size bytes : Nat) (h1 : P.underlying t = some (.slice e)) (h2 : P.info? e = some i) (h3 : i.zero = some z) (h4 : i.size = size) (h5 : i.bytes = bytes) (h6 : z.cells.size = size) (h7 : 0 < size)
    (v : Value) (k : Nat) (xs : List Value) (hs : a.eval s = v) (hown : w.ownsRow base e size v k xs) (m : Nat) (news : List Value) (hx : Src w (a.eval x) m news) (hn : news.length = m * size)
    (h1c : ∀ u ∈ news, u.oneCell' = true) (b1 : k + m ≤ maxLen) (b2 : (k + m) * bytes ≤ 140737488355328) (b3 : base ≤ w.heap.size)
    (hK : ∀ v' w', w'.ownsRow base e size v' (k + m) (xs ++ news) → w.grownBy w' v.ownBlock → wpList P ops Q rest (a.put o.dst v') w') :
    wpList P ops Q (o :: rest) a w := by
  refine wpList_plain hg fun K hK' => ?_
  exact oper_append w s x t hop base e i z size bytes h1 h2 h3 h4 h5 h6 h7 v k xs hs hown m news hx hn h1c b1 b2 b3 (fun v' w' q1 q2 _ => hK' _ _ (hK v' w' q1 q2))

/-- The items of L lie where v tells. -/
def LRow (w : World) (v : Value) (L : List (It Int)) : Prop := ∃ a c, v = .slice a L.length c ∧ L.length ≤ c ∧ c ≤ 9223372036854775807 ∧ ∀ i (_ : i < L.length), ∃ g o, a = some ⟨g, o, none⟩ ∧ g < w.heap.size ∧ w.cell? ⟨g, o + i * 3, none⟩ = some (.int .i64 L[i].1) ∧ w.cell? ⟨g, o + i * 3 + 1, none⟩ = some (.int .u32 (L[i].2.1 : Int))
theorem LRow.below {w w' : World} {v : Value} {L : List (It Int)} (h : LRow w v L) (b : Below w.heap.size w w') : LRow w' v L := by
  obtain ⟨a, c, e, h1, h2, h3⟩ := h
  refine ⟨a, c, e, h1, h2, fun i hi => ?_⟩
  obtain ⟨g, o, e2, hg, q1, q2⟩ := h3 i hi
  exact ⟨g, o, e2, Nat.lt_of_lt_of_le hg b.size, (b.cell (p := ⟨g, o + i * 3, none⟩) hg).trans q1, (b.cell (p := ⟨g, o + i * 3 + 1, none⟩) hg).trans q2⟩
theorem lrow_take {w : World} {a : Option Addr} {n c : Nat} {L : List (It Int)} (h : LRow w (.slice a n c) L) (k : Nat) (hk : k ≤ L.length) : LRow w (.slice a k c) (L.take k) := by
  obtain ⟨a', c', e, h1, h2, h3⟩ := h
  cases e
  have hl : (L.take k).length = k := by rw [List.length_take]; omega
  refine ⟨a, c, by rw [hl], by omega, h2, fun i hi => ?_⟩
  obtain ⟨g, o, e2, hg, q1, q2⟩ := h3 i (by omega)
  rw [List.getElem_take]
  exact ⟨g, o, e2, hg, q1, q2⟩
theorem lrow_drop {w : World} {a : Option Addr} {n c : Nat} {L : List (It Int)} (h : LRow w (.slice a n c) L) (k : Nat) (hk : k ≤ L.length) : LRow w (.slice (if c = k then a else Option.map (fun x => x.add (k * 3)) a) (n - k) (c - k)) (L.drop k) := by
  obtain ⟨a', c', e, h1, h2, h3⟩ := h
  cases e
  have hl : (L.drop k).length = L.length - k := List.length_drop
  refine ⟨_, _, by rw [hl], by omega, by omega, fun i hi => ?_⟩
  obtain ⟨g, o, e2, hg, q1, q2⟩ := h3 (k + i) (by omega)
  subst e2
  have hck : c ≠ k := by omega
  rw [List.getElem_drop, if_neg hck]
  have ea : (⟨g, o, none⟩ : Addr).add (k * 3) = ⟨g, o + k * 3, none⟩ := by unfold Addr.add; split <;> simp_all
  refine ⟨g, o + k * 3, by simp [ea], hg, ?_, ?_⟩
  · rw [show o + k * 3 + i * 3 = o + (k + i) * 3 by omega]; exact q1
  · rw [show o + k * 3 + i * 3 + 1 = o + (k + i) * 3 + 1 by omega]; exact q2
theorem infoNode : (Try.prog.info? 111).map (fun i => (i.zero, i.size, i.bytes)) = some (some (.agg #[.int .i64 0, .int .i64 0]), 2, 16) := by kernel_rfl
theorem src_of_owns {w W : World} {base e size n : Nat} {v : Value} {xs : List Value} (h : w.ownsRow base e size v n xs) (hb : Below w.heap.size w W) : Src W v n xs := by
  have h0 := h.1
  rcases h.2 with ⟨rfl, rfl⟩ | ⟨g, cap, cur, rfl, q1, q2, _⟩
  · exact .inl ⟨rfl, rfl, List.length_eq_zero_iff.1 (by simpa using h0)⟩
  · refine .inr ⟨_, _, rfl, fun j u hj => ?_⟩
    have := World.ownsRow.cells h (g := g) rfl j u hj
    have ea : (⟨g, 0, none⟩ : Addr).add j = ⟨g, j, none⟩ := by unfold Addr.add; split <;> simp_all
    rw [ea] at this ⊢
    exact (hb.cell (p := ⟨g, j, none⟩) (lt_of_heap q2)).trans this
theorem nodeVals_one (l : List (Int × Nat)) : ∀ u ∈ nodeVals l, u.oneCell' = true := by
  intro u hu
  simp only [nodeVals, List.mem_flatMap] at hu
  obtain ⟨i, _, h⟩ := hu
  simp only [List.mem_cons, List.not_mem_nil, or_false] at h
  rcases h with rfl | rfl <;> rfl
theorem root_first0 {M : List (It Int)} {k : Int} {d : Nat} {x : Int} {A B : List (It Int)} (e : M = A ++ (k, d, x) :: B) (ha : ∀ y ∈ A, Abv k d y.1 y.2.1) (hb : ∀ y ∈ B, Abv k d y.1 y.2.1) (hr : Rising M) {q : Nat} (hq : q < M.length)
    (h1 : ∀ j (_ : j < M.length), (M[j]).2.1 ≤ (M[q]).2.1) (h2 : ∀ j (_ : j < q), (M[j]).2.1 < (M[q]).2.1) : q = A.length := by
  subst e
  obtain ⟨_, _, a1, a2, _⟩ := Rising.app hr
  have hR : (A ++ (k, d, x) :: B)[A.length]'(by simp) = (k, d, x) := by simp
  rcases Nat.lt_trichotomy q A.length with u | u | u
  · have m1 : (A ++ (k, d, x) :: B)[q] = A[q] := by simp [u]
    have m2 := h1 A.length (by simp)
    rw [hR, m1] at m2
    have m3 := ha A[q] (List.getElem_mem _)
    have m4 := a1 A[q] (List.getElem_mem _)
    unfold Abv at m3
    simp only at m2 m3 m4
    omega
  · exact u
  · have m0 := h2 A.length u
    rw [hR] at m0
    have m1 : (A ++ (k, d, x) :: B)[q] ∈ B := by
      rw [List.getElem_append_right (by omega), List.getElem_cons]
      split
      · omega
      · exact List.getElem_mem _
    have m3 := hb _ m1
    unfold Abv at m3
    simp only at m0 m3
    omega
/-- The root is the first of the greatest draws. -/
theorem root_first {p : Nat} {k : Int} {d : Nat} {x : Int} {l r : Tr Int} (hh : (Tr.node p k d x l r).Heap) (hr : Rising (Tr.node p k d x l r).items) {q : Nat} (hq : q < (Tr.node p k d x l r).items.length)
    (h1 : ∀ j (_ : j < (Tr.node p k d x l r).items.length), ((Tr.node p k d x l r).items[j]).2.1 ≤ ((Tr.node p k d x l r).items[q]).2.1) (h2 : ∀ j (_ : j < q), ((Tr.node p k d x l r).items[j]).2.1 < ((Tr.node p k d x l r).items[q]).2.1) : q = l.items.length :=
  root_first0 rfl hh.1 hh.2.1 hr hq h1 h2
end Go.Proofs.Ythcfmpjmgheieaa
