/- Rows of numbers in memory, each a thing by itself; which holds one; one put ahead. -/
import Derived.Test.YtigokeocphbffaaStkChain
import Derived.Test.YtigokeocphbffaaOpenBytes
namespace Go.Proofs.Ytigokeocphbffaa
open Go Go.RowKit

/-- A row of numbers that lies by itself. -/
def IV (v : Value) (l : List Int) : Res := fun W G => IntsV W v l ∧ ∀ x, G x ↔ l ≠ [] ∧ ∃ a m c, v = .slice (some a) m c ∧ a.block = x
theorem Loc.iv {v : Value} {l : List Int} : Loc (IV v l) := by
  refine ⟨fun {w w' M G} ⟨h1, h2⟩ o hn => ⟨?_, h2⟩, fun {w G x} ⟨h1, h2⟩ hx => ?_⟩
  · obtain ⟨a, c, e, h⟩ := h1
    refine ⟨a, c, e, fun hne => ?_⟩
    obtain ⟨g, e2, hg, hc⟩ := h hne
    have hg' : ¬ M g := hn g ((h2 g).2 ⟨hne, ⟨g, 0, none⟩, l.length, c, by rw [e, e2], rfl⟩)
    exact ⟨g, e2, Nat.lt_of_lt_of_le hg o.size, fun i hi => (o.cell (p := ⟨g, i, none⟩) hg hg').trans (hc i hi)⟩
  · obtain ⟨hl, a, m, c, e, rfl⟩ := (h2 x).1 hx
    obtain ⟨a', c', e', h⟩ := h1
    obtain ⟨g, e2, hg, _⟩ := h hl
    rw [e] at e'; cases e'
    cases e2; exact hg
theorem Own.iv {R R' : Res} {w0 w : World} {v : Value} {l : List Int} (h : Own R' w0 w) (e : R' = Sep (IV v l) R) : IntsV w v l := by
  obtain ⟨_, ⟨_, _, a, _⟩, _⟩ := h.cast e
  exact a.1
theorem Own.ivNew {R : Res} {w0 w w' : World} {v : Value} {l : List Int} (lR : Loc R) (h : Own R w0 w) (h1 : IntsV w' v l) (hn : ∀ a m c, v = .slice (some a) m c → w.heap.size ≤ a.block) (b : Below w.heap.size w w') : Own (Sep (IV v l) R) w0 w' :=
  Own.fresh (R1 := IV v l) lR h (G := fun x => l ≠ [] ∧ ∃ a m c, v = .slice (some a) m c ∧ a.block = x) ⟨h1, fun _ => Iff.rfl⟩ (fun _ ⟨_, a, m, c, e, hx⟩ => hx ▸ hn a m c e) b
theorem intsNil (W : World) : IntsV W (.slice none 0 0) [] := ⟨none, 0, rfl, fun h => absurd rfl h⟩

theorem srcInts {W : World} {v : Value} {l : List Int} (h : IntsV W v l) (hz : l = [] → v = .slice none 0 0) : Src W v l.length (intVals l) := by
  obtain ⟨a, c, rfl, h⟩ := h
  by_cases hl : l = []
  · exact .inl ⟨hz hl, by rw [hl]; rfl, by rw [hl]; rfl⟩
  · obtain ⟨g, rfl, hg, hc⟩ := h hl
    refine .inr ⟨_, _, rfl, fun j u hj => ?_⟩
    have hj' : j < l.length := by
      have := (List.getElem?_eq_some_iff.1 hj).1
      simpa [intVals] using this
    have e : u = .int .i64 (l.getD j 0) := by
      simp [intVals, hj'] at hj
      simp [hj', ← hj]
    rw [e]
    have ea : (⟨g, 0, none⟩ : Addr).add j = ⟨g, j, none⟩ := by unfold Addr.add; split <;> simp_all
    rw [ea]
    exact hc j hj'
theorem ints_one (l : List Int) : ∀ u ∈ intVals l, u.oneCell' = true := by
  intro u hu
  obtain ⟨i, _, rfl⟩ := List.mem_map.1 hu
  rfl
theorem wpAppendSrc {P : Program} (w : World) {ops : Array Oper} {rest : List Oper} {o : Oper} {a : Act} {Q : Exit → Act → World → Prop}
    (hg : o.guard = none) (s x : Operand) (t : TypeId) (hop : o.op = Op.call { callee := Callee.builtin Builtin.append, args := #[s, x], argTypes := #[t, t] })
    (base : Nat) (e : TypeId) (i : TypeInfo) (z : Value) (size bytes : Nat) (h1 : P.underlying t = some (.slice e)) (h2 : P.info? e = some i) (h3 : i.zero = some z) (h4 : i.size = size) (h5 : i.bytes = bytes) (h6 : z.cells.size = size) (h7 : 0 < size)
    (v : Value) (k : Nat) (xs : List Value) (hs : a.eval s = v) (hown : w.ownsRow base e size v k xs) (m : Nat) (news : List Value) (hx : Src w (a.eval x) m news) (hn : news.length = m * size)
    (h1c : ∀ u ∈ news, u.oneCell' = true) (b1 : k + m ≤ maxLen) (b2 : (k + m) * bytes ≤ 140737488355328) (b3 : base ≤ w.heap.size)
    (hK : ∀ v' w', w'.ownsRow base e size v' (k + m) (xs ++ news) → w.grownBy w' v.ownBlock → wpList P ops Q rest (a.put o.dst v') w') :
    wpList P ops Q (o :: rest) a w := by
  refine wpList_plain hg fun K hK' => ?_
  exact oper_append w s x t hop base e i z size bytes h1 h2 h3 h4 h5 h6 h7 v k xs hs hown m news hx hn h1c b1 b2 b3 (fun v' w' q1 q2 _ => hK' _ _ (hK v' w' q1 q2))
/-- A new row of one number. -/
theorem owns_oneI (w : World) (x : Int) : (w.alloc (.cells #[.int .i64 x] 3)).ownsRow w.heap.size 3 1 (.slice (some ⟨w.heap.size, 0, none⟩) 1 1) 1 (intVals [x]) :=
  ⟨rfl, .inr ⟨w.heap.size, 1, #[.int .i64 x], rfl, Nat.le_refl _, heap_alloc_at _ _, Nat.le_refl _, by unfold maxLen; omega, rfl, rfl⟩⟩
theorem below_from {N : Nat} {W w3 : World} {v : Value} {t : TypeId} {size k : Nat} {xs : List Value} (hN : N ≤ W.heap.size) (hrow : W.ownsRow N t size v k xs) (hgrow : W.grownBy w3 v.ownBlock) : Below N W w3 := by
  refine (Below.refl N W).grown hgrow hN (fun j ej => ?_)
  rcases hrow.2 with ⟨rfl, _⟩ | ⟨g, cap, cur, rfl, hb, _, _⟩
  · simp [Value.ownBlock] at ej
  · obtain rfl : g = j := by simpa [Value.ownBlock] using ej
    exact hb

set_option maxHeartbeats 1000000 in
theorem lawHas (w : World) (v : Value) (l : List Int) (h : IntsV w v l) (hl : l.length ≤ 1099511627776) (x : Int) (d : Bool) (hd : decide (x ∈ l) = d) :
    Calls Try.prog 23 #[v, .int .i64 x] w fun e w' => e = .returned (.bool d) ∧ w' = w := by
  obtain ⟨a, c, rfl, h⟩ := h
  have H1 := hide h
  obtain ⟨m, hm⟩ : ∃ m, l.length = m := ⟨_, rfl⟩
  have HM := hide hm
  have HD := hide hd
  rw [hm] at hl ⊢
  clear h hm hd
  go_enter Try.func23, Try.ntmps23
  go_wp2
  go_loopw [5] (fun i wr => ∃ k : Nat, k ≤ m ∧ i = .int .i64 (k : Int) ∧ Hid ((∀ j, j < k → l.getD j 0 ≠ x) ∧ wr = w)) (fun i _ => m - (intOf i).toNat)
  case atStart => exact ⟨0, Nat.zero_le _, rfl, ⟨fun j hj => by omega, rfl⟩⟩
  case round =>
    obtain ⟨k, hk, rfl, hal⟩ := hrel
    obtain ⟨hal1, hal2⟩ := hal.out
    subst hal2
    by_cases hlt : k < m
    · have hkl : k < l.length := by rw [HM.out]; exact hlt
      have hne : l ≠ [] := fun e => by rw [e] at hkl; simp at hkl
      obtain ⟨g1, rfl, _, q1⟩ := H1.out hne
      have x1 : wr.cell? ⟨g1, k, none⟩ = _ := q1 k hkl
      by_cases he : l.getD k 0 = x
      · have hd1 : d = true := by
          rw [← HD.out, decide_eq_true_iff]
          rw [← he, List.getD_eq_getElem?_getD, List.getElem?_eq_getElem hkl]
          simp
        rw [he] at x1
        subst hd1
        clear q1 hal hal1 hne hkl H1 he HD
        go_wp2
        go_ret
        exact ⟨rfl, rfl⟩
      · have HN : Hid (∀ j, j < k + 1 → l.getD j 0 ≠ x) := hide (fun j hj => by
          by_cases e : j = k
          · rw [e]; exact he
          · exact hal1 j (by omega))
        have dn : (l.getD k 0 == x) = false := by rw [beq_eq_false_iff_ne]; exact he
        generalize l.getD k 0 = X at *
        clear q1 hal hal1 hne hkl H1 he
        go_wp2
        go_roundw
        case rel => exact ⟨k + 1, by omega, by go_num, HN.out, by trivial⟩
        case measure => simp [intOf]; omega
    · have hd0 : d = false := by
        rw [← HD.out, decide_eq_false_iff_not]
        intro hx
        obtain ⟨j, hj, e⟩ := List.mem_iff_getElem.1 hx
        exact hal1 j (by rw [HM.out] at hj; omega) (by rw [List.getD_eq_getElem?_getD, List.getElem?_eq_getElem hj]; simpa using e)
      subst hd0
      clear hal hal1 H1 HD
      go_wp2
      go_ret
      exact ⟨rfl, rfl⟩
theorem lawHead (k : Int) (h1 : 0 ≤ k) (h2 : k < 100000) (w : World) : Calls Try.prog 18 #[.int .i64 k] w fun e w' => e = .returned (.int .i64 (8 + k % 60)) ∧ w' = w := by
  go_enter Try.func18, Try.ntmps18
  go_wp2
  go_ret
  exact ⟨rfl, rfl⟩
end Go.Proofs.Ytigokeocphbffaa
