/- Plain facts on lists of places: they rise; the first of them, and the others; the word that they make. No program is named here. -/
import Derived.Test.YtgdliebllmgibaaDoorBits
namespace Go.Proofs.YtgdliebllmgibaaDoor.Plain

theorem sorted_pls (x : Nat) : (pls x).Pairwise (· < ·) := List.Pairwise.filter _ List.pairwise_lt_range

theorem filter_lt (l : List Nat) (hs : l.Pairwise (· < ·)) (m i : Nat) (h : l[m]? = some i) :
    l.filter (fun j => decide (j < i)) = l.take m ∧ l.filter (fun j => !decide (j < i)) = l.drop m := by
  obtain ⟨hm, hi⟩ := List.getElem?_eq_some_iff.1 h
  have hd : l.drop m = i :: l.drop (m + 1) := by rw [List.drop_eq_getElem_cons hm, hi]
  have hp : (l.take m ++ l.drop m).Pairwise (· < ·) := by rw [List.take_append_drop]; exact hs
  rw [hd, List.pairwise_append] at hp
  obtain ⟨_, h2, h3⟩ := hp
  rw [List.pairwise_cons] at h2
  have a1 : (l.take m).filter (fun j => decide (j < i)) = l.take m := by
    rw [List.filter_eq_self]
    intro a ha
    exact decide_eq_true (h3 a ha i (by simp))
  have a2 : (l.drop m).filter (fun j => decide (j < i)) = [] := by
    rw [List.filter_eq_nil_iff, hd]
    intro a ha
    rcases List.mem_cons.1 ha with rfl | ha
    · simp
    · have := h2.1 a ha
      simp; omega
  have b1 : (l.take m).filter (fun j => !decide (j < i)) = [] := by
    rw [List.filter_eq_nil_iff]
    intro a ha
    have := h3 a ha i (by simp)
    simp [this]
  have b2 : (l.drop m).filter (fun j => !decide (j < i)) = l.drop m := by
    rw [List.filter_eq_self, hd]
    intro a ha
    rcases List.mem_cons.1 ha with rfl | ha
    · simp
    · have := h2.1 a ha
      simp; omega
  have e : l = l.take m ++ l.drop m := (List.take_append_drop m l).symm
  constructor
  · rw [show l.filter (fun j => decide (j < i)) = (l.take m ++ l.drop m).filter (fun j => decide (j < i)) from by rw [← e], List.filter_append, a1, a2, List.append_nil]
  · rw [show l.filter (fun j => !decide (j < i)) = (l.take m ++ l.drop m).filter (fun j => !decide (j < i)) from by rw [← e], List.filter_append, b1, b2, List.nil_append]

/-- The k lowest of a word's set bits. -/
def fst (x m : Nat) : Nat := match (pls x)[m]? with | some i => x &&& ones i | none => x

theorem fst_lt (x m : Nat) (hx : x < 18446744073709551616) : fst x m < 18446744073709551616 := by
  unfold fst
  split
  · exact Nat.lt_of_le_of_lt Nat.and_le_left hx
  · exact hx

theorem pls_fst (x m : Nat) : pls (fst x m) = (pls x).take m := by
  unfold fst
  split
  · rename_i i h
    rw [← (filter_lt _ (sorted_pls x) m i h).1]
    unfold pls upTo
    rw [List.filter_filter]
    apply List.filter_congr
    intro j _
    rw [Nat.testBit_and, ones_bit, Bool.and_comm]
  · rename_i h
    rw [List.take_of_length_le (by simpa using h)]

theorem pls_rest (x m : Nat) (hx : x < 18446744073709551616) : pls (x &&& inv (fst x m)) = (pls x).drop m := by
  have hl := fst_lt x m hx
  unfold fst at *
  split
  · rename_i i h
    rw [h] at hl
    simp only at hl
    rw [← (filter_lt _ (sorted_pls x) m i h).2]
    unfold pls upTo
    rw [List.filter_filter]
    apply List.filter_congr
    intro j hj
    rw [Nat.testBit_and, inv_bit _ _ hl (by simpa using hj), Nat.testBit_and, ones_bit]
    cases x.testBit j <;> simp
  · rename_i h
    rw [List.drop_of_length_le (by simpa using h)]
    unfold pls upTo
    rw [List.filter_eq_nil_iff]
    intro j hj
    rw [Nat.testBit_and, inv_bit _ _ hx (by simpa using hj)]
    cases x.testBit j <;> simp

theorem fst_sub (x m : Nat) (hx : x < 18446744073709551616) : fst x m &&& inv x = 0 := by
  have hl := fst_lt x m hx
  apply eq_of_bits _ _ (Nat.lt_of_le_of_lt Nat.and_le_left hl) (by omega)
  intro j hj
  rw [Nat.testBit_and, inv_bit _ _ hx hj, Nat.zero_testBit]
  unfold fst
  split
  · rw [Nat.testBit_and]
    cases x.testBit j <;> simp
  · cases x.testBit j <;> simp

theorem cnt_fst (x m : Nat) : cnt (fst x m) = min m (cnt x) := by
  unfold cnt
  rw [pls_fst, List.length_take]

theorem cnt_rest (x m : Nat) (hx : x < 18446744073709551616) : cnt (x &&& inv (fst x m)) = cnt x - m := by
  unfold cnt
  rw [pls_rest x m hx, List.length_drop]

/-- The last of the first ones is below the first of the others. -/
theorem last_lt (x m a b : Nat) (h1 : ((pls x).take m)[min m (cnt x) - 1]? = some a) (h2 : ((pls x).drop m)[0]? = some b) : a < b := by
  have hs := sorted_pls x
  rw [← List.take_append_drop m (pls x), List.pairwise_append] at hs
  exact hs.2.2 a (List.mem_of_getElem? h1) b (List.mem_of_getElem? h2)

/-- The word whose set bits these are. -/
def join (l : List Nat) : Nat := l.foldl (fun a i => a ||| 2 ^ i) 0
theorem join_snoc (l : List Nat) (i : Nat) : join (l ++ [i]) = join l ||| 2 ^ i := by simp [join]
theorem join_take (l : List Nat) (k : Nat) (h : k < l.length) : join (l.take (k + 1)) = join (l.take k) ||| 2 ^ l[k] := by
  rw [List.take_succ_eq_append_getElem h, join_snoc]
theorem fold_bit (l : List Nat) (j : Nat) : ∀ a, (l.foldl (fun a i => a ||| 2 ^ i) a).testBit j = (a.testBit j || decide (j ∈ l)) := by
  induction l with
  | nil => intro a; simp
  | cons i l ih =>
    intro a
    rw [List.foldl_cons, ih, Nat.testBit_or, Nat.testBit_two_pow]
    by_cases h : i = j
    · subst h; simp
    · have h' : ¬ j = i := fun e => h e.symm
      simp [h, h']
theorem join_bit (l : List Nat) (j : Nat) : (join l).testBit j = decide (j ∈ l) := by
  unfold join
  rw [fold_bit, Nat.zero_testBit, Bool.false_or]
theorem join_lt (l : List Nat) (h : ∀ i ∈ l, i < 64) : join l < 18446744073709551616 := by
  show join l < 2 ^ 64
  apply Nat.lt_pow_two_of_testBit
  intro i hi
  rw [join_bit]
  apply decide_eq_false
  intro hm
  have := h i hm
  omega
theorem join_pls (x : Nat) (hx : x < 18446744073709551616) : join (pls x) = x := by
  apply eq_of_bits _ _ (join_lt _ (fun i hi => ((mem_pls x i).1 hi).1)) hx
  intro i hi
  rw [join_bit, Bool.eq_iff_iff, decide_eq_true_iff, mem_pls]
  exact ⟨fun h => h.2, fun h => ⟨hi, h⟩⟩
theorem pls_lt (x k : Nat) (h : k < (pls x).length) : (pls x)[k] < 64 := ((mem_pls x _).1 (List.getElem_mem h)).1
theorem pls_rise (x k : Nat) (h : k + 1 < (pls x).length) : (pls x)[k] < (pls x)[k + 1] := by
  have hs := sorted_pls x
  rw [List.pairwise_iff_getElem] at hs
  exact hs k (k + 1) (by omega) h (by omega)

end Go.Proofs.YtgdliebllmgibaaDoor.Plain
