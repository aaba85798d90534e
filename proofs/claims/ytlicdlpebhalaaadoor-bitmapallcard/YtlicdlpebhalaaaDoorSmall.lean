/- A list of words copied into new memory. -/
import Derived.Test.YtlicdlpebhalaaaDoorWords
import Derived.Laws.AppendOwn
import Derived.Laws.AppendOwnNone
import Derived.Laws.OwnMore
import Derived.Lib.SliceRun
import Derived.WalkSmall
namespace Go.Proofs.YtlicdlpebhalaaaDoor
open Go.RowKit

theorem infoU64 : (Tryd.prog.info? 39).map (fun i => (i.zero, i.size, i.bytes)) = some (some (.int .u64 0), 1, 8) := by kernel_rfl

/-- A row of its own: the words of l, at block base or beyond. -/
def WordsOwn (W : World) (base : Nat) (v : Value) (l : List Nat) : Prop := W.ownsRow base 39 1 v l.length (wordVals l)

theorem WordsOwn.words {W : World} {base : Nat} {v : Value} {l : List Nat} (h : WordsOwn W base v l) : ∃ a c, v = .slice a l.length c ∧ WordsIn W a l ∧ (a = none → c = 0) ∧ l.length ≤ c ∧ c ≤ maxLen := by
  have hh := h
  rcases h.2 with ⟨rfl, h0⟩ | ⟨g, cap, cur, rfl, hb, hg, hle, hm, hsz, hcur⟩
  · exact ⟨none, 0, by rw [h0], fun hne => absurd (List.length_eq_zero_iff.1 h0) hne, fun _ => rfl, by omega, by unfold maxLen; omega⟩
  · refine ⟨_, _, rfl, fun _ => ⟨g, 0, rfl, (Array.getElem?_eq_some_iff.1 hg).1, fun i hi => ?_⟩, (fun e => by cases e), hle, hm⟩
    have := World.ownsRow.cellAt hh i (by omega)
    rw [Nat.zero_add, this, ← List.getElem?_toArray]
    exact wordVals_get l i hi

theorem words_news {W : World} {ad : Addr} {l : List Nat} (h : WordsIn W (some ad) l) (m : Nat) : ∀ j u, (wordVals (l.take m))[j]? = some u → W.cell? (ad.add j) = some u := by
  intro j u hu
  have hj : j < (l.take m).length := by
    have := (List.getElem?_eq_some_iff.1 hu).1
    simpa [wordVals] using this
  rw [List.length_take] at hj
  obtain ⟨g', o', e, h1, h2⟩ := h (fun e => by simp [e] at hj)
  cases e
  have h3 := h2 j (by omega)
  rw [show (⟨g', o', none⟩ : Addr).add j = ⟨g', o' + j, none⟩ from by simp [Addr.add], h3]
  have h4 : j < l.length := by omega
  simp only [wordVals, List.getElem?_map, List.getElem?_take] at hu
  rw [if_pos (by omega), List.getElem?_eq_getElem h4] at hu
  simp only [Option.map_some, Option.some.injEq] at hu
  rw [← hu, List.getD_eq_getElem?_getD, List.getElem?_eq_getElem h4]
  rfl

theorem words_one (l : List Nat) : ∀ u ∈ wordVals l, u.oneCell' = true := by
  intro u hu
  simp only [wordVals, List.mem_map] at hu
  obtain ⟨x, _, rfl⟩ := hu
  rfl

theorem words_none {W : World} {l : List Nat} (h : WordsIn W none l) : l = [] := by
  by_cases e : l = []
  · exact e
  · obtain ⟨_, _, e, _⟩ := h e; cases e

theorem owned_empty (w : World) : (w.alloc (.cells #[] 39)).ownsRow w.heap.size 39 1 (.slice (some ⟨w.heap.size, 0, none⟩) 0 0) 0 [] :=
  World.ownsRow_lit w #[] 0 (Nat.le_refl _) (Nat.zero_le _) rfl

theorem below_new {w w' : World} {o : Obj} (h : (w.alloc o).grownBy w' (Value.slice (some ⟨w.heap.size, 0, none⟩) 0 0).ownBlock) : Below w.heap.size w w' :=
  ((Below.refl w.heap.size w).alloc (Nat.le_refl _) o).grown h (by simp) (fun j ej => by simp [Value.ownBlock] at ej; omega)

theorem small9 (l : List Nat) (a : Option Addr) (c : Nat) (hz : a = none → c = 0) (hc : l.length ≤ c) (hc2 : c ≤ maxLen) (w : World) (h : WordsIn w a l) :
    Calls Tryd.prog 9 #[.slice a l.length c] w fun e w' => ∃ v, e = .returned v ∧ WordsOwn w' w.heap.size v (l.take 20) ∧ Below w.heap.size w w' := by
  obtain ⟨i0, hi, hz0, hz1, hz2⟩ := info_parts infoU64
  unfold maxLen at hc2
  cases a with
  | none =>
    obtain rfl := words_none h
    obtain rfl := hz rfl
    clear hz h
    have HO := hide (owned_empty w)
    go_enter Tryd.func9, Tryd.ntmps9
    go_wp2_with (at_builtin; refine wpList_append_own_none _ rfl _ _ 22 rfl w.heap.size 39 i0 1 Tryd.underlying22 hi _ 0 [] rfl HO.out rfl ?_)
    go_ret
    exact ⟨_, rfl, HO.out, (Below.refl w.heap.size w).alloc (Nat.le_refl _) _⟩
  | some ad =>
    have HO := hide (owned_empty w)
    have HN := hide (fun m => words_news (h.alloc (.cells #[] 39)) m)
    obtain ⟨n, hn⟩ : ∃ n, l.length = n := ⟨_, rfl⟩
    have HL : Hid ((l.take 20).length = min n 20) := by show (l.take 20).length = _; rw [List.length_take]; omega
    rw [hn] at hc ⊢
    clear hz hn h
    by_cases h20 : n ≤ 20
    · have HM : Hid (min n 20 = n) := by show min n 20 = n; omega
      go_enter Tryd.func9, Tryd.ntmps9
      go_wp2_with (at_builtin; refine wpList_append_own _ rfl _ _ 22 rfl w.heap.size 39 i0 (.int .u64 0) 1 8 Tryd.underlying22 hi hz0 hz1 hz2 rfl (by decide) _ 0 [] rfl HO.out ad n c (wordVals (l.take 20)) rfl (by rw [wordVals_length, HL.out, HM.out, Nat.mul_one]) (HN.out 20) (words_one _) (by unfold maxLen; omega) (by omega) (by simp) ?_; intro v' w3 hown' hgrow' _)
      go_ret
      refine ⟨_, rfl, ?_, below_new hgrow'⟩
      have := HL.out
      rw [HM.out] at this
      rw [WordsOwn, this]
      simpa using hown'
    · have HM : Hid (min n 20 = 20) := by show min n 20 = 20; omega
      go_enter Tryd.func9, Tryd.ntmps9
      go_wp2_with (at_builtin; refine wpList_append_own _ rfl _ _ 22 rfl w.heap.size 39 i0 (.int .u64 0) 1 8 Tryd.underlying22 hi hz0 hz1 hz2 rfl (by decide) _ 0 [] rfl HO.out ad 20 c (wordVals (l.take 20)) rfl (by rw [wordVals_length, HL.out, HM.out, Nat.mul_one]) (HN.out 20) (words_one _) (by unfold maxLen; omega) (by omega) (by simp) ?_; intro v' w3 hown' hgrow' _)
      go_ret
      refine ⟨_, rfl, ?_, below_new hgrow'⟩
      have := HL.out
      rw [HM.out] at this
      rw [WordsOwn, this]
      simpa using hown'

/-- A list of words that is copied whole. -/
theorem clone28 (l : List Nat) (hl : l.length ≤ 1099511627776) (a : Option Addr) (c : Nat) (hz : a = none → c = 0) (w : World) (h : WordsIn w a l) :
    Calls Tryd.prog 28 #[.slice a l.length c] w fun e w' => ∃ v, e = .returned v ∧ WordsOwn w' w.heap.size v l ∧ Below w.heap.size w w' := by
  obtain ⟨i0, hi, hz0, hz1, hz2⟩ := info_parts infoU64
  cases a with
  | none =>
    obtain rfl := words_none h
    obtain rfl := hz rfl
    clear hz h
    have hnil := fun w => Lib.run_eql_slice_nil (P := Tryd.prog) w 22 39 none 0 0 0 0 Tryd.underlying22
    go_enter Tryd.func28, Tryd.ntmps28
    go_wp2
    go_ret
    exact ⟨_, rfl, World.ownsRow_nil _ _ _ _, Below.refl _ _⟩
  | some ad =>
    have HO := hide (owned_empty w)
    have HN := hide (words_news (h.alloc (.cells #[] 39)) l.length)
    rw [List.take_length] at HN
    obtain ⟨n, hn⟩ : ∃ n, l.length = n := ⟨_, rfl⟩
    have HL := hide hn
    rw [hn] at hl ⊢
    clear hz hn h
    have hnil := fun w => Lib.run_eql_slice_nil (P := Tryd.prog) w 22 39 (some ad) n c 0 0 Tryd.underlying22
    go_enter Tryd.func28, Tryd.ntmps28
    go_wp2_with (at_builtin; refine wpList_append_own _ rfl _ _ 22 rfl w.heap.size 39 i0 (.int .u64 0) 1 8 Tryd.underlying22 hi hz0 hz1 hz2 rfl (by decide) _ 0 [] rfl HO.out ad n c (wordVals l) rfl (by rw [wordVals_length, HL.out, Nat.mul_one]) HN.out (words_one _) (by unfold maxLen; omega) (by omega) (by simp) ?_; intro v' w3 hown' hgrow' _)
    go_ret
    refine ⟨_, rfl, ?_, below_new hgrow'⟩
    rw [WordsOwn, HL.out]
    simpa using hown'

end Go.Proofs.YtlicdlpebhalaaaDoor
