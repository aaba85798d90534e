/- The document's examples of chapter 3, as the statements ask them: they answer true. A list of words that came in, opened. -/
import Derived.Test.YtlicdlpebhalaaaDoorRefRows
import Derived.Test.YtlicdlpebhalaaaDoorRefTurn
import Derived.Deep.Slices
import Derived.ChangeSame
import Derived.Carry
namespace Go.Proofs.YtlicdlpebhalaaaDoor
open Go.ChangeShapes Go.WideShapes Go.ChangeAt Go.RowKit Go.Deep

theorem partsL_ex : partsL 63 2 = [(0, 9223372036854775808), (1, 1)] := by decide +kernel
theorem runs_ex : Bitm.runsTo [5] (heldN 4 ([5] : List Nat).length) = [(1, 1), (3, 1)] := by decide +kernel
theorem partsLit (w : World) : PairsV .u64 (w.alloc (.cells #[.int .i64 0, .int .u64 9223372036854775808, .int .i64 1, .int .u64 1] 41)) (.slice (some ⟨w.heap.size, 0, none⟩) 2 2) [(0, 9223372036854775808), (1, 1)] := by
  refine ⟨_, _, rfl, fun _ => ⟨_, rfl, by simp, fun i hi => ?_⟩⟩
  match i, hi with
  | 0, _ => exact ⟨cell_of_heap (heap_alloc_at w _), cell_of_heap (heap_alloc_at w _)⟩
  | 1, _ => exact ⟨cell_of_heap (heap_alloc_at w _), cell_of_heap (heap_alloc_at w _)⟩
theorem runsLit (w : World) : PairsV .i64 (w.alloc (.cells #[.int .i64 1, .int .i64 1, .int .i64 3, .int .i64 1] 47)) (.slice (some ⟨w.heap.size, 0, none⟩) 2 2) [(1, 1), (3, 1)] := by
  refine ⟨_, _, rfl, fun _ => ⟨_, rfl, by simp, fun i hi => ?_⟩⟩
  match i, hi with
  | 0, _ => exact ⟨cell_of_heap (heap_alloc_at w _), cell_of_heap (heap_alloc_at w _)⟩
  | 1, _ => exact ⟨cell_of_heap (heap_alloc_at w _), cell_of_heap (heap_alloc_at w _)⟩
theorem fiveLit (w : World) : WordsIn (w.alloc (.cells #[.int .u64 5] 39)) (some ⟨w.heap.size, 0, none⟩) [5] := fun _ =>
  ⟨_, 0, rfl, by simp, fun i hi => by match i, hi with | 0, _ => exact cell_of_heap (heap_alloc_at w _)⟩

set_option maxRecDepth 100000 in
theorem awake22 (w : World) (hT : Tab w) : Calls Tryd.prog 22 #[] w fun e w' => e = .returned (.bool true) ∧ Below w.heap.size w w' := by
  have HT := hide hT
  have hpos := hT.lt
  clear hT
  have HP := hide (parts23 63 2 w)
  rw [partsL_ex] at HP
  go_enter Tryd.func22, Tryd.ntmps22
  go_wp2_with fail
  refine HP.out.mono ?_
  rintro e w1 ⟨v, he, hp, hb1⟩
  have HV := hide hp
  obtain ⟨va, vc, hv, _⟩ := hp
  subst hv
  subst he
  go_wp2_with fail
  have HB2 : Hid (Below w.heap.size w (w1.alloc (.cells #[.int .i64 0, .int .u64 9223372036854775808, .int .i64 1, .int .u64 1] 41))) := hb1.alloc hb1.size _
  refine (sameParts24 [(0, 9223372036854775808), (1, 1)] (by simp) _ _ _ (HV.out.below ((Below.refl w1.heap.size w1).alloc (Nat.le_refl _) _) (Nat.le_refl _)) (partsLit w1)).mono ?_
  rintro e w2 ⟨rfl, q, rfl⟩
  have HB3 : Hid (Below w.heap.size w ((w1.alloc (.cells #[.int .i64 0, .int .u64 9223372036854775808, .int .i64 1, .int .u64 1] 41)).drewN q)) := below_drewN HB2.out q
  generalize ((w1.alloc (.cells #[.int .i64 0, .int .u64 9223372036854775808, .int .i64 1, .int .u64 1] 41)).drewN q) = w3 at *
  clear HB2 HV HP hb1
  go_wp2_with fail
  have HB4 : Hid (Below w.heap.size w (w3.alloc (.cells #[.int .u64 5] 39))) := HB3.out.alloc HB3.out.size _
  have HR := runs20 [5] (by simp) (fun x hx => by simp at hx; omega) (some ⟨w3.heap.size, 0, none⟩) 1 4 _ (HT.out.below hpos HB4.out) (fiveLit w3)
  rw [runs_ex] at HR
  refine HR.mono ?_
  rintro e w5 ⟨v, he, hp, hb5⟩
  have HV := hide hp
  obtain ⟨va, vc, hv, _⟩ := hp
  subst hv
  subst he
  have HB5 : Hid (Below w.heap.size w w5) := HB4.out.trans (hb5.mono HB4.out.size)
  clear HR hb5 HB4 HB3
  go_wp2_with fail
  have HB6 : Hid (Below w.heap.size w (w5.alloc (.cells #[.int .i64 1, .int .i64 1, .int .i64 3, .int .i64 1] 47))) := HB5.out.alloc HB5.out.size _
  refine (sameRuns19 [(1, 1), (3, 1)] (by simp) _ _ _ (HV.out.below ((Below.refl w5.heap.size w5).alloc (Nat.le_refl _) _) (Nat.le_refl _)) (runsLit w5)).mono ?_
  rintro e w6 ⟨rfl, q2, rfl⟩
  go_wp2
  go_ret
  exact ⟨rfl, below_drewN HB6.out q2⟩

theorem laidOut : laidOutB Tryd.prog = true := by kernel_rfl
theorem cellsU64 : Tryd.prog.cellsOf 39 = 1 := by kernel_rfl

theorem add_at (b o k : Nat) : (⟨b, o, none⟩ : Addr).add k = ⟨b, o + k, none⟩ := by
  by_cases h : k = 0
  · subst h; simp [Addr.add]
  · simp [Addr.add, h]

/-- A list out of what lies there. -/
theorem words_exist {W : World} {b o : Nat} : ∀ len, (∀ k, k < len → ∃ x : Nat, x < 18446744073709551616 ∧ W.cell? ⟨b, o + k, none⟩ = some (.int .u64 (x : Int))) →
    ∃ l : List Nat, l.length = len ∧ Bitm.Fit l ∧ ∀ i, i < l.length → W.cell? ⟨b, o + i, none⟩ = some (.int .u64 (l.getD i 0 : Int))
  | 0, _ => ⟨[], rfl, fun x hx => by (cases hx), fun i hi => by simp at hi⟩
  | len + 1, h => by
    obtain ⟨l, hl, hf, hc⟩ := words_exist len (fun k hk => h k (by omega))
    obtain ⟨x, hx, hcx⟩ := h len (by omega)
    refine ⟨l ++ [x], by simp [hl], fun y hy => ?_, fun i hi => ?_⟩
    · rcases List.mem_append.1 hy with hy | hy
      · exact hf y hy
      · rw [List.mem_singleton] at hy; subst hy; exact hx
    · rw [List.length_append, List.length_singleton] at hi
      by_cases hil : i < l.length
      · rw [hc i hil, List.getD_eq_getElem?_getD, List.getD_eq_getElem?_getD, List.getElem?_append_left hil]
      · obtain rfl : i = l.length := by omega
        rw [hl, hcx, List.getD_eq_getElem?_getD, ← hl, List.getElem?_concat_length]
        rfl

theorem open_words {H : Type} {enc : TypeId × Value → H} {W : World} {v : Value} {d : DataW H} {ps : List MemPlace} {base : Nat} (hv : Value.okWide Tryd.prog W .any base 22 v)
    (h : DataW.Trod enc Tryd.prog W 0 (fun _ => true) true 22 v d ps) : ∃ l a c, v = .slice a l.length c ∧ l.length ≤ c ∧ c ≤ maxLen ∧ Bitm.Fit l ∧ (a = none → c = 0) ∧ WordsIn W a l := by
  obtain ⟨a0, len0, cap0, rfl⟩ := okWide_slice Tryd.underlying22 hv
  obtain ⟨fuel, h⟩ := h
  rw [show (Value.slice a0 len0 cap0).cells.toList = [.slice a0 len0 cap0] from rfl] at h
  rcases open_slice Tryd.underlying22 h with ⟨hc, _⟩ | ⟨a, len, cap, m, n, D, Pl, hc, _, hl, hm, hmm, _, hx⟩
  · simp only [List.cons.injEq, and_true, Value.slice.injEq] at hc
    obtain ⟨rfl, rfl, rfl⟩ := hc
    exact ⟨[], none, 0, rfl, Nat.le_refl _, Nat.zero_le _, fun x hx => by (cases hx), fun _ => rfl, fun h => absurd rfl h⟩
  · simp only [List.cons.injEq, and_true, Value.slice.injEq] at hc
    obtain ⟨rfl, rfl, rfl⟩ := hc
    simp only [if_true] at hmm
    subst hmm
    rw [cellsU64] at hx
    by_cases h0 : len0 = 0
    · subst h0
      exact ⟨[], some a, m, rfl, Nat.zero_le _, hm, fun x hx => by (cases hx), fun e => by (cases e), fun h => absurd rfl h⟩
    · have hspot : a.spot = none := by
        obtain ⟨cs', h1, h2⟩ := hx 0 (by omega)
        obtain ⟨_, hlen, hcell⟩ := World.cells?_some h1
        have h0 := hcell 0 (by omega)
        rw [List.getElem?_eq_getElem (by omega)] at h0
        simpa [Addr.add] using World.cell?_spot h0
      obtain ⟨b, o, sp⟩ := a
      simp only at hspot
      subst hspot
      obtain ⟨l, hll, hf, hcs⟩ := words_exist (W := W) (b := b) (o := o) len0 (fun k hk => by
        obtain ⟨cs', h1, h2⟩ := hx k (by omega)
        obtain ⟨_, hlen, hcell⟩ := World.cells?_some h1
        match cs', hlen with
        | [v0], _ =>
          obtain ⟨n0, e0, _, w0⟩ := DataW.trod_int Tryd.underlying39 h2
          simp only [List.cons.injEq, and_true] at e0
          subst e0
          obtain ⟨x0, hx0, rfl⟩ := u64_nat w0
          have a0 := hcell 0 (by omega)
          refine ⟨x0, hx0, ?_⟩
          rw [add_at, add_at] at a0
          simpa using a0)
      subst hll
      exact ⟨l, some ⟨b, o, none⟩, m, rfl, hl, hm, hf, fun e => by (cases e), fun hne => ⟨b, o, rfl, World.block_lt_of_cell? W _ (hcs 0 (List.length_pos_iff.2 hne)), hcs⟩⟩

end Go.Proofs.YtlicdlpebhalaaaDoor
