/- What word.Places answers, at every word: a new slice of the places of its set bits, rising. -/
import Derived.Test.YteahpfobjnofmaaDoorIter
import Derived.WalkSmall
namespace Go.Proofs.YteahpfobjnofmaaDoor
open Go.RowKit Go.Shelf

attribute [local go_sem] Oper.semAt_some

theorem info3 : (Tryd.prog.info? 3).map (fun i => (i.zero, i.size, i.bytes)) = some (some (.int .i64 0), 1, 8) := by kernel_rfl

/-- A list of places as values. -/
def vals (l : List Nat) : List Value := l.map fun (k : Nat) => Value.int .i64 (k : Int)

set_option maxRecDepth 100000 in
set_option maxHeartbeats 2000000 in
theorem places24In (n : Nat) (hn : 3 ≤ n) (x : Nat) (hx : x < 18446744073709551616) (w : World) (hT : Tab w) :
    CallsIn Fence.wide n Tryd.prog 24 #[.int .u64 (x : Int)] w fun e W' => ∃ v, e = .returned v ∧ W'.ownsRow w.heap.size 3 1 v (Plain.cnt x) (vals (Plain.pls x)) ∧ Below w.heap.size w W' := by
  have h1 : 1 ≤ n := by omega
  obtain ⟨i0, hi, hz0, hz1, hz2⟩ := info_parts info3
  have hlen := Plain.cnt_le x
  have HC := hide (fun m => (callsIn_wide (n := m)).2 (count19 x hx w))
  have HT := hide hT
  clear hT
  refine callsIn_of_wp_marks Tryd.func24 rfl trivial ?_ rfl
  simp only [Tryd.ntmps24, List.size_toArray, List.length_cons, List.length_nil, Nat.reduceAdd, Nat.reduceSub, Array.replicate_succ, Array.replicate_zero, List.push_toArray, List.append_toArray, List.nil_append, List.cons_append]
  gi_wp2_with (first | (refine ⟨trivial, ?_⟩; gi_at_call 19; refine (HC.out _).mono ?_; rintro e w' ⟨rfl, rfl⟩) | (gi_at_make; refine wpListIn_make_own _ rfl _ _ 32 rfl w'.heap.size 3 i0 (.int .i64 0) 1 Tryd.underlying32 hi hz0 hz1 .i64 .i64 _ (Plain.cnt x) rfl rfl rfl (by rw [hz2]; omega) (by unfold maxLen; omega) (Nat.le_refl _) ?_; intro w1 hrow hgrow) | (refine ⟨trivial, ?_⟩; gi_at_call 33; refine (placesIn (n - 1) _ _).mono ?_; rintro e w2 ⟨rfl, rfl⟩))
  have hsz := hgrow.size
  have hpos : 0 < w'.heap.size := HT.out.lt
  obtain ⟨cs, hcs⟩ : ∃ v, v = Value.slice (some ⟨w'.heap.size, 0, none⟩) 0 (Plain.cnt x) := ⟨_, rfl⟩
  rw [← hcs] at hrow ⊢
  clear hcs
  have bO := Boxed.new w1 32 cs
  have bN := Boxed.new (w1.alloc (.cells #[cs] 32)) 22 (.int .u64 (x : Int))
  rw [World.size_alloc] at bN
  have hB1 : Below w'.heap.size w' w1 := (Below.refl _ w').grown hgrow (Nat.le_refl _) (fun k e => by cases e)
  have hB0 : Below w'.heap.size w' ((w1.alloc (.cells #[cs] 32)).alloc (.cells #[.int .u64 (x : Int)] 22)) := (hB1.alloc hsz _).alloc (by simp; omega) _
  refine wpIn_rangeFunc_ownG rfl h1 (gf := 35) (lb := #[.pointer (some ⟨w1.heap.size + 1, 0, none⟩)]) rfl trivial (enters_of Tryd.func35 (by kernel_rfl) rfl)
    (placesStops (n - 1) (by omega) (w1.heap.size + 1) w'.heap.size hpos x hx _ (by simp) bN.cell (HT.out.below hpos hB0)) belowK_t (belowK_b (by simp; omega)) (Below.refl _ _) (fun _ => rfl)
    (fun pre W => (∃ v, Boxed W w1.heap.size 32 v ∧ W.ownsRow w'.heap.size 3 1 v pre.length (vals pre) ∧ True) ∧ Below w'.heap.size w' W)
    (fun _ _ _ => False)
    (OwnFrom.and (Own.from (holdsRow_own w'.heap.size w1.heap.size 32 3 1 (fun pre : List Nat => pre.length) (fun pre => vals pre) (fun _ _ => True)) _) (ownFrom_below (Nat.le_refl _) (by simp; omega)))
    (fun _ _ _ _ _ hs _ _ => hs)
    ⟨⟨_, bO.alloc _, (hrow.alloc _).alloc _, trivial⟩, hB0⟩
    (fun y => { tmps := #[.int .u64 (x : Int), undef, .slice none 0 0, .pointer (some ⟨w1.heap.size, 0, none⟩), .int .i64 (y : Int), .int .u64 (x : Int), .int .i64 (Plain.cnt x : Int), cs, .int .u64 (x : Int), .func (.func 35) #[] #[.pointer (some ⟨w1.heap.size + 1, 0, none⟩)], .int .i64 (y : Int), undef, undef, undef, undef, undef], defers := [] }) ?assign ?body ?done ?stop
  case assign =>
    intro l y W K hK
    gi_wp2
    exact hK
  case body =>
    rintro l pre y W ⟨⟨v, hv, hrw, _⟩, hB⟩ hlt
    have hc := hv.cell
    gi_wp2_with (gi_at_builtin; refine wpListIn_append_own _ rfl _ _ 32 rfl w'.heap.size 3 i0 (.int .i64 0) 1 8 Tryd.underlying32 hi hz0 hz1 hz2 rfl (by decide) _ _ _ rfl (hrw.alloc _) ⟨W.heap.size, 0, none⟩ 1 1 [.int .i64 (y : Int)] rfl rfl (cell_one_new _ _ _) (by simp [Value.oneCell']) (by unfold maxLen; omega) (by omega) (by have := hB.size; simp; omega) ?_; intro v' w3 hown' hgrow' _; obtain ⟨g', cap', rfl⟩ := ownsRow_succ hown'; obtain ⟨hv1, hv2, hr2, hk2, hb2⟩ := hv.appended (by decide) hrw hB.size hsz hown' hgrow'; have hc1 := hv1.cell; have hf1 := hv1.frozen)
    exact ⟨hk2.from _, hb2, ⟨_, hv2, by simpa [vals] using hr2, trivial⟩, hB.trans hb2⟩
  case done =>
    rintro D ys W hD rfl ⟨⟨v, hv, hrw, _⟩, hB⟩ hK
    have hc := hv.cell
    gi_wp2
    refine ⟨by simp, .inl ⟨_, _, rfl, run_takeDeferred hK, ?_⟩⟩
    exact ⟨_, results_tmp rfl _ _ _, v, rfl, ownsRow_putObj hrw _ hK rfl, hB.trans (belowK_b (w := w') (Nat.le_refl _) W D _ _ (by simp at hD; omega) hK rfl rfl)⟩
  case stop =>
    rintro D c pre W _ _ h _
    exact h.elim

theorem places24 (x : Nat) (hx : x < 18446744073709551616) (w : World) (hT : Tab w) :
    Calls Tryd.prog 24 #[.int .u64 (x : Int)] w fun e W' => ∃ v, e = .returned v ∧ W'.ownsRow w.heap.size 3 1 v (Plain.cnt x) (vals (Plain.pls x)) ∧ Below w.heap.size w W' :=
  callsIn_wide.1 (places24In 3 (Nat.le_refl _) x hx w hT)

/-- The slice leads to a new row of these places. -/
def RowAt (W : World) (base : Nat) (a : Option Addr) (l : List Nat) : Prop :=
  l ≠ [] → ∃ g, a = some ⟨g, 0, none⟩ ∧ base ≤ g ∧ g < W.heap.size ∧ ∀ (i y : Nat), l[i]? = some y → W.cell? ⟨g, i, none⟩ = some (.int .i64 (y : Int))

theorem rowAt_of_owns {W : World} {base : Nat} {v : Value} {l : List Nat} (h : W.ownsRow base 3 1 v l.length (vals l)) : ∃ a cap, v = .slice a l.length cap ∧ RowAt W base a l := by
  rcases h.2 with ⟨rfl, h0⟩ | ⟨g, cap, cur, rfl, hb, hg, hle, _, hsz, hcur⟩
  · exact ⟨none, 0, by rw [h0], fun hne => absurd (List.length_eq_zero_iff.1 h0) hne⟩
  · refine ⟨_, _, rfl, fun _ => ⟨g, rfl, hb, (Array.getElem?_eq_some_iff.1 hg).1, fun i y hy => ?_⟩⟩
    obtain ⟨hi, _⟩ := List.getElem?_eq_some_iff.1 hy
    have h1 : (cur.toList.take (l.length * 1))[i]? = some (.int .i64 (y : Int)) := by
      rw [hcur]
      simp [vals, hy]
    rw [List.getElem?_take_of_lt (by omega)] at h1
    simp only [World.cell?, hg]
    simpa using h1

theorem RowAt.below {W W' : World} {base n : Nat} {a : Option Addr} {l : List Nat} (h : RowAt W base a l) (hb : Below n W W') (hn : W.heap.size ≤ n) : RowAt W' base a l := fun hne => by
  obtain ⟨g, e, h1, h2, h3⟩ := h hne
  exact ⟨g, e, h1, Nat.lt_of_lt_of_le h2 hb.size, fun i y hy => (hb.cell (p := ⟨g, i, none⟩) (by simp; omega)).trans (h3 i y hy)⟩

theorem places24R (x : Nat) (hx : x < 18446744073709551616) (w : World) (hT : Tab w) :
    Calls Tryd.prog 24 #[.int .u64 (x : Int)] w fun e W' => ∃ a cap, e = .returned (.slice a (Plain.cnt x) cap) ∧ RowAt W' w.heap.size a (Plain.pls x) ∧ Below w.heap.size w W' := by
  refine (places24 x hx w hT).mono ?_
  rintro e W' ⟨v, rfl, hrow, hb⟩
  obtain ⟨a, cap, rfl, hr⟩ := rowAt_of_owns hrow
  exact ⟨a, cap, rfl, hr, hb⟩

/-- Of w's set bits the k lowest. -/
def firstAns (x : Nat) (k : Int) : Nat := match (Plain.pls x)[Plain.hold k]? with | some i => x &&& Plain.ones i | none => x

theorem first21 (x : Nat) (hx : x < 18446744073709551616) (k : Int) (w : World) (hT : Tab w) :
    Calls Tryd.prog 21 #[.int .u64 (x : Int), .int .i64 k] w fun e W' => e = .returned (.int .u64 (firstAns x k)) ∧ Below w.heap.size w W' := by
  have h31 := hide (held31 k w)
  have h13 := nth13 x hx (Plain.hold k : Int) w hT
  clear hT
  cases hn : (Plain.pls x)[Plain.hold k]? with
  | none =>
    have e : nthAns x (Plain.hold k : Int) = (0, false) := by simp [nthAns, hn]
    rw [e] at h13
    have e2 : firstAns x k = x := by simp [firstAns, hn]
    rw [e2]
    have H13 := hide h13
    clear h13 e e2 hn
    generalize Plain.hold k = m at *
    go_enter Tryd.func21, Tryd.ntmps21
    go_wp2_with (first | (go_at_call 31; refine h31.out.mono ?_; rintro e w1 ⟨rfl, rfl⟩) | (go_at_call 13; refine H13.out.mono ?_; rintro e w2 ⟨rfl, hb⟩))
    go_ret
    exact ⟨rfl, hb⟩
  | some i =>
    have hi : i < 64 := ((Plain.mem_pls x i).1 (List.mem_of_getElem? hn)).1
    have e : nthAns x (Plain.hold k : Int) = ((i : Int), true) := by simp [nthAns, hn]
    rw [e] at h13
    have e2 : firstAns x k = x &&& Plain.ones i := by simp [firstAns, hn]
    have h15 := fun w => ones15 (i : Int) w
    rw [show Plain.hold (i : Int) = i from by unfold Plain.hold; omega] at h15
    have hK := hide (bits_and_u64_nat x _ hx (Plain.ones_lt i (by omega)))
    rw [e2]
    have H13 := hide h13
    have H15 := hide h15
    clear h13 e e2 hn h15
    generalize Plain.hold k = m at *
    generalize Plain.ones i = o at *
    go_enter Tryd.func21, Tryd.ntmps21
    go_wp2_with (first | (go_at_call 31; refine h31.out.mono ?_; rintro e w1 ⟨rfl, rfl⟩) | (go_at_call 13; refine H13.out.mono ?_; rintro e w2 ⟨rfl, hb⟩) | (go_at_call 15; refine (H15.out _).mono ?_; rintro e w1 ⟨rfl, rfl⟩))
    go_ret
    exact ⟨ret_int hK.out, hb⟩

end Go.Proofs.YteahpfobjnofmaaDoor
