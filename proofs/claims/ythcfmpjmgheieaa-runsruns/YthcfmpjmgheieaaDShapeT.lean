/- The document's tree: the recursion of Shape. -/
import Derived.Test.YthcfmpjmgheieaaDShape
namespace Go.Proofs.Ythcfmpjmgheieaa
open Go.RowKit

theorem addr_add (g o k : Nat) : (⟨g, o, none⟩ : Addr).add k = ⟨g, o + k, none⟩ := by unfold Addr.add; split <;> simp_all
theorem LRow.alike {w w' : World} {v : Value} {L : List (It Int)} (h : LRow w v L) (b : Alike w w') : LRow w' v L := h.below (b.below _)
theorem LRow.at {w : World} {a : Option Addr} {n c : Nat} {L : List (It Int)} (h : LRow w (.slice a n c) L) (h0 : 0 < n) : L.length = n ∧ n ≤ c ∧ c ≤ 9223372036854775807 ∧ ∃ g o, a = some ⟨g, o, none⟩ ∧ ∀ i (_ : i < L.length), w.cell? ⟨g, o + i * 3, none⟩ = some (.int .i64 L[i].1) ∧ w.cell? ⟨g, o + i * 3 + 1, none⟩ = some (.int .u32 (L[i].2.1 : Int)) := by
  obtain ⟨a', c', e, h1, h2, h3⟩ := h
  cases e
  refine ⟨rfl, h1, h2, ?_⟩
  obtain ⟨g, o, e2, _, _, _⟩ := h3 0 h0
  refine ⟨g, o, e2, fun i hi => ?_⟩
  obtain ⟨g', o', e3, _, q1, q2⟩ := h3 i hi
  rw [e2] at e3
  cases e3
  exact ⟨q1, q2⟩
theorem ownsRow_keep {w w' : World} {base e size n : Nat} {v : Value} {xs : List Value} (h : w.ownsRow base e size v n xs) (b : Below w.heap.size w w') : w'.ownsRow base e size v n xs := by
  refine ⟨h.1, ?_⟩
  rcases h.2 with h0 | ⟨g, cap, cur, h1, h2, h3, h4⟩
  · exact .inl h0
  · exact .inr ⟨g, cap, cur, h1, h2, (b.block g (lt_of_heap h3)).trans h3, h4⟩
def ShapeEnd (w : World) (n : Nat) (L : List (Int × Nat)) : Ending → World → Prop := fun ex w' => ∃ v', ex = .returned v' ∧ Below w.heap.size w w' ∧ w'.ownsRow w.heap.size 111 2 v' n (nodeVals L)

set_option maxRecDepth 100000 in
set_option maxHeartbeats 2000000 in
theorem shapeNil (w : World) (a : Option Addr) (c : Nat) (e : Int) : Calls Try.prog 80 #[.slice a 0 c, .int .i64 e] w (ShapeEnd w 0 []) := by
  go_enter Try.func80, Try.ntmps80
  go_wp2
  go_ret
  exact ⟨_, rfl, Below.refl _ _, rfl, .inl ⟨rfl, rfl⟩⟩

set_option maxRecDepth 100000 in
set_option maxHeartbeats 4000000 in
theorem shapeNode (w : World) (g o n c q e : Nat) (f : Nat → Nat) (key : Int) (S1 S2 : List (Int × Nat))
    (hn : 0 < n) (hc : n ≤ c ∧ c ≤ 9223372036854775807) (hn1 : n ≤ 1000000) (he : e ≤ 1000000)
    (hf : ∀ i, i < n → w.cell? ⟨g, o + i * 3 + 1, none⟩ = some (.int .u32 (f i : Int))) (hk : w.cell? ⟨g, o + q * 3, none⟩ = some (.int .i64 key))
    (hq : q < n) (hq1 : ∀ p, p < n → (∀ j, j < n → f j ≤ f p) → (∀ j, j < p → f j < f p) → p = q)
    (ih1 : ∀ W, Below w.heap.size w W → Calls Try.prog 80 #[.slice (some ⟨g, o, none⟩) q c, .int .i64 ((e : Int) + 1)] W (ShapeEnd W q S1))
    (ih2 : ∀ W xa xc m, Below w.heap.size w W → m = n - (q + 1) → xc = c - (q + 1) → (0 < m → xa = some ⟨g, o + (q + 1) * 3, none⟩) → Calls Try.prog 80 #[.slice xa m xc, .int .i64 ((e : Int) + 1)] W (ShapeEnd W (n - (q + 1)) S2))
    (hs1 : S1.length = q) (hs2 : S2.length = n - (q + 1)) :
    Calls Try.prog 80 #[.slice (some ⟨g, o, none⟩) n c, .int .i64 (e : Int)] w (ShapeEnd w n ((key, e) :: (S1 ++ S2))) := by
  have HF := hide hf
  have HQ := hide hq1
  have I1 := hide ih1
  have I2 := hide ih2
  clear hf hq1 ih1 ih2
  obtain ⟨i0, hi, hz⟩ := Option.map_eq_some_iff.1 infoNode
  obtain ⟨hz0, hz1, hz2⟩ : i0.zero = some (.agg #[.int .i64 0, .int .i64 0]) ∧ i0.size = 2 ∧ i0.bytes = 16 := by simpa using hz
  clear hz
  have d0 : ((n : Int) == 0) = false := by rw [beq_eq_false_iff_ne]; omega
  have d00 : (n == 0) = false := by rw [beq_eq_false_iff_ne]; omega
  go_enter Try.func80, Try.ntmps80
  go_wp2
  go_loopg [5, 6] n (fun m r5 r6 wr => ∃ k i : Nat, i + m = n + 1 ∧ 1 ≤ i ∧ i ≤ n ∧ k < i ∧ r5 = .int .i64 (k : Int) ∧ r6 = .int .i64 (i : Int) ∧ Alike w wr ∧ Hid (∀ j, j < i → f j ≤ f k) ∧ Hid (∀ j, j < k → f j < f k))
  case atStart => exact ⟨0, 1, by omega, by omega, by omega, by omega, rfl, rfl, Alike.refl _, (fun j hj => (by rw [show j = 0 from by omega]; exact Nat.le_refl _)), (fun j hj => (by omega))⟩
  case round =>
    obtain ⟨k, i, hm, hi1, hin, hki, rfl, rfl, hal, hA, hB⟩ := hrel
    by_cases hie : i = n
    · have d1 : decide ((i : Int) < (n : Int)) = false := by simp; omega
      have d2 : decide (i < n) = false := by simp; omega
      have hkq : k = q := HQ.out k (by omega) (fun j hj => hA.out j (by omega)) hB.out
      subst hkq
      have hk' : wr.cell? ⟨g, o + k * 3, none⟩ = some (.int .i64 key) := (World.cell?_of_block (a := ⟨g, o + k * 3, none⟩) (by rw [hal.heap])).trans hk
      have HA := hide hal
      clear hA hB hal hk
      obtain ⟨S, hS⟩ : ∃ S, wr.heap.size = S := ⟨_, rfl⟩
      have hS0 : w.heap.size = S := by rw [← hS, HA.out.heap]
      have HS0 := hide hS0
      go_wp2_with fail
      have own0 : (wr.alloc (.cells #[.int .i64 key, .int .i64 (e : Int)] 111)).ownsRow S 111 2 (.slice (some ⟨S, 0, none⟩) 1 1) 1 (nodeVals [(key, e)]) := ⟨rfl, .inr ⟨S, 1, #[.int .i64 key, .int .i64 (e : Int)], rfl, Nat.le_refl _, by rw [← hS]; exact heap_alloc_at _ _, by decide, by unfold maxLen; omega, rfl, rfl⟩⟩
      have bw0 : Below S w (wr.alloc (.cells #[.int .i64 key, .int .i64 (e : Int)] 111)) := ((HA.out.below S).alloc (by omega) _)
      have sw0 : S ≤ (wr.alloc (.cells #[.int .i64 key, .int .i64 (e : Int)] 111)).heap.size := by simp; omega
      try rw [hS]
      generalize (wr.alloc (.cells #[.int .i64 key, .int .i64 (e : Int)] 111)) = W0 at *
      refine (I1.out _ (by rw [HS0.out]; exact bw0)).mono ?_
      rintro ex W1 ⟨v1, rfl, b1, own1⟩
      have bw1 : Below S w W1 := bw0.trans (b1.mono sw0)
      have sw1 : S ≤ W1.heap.size := Nat.le_trans sw0 b1.size
      have OUT1 := hide (ownsRow_keep own0 b1)
      have SRC1 := hide (src_of_owns own1 (Below.refl _ _))
      have BW1 := hide bw1
      clear own0 bw0 b1 own1 bw1 hk' hS hS0 HA sw0
      go_wp2_with (at_builtin; refine wpList_append_src _ rfl _ _ 67 rfl S 111 i0 (.agg #[.int .i64 0, .int .i64 0]) 2 16 Try.underlying67 hi hz0 hz1 hz2 rfl (by decide) (.slice (some ⟨S, 0, none⟩) 1 1) 1 (nodeVals [(key, e)]) rfl OUT1.out k (nodeVals S1) SRC1.out (by rw [nodeVals_length, hs1]) (nodeVals_one _) (by unfold maxLen; omega) (by omega) sw1 ?_; intro v2 W2 own2 hgr)
      all_goals (
        have bw2 : Below S w W2 := BW1.out.trans (grown_below OUT1.out hgr sw1)
        have sw2 : S ≤ W2.heap.size := Nat.le_trans sw1 hgr.size
        refine (I2.out _ _ _ _ (by rw [HS0.out]; exact bw2) (by first | rfl | omega) (by first | rfl | omega) (fun h => by first | rfl | (exfalso; omega))).mono ?_
        rintro ex W3 ⟨v3, rfl, b3, own3⟩
        have bw3 : Below S w W3 := bw2.trans (b3.mono sw2)
        have sw3 : S ≤ W3.heap.size := Nat.le_trans sw2 b3.size
        have OUT3 := hide (ownsRow_keep own2 b3)
        have SRC3 := hide (src_of_owns own3 (Below.refl _ _))
        have BW3 := hide bw3
        have L0 : (nodeVals S2).length = (n - (k + 1)) * 2 := by rw [nodeVals_length, hs2]
        clear own2 hgr bw2 b3 own3 bw3 SRC1 OUT1 BW1 sw2 sw1
        go_wp2_with (at_builtin; refine wpList_append_src _ rfl _ _ 67 rfl S 111 i0 (.agg #[.int .i64 0, .int .i64 0]) 2 16 Try.underlying67 hi hz0 hz1 hz2 rfl (by decide) v2 (1 + k) (nodeVals [(key, e)] ++ nodeVals S1) rfl OUT3.out (n - (k + 1)) (nodeVals S2) SRC3.out L0 (nodeVals_one _) (by unfold maxLen; omega) (by omega) sw3 ?_; intro v4 W4 own4 hgr)
        have bw4 : Below S w W4 := BW3.out.trans (grown_below OUT3.out hgr sw3)
        have OWN4 := hide own4
        have BW4 := hide bw4
        clear own4 bw4 hgr
        go_ret
        refine ⟨_, rfl, by rw [HS0.out]; exact BW4.out, ?_⟩
        have e4 := OWN4.out
        rw [show 1 + k + (n - (k + 1)) = n by omega] at e4
        rw [HS0.out, show nodeVals ((key, e) :: (S1 ++ S2)) = nodeVals [(key, e)] ++ nodeVals S1 ++ nodeVals S2 by simp [nodeVals]]
        exact e4)
    · have d1 : decide ((i : Int) < (n : Int)) = true := by simp; omega
      have d2 : decide (i < n) = true := by simp; omega
      have x1 : wr.cell? ⟨g, o + i * 3 + 1, none⟩ = some (.int .u32 (f i : Int)) := (World.cell?_of_block (a := ⟨g, o + i * 3 + 1, none⟩) (by rw [hal.heap])).trans (HF.out i (by omega))
      have x2 : wr.cell? ⟨g, o + k * 3 + 1, none⟩ = some (.int .u32 (f k : Int)) := (World.cell?_of_block (a := ⟨g, o + k * 3 + 1, none⟩) (by rw [hal.heap])).trans (HF.out k (by omega))
      have HA := hide hal
      have HX : Hid (f k < f i → (∀ j, j < i + 1 → f j ≤ f i) ∧ ∀ j, j < i → f j < f i) := hide (fun h => ⟨fun j hj => by
        by_cases u : j = i
        · rw [u]; exact Nat.le_refl _
        · have := hA.out j (by omega); omega, fun j hj => by have := hA.out j (by omega); omega⟩)
      have HY : Hid (¬ f k < f i → ∀ j, j < i + 1 → f j ≤ f k) := hide (fun h j hj => by
        by_cases u : j = i
        · rw [u]; omega
        · exact hA.out j (by omega))
      clear hal hA hk
      by_cases hlt : f k < f i
      · obtain ⟨h1, h2⟩ := HX.out hlt
        have G1 := hide h1
        have G2 := hide h2
        clear HX HY hB h1 h2
        have d3 : decide ((f k : Int) < (f i : Int)) = true := by simp; omega
        have d4 : decide (f k < f i) = true := by simp; omega
        have E1 : Hid (∀ (y z : Nat), y = y) := hide (fun _ _ => rfl)
        go_wp2
        go_quiet (fail)
        go_wp2
        go_roundg (n - i)
        case measure => omega
        case rel => exact ⟨i, i + 1, by omega, by omega, by omega, by omega, by simp, by simp, HA.out.trans (Alike.drewN _ _), G1, G2⟩
      · have G1 := hide (HY.out hlt)
        have G2 := hB
        clear HX HY
        have d3 : decide ((f k : Int) < (f i : Int)) = false := by simp; omega
        have d4 : decide (f k < f i) = false := by simp; omega
        go_wp2
        go_quiet (fail)
        go_wp2
        go_roundg (n - i)
        case measure => omega
        case rel => exact ⟨k, i + 1, by omega, by omega, by omega, by omega, by simp, by simp, HA.out.trans (Alike.drewN _ _), G1, G2⟩

theorem shapeT : ∀ (T : Tr Int) (w : World) (a : Option Addr) (n c e : Nat), LRow w (.slice a n c) T.items → T.Heap → Rising T.items → T.items.length = n → n + e ≤ 1000000 →
    Calls Try.prog 80 #[.slice a n c, .int .i64 (e : Int)] w (ShapeEnd w n (T.shape e)) := by
  intro T
  induction T with
  | nil =>
    intro w a n c e _ _ _ hn _
    have : n = 0 := by rw [← hn]; rfl
    subst this
    exact shapeNil w a c e
  | node p k d x l r ihl ihr =>
    intro w a n c e hL hh hr hn hb
    have eit : (Tr.node p k d x l r).items = l.items ++ (k, d, x) :: r.items := rfl
    have hlen : n = l.items.length + (r.items.length + 1) := by rw [← hn, eit]; simp
    obtain ⟨h1, h2, h3, g, o, rfl, hC⟩ := hL.at (by omega)
    have htk : (Tr.node p k d x l r).items.take l.items.length = l.items := by rw [eit]; simp
    have hdr : (Tr.node p k d x l r).items.drop (l.items.length + 1) = r.items := by rw [eit, List.drop_append]; simp
    have hri : Rising l.items ∧ Rising r.items := by
      rw [eit] at hr
      obtain ⟨q1, q2, _, _, _⟩ := Rising.app hr
      first | exact ⟨q1, q2⟩ | exact ⟨q1, q2.tail⟩ | exact ⟨q1, (by cases q2; assumption)⟩
    have hkk : (Tr.node p k d x l r).items[l.items.length]'(by omega) = (k, d, x) := by simp [eit]
    refine shapeNode w g o n c l.items.length e (fun i => if h : i < (Tr.node p k d x l r).items.length then ((Tr.node p k d x l r).items[i]).2.1 else 0) k (l.shape (e + 1)) (r.shape (e + 1)) (by omega) ⟨h2, h3⟩ (by omega) (by omega) ?_ ?_ (by omega) ?_ ?_ ?_ ?_ ?_
    · intro i hi
      rw [dif_pos (by omega)]
      exact (hC i (by omega)).2
    · have := (hC l.items.length (by omega)).1
      rw [hkk] at this
      exact this
    · intro p' hp h4 h5
      refine root_first hh hr (by omega) (fun j hj => ?_) (fun j hj => ?_)
      · have := h4 j (by omega)
        rw [dif_pos hj, dif_pos (show p' < _ by omega)] at this
        exact this
      · have := h5 j hj
        rw [dif_pos (show j < _ by omega), dif_pos (show p' < _ by omega)] at this
        exact this
    · intro W bW
      have := ihl W (some ⟨g, o, none⟩) l.items.length c (e + 1) (by rw [← htk]; have := lrow_take (hL.below bW) l.items.length (by omega); rw [htk] at this ⊢; exact this) hh.2.2.1 hri.1 rfl (by omega)
      rw [show ((e + 1 : Nat) : Int) = (e : Int) + 1 by omega] at this
      exact this
    · intro W xa xc m bW em ec hxa
      have hm : m = r.items.length := by omega
      have hrow : LRow W (.slice xa m xc) r.items := by
        have h0 := lrow_drop (hL.below bW) (l.items.length + 1) (by omega)
        rw [hdr] at h0
        by_cases h0m : 0 < m
        · rw [hxa h0m, em, ec]
          rw [if_neg (by omega)] at h0
          have ea := addr_add g o ((l.items.length + 1) * 3)
          simp only [Option.map_some, ea] at h0
          exact h0
        · refine ⟨xa, xc, by rw [hm], by omega, by omega, fun i hi => by omega⟩
      have := ihr W xa m xc (e + 1) hrow hh.2.2.2 hri.2 hm.symm (by omega)
      rw [show ((e + 1 : Nat) : Int) = (e : Int) + 1 by omega, em] at this
      rw [em]
      exact this
    · rw [Tr.shape_length, ← Tr.size_items]
    · rw [Tr.shape_length, ← Tr.size_items]; omega

theorem lrow_dat {w : World} {r o : Nat} {a : Option Addr} {n c : Nat} {L : List (It Int)} (h : DAt w r o (.slice a n c) L) : LRow w (.slice a n c) L := by
  have hrow := h.row
  rcases hrow.2 with ⟨e, h0⟩ | ⟨g, cap, cur, e, _, hg, hm, hx, _⟩
  · cases e
    exact ⟨none, 0, by rw [h0], by omega, by omega, fun i hi => by omega⟩
  · cases e
    refine ⟨_, _, rfl, hm, by unfold maxLen at hx; omega, fun i hi => ?_⟩
    obtain ⟨g', e', q1, q2, _⟩ := h.at hi
    cases e'
    refine ⟨g, 0, rfl, lt_of_heap hg, ?_, ?_⟩
    · rw [Nat.zero_add, q1]; simp [keyAt, hi]
    · rw [Nat.zero_add, q2]

set_option maxRecDepth 100000 in
set_option maxHeartbeats 2000000 in
theorem dshape (w : World) (r o : Nat) (v : Value) (L : List (It Int)) (h : DAt w r o v L) (hl : L.length ≤ 1000000) :
    Calls Try.prog 60 #[.pointer (some ⟨r, o, none⟩)] w (ShapeEnd w L.length (shp L)) := by
  obtain ⟨a, c, rfl⟩ := h.slice
  have c0 : w.cell? ⟨r, o, none⟩ = some (.slice a L.length c) := h.head
  obtain ⟨g1, g2⟩ := treeOf_good L h.ris
  have HS := hide (shapeT (treeOf L) w a L.length c 0 (by rw [g1]; exact lrow_dat h) g2 (by rw [g1]; exact h.ris) (by rw [g1]) (by omega))
  obtain ⟨m, hm⟩ : ∃ m, L.length = m := ⟨_, rfl⟩
  rw [hm] at c0 HS hl ⊢
  clear h g1 g2 hm
  go_enter Try.func60, Try.ntmps60
  go_wp2_with fail
  refine HS.out.mono ?_
  rintro ex W1 ⟨v1, rfl, b1, own1⟩
  have B1 := hide b1
  have O1 := hide own1
  clear b1 own1 HS
  go_wp2
  go_ret
  exact ⟨_, rfl, B1.out, O1.out⟩
end Go.Proofs.Ythcfmpjmgheieaa
