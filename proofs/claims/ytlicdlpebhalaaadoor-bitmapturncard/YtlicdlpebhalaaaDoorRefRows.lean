/- Runs and Parts, as the document has them: what they answer, at every argument. -/
import Derived.Test.YtlicdlpebhalaaaDoorRefTurn
namespace Go.Proofs.YtlicdlpebhalaaaDoor
open Go.RowKit

theorem pairVals_snoc (k : IntKind) (l : List (Nat × Nat)) (x y : Nat) : pairVals k (l ++ [(x, y)]) = pairVals k l ++ [.int .i64 (x : Int), .int k (y : Int)] := by simp [pairVals]
theorem pairVals_last (k : IntKind) (l : List (Nat × Nat)) (x y z : Nat) : (pairVals k (l ++ [(x, y)])).set (2 * l.length + 1) (.int k (z : Int)) = pairVals k (l ++ [(x, z)]) := by
  rw [pairVals_snoc, pairVals_snoc, List.set_append_right _ _ (by rw [pairVals_length]; omega), pairVals_length, show 2 * l.length + 1 - l.length * 2 = 1 from by omega]
  rfl

theorem below_app {n₀ : Nat} {w W w3 : World} {tmp : Obj} {v : Value} {t : TypeId} {size k : Nat} {xs : List Value} (hB : Below n₀ w W) (hn : n₀ ≤ w.heap.size) (hrow : W.ownsRow n₀ t size v k xs)
    (hgrow : (W.alloc tmp).grownBy w3 v.ownBlock) : Below n₀ w w3 := by
  refine (hB.alloc (Nat.le_trans hn hB.size) tmp).grown hgrow (by have := hB.size; simp; omega) (fun j ej => ?_)
  rcases hrow.2 with ⟨rfl, _⟩ | ⟨g, cap, cur, rfl, hb, _, _⟩
  · simp [Value.ownBlock] at ej
  · obtain rfl : g = j := by simpa [Value.ownBlock] using ej
    exact hb

set_option maxRecDepth 100000 in
set_option maxHeartbeats 2000000 in
theorem rruns21 (l : List Nat) (hl : l.length ≤ 1099511627) (hf : Bitm.Fit l) (a : Option Addr) (c : Nat) (m : Int) (w : World) (h : WordsIn w a l) :
    Calls Tryd.prog 21 #[.slice a l.length c, .int .i64 m] w fun x w' => ∃ v, x = .returned v ∧ PairsV .i64 w' v (Bitm.runsTo l (heldN m l.length)) ∧ Below w.heap.size w w' := by
  obtain ⟨i0, hi, hz0, hz1, hz2⟩ := info_parts infoRun
  have HR := fun (i : Nat) (hi : i ≤ 64 * l.length) (x : World) (hx : Below w.heap.size w x) => hide (rhas16 l (by omega) hf a c (i : Int) (by omega) (by omega) x (h.below hx (Nat.le_refl _)))
  have HH := fun w => hide (holdN m l.length w)
  have he := heldN_le m l.length
  have HLE := hide (Bitm.runs_len l)
  have HBE := hide (Bitm.runsTo_below l)
  obtain ⟨k, hk⟩ : ∃ k, l.length = k := ⟨_, rfl⟩
  rw [hk] at HR hl HH he ⊢
  generalize heldN m k = e at *
  clear hf h hk
  go_enter Tryd.func21, Tryd.ntmps21
  go_wp2
  go_loopw [5, 6] (fun v i wr => ∃ j : Nat, i = .int .i64 (j : Int) ∧ j ≤ e ∧ Hid (wr.ownsRow w.heap.size 47 2 v (Bitm.runsTo l j).length (pairVals .i64 (Bitm.runsTo l j)) ∧ Below w.heap.size w wr)) (fun _ i _ => e - (intOf i).toNat)
  case atStart => exact ⟨0, rfl, Nat.zero_le _, World.ownsRow_nil _ _ _ _, Below.refl _ _⟩
  case round =>
    obtain ⟨j, rfl, hje, hH⟩ := hrel
    obtain ⟨hrow, hB⟩ := hH.out
    by_cases hlt : j < e
    · have hHas := HR j (by omega) _ hB
      rw [hasAns_nat] at hHas
      have hnext : Hid (Bitm.runsTo l (j + 1) = if Bitm.bit l j then Bitm.runsTo l j else Bitm.runStep (Bitm.runsTo l j) j) := rfl
      have hlen := HLE.out j
      have hbel := HBE.out j
      have HB := hide hB
      clear hB hH
      cases hb : Bitm.bit l j with
      | true =>
        rw [hb] at hHas hnext
        have HRow := hide hrow
        clear hb hrow hbel
        go_wp2_with (first | (go_at_call 16; refine hHas.out.mono ?_; rintro e w' ⟨rfl, rfl⟩) | (go_at_call 35; refine (HH _).out.mono ?_; rintro e w' ⟨rfl, rfl⟩))
        go_roundw
        case rel => exact ⟨j + 1, by go_num, by omega, by rw [hnext.out]; exact HRow.out, HB.out⟩
        case measure => simp [intOf]; omega
      | false =>
        rw [hb] at hHas hnext
        rw [if_neg (by simp)] at hnext
        clear hb
        by_cases hends : Bitm.Ends (Bitm.runsTo l j) j
        · obtain ⟨R0, ⟨x, y⟩, hR, hxy, hstep⟩ := Bitm.runStep_ends hends
          simp only at hxy hstep
          rw [hstep] at hnext
          rw [hR] at hrow hlen hbel
          have hy := (hbel (x, y) (by simp)).1
          clear hends hstep hbel
          rw [List.length_append, List.length_singleton] at hrow hlen
          obtain ⟨g, cap, rfl⟩ := ownsRow_succ hrow
          have e1 := hrow.cellAt (2 * R0.length) (by omega)
          have e2 := hrow.cellAt (2 * R0.length + 1) (by omega)
          have f2 := hrow.frozenAt (2 * R0.length + 1)
          have hgl := (hrow.lt g rfl).1
          have gg := pairVals_get .i64 (R0 ++ [(x, y)]) R0.length (by simp)
          rw [gg.1] at e1
          rw [gg.2] at e2
          simp only [List.getD_eq_getElem?_getD, List.getElem?_concat_length, Option.getD_some] at e1 e2
          have HST := hide (hrow.stored (2 * R0.length + 1) (.int .i64 ((y + 1 : Nat) : Int)))
          rw [pairVals_last] at HST
          clear hrow gg hR
          have HL : Hid ((R0 ++ [(x, y + 1)]).length = R0.length + 1) := hide (by simp)
          generalize R0.length = s at *
          have hxb : (((x : Int) + (y : Int)) == (j : Int)) = true := by simp; omega
          have hx9 : x ≤ 70368744177664 := by omega
          have hy9 : y ≤ 70368744177664 := by omega
          have HXY := hide hxy
          clear hxy
          rw [Nat.mul_comm 2 s] at e1 e2 f2 HST
          go_wp2_with (first | (go_at_call 16; refine hHas.out.mono ?_; rintro e w' ⟨rfl, rfl⟩) | (go_at_call 35; refine (HH _).out.mono ?_; rintro e w' ⟨rfl, rfl⟩))
          go_quiet (fail)
          go_wp2
          go_roundw
          case rel =>
            refine ⟨j + 1, by go_num, by omega, ?_, (below_drewN HB.out _).setCell (p := ⟨g, s * 2 + 1, none⟩) (by simp; omega) _⟩
            rw [hnext.out, HL.out]
            exact HST.out.1
          case measure => simp [intOf]; omega
        · rw [Bitm.runStep_new hends] at hnext
          have HL : Hid ((Bitm.runsTo l j ++ [(j, 1)]).length = (Bitm.runsTo l j).length + 1) := hide (by simp)
          have HV : Hid (pairVals .i64 (Bitm.runsTo l j ++ [(j, 1)]) = pairVals .i64 (Bitm.runsTo l j) ++ [.int .i64 (j : Int), .int .i64 1]) := hide (pairVals_snoc _ _ _ _)
          have hfin : ∀ (v' : Value) (w3 : World), w3.ownsRow w.heap.size 47 2 v' ((Bitm.runsTo l j).length + 1) (pairVals .i64 (Bitm.runsTo l j) ++ [.int .i64 (j : Int), .int .i64 1]) → w3.ownsRow w.heap.size 47 2 v' (Bitm.runsTo l (j + 1)).length (pairVals .i64 (Bitm.runsTo l (j + 1))) := fun v' w3 h => by
            rw [hnext.out, HL.out, HV.out]; exact h
          have HFin := hide hfin
          clear hfin HL HV hnext
          cases hR : (Bitm.runsTo l j).getLast? with
          | none =>
            have h0 : Bitm.runsTo l j = [] := by simpa using hR
            rw [h0] at hrow HFin hlen
            have HRow := hide hrow
            have hrow2 := hrow.2
            clear hrow hR h0 hends hbel
            simp only [List.length_nil] at hrow2
            rcases hrow2 with ⟨rfl, _⟩ | ⟨g, cap, cur, rfl, _, _, hcap, hcapm, _⟩
            · go_wp2_with (first | (go_at_call 16; refine hHas.out.mono ?_; rintro e w' ⟨rfl, rfl⟩) | (go_at_call 35; refine (HH _).out.mono ?_; rintro e w' ⟨rfl, rfl⟩))
              go_quiet (fail)
              go_wp2_with (at_builtin; refine wpList_append_own _ rfl _ _ 32 rfl w.heap.size 47 i0 (.agg #[.int .i64 0, .int .i64 0]) 2 16 Tryd.underlying32 hi hz0 hz1 hz2 rfl (by decide) _ _ _ rfl (HRow.out.alloc _) ⟨_, 0, none⟩ 1 1 [.int .i64 (j : Int), .int .i64 1] rfl rfl (cell_two_new _ _ _ _) (by simp [Value.oneCell']) (by unfold maxLen; omega) (by omega) (by have := HB.out.size; simp; omega) ?_; intro v' w3 hown' hgrow' _)
              go_roundw
              case rel => exact ⟨j + 1, by go_num, by omega, HFin.out _ _ hown', below_app (w := w) (W := World.drewN _ _) (below_drewN HB.out _) (Nat.le_refl _) HRow.out hgrow'⟩
              case measure => simp [intOf]; omega
            · go_wp2_with (first | (go_at_call 16; refine hHas.out.mono ?_; rintro e w' ⟨rfl, rfl⟩) | (go_at_call 35; refine (HH _).out.mono ?_; rintro e w' ⟨rfl, rfl⟩))
              go_quiet (fail)
              go_wp2_with (at_builtin; refine wpList_append_own _ rfl _ _ 32 rfl w.heap.size 47 i0 (.agg #[.int .i64 0, .int .i64 0]) 2 16 Tryd.underlying32 hi hz0 hz1 hz2 rfl (by decide) _ _ _ rfl (HRow.out.alloc _) ⟨_, 0, none⟩ 1 1 [.int .i64 (j : Int), .int .i64 1] rfl rfl (cell_two_new _ _ _ _) (by simp [Value.oneCell']) (by unfold maxLen; omega) (by omega) (by have := HB.out.size; simp; omega) ?_; intro v' w3 hown' hgrow' _)
              go_roundw
              case rel => exact ⟨j + 1, by go_num, by omega, HFin.out _ _ hown', below_app (w := w) (W := World.drewN _ _) (below_drewN HB.out _) (Nat.le_refl _) HRow.out hgrow'⟩
              case measure => simp [intOf]; omega
          | some r =>
            obtain ⟨R0, hR0⟩ := List.getLast?_eq_some_iff.1 hR
            obtain ⟨x, y⟩ := r
            have hne : x + y ≠ j := fun h => hends ⟨(x, y), hR, h⟩
            have hbb := hbel (x, y) (by rw [hR0]; simp)
            simp only at hbb
            rw [hR0] at hrow HFin hlen
            rw [List.length_append, List.length_singleton] at hrow HFin hlen
            have HRow := hide hrow
            obtain ⟨g, cap, rfl⟩ := ownsRow_succ hrow
            have e1 := hrow.cellAt (2 * R0.length) (by omega)
            have e2 := hrow.cellAt (2 * R0.length + 1) (by omega)
            have gg := pairVals_get .i64 (R0 ++ [(x, y)]) R0.length (by simp)
            rw [gg.1] at e1
            rw [gg.2] at e2
            simp only [List.getD_eq_getElem?_getD, List.getElem?_concat_length, Option.getD_some] at e1 e2
            clear hrow gg hR hR0 hends hbel
            generalize R0.length = s at *
            rw [Nat.mul_comm 2 s] at e1 e2
            have hxb : (((x : Int) + (y : Int)) == (j : Int)) = false := by simp; omega
            go_wp2_with (first | (go_at_call 16; refine hHas.out.mono ?_; rintro e w' ⟨rfl, rfl⟩) | (go_at_call 35; refine (HH _).out.mono ?_; rintro e w' ⟨rfl, rfl⟩))
            go_quiet (fail)
            go_wp2_with (at_builtin; refine wpList_append_own _ rfl _ _ 32 rfl w.heap.size 47 i0 (.agg #[.int .i64 0, .int .i64 0]) 2 16 Tryd.underlying32 hi hz0 hz1 hz2 rfl (by decide) _ _ _ rfl (HRow.out.alloc _) ⟨_, 0, none⟩ 1 1 [.int .i64 (j : Int), .int .i64 1] rfl rfl (cell_two_new _ _ _ _) (by simp [Value.oneCell']) (by unfold maxLen; omega) (by omega) (by have := HB.out.size; simp; omega) ?_; intro v' w3 hown' hgrow' _)
            go_roundw
            case rel => exact ⟨j + 1, by go_num, by omega, HFin.out _ _ hown', below_app (w := w) (W := World.drewN _ _) (below_drewN HB.out _) (Nat.le_refl _) HRow.out hgrow'⟩
            case measure => simp [intOf]; omega
    · obtain rfl : j = e := by omega
      have HB := hide hB
      have HRow := hide (pairs_of_owns hrow)
      clear hB hrow hH
      go_wp2_with (go_at_call 35; refine (HH _).out.mono ?_; rintro e w' ⟨rfl, rfl⟩)
      go_ret
      exact ⟨_, rfl, HRow.out, HB.out⟩

/-- The last pair of a row, and its second half turned. -/
theorem lastPair {k : IntKind} (R : List (Nat × Nat)) {w : World} {base g cap : Nat} {t : TypeId} {x y : Nat} (h : w.ownsRow base t 2 (.slice (some ⟨g, 0, none⟩) (R.length + 1) cap) (R.length + 1) (pairVals k R ++ [.int .i64 (x : Int), .int k (y : Int)])) :
    w.cell? ⟨g, R.length * 2, none⟩ = some (.int .i64 (x : Int)) ∧ w.cell? ⟨g, R.length * 2 + 1, none⟩ = some (.int k (y : Int)) ∧ w.frozen? ⟨g, R.length * 2 + 1, none⟩ = false ∧ base ≤ g ∧
      Hid (∀ z : Nat, (w.setCell ⟨g, R.length * 2 + 1, none⟩ (.int k (z : Int))).ownsRow base t 2 (.slice (some ⟨g, 0, none⟩) (R.length + 1) cap) (R ++ [(x, z)]).length (pairVals k (R ++ [(x, z)]))) := by
  rw [← pairVals_snoc] at h
  have gg := pairVals_get k (R ++ [(x, y)]) R.length (by simp)
  simp only [List.getD_eq_getElem?_getD, List.getElem?_concat_length, Option.getD_some] at gg
  have e1 := h.cellAt (2 * R.length) (by omega)
  have e2 := h.cellAt (2 * R.length + 1) (by omega)
  rw [gg.1, Nat.mul_comm 2] at e1
  rw [gg.2, Nat.mul_comm 2] at e2
  refine ⟨e1, e2, h.frozenAt _, (h.lt g rfl).1, fun z => ?_⟩
  have := (h.stored (2 * R.length + 1) (.int k (z : Int))).1
  rw [pairVals_last, Nat.mul_comm 2] at this
  rw [List.length_append, List.length_singleton]
  exact this

set_option maxRecDepth 100000 in
set_option maxHeartbeats 4000000 in
theorem rpartsOk (a n : Nat) (ha : a ≤ 1048576) (hn1 : 1 ≤ n) (hn2 : n ≤ 1048576) (w : World) :
    Calls Tryd.prog 25 #[.int .i64 (a : Int), .int .i64 (n : Int)] w fun x w' => ∃ v, x = .returned v ∧ PairsV .u64 w' v (Bitm.partsAll a n) ∧ Below w.heap.size w w' := by
  obtain ⟨i0, hi, hz0, hz1, hz2⟩ := info_parts infoPart
  rw [← Bitm.partsTo_all]
  have HLE : Hid (∀ j, (Bitm.partsTo a j).length ≤ j / 64 + 2) := fun j => by rw [Bitm.partsTo_all]; exact Bitm.parts_len a j
  have HBE : Hid (∀ j, ∀ p ∈ Bitm.partsTo a j, p.1 < 32769 + j ∧ p.2 < 18446744073709551616) := fun j => by rw [Bitm.partsTo_all]; exact Bitm.parts_below a j (32769 + j) (by omega)
  go_enter Tryd.func25, Tryd.ntmps25
  go_wp2
  go_loopw [5, 6] (fun v i wr => ∃ j t : Nat, t = a + j ∧ i = .int .i64 (t : Int) ∧ j ≤ n ∧ Hid (wr.ownsRow w.heap.size 41 2 v (Bitm.partsTo a j).length (pairVals .u64 (Bitm.partsTo a j)) ∧ Below w.heap.size w wr)) (fun _ i _ => a + n - (intOf i).toNat)
  case atStart => exact ⟨0, a, rfl, rfl, Nat.zero_le _, World.ownsRow_nil _ _ _ _, Below.refl _ _⟩
  case round =>
    obtain ⟨j, t, htj, rfl, hjn, hH⟩ := hrel
    obtain ⟨hrow, hB⟩ := hH.out
    have HB := hide hB
    clear hB hH
    by_cases hlt : j < n
    · have hnext : Hid (Bitm.partsTo a (j + 1) = Bitm.partStep (Bitm.partsTo a j) t) := by show Bitm.partsTo a (j + 1) = _; rw [htj]; rfl
      have hlen := HLE.out j
      have hbel := HBE.out j
      have ht : (t : Int) < (a : Int) + (n : Int) := by omega
      have ht2 : t ≤ 2097152 := by omega
      have HTJ := hide htj
      have hq : ((t : Int) / 64) = ((t / 64 : Nat) : Int) := by simp
      have hr : ((t : Int) % 64) = ((t % 64 : Nat) : Int) := by simp
      have hr64 : t % 64 < 64 := by omega
      have hsh := shl_one (t % 64) hr64
      have hpw : 2 ^ (t % 64) < 18446744073709551616 := Nat.pow_lt_pow_right (by omega) hr64
      have hq9 : t / 64 ≤ 32768 := by omega
      unfold Bitm.partStep at hnext
      generalize t / 64 = q at *
      generalize t % 64 = r at *
      generalize (2 : Nat) ^ r = pw at *
      generalize Bitm.partsTo a j = R at *
      clear htj HLE HBE
      cases hR : R.getLast? with
      | none =>
        obtain rfl : R = [] := by simpa using hR
        rw [hR] at hnext
        simp only at hnext
        rw [show [(q, pw)] = ([] : List (Nat × Nat)) ++ [(q, pw)] from rfl] at hnext
        have HRow := hide hrow
        have hrow2 := hrow.2
        have hor : bits BinOp.or IntKind.u64 0 (pw : Int) = (pw : Int) := by have := bits_or_u64_nat 0 pw (by omega) hpw; simpa using this
        clear hrow hR hbel
        simp only [List.length_nil] at hrow2 hlen
        rcases hrow2 with ⟨rfl, _⟩ | ⟨g, cap, cur, rfl, _, _, hcap, hcapm, _⟩
        · go_wp2_with (at_builtin; refine wpList_append_own _ rfl _ _ 36 rfl w.heap.size 41 i0 (.agg #[.int .i64 0, .int .u64 0]) 2 16 Tryd.underlying36 hi hz0 hz1 hz2 rfl (by decide) _ 0 _ rfl (HRow.out.alloc _) ⟨_, 0, none⟩ 1 1 [.int .i64 (q : Int), .int .u64 0] rfl rfl (cell_two_new _ _ _ _) (by simp [Value.oneCell']) (by unfold maxLen; omega) (by omega) (by have := HB.out.size; simp; omega) ?_; intro v' w3 hown' hgrow' _; obtain ⟨g3, cap3, rfl⟩ := ownsRow_succ hown'; have HB3 := hide (below_app (w := w) HB.out (Nat.le_refl _) HRow.out hgrow'); obtain ⟨e5, e6, f6, hg3, HST⟩ := lastPair (y := 0) ([] : List (Nat × Nat)) hown'; simp only [List.length_nil, Nat.zero_mul, Nat.zero_add] at e5 e6 f6; rw [show ((0 : Nat) : Int) = 0 from rfl] at e6; clear hown' hgrow')
          refine plain_start 13 (by kernel_rfl) ?_
          refine reads (fuel := 1) (by kernel_rfl) (fun _ _ _ _ _ h => h) [0, 1, 2, 3, 4, 5, 6, 7, 8, 9, 10, 11, 12] (by kernel_rfl) (by kernel_rfl) ?_
          simp only [List.filterMap_cons, List.filterMap_nil, List.getElem?_toArray, List.getElem?_cons_zero, List.getElem?_cons_succ]
          show wpQuiet _ _ _ _ [_, _, _, _, _, _, _, _, _, _, _, _, _] _
          repeat (go_big_quiet_step (fail))
          refine wpQuiet_nil ?_
          refine last rfl (by kernel_rfl) (by kernel_rfl) (fun K hK => ?_)
          go_simp
          refine hK _ _ ?_
          clear hK K
          go_wp2
          go_roundw
          case rel =>
            refine ⟨j + 1, t + 1, by have := HTJ.out; omega, by go_num, by omega, ?_, (HB3.out.setCell (p := ⟨g3, 1, none⟩) (by simp; omega) _).drew⟩
            rw [hnext.out]
            exact HST.out pw
          case measure => have := HTJ.out; simp [intOf]; omega
        · go_wp2_with (at_builtin; refine wpList_append_own _ rfl _ _ 36 rfl w.heap.size 41 i0 (.agg #[.int .i64 0, .int .u64 0]) 2 16 Tryd.underlying36 hi hz0 hz1 hz2 rfl (by decide) _ 0 _ rfl (HRow.out.alloc _) ⟨_, 0, none⟩ 1 1 [.int .i64 (q : Int), .int .u64 0] rfl rfl (cell_two_new _ _ _ _) (by simp [Value.oneCell']) (by unfold maxLen; omega) (by omega) (by have := HB.out.size; simp; omega) ?_; intro v' w3 hown' hgrow' _; obtain ⟨g3, cap3, rfl⟩ := ownsRow_succ hown'; have HB3 := hide (below_app (w := w) HB.out (Nat.le_refl _) HRow.out hgrow'); obtain ⟨e5, e6, f6, hg3, HST⟩ := lastPair (y := 0) ([] : List (Nat × Nat)) hown'; simp only [List.length_nil, Nat.zero_mul, Nat.zero_add] at e5 e6 f6; rw [show ((0 : Nat) : Int) = 0 from rfl] at e6; clear hown' hgrow')
          refine plain_start 13 (by kernel_rfl) ?_
          refine reads (fuel := 1) (by kernel_rfl) (fun _ _ _ _ _ h => h) [0, 1, 2, 3, 4, 5, 6, 7, 8, 9, 10, 11, 12] (by kernel_rfl) (by kernel_rfl) ?_
          simp only [List.filterMap_cons, List.filterMap_nil, List.getElem?_toArray, List.getElem?_cons_zero, List.getElem?_cons_succ]
          show wpQuiet _ _ _ _ [_, _, _, _, _, _, _, _, _, _, _, _, _] _
          repeat (go_big_quiet_step (fail))
          refine wpQuiet_nil ?_
          refine last rfl (by kernel_rfl) (by kernel_rfl) (fun K hK => ?_)
          go_simp
          refine hK _ _ ?_
          clear hK K
          go_wp2
          go_roundw
          case rel =>
            refine ⟨j + 1, t + 1, by have := HTJ.out; omega, by go_num, by omega, ?_, (HB3.out.setCell (p := ⟨g3, 1, none⟩) (by simp; omega) _).drew⟩
            rw [hnext.out]
            exact HST.out pw
          case measure => have := HTJ.out; simp [intOf]; omega
      | some p =>
        obtain ⟨R0, hR0⟩ := List.getLast?_eq_some_iff.1 hR
        obtain ⟨x, y⟩ := p
        rw [hR] at hnext
        simp only at hnext
        subst hR0
        have hbb := hbel (x, y) (by simp)
        simp only at hbb
        clear hbel hR
        by_cases hxq : x = q
        · subst hxq
          rw [if_pos rfl, List.dropLast_concat] at hnext
          rw [pairVals_snoc, List.length_append, List.length_singleton] at hrow
          rw [List.length_append, List.length_singleton] at hlen
          obtain ⟨g, cap, rfl⟩ := ownsRow_succ hrow
          obtain ⟨e5, e6, f6, hg3, HST⟩ := lastPair R0 hrow
          have hor := bits_or_u64_nat y pw hbb.2 hpw
          clear hrow
          generalize hy2 : y ||| pw = y2 at *
          clear hy2
          go_wp2
          refine plain_start 13 (by kernel_rfl) ?_
          refine reads (fuel := 1) (by kernel_rfl) (fun _ _ _ _ _ h => h) [0, 1, 2, 3, 4, 5, 6, 7, 8, 9, 10, 11, 12] (by kernel_rfl) (by kernel_rfl) ?_
          simp only [List.filterMap_cons, List.filterMap_nil, List.getElem?_toArray, List.getElem?_cons_zero, List.getElem?_cons_succ]
          show wpQuiet _ _ _ _ [_, _, _, _, _, _, _, _, _, _, _, _, _] _
          repeat (go_big_quiet_step (fail))
          refine wpQuiet_nil ?_
          refine last rfl (by kernel_rfl) (by kernel_rfl) (fun K hK => ?_)
          go_simp
          refine hK _ _ ?_
          clear hK K
          go_wp2
          go_roundw
          case rel =>
            refine ⟨j + 1, t + 1, by have := HTJ.out; omega, by go_num, by omega, ?_, (HB.out.setCell (p := ⟨g, R0.length * 2 + 1, none⟩) (by simp; omega) _).drew⟩
            rw [hnext.out]
            have := HST.out y2
            rw [show (R0 ++ [(x, y2)]).length = R0.length + 1 from by simp] at this ⊢
            exact this
          case measure => have := HTJ.out; simp [intOf]; omega
        · rw [if_neg hxq] at hnext
          have hor : bits BinOp.or IntKind.u64 0 (pw : Int) = (pw : Int) := by have := bits_or_u64_nat 0 pw (by omega) hpw; simpa using this
          have HRow := hide hrow
          have hlen' := hlen
          have hrow' := hrow
          rw [pairVals_snoc, List.length_append, List.length_singleton] at hrow'
          rw [List.length_append, List.length_singleton] at hlen'
          obtain ⟨g, cap, rfl⟩ := ownsRow_succ hrow'
          obtain ⟨e1, e2, _, _, _⟩ := lastPair R0 hrow'
          have hR1 : Hid ((R0 ++ [(x, y)]).length = R0.length + 1) := hide (by simp)
          generalize R0 ++ [(x, y)] = R at *
          generalize hr0 : R0.length = s0 at *
          clear hrow hrow' hlen hr0
          have HRow' : Hid (wr.ownsRow w.heap.size 41 2 (.slice (some ⟨g, 0, none⟩) (s0 + 1) cap) (s0 + 1) (pairVals .u64 R)) := hide (by have := HRow.out; rw [hR1.out] at this; exact this)
          clear HRow
          have HRow := HRow'
          have hxb : (((x : Int)) != (q : Int)) = true := by simp; omega
          go_wp2_with (at_builtin; refine wpList_append_own _ rfl _ _ 36 rfl w.heap.size 41 i0 (.agg #[.int .i64 0, .int .u64 0]) 2 16 Tryd.underlying36 hi hz0 hz1 hz2 rfl (by decide) _ (s0 + 1) _ rfl (HRow.out.alloc _) ⟨_, 0, none⟩ 1 1 [.int .i64 (q : Int), .int .u64 0] rfl rfl (cell_two_new _ _ _ _) (by simp [Value.oneCell']) (by unfold maxLen; omega) (by omega) (by have := HB.out.size; simp; omega) ?_; intro v' w3 hown' hgrow' _; obtain ⟨g3, cap3, rfl⟩ := ownsRow_succ hown'; have HB3 := hide (below_app (w := w) HB.out (Nat.le_refl _) HRow.out hgrow'); obtain ⟨e5, e6, f6, hg3, HST⟩ := lastPair (y := 0) R (by rw [hR1.out]; exact hown'); rw [hR1.out] at e5 e6 f6; rw [show ((0 : Nat) : Int) = 0 from rfl] at e6; clear hown' hgrow')
          refine plain_start 13 (by kernel_rfl) ?_
          refine reads (fuel := 1) (by kernel_rfl) (fun _ _ _ _ _ h => h) [0, 1, 2, 3, 4, 5, 6, 7, 8, 9, 10, 11, 12] (by kernel_rfl) (by kernel_rfl) ?_
          simp only [List.filterMap_cons, List.filterMap_nil, List.getElem?_toArray, List.getElem?_cons_zero, List.getElem?_cons_succ]
          show wpQuiet _ _ _ _ [_, _, _, _, _, _, _, _, _, _, _, _, _] _
          repeat (go_big_quiet_step (fail))
          refine wpQuiet_nil ?_
          refine last rfl (by kernel_rfl) (by kernel_rfl) (fun K hK => ?_)
          go_simp
          refine hK _ _ ?_
          clear hK K
          go_wp2
          go_roundw
          case rel =>
            refine ⟨j + 1, t + 1, by have := HTJ.out; omega, by go_num, by omega, ?_, (HB3.out.setCell (p := ⟨g3, (s0 + 1) * 2 + 1, none⟩) (by simp; omega) _).drew⟩
            rw [hnext.out]
            have := HST.out pw
            rw [hR1.out] at this
            exact this
          case measure => have := HTJ.out; simp [intOf]; omega
    · obtain rfl : j = n := by omega
      have ht : ¬ ((t : Int) < (a : Int) + (j : Int)) := by omega
      have HRow := hide (pairs_of_owns hrow)
      clear hrow htj
      go_wp2
      go_ret
      exact ⟨_, rfl, HRow.out, HB.out⟩

theorem rparts25 (p q : Int) (w : World) :
    Calls Tryd.prog 25 #[.int .i64 p, .int .i64 q] w fun x w' => ∃ v, x = .returned v ∧ PairsV .u64 w' v (partsL p q) ∧ Below w.heap.size w w' := by
  by_cases hok : 0 ≤ p ∧ p ≤ 1048576 ∧ 1 ≤ q ∧ q ≤ 1048576
  · rw [partsL, if_pos hok]
    obtain ⟨a, rfl⟩ : ∃ k : Nat, p = (k : Int) := ⟨p.toNat, by omega⟩
    obtain ⟨b, rfl⟩ : ∃ k : Nat, q = (k : Int) := ⟨q.toNat, by omega⟩
    exact rpartsOk a b (by omega) (by omega) (by omega) w
  · rw [partsL, if_neg hok]
    have hN : Hid (∀ w' : World, PairsV .u64 w' (.slice none 0 0) []) := fun w' => PairsV.nil _ _
    by_cases h0 : 0 ≤ p
    · by_cases h1 : p ≤ 1048576
      · by_cases h2 : 1 ≤ q
        · have h3 : ¬ q ≤ 1048576 := fun h => hok ⟨h0, h1, h2, h⟩
          clear hok
          go_enter Tryd.func25, Tryd.ntmps25
          go_wp2
          go_ret
          exact ⟨_, rfl, hN.out _, Below.refl _ _⟩
        · clear hok
          go_enter Tryd.func25, Tryd.ntmps25
          go_wp2
          go_ret
          exact ⟨_, rfl, hN.out _, Below.refl _ _⟩
      · clear hok
        go_enter Tryd.func25, Tryd.ntmps25
        go_wp2
        go_ret
        exact ⟨_, rfl, hN.out _, Below.refl _ _⟩
    · clear hok
      go_enter Tryd.func25, Tryd.ntmps25
      go_wp2
      go_ret
      exact ⟨_, rfl, hN.out _, Below.refl _ _⟩

end Go.Proofs.YtlicdlpebhalaaaDoor
