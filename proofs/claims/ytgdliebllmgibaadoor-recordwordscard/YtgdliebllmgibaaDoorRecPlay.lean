/- The document's row of spans; a word of a page, a put of both sides. -/
import Derived.Test.YtgdliebllmgibaaDoorRecDoc
import Derived.Test.YtgdliebllmgibaaDoorPS
import Derived.Test.YtgdliebllmgibaaDoorPD
import Derived.RangeFuncBox
namespace Go.Proofs.YtgdliebllmgibaaDoor
open Go Go.RowKit

set_option maxRecDepth 100000 in
set_option maxHeartbeats 4000000 in
theorem rspans {a : Nat} {P T : Int} {p r b : Nat} {ws : List Nat} {w : World} (h : MAt a P T p r b ws w) (hl : ws.length = (Lay.words P T).toNat) (N : Nat) (hP : P = (N : Int)) (hN : N ≤ 4096) (l : List Rec.Sp) (hu : Rec.upto ws P T N = l) :
    Calls Tryd.prog 23 #[.pointer (some ⟨a, 0, none⟩)] w fun e w' => ∃ v, e = .returned v ∧ SpansV w' v l ∧ Below w.heap.size w w' := by
  obtain ⟨i0, hi, hz0, hz1, hz2⟩ := info_parts infoSpan
  have HR := hide (fun (u : World) (hu : Below w.heap.size w u) (pg : Int) (x : Rec.Sp) (ok : Bool) (hx : Rec.read ws P T pg = (x, ok)) => rread (h.below hu) hl pg x ok hx)
  have HM := hide (fun (u : World) (hu : Below w.heap.size w u) => (h.below hu).hd)
  have HU := hide hu
  have HPN := hide hP
  clear h hl hu
  go_enter Tryd.func23, Tryd.ntmps23
  go_wp2
  go_loopw [3, 4] (fun v i wr => ∃ j : Nat, i = .int .i64 (j : Int) ∧ j ≤ N ∧ Hid (wr.ownsRow w.heap.size 45 7 v (Rec.upto ws P T j).length (spanVals (Rec.upto ws P T j)) ∧ Below w.heap.size w wr)) (fun _ i _ => N - (intOf i).toNat)
  case atStart => exact ⟨0, rfl, Nat.zero_le _, World.ownsRow_nil _ _ _ _, Below.refl _ _⟩
  case round =>
    obtain ⟨j, rfl, hj, hH⟩ := hrel
    obtain ⟨hrow, hB⟩ := hH.out
    clear hH
    have q2 : wr.cell? ⟨a, 2, none⟩ = some (.int .i64 P) := cell_of_heap (HM.out _ hB)
    by_cases hlt : j < N
    · have d1 : decide ((j : Int) < P) = true := by rw [HPN.out]; simp; exact hlt
      have hup := Rec.upto_len ws P T j
      have HRow := hide hrow
      have HB := hide hB
      have HRD := hide (HR.out wr hB (j : Int))
      clear hrow hB
      by_cases h0 : Rec.tol ws P T 9 (j : Int) = 0
      · have hrd : Rec.read ws P T (j : Int) = (Rec.Sp.zero, false) := by unfold Rec.read; rw [if_pos h0]
        have HN := hide (Rec.upto_no h0)
        clear h0
        go_wp2_with fail
        refine (HRD.out _ _ hrd).mono ?_
        rintro e w2 ⟨rfl, b2⟩
        have HB2 := hide (HB.out.trans (b2.mono HB.out.size))
        have HW2 := hide (ownsRow_only HRow.out (Below.only b2 (fun _ => False)) (fun _ f => f.elim))
        clear HRow HB b2 HRD hrd q2 d1
        unfold spanV spanC Rec.Sp.zero
        go_wp2
        go_roundw
        case rel => exact ⟨j + 1, by go_num, by omega, by rw [HN.out]; exact HW2.out.alloc _, HB2.out.alloc HB2.out.size _⟩
        case measure => simp [intOf]; omega
      · obtain ⟨x, hx⟩ : ∃ x, Rec.said ws P T (j : Int) = x := ⟨_, rfl⟩
        have hrd : Rec.read ws P T (j : Int) = (x, true) := by unfold Rec.read; rw [if_neg h0, hx]
        have hup1 := Rec.upto_yes h0
        rw [hx] at hup1
        have HN := hide hup1
        clear h0 hup1 hx
        go_wp2_with fail
        refine (HRD.out _ _ hrd).mono ?_
        rintro e w2 ⟨rfl, b2⟩
        have HB2 := hide (HB.out.trans (b2.mono HB.out.size))
        have HW2 := hide (ownsRow_only HRow.out (Below.only b2 (fun _ => False)) (fun _ f => f.elim))
        clear HRow HB b2 HRD hrd q2 d1
        have hs2 : w.heap.size ≤ w2.heap.size := HB2.out.size
        unfold spanV spanC
        go_wp2_with (at_builtin; (refine wpList_append_own _ rfl _ _ 51 rfl w.heap.size 45 i0 (.agg #[.int .i64 0, .int .i64 0, .int .i64 0, .int .i64 0, .int .i64 0, .int .u64 0, .int .u64 0]) 7 56 Tryd.underlying51 hi hz0 hz1 hz2 rfl (by decide) _ _ _ rfl ((HW2.out.alloc _).alloc _) ⟨_, 0, none⟩ 1 1 [.int .i64 x.page, .int .i64 x.pages, .int .i64 x.cls, .int .i64 x.gen, .int .i64 x.ph, .int .u64 (x.alloc : Int), .int .u64 (x.mark : Int)] rfl rfl (cell_span_at _ _ (by simp) _ _ _ _ _ _ _ _) (by simp [Value.oneCell']) (by unfold maxLen; omega) (by omega) (by simp; omega) ?_); intro v' w9 hown' hgrow' _)
        go_roundw
        case rel =>
          refine ⟨j + 1, by go_num, by omega, ?_, ?_⟩
          · rw [HN.out, List.length_append, List.length_singleton, spanVals_snoc]; exact hown'
          · exact (HB2.out.alloc HB2.out.size _).trans (below_row (by simp; omega) (HW2.out.alloc _) hgrow')
        case measure => simp [intOf]; omega
    · have hjN : j = N := by omega
      have d1 : decide ((j : Int) < P) = false := by rw [HPN.out, hjN]; simp
      have HB := hide hB
      have HRow := hide hrow
      clear hB hrow
      go_wp2
      go_ret
      refine ⟨_, rfl, ?_, HB.out⟩
      have := spans_of_row HRow.out
      rw [hjN, HU.out] at this
      exact this

theorem plWord (P T k p : Int) (w : World) :
    Calls Tryd.prog 21 #[.agg #[.int .i64 P, .int .i64 T], .int .i64 k, .int .i64 p] w fun e w' => e = .returned (.int .i64 (Lay.page P T k p).1) ∧ Below w.heap.size w w' := by
  have HK := hide (fun w => rlpage P T k p w)
  go_enter Tryd.func21, Tryd.ntmps21
  have B0 := LBox.new w P T 24
  have c0 := B0.c0
  have c1 := B0.c1
  go_wp2_with fail
  refine (HK.out _).mono ?_
  rintro e w1 ⟨rfl, hb⟩
  have B1 := LBox.grow (by assumption) hb
  go_wp2
  go_ret
  exact ⟨rfl, B1.below⟩

set_option maxRecDepth 100000 in
set_option maxHeartbeats 4000000 in
/-- A put of both sides. -/
theorem plPut {R : Res} {w0 w : World} (lR : Loc R) {q p r a p' r' pg dn : Nat} {P T : Int} {s : St} {ds : List Nat} {L : RL}
    (h : Own (Sep (AX q P T p r s pg ds dn L) (Sep (MX a P T p' r' s pg ds dn L) R)) w0 w) (i : Nat) (hi : i < s.words.length) (hl : s.words.length ≤ 65536) (v : Nat) (hv : v < 18446744073709551616) (s' : St) (hs : s.put i v = s') :
    Calls Tryd.prog 20 #[.pointer (some ⟨q, 0, none⟩), .pointer (some ⟨a, 0, none⟩), .int .i64 (i : Int), .int .u64 (v : Int)] w fun e w' => e = .returned (.bool true) ∧ Own (Sep (AX q P T p r s' pg ds dn L) (Sep (MX a P T p' r' s' pg ds dn L) R)) w0 w' := by
  obtain ⟨b, hM⟩ := MAt.of (h.cast (R' := Sep (MX a P T p' r' s pg ds dn L) (Sep (AX q P T p r s pg ds dn L) R)) (by ac_rfl))
  have O1 := hide h
  have HI := hide hi
  have HV := hide hv
  have HS := hide hs
  obtain ⟨n, hn⟩ : ∃ n, s.words.length = n := ⟨_, rfl⟩
  have d0 : decide ((i : Int) < 0) = false := by simp
  have d1 : decide ((i : Int) ≥ (n : Int)) = false := by simp; omega
  have d1' : decide ((n : Int) ≤ (i : Int)) = false := by simp; omega
  have d2 : decide (n ≤ i) = false := by simp; omega
  have c0 : w.cell? ⟨a, 0, none⟩ = some (.pointer (some ⟨p', 0, none⟩)) := cell_of_heap hM.hd
  have c1 : w.cell? ⟨p', 0, none⟩ = some (.slice (some ⟨b, 0, none⟩) n n) := by
    obtain ⟨t, hS, ht⟩ := hM.st
    have h1 : w.cell? ⟨p', 0, none⟩ = some (.slice (some ⟨b, 0, none⟩) t.words.length t.words.length) := cell_of_heap hS.head
    rw [ht, hn] at h1
    exact h1
  have HMC : Hid (∀ u : World, (∃ b', MAt a P T p' r' b' s.words u) → u.cell? ⟨a, 0, none⟩ = some (.pointer (some ⟨p', 0, none⟩))) := hide (fun u ⟨_, hu⟩ => cell_of_heap hu.hd)
  have hn9 : n ≤ 65536 := by omega
  clear h hM hv hs hn hl
  go_enter Tryd.func20, Tryd.ntmps20
  go_wp2
  clear c0 c1 d0 d1 d1' d2
  have lM : Loc (Sep (MX a P T p' r' s pg ds dn L) R) := Loc.mx.sep lR
  have O2 := hide (O1.out.below (Loc.ax.sep lM) ((Alike.drewN w 1).below _))
  clear O1
  have CC : ∀ (u : World) (t t' : St), Own (Sep (AX q P T p r t pg ds dn L) (Sep (MX a P T p' r' t' pg ds dn L) R)) w0 u → Cel a 0 (.pointer (some ⟨p', 0, none⟩)) u := fun u t t' hu => by
    obtain ⟨b', hM⟩ := MAt.of (hu.cast (R' := Sep (MX a P T p' r' t' pg ds dn L) (Sep (AX q P T p r t pg ds dn L) R)) (by ac_rfl))
    exact cell_of_heap hM.hd
  have HCC := hide CC
  have J2 : Hid (Cel a 0 (.pointer (some ⟨p', 0, none⟩)) w.drew) := hide (CC _ _ _ O2.out)
  have hne : Nonempty (Mem (Cel a 0 (.pointer (some ⟨p', 0, none⟩)))) := ⟨⟨_, J2.out⟩⟩
  have u0 : ∀ u : Mem (Cel a 0 (.pointer (some ⟨p', 0, none⟩))), u.w'.cell? ⟨a, 0, none⟩ = some (.pointer (some ⟨p', 0, none⟩)) := fun u => u.h
  clear CC HMC
  refine region_start (J := Cel a 0 (.pointer (some ⟨p', 0, none⟩))) (by kernel_rfl) ?_
  refine stretch (fuel := 5) (by kernel_rfl) (fun _ _ _ _ _ h => h) J2.out [0, 2, 3, 5, 6, 7, 8, 9, 10] (by kernel_rfl) ?_
  simp only [List.filterMap_cons, List.filterMap_nil, List.getElem?_toArray, List.getElem?_cons_zero, List.getElem?_cons_succ]
  show wpQuiet _ _ _ _ [_, _, _, _, _, _, _, _, _] _
  repeat (go_big_quiet_step (fail))
  refine wpQuiet_nil ?_
  refine wpAnyJ_writer (i := 1) rfl (by kernel_rfl) (fun K' hK => ?_)
  go_simp
  refine (storeX O2.out).mono ?_
  rintro e w3 ⟨rfl, rfl⟩
  refine hK _ _ J2.out ?_
  clear hK K'
  refine wpAnyJ_writer (i := 4) rfl (by kernel_rfl) (fun K' hK => ?_)
  go_simp
  refine (putX lM O2.out i HI.out v HV.out).mono ?_
  rintro e w4 ⟨rfl, o4⟩
  rw [HS.out] at o4
  have O4 := hide o4
  have J4 : Hid (Cel a 0 (.pointer (some ⟨p', 0, none⟩)) w4) := hide (HCC.out _ _ _ O4.out)
  refine hK _ _ J4.out ?_
  clear hK K' o4 O2 J2
  refine wpAnyJ_writer (i := 11) rfl (by kernel_rfl) (fun K' hK => ?_)
  go_simp
  refine (mxPut (Loc.ax.sep lR) (O4.out.cast (R' := Sep (MX a P T p' r' s pg ds dn L) (Sep (AX q P T p r s' pg ds dn L) R)) (by ac_rfl)) i HI.out v HV.out).mono ?_
  rintro e w5 ⟨rfl, o5⟩
  rw [HS.out] at o5
  have O5 := hide (o5.cast (R' := Sep (AX q P T p r s' pg ds dn L) (Sep (MX a P T p' r' s' pg ds dn L) R)) (by ac_rfl))
  have J5 : Hid (Cel a 0 (.pointer (some ⟨p', 0, none⟩)) w5) := hide (HCC.out _ _ _ O5.out)
  refine hK _ _ J5.out ?_
  clear hK K' o5 O4 J4
  refine stretch (fuel := 0) (by kernel_rfl) (fun _ _ _ _ _ h => h) J5.out [12, 13] (by kernel_rfl) ?_
  simp only [List.filterMap_cons, List.filterMap_nil, List.getElem?_toArray, List.getElem?_cons_zero, List.getElem?_cons_succ]
  show wpQuiet _ _ _ _ [_, _] _
  repeat (go_big_quiet_step (fail))
  refine wpQuiet_nil ?_
  refine wpAnyJ_done (by kernel_rfl) ?_
  clear u0 hne J5
  go_wp2
  go_ret
  exact ⟨rfl, O5.out⟩
end Go.Proofs.YtgdliebllmgibaaDoor
