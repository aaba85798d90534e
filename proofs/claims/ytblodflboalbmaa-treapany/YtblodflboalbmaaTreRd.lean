/- The calls of a tree of runs: Drop, Ceil. -/
import Derived.Test.YtblodflboalbmaaTreRm
import Derived.Test.YtblodflboalbmaaTreWalk2
import Derived.OwnWalk
namespace Go.Proofs.Ytblodflboalbmaa
open Go.RowKit

/-- Two cells put into block r: whatever holds of a world in which they lie holds of the one in which they were put. -/
theorem put2 {w0 w : World} {n r : Nat} {a0 a1 : Value} {t : TypeId} (hs : w.heap[r]? = some (.cells #[a0, a1] t (0, 0))) (hB : Below n w0 w) (hn : n ≤ w.heap.size) (hr : n ≤ r) {v0 v1 : Value} {R : World → Prop} (o : Obj)
    (k : ∀ W : World, Below n w0 W → W.cell? ⟨r, 0, none⟩ = some v0 → W.cell? ⟨r, 1, none⟩ = some v1 → R W) :
    R (((w.setCell ⟨r, 0, none⟩ v0).setCell ⟨r, 1, none⟩ v1).alloc o) := by
  have e := heap_alloc_old (o := o) (heap_setCell_at (o := 1) (heap_setCell_at (o := 0) hs v0) v1)
  exact k _ (((hB.setCell hr _).setCell hr _).alloc (by simp only [setCell_size]; exact hn) _) (cell_of_heap e) (cell_of_heap e)

theorem put2Turned {α : Type} {S : Sh α} {TT : TypeId} {w u u' W : World} {t B : Nat} {T : Tr α} {L L' : List (It α)} (h : Turned S TT u u' t T L') (hT : TAt S TT w t T L) (g : Below w.heap.size w u) (hBu : B < u.heap.size) (hBw : w.heap.size ≤ B) (o : Only (fun k => k = B) u' W) : Turned S TT w W t T L' := by
  obtain ⟨T', h1, h2, h3⟩ := h
  refine ⟨T', h1.kept o (fun x hx e => ?_), ⟨(o.os.trans h2.os).trans g.os, (o.tape.trans h2.tape).trans g.tape, (o.output.trans h2.output).trans g.output, Nat.le_trans g.size (Nat.le_trans h2.size o.size), fun k hk hn => ?_⟩, fun x hx => (h3 x hx).imp (fun e => e) (fun e => Nat.le_trans g.size e)⟩
  · subst e
    rcases h3 x hx with q | q
    · have := hT.lt q; omega
    · omega
  · have hku : k < u.heap.size := Nat.lt_of_lt_of_le hk g.size
    exact (o.block k (Nat.lt_of_lt_of_le hku h2.size) (by omega)).trans ((h2.block k hku hn).trans (g.block k hk))

set_option maxHeartbeats 1000000 in
theorem dropNoR (w : World) (t : Nat) (T : Tr (Int × Int)) (L : List (It (Int × Int))) (h : TAtR w t T L) (key : Int) (hg : getL key L = none) :
    Calls Try.prog 37 #[.pointer (some ⟨t, 0, none⟩), .int .i64 key] w fun e w' => e = .returned (.tuple #[.agg #[.int .i64 0, .int .i64 0], .bool false]) ∧ Below w.heap.size w w' := by
  have hB : Below w.heap.size w (w.alloc (.cells #[.int .i64 0, .int .i64 0] 66)) := (Below.refl _ w).alloc (Nat.le_refl _) _
  replace h := h.below hB
  have HC := hide (linkR _ t T h.hung key)
  have HH := hide h.hung
  have HF := hide (find_nil h.items h.ris hg)
  have hb0 := heap_alloc_at w (.cells #[.int .i64 0, .int .i64 0] 66)
  clear h hg
  go_enter Try.func37, Try.ntmps37
  go_wp2_with fail
  generalize w.alloc (.cells #[.int .i64 0, .int .i64 0] 66) = w0 at *
  refine HC.out.mono ?_
  rintro e w1 ⟨rfl, b, o, F, rfl, hp, _⟩
  have c0 : w1.cell? ⟨b, o, none⟩ = some (.pointer none) := by have := (hp.hung HH.out).lk.cell; rw [HF.out] at this; exact this
  have hbs : w.heap.size < w1.heap.size := lt_of_heap hb0
  have x0 : w1.cell? ⟨w.heap.size, 0, none⟩ = some (.int .i64 0) := cell_of_heap hb0
  have x1 : w1.cell? ⟨w.heap.size, 1, none⟩ = some (.int .i64 0) := cell_of_heap hb0
  have f0 : ∀ o, w1.frozen? ⟨w.heap.size, o, none⟩ = false := fun o => frozen_of_heap hb0
  clear hp
  go_wp2
  refine put2 (R := bodyPost _ _ _ _ _) hb0 hB (by omega) (Nat.le_refl _) _ ?_
  intro W hBW z0 z1
  refine bodyPost_ret (by simp [results, Try.results37, z0, z1, go_sem]; try rfl) rfl ?_
  exact ⟨rfl, hBW⟩

set_option maxHeartbeats 1000000 in
theorem dropYesR (w : World) (t : Nat) (T : Tr (Int × Int)) (L : List (It (Int × Int))) (h : TAtR w t T L) (key k : Int) (d : Nat) (v : (Int × Int)) (hg : getL key L = some (k, d, v)) (hl : L.length < 4611686018427387904) :
    Calls Try.prog 37 #[.pointer (some ⟨t, 0, none⟩), .int .i64 key] w fun e w' => e = .returned (.tuple #[.agg #[.int .i64 v.1, .int .i64 v.2], .bool true]) ∧ TurnedR w w' t T (delL key L) := by
  have hB : Below w.heap.size w (w.alloc (.cells #[.int .i64 0, .int .i64 0] 66)) := (Below.refl _ w).alloc (Nat.le_refl _) _
  have HTW := hide h
  replace h := h.below hB
  have hb0 := heap_alloc_at w (.cells #[.int .i64 0, .int .i64 0] 66)
  have HC := hide (linkR _ t T h.hung key)
  have HH := hide h.hung
  have HT := hide h
  obtain ⟨hk, p, l, r, hf⟩ := find_node h.items h.ris hg
  have HK := hide hk
  have HF := hide hf
  have HD := hide (delL_length h.ris hg)
  obtain ⟨n, hn⟩ : ∃ n, (delL key L).length = n := ⟨_, rfl⟩
  have HN := hide hn
  have hln : L.length = n + 1 := by rw [← hn]; exact HD.out.symm
  have HLN := hide hln
  have hn1 : n < 4611686018427387904 := by omega
  clear h hg hf hk hn HD hln hl
  go_enter Try.func37, Try.ntmps37
  go_wp2_with fail
  generalize (w.alloc (.cells #[.int .i64 0, .int .i64 0] 66)) = w0 at *
  refine HC.out.mono ?_
  rintro e w1 ⟨rfl, b, o, F, rfl, hp, hdr⟩
  have hh := hp.hung HH.out
  rw [HF.out] at hh hp hdr
  have HU := hide hh
  have HPA := hide hp
  have HDR := hide hdr
  have c0 : w1.cell? ⟨b, o, none⟩ = some (.pointer (some ⟨p, 0, none⟩)) := hh.lk.cell
  obtain ⟨_, _, g1, g2, _⟩ := nodeR hh.inn.1
  have npt : p ≠ t := by
    rintro rfl
    exact HH.out.out (hp.mem p (.inl rfl))
  have HJ := hide (joinR w1.drew l r b o (hh.joinPre.alike ⟨rfl, rfl, rfl, rfl⟩))
  have C0 : Hid (CellsAre p 4 l.ptr p 5 r.ptr w1.drew) := hide ⟨g1, g2⟩
  have hd1 : ∀ u : Mem (CellsAre p 4 l.ptr p 5 r.ptr), u.w'.cell? ⟨p, 4, none⟩ = some l.ptr := fun u => u.h.1
  have hd2 : ∀ u : Mem (CellsAre p 4 l.ptr p 5 r.ptr), u.w'.cell? ⟨p, 5, none⟩ = some r.ptr := fun u => u.h.2
  have hne : Nonempty (Mem (CellsAre p 4 l.ptr p 5 r.ptr)) := ⟨⟨_, C0.out⟩⟩
  clear hh hp hdr
  go_wp2
  refine region_start (J := CellsAre p 4 l.ptr p 5 r.ptr) (by kernel_rfl) ?_
  refine stretch (fuel := 1) (by kernel_rfl) (fun _ _ _ _ _ h => h) C0.out [0, 1, 2, 3, 4, 5, 6, 7, 8] (by kernel_rfl) ?_
  simp only [List.filterMap_cons, List.filterMap_nil, List.getElem?_toArray, List.getElem?_cons_zero, List.getElem?_cons_succ]
  show wpQuiet _ _ _ _ [_, _, _, _, _, _, _, _, _] _
  repeat (go_big_quiet_step (fail))
  refine wpQuiet_nil ?_
  refine wpAnyJ_writer (i := 9) rfl (by kernel_rfl) (fun K hK => ?_)
  go_simp
  refine HJ.out.mono ?_
  rintro e w2 ⟨rfl, hr2⟩
  have hrj := hr2.left (w := w1) ⟨rfl, rfl, rfl, rfl⟩
  have hnk := Rep.nodeKept HU.out hrj
  obtain ⟨_, _, q1, q2, _⟩ := nodeR (hnk.trans HU.out.inn.1)
  refine hK _ _ ⟨q1, q2⟩ ?_
  clear hK K
  refine wpAnyJ_done (by kernel_rfl) ?_
  have hrt := HPA.out.rep HH.out (Rep.dropped (p := p) (k := k) (d := d) (v := v) hrj)
  rw [show Tr.drop k (Tr.node p k d v l r) = Tr.drop key (Tr.node p k d v l r) from congrArg (fun x => Tr.drop x (Tr.node p k d v l r)) HK.out, ← HDR.out] at hrt
  have hct := Rep.headCell HT.out hrt
  rw [HLN.out] at hct
  have c3 := cell_of_heap (o := 1) hct
  have f3 := frozen_of_heap (o := 1) hct
  have c3' : w2.cell? ⟨t, 1, none⟩ = some (.int .i64 ((n : Int) + 1)) := c3
  have v0 : (w2.setCell ⟨t, 1, none⟩ (.int .i64 (n : Int))).cell? ⟨p, 2, none⟩ = some (.int .i64 v.1) := cell_of_heap ((heap_setCell_ne npt _).trans (hnk.trans HU.out.inn.1))
  have v1 : (w2.setCell ⟨t, 1, none⟩ (.int .i64 (n : Int))).cell? ⟨p, 3, none⟩ = some (.int .i64 v.2) := cell_of_heap ((heap_setCell_ne npt _).trans (hnk.trans HU.out.inn.1))
  have HE := hide (Rep.turned HT.out hrt (by rw [drop_items _ (by rw [HT.out.items]; exact HT.out.ris), HT.out.items]) (drop_heap _ HT.out.heap (by rw [HT.out.items]; exact HT.out.ris)) (delL_rising HT.out.ris))
  rw [HN.out] at HE
  clear hr2 hrj hrt hct c3 hnk q1 q2
  have hbs : w.heap.size < w1.heap.size := lt_of_heap hb0
  have hb2 : (w2.setCell ⟨t, 1, none⟩ (.int .i64 (n : Int))).heap[w.heap.size]? = some (.cells #[.int .i64 0, .int .i64 0] 66 (0, 0)) := by
    obtain ⟨_, _, q, _⟩ := HE.out
    exact (q.block _ hbs (fun e => Nat.lt_irrefl _ (HTW.out.lt e))).trans hb0
  have htB : t < w.heap.size := lt_of_heap HTW.out.head
  have hb3 : w2.heap[w.heap.size]? = some (.cells #[.int .i64 0, .int .i64 0] 66 (0, 0)) := (heap_setCell_ne (by omega) _).symm.trans hb2
  have y0 : w2.cell? ⟨w.heap.size, 0, none⟩ = some (.int .i64 0) := cell_of_heap hb3
  have y1 : w2.cell? ⟨w.heap.size, 1, none⟩ = some (.int .i64 0) := cell_of_heap hb3
  have yf : ∀ o, w2.frozen? ⟨w.heap.size, o, none⟩ = false := fun o => frozen_of_heap hb3
  have e := heap_setCell_at (o := 1) (heap_setCell_at (o := 0) hb2 (.int .i64 v.1)) (.int .i64 v.2)
  have z0 : (((w2.setCell ⟨t, 1, none⟩ (.int .i64 (n : Int))).setCell ⟨w.heap.size, 0, none⟩ (.int .i64 v.1)).setCell ⟨w.heap.size, 1, none⟩ (.int .i64 v.2)).cell? ⟨w.heap.size, 0, none⟩ = some (.int .i64 v.1) := cell_of_heap e
  have z1 : (((w2.setCell ⟨t, 1, none⟩ (.int .i64 (n : Int))).setCell ⟨w.heap.size, 0, none⟩ (.int .i64 v.1)).setCell ⟨w.heap.size, 1, none⟩ (.int .i64 v.2)).cell? ⟨w.heap.size, 1, none⟩ = some (.int .i64 v.2) := cell_of_heap e
  have HEE := hide (put2Turned HE.out HTW.out hB hbs (Nat.le_refl _) (((Only.refl (fun k => k = w.heap.size) (w2.setCell ⟨t, 1, none⟩ (.int .i64 (n : Int)))).setCell (p := ⟨w.heap.size, 0, none⟩) (.inl rfl) (.int .i64 v.1)).setCell (p := ⟨w.heap.size, 1, none⟩) (.inl rfl) (.int .i64 v.2)))
  have Z0 := hide z0
  have Z1 := hide z1
  clear e z0 z1 hb2 hb3 HE
  go_wp2
  have z0 := Z0.out
  have z1 := Z1.out
  have hEE := HEE.out
  generalize ((w2.setCell ⟨t, 1, none⟩ (.int .i64 (n : Int))).setCell ⟨w.heap.size, 0, none⟩ (.int .i64 v.1)).setCell ⟨w.heap.size, 1, none⟩ (.int .i64 v.2) = W at z0 z1 hEE ⊢
  refine bodyPost_ret (by simp [results, Try.results37, z0, z1, go_sem]; try rfl) rfl ?_
  exact ⟨rfl, hEE⟩



set_option maxHeartbeats 1000000 in
theorem ceilNoneR (w : World) (t : Nat) (T : Tr (Int × Int)) (L : List (It (Int × Int))) (h : TAtR w t T L) (key : Int) (hg : ceilL key L = none) :
    Calls Try.prog 39 #[.pointer (some ⟨t, 0, none⟩), .int .i64 key] w fun e w' => e = .returned (.tuple #[.int .i64 0, .agg #[.int .i64 0, .int .i64 0], .bool false]) ∧ Below w.heap.size w w' := by
  have hBw : Below w.heap.size w (w.alloc (.cells #[.int .i64 0, .int .i64 0] 66)) := (Below.refl _ w).alloc (Nat.le_refl _) _
  replace h := h.below hBw
  have hb0 := heap_alloc_at w (.cells #[.int .i64 0, .int .i64 0] 66)
  have HH := hide h.inn
  have HF := hide (ceil_nil h.items h.ris hg)
  have c0 : (w.alloc (.cells #[.int .i64 0, .int .i64 0] 66)).cell? ⟨t, 0, none⟩ = some (.pointer T.adr) := cell_of_heap h.head
  have hbs : w.heap.size < (w.alloc (.cells #[.int .i64 0, .int .i64 0] 66)).heap.size := lt_of_heap hb0
  clear h hg
  go_enter Try.func39, Try.ntmps39
  go_wp2
  generalize (w.alloc (.cells #[.int .i64 0, .int .i64 0] 66)) = w0 at *
  go_loopg [7, 8] T.size (fun n x y wr => ∃ (U B : Tr (Int × Int)), U.size = n ∧ x = .pointer B.adr ∧ y = .pointer U.adr ∧ Alike w0 wr ∧ T.ceil key .nil = U.ceil key B ∧ U.In shR wr ∧ B.In shR wr)
  case atStart => exact ⟨T, .nil, rfl, rfl, rfl, ⟨rfl, rfl, rfl, rfl⟩, rfl, HH.out, trivial⟩
  case round =>
    clear c0
    obtain ⟨U, B, hn, rfl, rfl, hal, hce, hU, hB⟩ := hrel
    cases U with
    | nil =>
      rw [Tr.adr_nil]
      have hb : B = .nil := by rw [HF.out] at hce; exact hce.symm
      subst hb
      rw [Tr.adr_nil]
      have AA : Aside (Alike w0 wr) := hal
      clear hU hB hn hal hce HF HH
      have hb1 : wr.heap[w.heap.size]? = some (.cells #[.int .i64 0, .int .i64 0] 66 (0, 0)) := by rw [AA.out.heap]; exact hb0
      have hbr : w.heap.size < wr.heap.size := lt_of_heap hb1
      have y0 : wr.cell? ⟨w.heap.size, 0, none⟩ = some (.int .i64 0) := cell_of_heap hb1
      have y1 : wr.cell? ⟨w.heap.size, 1, none⟩ = some (.int .i64 0) := cell_of_heap hb1
      have yf : ∀ o, wr.frozen? ⟨w.heap.size, o, none⟩ = false := fun o => frozen_of_heap hb1
      go_wp2
      go_region
      go_wp2
      have e := heap_alloc_old (o := .cells #[.int .i64 0, .int .i64 0] 66) (heap_setCell_at (o := 1) (heap_setCell_at (o := 0) hb1 (.int .i64 0)) (.int .i64 0))
      have z0 : ((((wr.setCell ⟨w.heap.size, 0, none⟩ (.int .i64 0)).setCell ⟨w.heap.size, 1, none⟩ (.int .i64 0)).alloc (.cells #[.int .i64 0, .int .i64 0] 66)).drew).cell? ⟨w.heap.size, 0, none⟩ = some (.int .i64 0) := cell_of_heap e
      have z1 : ((((wr.setCell ⟨w.heap.size, 0, none⟩ (.int .i64 0)).setCell ⟨w.heap.size, 1, none⟩ (.int .i64 0)).alloc (.cells #[.int .i64 0, .int .i64 0] 66)).drew).cell? ⟨w.heap.size, 1, none⟩ = some (.int .i64 0) := cell_of_heap e
      have hW : Below w.heap.size w ((((wr.setCell ⟨w.heap.size, 0, none⟩ (.int .i64 0)).setCell ⟨w.heap.size, 1, none⟩ (.int .i64 0)).alloc (.cells #[.int .i64 0, .int .i64 0] 66)).drew) := ((((hBw.trans (AA.out.below _)).setCell (p := ⟨w.heap.size, 0, none⟩) (Nat.le_refl _) _).setCell (p := ⟨w.heap.size, 1, none⟩) (Nat.le_refl _) _).alloc (by simp only [setCell_size]; omega) _).drew
      generalize (((wr.setCell ⟨w.heap.size, 0, none⟩ (.int .i64 0)).setCell ⟨w.heap.size, 1, none⟩ (.int .i64 0)).alloc (.cells #[.int .i64 0, .int .i64 0] 66)).drew = W at z0 z1 hW ⊢
      refine bodyPost_ret (by simp [results, Try.results39, z0, z1, go_sem]; try rfl) rfl ?_
      exact ⟨rfl, hW⟩
    | node p k d v l r =>
      rw [Tr.adr_node]
      obtain ⟨d0, _, d1, d2, _⟩ := nodeR hU.1
      by_cases hk : k < key
      · have AA : Aside ((Tr.node p k d v l r).size = gk ∧ Alike w0 wr ∧ T.ceil key .nil = r.ceil key B ∧ r.In shR wr ∧ B.In shR wr) := ⟨hn, hal, by rw [hce, Tr.ceil, if_pos hk], hU.2.2, hB⟩
        clear hn hal hce hU hB HF HH
        go_wp2
        obtain ⟨hn, a1, a2, a3, a4⟩ := AA.out
        go_roundg r.size
        case measure => simp [Tr.size] at hn; omega
        case rel => exact ⟨r, B, rfl, rfl, rfl, a1, a2, a3, a4⟩
      · have AA : Aside ((Tr.node p k d v l r).size = gk ∧ Alike w0 wr ∧ T.ceil key .nil = l.ceil key (.node p k d v l r) ∧ l.In shR wr ∧ (Tr.node p k d v l r).In shR wr) := ⟨hn, hal, by rw [hce, Tr.ceil, if_neg hk], hU.2.1, hU⟩
        clear hn hal hce hU hB HF HH
        go_wp2
        go_quiet (fail)
        go_wp2
        obtain ⟨hn, a1, a2, a3, a4⟩ := AA.out
        go_roundg l.size
        case measure => simp [Tr.size] at hn; omega
        case rel => exact ⟨l, .node p k d v l r, rfl, rfl, rfl, a1.trans ⟨rfl, rfl, rfl, rfl⟩, a2, a3.same (fun _ _ => rfl), a4.same (fun _ _ => rfl)⟩

set_option maxHeartbeats 1000000 in
theorem ceilSomeR (w : World) (t : Nat) (T : Tr (Int × Int)) (L : List (It (Int × Int))) (h : TAtR w t T L) (key k0 : Int) (d0 : Nat) (v0 : (Int × Int)) (hg : ceilL key L = some (k0, d0, v0)) :
    Calls Try.prog 39 #[.pointer (some ⟨t, 0, none⟩), .int .i64 key] w fun e w' => e = .returned (.tuple #[.int .i64 k0, .agg #[.int .i64 v0.1, .int .i64 v0.2], .bool true]) ∧ Below w.heap.size w w' := by
  have hBw : Below w.heap.size w (w.alloc (.cells #[.int .i64 0, .int .i64 0] 66)) := (Below.refl _ w).alloc (Nat.le_refl _) _
  replace h := h.below hBw
  have hb0 := heap_alloc_at w (.cells #[.int .i64 0, .int .i64 0] 66)
  have HH := hide h.inn
  obtain ⟨p0, l0, r0, hf⟩ := ceil_node h.items h.ris hg
  have HF := hide hf
  have c0 : (w.alloc (.cells #[.int .i64 0, .int .i64 0] 66)).cell? ⟨t, 0, none⟩ = some (.pointer T.adr) := cell_of_heap h.head
  have hbs : w.heap.size < (w.alloc (.cells #[.int .i64 0, .int .i64 0] 66)).heap.size := lt_of_heap hb0
  clear h hg hf
  go_enter Try.func39, Try.ntmps39
  go_wp2
  generalize (w.alloc (.cells #[.int .i64 0, .int .i64 0] 66)) = w0 at *
  go_loopg [7, 8] T.size (fun n x y wr => ∃ (U B : Tr (Int × Int)), U.size = n ∧ x = .pointer B.adr ∧ y = .pointer U.adr ∧ Alike w0 wr ∧ T.ceil key .nil = U.ceil key B ∧ U.In shR wr ∧ B.In shR wr)
  case atStart => exact ⟨T, .nil, rfl, rfl, rfl, ⟨rfl, rfl, rfl, rfl⟩, rfl, HH.out, trivial⟩
  case round =>
    clear c0
    obtain ⟨U, B, hn, rfl, rfl, hal, hce, hU, hB⟩ := hrel
    cases U with
    | nil =>
      rw [Tr.adr_nil]
      have hb : B = .node p0 k0 d0 v0 l0 r0 := by rw [HF.out] at hce; exact hce.symm
      subst hb
      rw [Tr.adr_node]
      obtain ⟨b0, _, _, _, _⟩ := nodeR hB.1
      have b2 : wr.cell? ⟨p0, 2, none⟩ = some (.int .i64 v0.1) := cell_of_heap hB.1
      have b3 : wr.cell? ⟨p0, 3, none⟩ = some (.int .i64 v0.2) := cell_of_heap hB.1
      have AA : Aside (Alike w0 wr) := hal
      have hb1 : wr.heap[w.heap.size]? = some (.cells #[.int .i64 0, .int .i64 0] 66 (0, 0)) := by rw [AA.out.heap]; exact hb0
      have hbr : w.heap.size < wr.heap.size := lt_of_heap hb1
      have hpr : p0 < wr.heap.size := lt_of_heap hB.1
      have hpB : p0 ≠ w.heap.size := by
        intro q
        have q1 := hB.1
        rw [q, hb1] at q1
        have q2 := congrArg (fun x : Option Obj => match x with | some (.cells c _ _) => c.size | _ => 0) q1
        simp [shR] at q2
      have y0 : wr.cell? ⟨w.heap.size, 0, none⟩ = some (.int .i64 0) := cell_of_heap hb1
      have y1 : wr.cell? ⟨w.heap.size, 1, none⟩ = some (.int .i64 0) := cell_of_heap hb1
      have yf : ∀ o, wr.frozen? ⟨w.heap.size, o, none⟩ = false := fun o => frozen_of_heap hb1
      have hC : Hid (CellsOf [(p0, 0, .int .i64 k0), (p0, 2, .int .i64 v0.1), (p0, 3, .int .i64 v0.2)] wr.drew) := by
        intro c hc
        simp only [List.mem_cons, List.not_mem_nil, or_false] at hc
        rcases hc with rfl | rfl | rfl
        · exact b0
        · exact b2
        · exact b3
      obtain ⟨CL, hCL⟩ : ∃ CL : List (Nat × Nat × Value), CL = [(p0, 0, .int .i64 k0), (p0, 2, .int .i64 v0.1), (p0, 3, .int .i64 v0.2)] := ⟨_, rfl⟩
      have u0 : ∀ u : Mem (CellsOf CL), u.w'.cell? ⟨p0, 0, none⟩ = some (.int .i64 k0) := fun u => u.h (p0, 0, .int .i64 k0) (by simp [hCL])
      have u1 : ∀ u : Mem (CellsOf CL), u.w'.cell? ⟨p0, 2, none⟩ = some (.int .i64 v0.1) := fun u => u.h (p0, 2, .int .i64 v0.1) (by simp [hCL])
      have u2 : ∀ u : Mem (CellsOf CL), u.w'.cell? ⟨p0, 3, none⟩ = some (.int .i64 v0.2) := fun u => u.h (p0, 3, .int .i64 v0.2) (by simp [hCL])
      rw [← hCL] at hC
      have hne : Nonempty (Mem (CellsOf CL)) := ⟨⟨_, hC.out⟩⟩
      have HCL : Hid (∀ c ∈ CL, c.1 = p0) := hide (by rw [hCL]; simp)
      have hC2 : Hid (CellsOf CL (((wr.setCell ⟨w.heap.size, 0, none⟩ (.int .i64 v0.1)).setCell ⟨w.heap.size, 1, none⟩ (.int .i64 v0.2)).drew)) := hide (hC.out.only ((((Only.refl (fun k => k = w.heap.size) wr.drew).setCell (p := ⟨w.heap.size, 0, none⟩) (.inl rfl) (.int .i64 v0.1)).setCell (p := ⟨w.heap.size, 1, none⟩) (.inl rfl) (.int .i64 v0.2))) (fun c hc => by rw [HCL.out c hc]; exact ⟨hpr, hpB⟩))
      have e := heap_setCell_at (o := 1) (heap_setCell_at (o := 0) hb1 (.int .i64 v0.1)) (.int .i64 v0.2)
      have Z0 : Hid ((((wr.setCell ⟨w.heap.size, 0, none⟩ (.int .i64 v0.1)).setCell ⟨w.heap.size, 1, none⟩ (.int .i64 v0.2)).drew).cell? ⟨w.heap.size, 0, none⟩ = some (.int .i64 v0.1)) := hide (cell_of_heap e)
      have Z1 : Hid ((((wr.setCell ⟨w.heap.size, 0, none⟩ (.int .i64 v0.1)).setCell ⟨w.heap.size, 1, none⟩ (.int .i64 v0.2)).drew).cell? ⟨w.heap.size, 1, none⟩ = some (.int .i64 v0.2)) := hide (cell_of_heap e)
      have HW : Hid (Below w.heap.size w (((wr.setCell ⟨w.heap.size, 0, none⟩ (.int .i64 v0.1)).setCell ⟨w.heap.size, 1, none⟩ (.int .i64 v0.2)).drew)) := hide (((hBw.trans (AA.out.below _)).setCell (p := ⟨w.heap.size, 0, none⟩) (Nat.le_refl _) _).setCell (p := ⟨w.heap.size, 1, none⟩) (Nat.le_refl _) _).drew
      clear hU hB hn hal hce HF HH hCL e hb1 b0 b2 b3
      go_wp2
      refine region_start (J := CellsOf CL) (by kernel_rfl) ?_
      refine stretch (fuel := 2) (by kernel_rfl) (fun _ _ _ _ _ h => h) hC.out [0, 1, 2, 3, 4, 5, 6, 7, 8] (by kernel_rfl) ?_
      simp only [List.filterMap_cons, List.filterMap_nil, List.getElem?_toArray, List.getElem?_cons_zero, List.getElem?_cons_succ]
      show wpQuiet _ _ _ _ [_, _, _, _, _, _, _, _, _] _
      repeat (go_big_quiet_step (fail))
      refine wpQuiet_nil ?_
      refine wpAnyJ_writer (i := 9) rfl (by kernel_rfl) (fun K hK => ?_)
      go_simp
      refine hK _ _ hC2.out ?_
      clear hK K
      refine stretch (fuel := 0) (by kernel_rfl) (fun _ _ _ _ _ h => h) hC2.out [10] (by kernel_rfl) ?_
      simp only [List.filterMap_cons, List.filterMap_nil, List.getElem?_toArray, List.getElem?_cons_zero, List.getElem?_cons_succ]
      show wpQuiet _ _ _ _ [_] _
      repeat (go_big_quiet_step (fail))
      refine wpQuiet_nil ?_
      refine wpAnyJ_done (by kernel_rfl) ?_
      have z0 := Z0.out
      have z1 := Z1.out
      have hW := HW.out
      generalize ((wr.setCell ⟨w.heap.size, 0, none⟩ (.int .i64 v0.1)).setCell ⟨w.heap.size, 1, none⟩ (.int .i64 v0.2)).drew = W at z0 z1 hW ⊢
      go_wp2
      refine bodyPost_ret (by simp [results, Try.results39, z0, z1, go_sem]; try rfl) rfl ?_
      exact ⟨rfl, hW⟩
    | node p k d v l r =>
      rw [Tr.adr_node]
      obtain ⟨d0, _, d1, d2, _⟩ := nodeR hU.1
      by_cases hk : k < key
      · have AA : Aside ((Tr.node p k d v l r).size = gk ∧ Alike w0 wr ∧ T.ceil key .nil = r.ceil key B ∧ r.In shR wr ∧ B.In shR wr) := ⟨hn, hal, by rw [hce, Tr.ceil, if_pos hk], hU.2.2, hB⟩
        clear hn hal hce hU hB HF HH
        go_wp2
        obtain ⟨hn, a1, a2, a3, a4⟩ := AA.out
        go_roundg r.size
        case measure => simp [Tr.size] at hn; omega
        case rel => exact ⟨r, B, rfl, rfl, rfl, a1, a2, a3, a4⟩
      · have AA : Aside ((Tr.node p k d v l r).size = gk ∧ Alike w0 wr ∧ T.ceil key .nil = l.ceil key (.node p k d v l r) ∧ l.In shR wr ∧ (Tr.node p k d v l r).In shR wr) := ⟨hn, hal, by rw [hce, Tr.ceil, if_neg hk], hU.2.1, hU⟩
        clear hn hal hce hU hB HF HH
        go_wp2
        go_quiet (fail)
        go_wp2
        obtain ⟨hn, a1, a2, a3, a4⟩ := AA.out
        go_roundg l.size
        case measure => simp [Tr.size] at hn; omega
        case rel => exact ⟨l, .node p k d v l r, rfl, rfl, rfl, a1.trans ⟨rfl, rfl, rfl, rfl⟩, a2, a3.same (fun _ _ => rfl), a4.same (fun _ _ => rfl)⟩
end Go.Proofs.Ytblodflboalbmaa
