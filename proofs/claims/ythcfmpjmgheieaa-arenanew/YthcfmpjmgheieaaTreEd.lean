/- The calls of a tree of empty values: Drop, Ceil. -/
import Derived.Test.YthcfmpjmgheieaaTreEm
import Derived.Test.YthcfmpjmgheieaaTreWalk2
import Derived.OwnWalk
namespace Go.Proofs.Ythcfmpjmgheieaa
open Go.RowKit

theorem partE {w : World} {p : Nat} {c : Array Value} (h : w.heap[p]? = some (.cells c shE.ty (0, 0))) : (partAt ⟨p, 0, none⟩ 2 12).run Try.prog w = .ok ⟨p, 2, some 12⟩ w := by
  have hs : w.shape? p = some (127, c.size) := by simp [World.shape?, h, shE]
  have e0 : ∀ {β : Type} (f : Option (TypeId × Nat) → Sem β), (Sem.shape p f).run Try.prog w = (f (some (127, c.size))).run Try.prog w := fun f => by rw [← hs]; rfl
  have e1 : Try.prog.cellsOf 127 = 4 := by kernel_rfl
  have e2 : byteOfCell Try.prog Try.prog.depth 127 0 = some 0 := by kernel_rfl
  have e3 : byteOfCell Try.prog Try.prog.depth 127 2 = some 16 := by kernel_rfl
  simp [partAt, byteOf, noView, viewAt, shape, go_sem, e0, e1, e2, e3]

set_option maxHeartbeats 1000000 in
theorem dropYesE (w : World) (t : Nat) (T : Tr Unit) (L : List (It Unit)) (h : TAtE w t T L) (key k : Int) (d : Nat) (v : Unit) (hg : getL key L = some (k, d, v)) (hl : L.length < 4611686018427387904) :
    Calls Try.prog 44 #[.pointer (some ⟨t, 0, none⟩), .int .i64 key] w fun e w' => e = .returned (.tuple #[.agg #[], .bool true]) ∧ TurnedE w w' t T (delL key L) := by
  have hB : Below w.heap.size w (w.alloc (.cells #[] 77)) := (Below.refl _ w).alloc (Nat.le_refl _) _
  replace h := h.below hB
  have HC := hide (linkE _ t T h.hung key)
  have HH := hide h.hung
  have HT := hide h
  obtain ⟨hk, p, l, r, hf⟩ := find_node h.items h.ris hg
  have HK := hide hk
  have HF := hide hf
  have HD := hide (delL_length h.ris hg)
  obtain ⟨n, hn⟩ : ∃ n, (delL key L).length = n := ⟨_, rfl⟩
  have HN := hide hn
  have hln : L.length = n + 1 := by rw [← hn]; exact HD.out.symm
  have HLN := hide hln
  have hn1 : n < 4611686018427387904 := by omega
  clear h hg hf hk hn HD hln hl
  go_enter Try.func44, Try.ntmps44
  go_wp2_with fail
  generalize (w.alloc (.cells #[] 77)) = w0 at *
  refine HC.out.mono ?_
  rintro e w1 ⟨rfl, b, o, F, rfl, hp, hdr⟩
  have hh := hp.hung HH.out
  rw [HF.out] at hh hp hdr
  have HU := hide hh
  have HPA := hide hp
  have HDR := hide hdr
  have c0 : w1.cell? ⟨b, o, none⟩ = some (.pointer (some ⟨p, 0, none⟩)) := hh.lk.cell
  obtain ⟨_, _, g1, g2, _⟩ := nodeE hh.inn.1
  have npt : p ≠ t := by
    rintro rfl
    exact HH.out.out (hp.mem p (.inl rfl))
  have HJ := hide (joinE w1.drew l r b o (hh.joinPre.alike ⟨rfl, rfl, rfl, rfl⟩))
  have C0 : Hid (CellsAre p 2 l.ptr p 3 r.ptr w1.drew) := hide ⟨g1, g2⟩
  have hd1 : ∀ u : Mem (CellsAre p 2 l.ptr p 3 r.ptr), u.w'.cell? ⟨p, 2, none⟩ = some l.ptr := fun u => u.h.1
  have hd2 : ∀ u : Mem (CellsAre p 2 l.ptr p 3 r.ptr), u.w'.cell? ⟨p, 3, none⟩ = some r.ptr := fun u => u.h.2
  have hne : Nonempty (Mem (CellsAre p 2 l.ptr p 3 r.ptr)) := ⟨⟨_, C0.out⟩⟩
  clear hh hp hdr
  go_wp2
  refine region_start (J := CellsAre p 2 l.ptr p 3 r.ptr) (by kernel_rfl) ?_
  refine stretch (fuel := 1) (by kernel_rfl) (fun _ _ _ _ _ h => h) C0.out [0, 1, 2, 3, 4, 5, 6, 7, 8] (by kernel_rfl) ?_
  simp only [List.filterMap_cons, List.filterMap_nil, List.getElem?_toArray, List.getElem?_cons_zero, List.getElem?_cons_succ]
  show wpQuiet _ _ _ _ [_, _, _, _, _, _, _, _, _] _
  repeat (go_big_quiet_step (fail))
  refine wpQuiet_nil ?_
  refine wpAnyJ_writer (i := 9) rfl (by kernel_rfl) (fun K hK => ?_)
  go_simp
  refine HJ.out.mono ?_
  rintro e w2 ⟨rfl, hr2⟩
  have hrj := hr2.left (w := w1) ⟨rfl, rfl, rfl, rfl⟩
  have hnk := Rep.nodeKept HU.out hrj
  obtain ⟨_, _, q1, q2, _⟩ := nodeE (hnk.trans HU.out.inn.1)
  refine hK _ _ ⟨q1, q2⟩ ?_
  clear hK K
  refine wpAnyJ_done (by kernel_rfl) ?_
  have hrt := HPA.out.rep HH.out (Rep.dropped (p := p) (k := k) (d := d) (v := v) hrj)
  rw [show Tr.drop k (Tr.node p k d v l r) = Tr.drop key (Tr.node p k d v l r) from congrArg (fun x => Tr.drop x (Tr.node p k d v l r)) HK.out, ← HDR.out] at hrt
  have hct := Rep.headCell HT.out hrt
  rw [HLN.out] at hct
  have c3 := cell_of_heap (o := 1) hct
  have f3 := frozen_of_heap (o := 1) hct
  have c3' : w2.cell? ⟨t, 1, none⟩ = some (.int .i64 ((n : Int) + 1)) := c3
  have HE := hide (Rep.turned HT.out hrt (by rw [drop_items _ (by rw [HT.out.items]; exact HT.out.ris), HT.out.items]) (drop_heap _ HT.out.heap (by rw [HT.out.items]; exact HT.out.ris)) (delL_rising HT.out.ris))
  rw [HN.out] at HE
  have hpE : (partAt ⟨p, 0, none⟩ 2 12).run Try.prog (w2.setCell ⟨t, 1, none⟩ (.int .i64 (n : Int))) = .ok ⟨p, 2, some 12⟩ (w2.setCell ⟨t, 1, none⟩ (.int .i64 (n : Int))) := partE ((heap_setCell_ne npt _).trans (hnk.trans HU.out.inn.1))
  clear hr2 hrj hrt hct c3 hnk q1 q2
  go_wp2
  go_returns
  exact ⟨rfl, HE.out.leftBelow hB⟩

set_option maxHeartbeats 1000000 in
theorem ceilNoneE (w : World) (t : Nat) (T : Tr Unit) (L : List (It Unit)) (h : TAtE w t T L) (key : Int) (hg : ceilL key L = none) :
    Calls Try.prog 65 #[.pointer (some ⟨t, 0, none⟩), .int .i64 key] w fun e w' => e = .returned (.tuple #[.int .i64 0, .agg #[], .bool false]) ∧ Below w.heap.size w w' := by
  have hBw : Below w.heap.size w (w.alloc (.cells #[] 77)) := (Below.refl _ w).alloc (Nat.le_refl _) _
  replace h := h.below hBw
  have HH := hide h.inn
  have HF := hide (ceil_nil h.items h.ris hg)
  have c0 : (w.alloc (.cells #[] 77)).cell? ⟨t, 0, none⟩ = some (.pointer T.adr) := cell_of_heap h.head
  clear h hg
  go_enter Try.func65, Try.ntmps65
  go_wp2
  generalize (w.alloc (.cells #[] 77)) = w0 at *
  go_loopg [7, 8] T.size (fun n x y wr => ∃ (U B : Tr Unit), U.size = n ∧ x = .pointer B.adr ∧ y = .pointer U.adr ∧ Alike w0 wr ∧ T.ceil key .nil = U.ceil key B ∧ U.In shE wr ∧ B.In shE wr)
  case atStart => exact ⟨T, .nil, rfl, rfl, rfl, ⟨rfl, rfl, rfl, rfl⟩, rfl, HH.out, trivial⟩
  case round =>
    clear c0
    obtain ⟨U, B, hn, rfl, rfl, hal, hce, hU, hB⟩ := hrel
    cases U with
    | nil =>
      rw [Tr.adr_nil]
      have hb : B = .nil := by rw [HF.out] at hce; exact hce.symm
      subst hb
      rw [Tr.adr_nil]
      have AA : Aside (Alike w0 wr) := hal
      clear hU hB hn hal hce HF HH
      go_wp2
      go_region
      go_wp2
      go_returns
      exact ⟨rfl, (((hBw.trans (AA.out.below _)).alloc (by rw [AA.out.heap]; exact hBw.size) _).trans ((Alike.drewN _ 1).below _))⟩
    | node p k d v l r =>
      rw [Tr.adr_node]
      obtain ⟨d0, _, d1, d2, _⟩ := nodeE hU.1
      by_cases hk : k < key
      · have AA : Aside ((Tr.node p k d v l r).size = gk ∧ Alike w0 wr ∧ T.ceil key .nil = r.ceil key B ∧ r.In shE wr ∧ B.In shE wr) := ⟨hn, hal, by rw [hce, Tr.ceil, if_pos hk], hU.2.2, hB⟩
        clear hn hal hce hU hB HF HH
        go_wp2
        obtain ⟨hn, a1, a2, a3, a4⟩ := AA.out
        go_roundg r.size
        case measure => simp [Tr.size] at hn; omega
        case rel => exact ⟨r, B, rfl, rfl, rfl, a1, a2, a3, a4⟩
      · have AA : Aside ((Tr.node p k d v l r).size = gk ∧ Alike w0 wr ∧ T.ceil key .nil = l.ceil key (.node p k d v l r) ∧ l.In shE wr ∧ (Tr.node p k d v l r).In shE wr) := ⟨hn, hal, by rw [hce, Tr.ceil, if_neg hk], hU.2.1, hU⟩
        clear hn hal hce hU hB HF HH
        go_wp2
        go_quiet (fail)
        go_wp2
        obtain ⟨hn, a1, a2, a3, a4⟩ := AA.out
        go_roundg l.size
        case measure => simp [Tr.size] at hn; omega
        case rel => exact ⟨l, .node p k d v l r, rfl, rfl, rfl, a1.trans ⟨rfl, rfl, rfl, rfl⟩, a2, a3.same (fun _ _ => rfl), a4.same (fun _ _ => rfl)⟩

set_option maxHeartbeats 1000000 in
theorem ceilSomeE (w : World) (t : Nat) (T : Tr Unit) (L : List (It Unit)) (h : TAtE w t T L) (key k0 : Int) (d0 : Nat) (v0 : Unit) (hg : ceilL key L = some (k0, d0, v0)) :
    Calls Try.prog 65 #[.pointer (some ⟨t, 0, none⟩), .int .i64 key] w fun e w' => e = .returned (.tuple #[.int .i64 k0, .agg #[], .bool true]) ∧ Below w.heap.size w w' := by
  have hBw : Below w.heap.size w (w.alloc (.cells #[] 77)) := (Below.refl _ w).alloc (Nat.le_refl _) _
  replace h := h.below hBw
  have HH := hide h.inn
  obtain ⟨p0, l0, r0, hf⟩ := ceil_node h.items h.ris hg
  have HF := hide hf
  have c0 : (w.alloc (.cells #[] 77)).cell? ⟨t, 0, none⟩ = some (.pointer T.adr) := cell_of_heap h.head
  clear h hg hf
  go_enter Try.func65, Try.ntmps65
  go_wp2
  generalize (w.alloc (.cells #[] 77)) = w0 at *
  go_loopg [7, 8] T.size (fun n x y wr => ∃ (U B : Tr Unit), U.size = n ∧ x = .pointer B.adr ∧ y = .pointer U.adr ∧ Alike w0 wr ∧ T.ceil key .nil = U.ceil key B ∧ U.In shE wr ∧ B.In shE wr)
  case atStart => exact ⟨T, .nil, rfl, rfl, rfl, ⟨rfl, rfl, rfl, rfl⟩, rfl, HH.out, trivial⟩
  case round =>
    clear c0
    obtain ⟨U, B, hn, rfl, rfl, hal, hce, hU, hB⟩ := hrel
    cases U with
    | nil =>
      rw [Tr.adr_nil]
      have hb : B = .node p0 k0 d0 v0 l0 r0 := by rw [HF.out] at hce; exact hce.symm
      subst hb
      rw [Tr.adr_node]
      obtain ⟨b0, _, _, _, _⟩ := nodeE hB.1
      have hpE : (partAt ⟨p0, 0, none⟩ 2 12).run Try.prog wr.drew = .ok ⟨p0, 2, some 12⟩ wr.drew := partE (w := wr.drew) hB.1
      have AA : Aside (Alike w0 wr) := hal
      clear hU hB hn hal hce HF HH
      go_wp2
      go_region
      go_wp2
      go_returns
      exact ⟨rfl, (hBw.trans (AA.out.below _)).trans ((Alike.drewN _ 1).below _)⟩
    | node p k d v l r =>
      rw [Tr.adr_node]
      obtain ⟨d0, _, d1, d2, _⟩ := nodeE hU.1
      by_cases hk : k < key
      · have AA : Aside ((Tr.node p k d v l r).size = gk ∧ Alike w0 wr ∧ T.ceil key .nil = r.ceil key B ∧ r.In shE wr ∧ B.In shE wr) := ⟨hn, hal, by rw [hce, Tr.ceil, if_pos hk], hU.2.2, hB⟩
        clear hn hal hce hU hB HF HH
        go_wp2
        obtain ⟨hn, a1, a2, a3, a4⟩ := AA.out
        go_roundg r.size
        case measure => simp [Tr.size] at hn; omega
        case rel => exact ⟨r, B, rfl, rfl, rfl, a1, a2, a3, a4⟩
      · have AA : Aside ((Tr.node p k d v l r).size = gk ∧ Alike w0 wr ∧ T.ceil key .nil = l.ceil key (.node p k d v l r) ∧ l.In shE wr ∧ (Tr.node p k d v l r).In shE wr) := ⟨hn, hal, by rw [hce, Tr.ceil, if_neg hk], hU.2.1, hU⟩
        clear hn hal hce hU hB HF HH
        go_wp2
        go_quiet (fail)
        go_wp2
        obtain ⟨hn, a1, a2, a3, a4⟩ := AA.out
        go_roundg l.size
        case measure => simp [Tr.size] at hn; omega
        case rel => exact ⟨l, .node p k d v l r, rfl, rfl, rfl, a1.trans ⟨rfl, rfl, rfl, rfl⟩, a2, a3.same (fun _ _ => rfl), a4.same (fun _ _ => rfl)⟩
end Go.Proofs.Ythcfmpjmgheieaa
