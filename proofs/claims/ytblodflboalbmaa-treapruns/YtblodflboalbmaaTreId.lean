/- The calls of a tree of values int: Drop, Ceil. Printed by tools/gen/tre.py. -/
import Derived.Test.YtblodflboalbmaaTreIm
import Derived.OwnWalk
namespace Go.Proofs.Ytblodflboalbmaa
open Go.RowKit

theorem dropNoI (w : World) (t : Nat) (T : Tr Int) (L : List (It Int)) (h : TAtI w t T L) (key : Int) (hg : getL key L = none) :
    Calls Try.prog 21 #[.pointer (some ⟨t, 0, none⟩), .int .i64 key] w fun e w' => e = .returned (.tuple #[.int .i64 0, .bool false]) ∧ Below w.heap.size w w' := by
  have HC := hide (linkI w t T h.hung key)
  have HH := hide h.hung
  have HF := hide (find_nil h.items h.ris hg)
  clear h hg
  go_enter Try.func21, Try.ntmps21
  go_wp2_with fail
  refine HC.out.mono ?_
  rintro e w1 ⟨rfl, b, o, F, rfl, hp, _⟩
  have c0 : w1.cell? ⟨b, o, none⟩ = some (.pointer none) := by have := (hp.hung HH.out).lk.cell; rw [HF.out] at this; exact this
  clear hp
  go_wp2
  go_ret2
  exact ⟨rfl, (Only.alloc (Only.refl (fun _ => False) w1) _).below (Nat.le_refl _) (fun _ h => h.elim)⟩

set_option maxHeartbeats 1000000 in
theorem dropYesI (w : World) (t : Nat) (T : Tr Int) (L : List (It Int)) (h : TAtI w t T L) (key k : Int) (d : Nat) (v : Int) (hg : getL key L = some (k, d, v)) (hl : L.length < 4611686018427387904) :
    Calls Try.prog 21 #[.pointer (some ⟨t, 0, none⟩), .int .i64 key] w fun e w' => e = .returned (.tuple #[.int .i64 v, .bool true]) ∧ TurnedI w w' t T (delL key L) := by
  have HC := hide (linkI w t T h.hung key)
  have HH := hide h.hung
  have HT := hide h
  obtain ⟨hk, p, l, r, hf⟩ := find_node h.items h.ris hg
  have HK := hide hk
  have HF := hide hf
  have HD := hide (delL_length h.ris hg)
  obtain ⟨n, hn⟩ : ∃ n, (delL key L).length = n := ⟨_, rfl⟩
  have HN := hide hn
  have hln : L.length = n + 1 := by rw [← hn]; exact HD.out.symm
  have HLN := hide hln
  have hn1 : n < 4611686018427387904 := by omega
  clear h hg hf hk hn HD hln hl
  go_enter Try.func21, Try.ntmps21
  go_wp2_with fail
  refine HC.out.mono ?_
  rintro e w1 ⟨rfl, b, o, F, rfl, hp, hdr⟩
  have hh := hp.hung HH.out
  rw [HF.out] at hh hp hdr
  have HU := hide hh
  have HPA := hide hp
  have HDR := hide hdr
  have c0 : w1.cell? ⟨b, o, none⟩ = some (.pointer (some ⟨p, 0, none⟩)) := hh.lk.cell
  obtain ⟨_, _, g1, g2, _⟩ := nodeI hh.inn.1
  have npt : p ≠ t := by
    rintro rfl
    exact HH.out.out (hp.mem p (.inl rfl))
  have HJ := hide (joinI w1.drew l r b o (hh.joinPre.alike ⟨rfl, rfl, rfl, rfl⟩))
  have C0 : Hid (CellsAre p 3 l.ptr p 4 r.ptr w1.drew) := hide ⟨g1, g2⟩
  have hd1 : ∀ u : Mem (CellsAre p 3 l.ptr p 4 r.ptr), u.w'.cell? ⟨p, 3, none⟩ = some l.ptr := fun u => u.h.1
  have hd2 : ∀ u : Mem (CellsAre p 3 l.ptr p 4 r.ptr), u.w'.cell? ⟨p, 4, none⟩ = some r.ptr := fun u => u.h.2
  have hne : Nonempty (Mem (CellsAre p 3 l.ptr p 4 r.ptr)) := ⟨⟨_, C0.out⟩⟩
  clear hh hp hdr
  go_wp2
  refine region_start (J := CellsAre p 3 l.ptr p 4 r.ptr) (by kernel_rfl) ?_
  refine stretch (fuel := 1) (by kernel_rfl) (fun _ _ _ _ _ h => h) C0.out [0, 1, 2, 3, 4, 5, 6, 7, 8] (by kernel_rfl) ?_
  simp only [List.filterMap_cons, List.filterMap_nil, List.getElem?_toArray, List.getElem?_cons_zero, List.getElem?_cons_succ]
  show wpQuiet _ _ _ _ [_, _, _, _, _, _, _, _, _] _
  repeat (go_big_quiet_step (fail))
  refine wpQuiet_nil ?_
  refine wpAnyJ_writer (i := 9) rfl (by kernel_rfl) (fun K hK => ?_)
  go_simp
  refine HJ.out.mono ?_
  rintro e w2 ⟨rfl, hr2⟩
  have hrj := hr2.left (w := w1) ⟨rfl, rfl, rfl, rfl⟩
  have hnk := Rep.nodeKept HU.out hrj
  obtain ⟨_, _, q1, q2, _⟩ := nodeI (hnk.trans HU.out.inn.1)
  refine hK _ _ ⟨q1, q2⟩ ?_
  clear hK K
  refine wpAnyJ_done (by kernel_rfl) ?_
  have hrt := HPA.out.rep HH.out (Rep.dropped (p := p) (k := k) (d := d) (v := v) hrj)
  rw [show Tr.drop k (Tr.node p k d v l r) = Tr.drop key (Tr.node p k d v l r) from congrArg (fun x => Tr.drop x (Tr.node p k d v l r)) HK.out, ← HDR.out] at hrt
  have hct := Rep.headCell HT.out hrt
  rw [HLN.out] at hct
  have c3 := cell_of_heap (o := 1) hct
  have f3 := frozen_of_heap (o := 1) hct
  have c3' : w2.cell? ⟨t, 1, none⟩ = some (.int .i64 ((n : Int) + 1)) := c3
  have c4 : (w2.setCell ⟨t, 1, none⟩ (.int .i64 (n : Int))).cell? ⟨p, 2, none⟩ = some (.int .i64 v) := cell_of_heap ((heap_setCell_ne npt _).trans (hnk.trans HU.out.inn.1))
  have HE := hide (Rep.turned HT.out hrt (by rw [drop_items _ (by rw [HT.out.items]; exact HT.out.ris), HT.out.items]) (drop_heap _ HT.out.heap (by rw [HT.out.items]; exact HT.out.ris)) (delL_rising HT.out.ris))
  rw [HN.out] at HE
  clear hr2 hrj hrt hct c3 hnk q1 q2
  go_wp2
  go_ret2
  exact ⟨rfl, HE.out⟩

set_option maxHeartbeats 1000000 in
theorem ceilNoneI (w : World) (t : Nat) (T : Tr Int) (L : List (It Int)) (h : TAtI w t T L) (key : Int) (hg : ceilL key L = none) :
    Calls Try.prog 38 #[.pointer (some ⟨t, 0, none⟩), .int .i64 key] w fun e w' => e = .returned (.tuple #[.int .i64 0, .int .i64 0, .bool false]) ∧ Below w.heap.size w w' := by
  have HH := hide h.inn
  have HF := hide (ceil_nil h.items h.ris hg)
  have c0 : w.cell? ⟨t, 0, none⟩ = some (.pointer T.adr) := cell_of_heap h.head
  clear h hg
  go_enter Try.func38, Try.ntmps38
  go_wp2
  go_loopg [7, 8] T.size (fun n x y wr => ∃ (U B : Tr Int), U.size = n ∧ x = .pointer B.adr ∧ y = .pointer U.adr ∧ Alike w wr ∧ T.ceil key .nil = U.ceil key B ∧ U.In shI wr ∧ B.In shI wr)
  case atStart => exact ⟨T, .nil, rfl, rfl, rfl, ⟨rfl, rfl, rfl, rfl⟩, rfl, HH.out, trivial⟩
  case round =>
    clear c0
    obtain ⟨U, B, hn, rfl, rfl, hal, hce, hU, hB⟩ := hrel
    cases U with
    | nil =>
      rw [Tr.adr_nil]
      have hb : B = .nil := by rw [HF.out] at hce; exact hce.symm
      subst hb
      rw [Tr.adr_nil]
      have AA : Aside (Alike w wr) := hal
      clear hU hB hn hal hce HF HH
      go_wp2
      go_region
      all_goals (
        go_wp2
        go_ret3
        exact ⟨rfl, ((Only.alloc (AA.out.only (fun _ => False)) _).drew).below (Nat.le_refl _) (fun _ h => h.elim)⟩)
    | node p k d v l r =>
      rw [Tr.adr_node]
      obtain ⟨d0, _, d1, d2, _⟩ := nodeI hU.1
      by_cases hk : k < key
      · have AA : Aside ((Tr.node p k d v l r).size = gk ∧ Alike w wr ∧ T.ceil key .nil = r.ceil key B ∧ r.In shI wr ∧ B.In shI wr) := ⟨hn, hal, by rw [hce, Tr.ceil, if_pos hk], hU.2.2, hB⟩
        clear hn hal hce hU hB HF HH
        go_wp2
        obtain ⟨hn, a1, a2, a3, a4⟩ := AA.out
        go_roundg r.size
        case measure => simp [Tr.size] at hn; omega
        case rel => exact ⟨r, B, rfl, rfl, rfl, a1, a2, a3, a4⟩
      · have AA : Aside ((Tr.node p k d v l r).size = gk ∧ Alike w wr ∧ T.ceil key .nil = l.ceil key (.node p k d v l r) ∧ l.In shI wr ∧ (Tr.node p k d v l r).In shI wr) := ⟨hn, hal, by rw [hce, Tr.ceil, if_neg hk], hU.2.1, hU⟩
        clear hn hal hce hU hB HF HH
        go_wp2
        go_quiet (fail)
        go_wp2
        obtain ⟨hn, a1, a2, a3, a4⟩ := AA.out
        go_roundg l.size
        case measure => simp [Tr.size] at hn; omega
        case rel => exact ⟨l, .node p k d v l r, rfl, rfl, rfl, a1.trans ⟨rfl, rfl, rfl, rfl⟩, a2, a3.same (fun _ _ => rfl), a4.same (fun _ _ => rfl)⟩

set_option maxHeartbeats 1000000 in
theorem ceilSomeI (w : World) (t : Nat) (T : Tr Int) (L : List (It Int)) (h : TAtI w t T L) (key k0 : Int) (d0 : Nat) (v0 : Int) (hg : ceilL key L = some (k0, d0, v0)) :
    Calls Try.prog 38 #[.pointer (some ⟨t, 0, none⟩), .int .i64 key] w fun e w' => e = .returned (.tuple #[.int .i64 k0, .int .i64 v0, .bool true]) ∧ Below w.heap.size w w' := by
  have HH := hide h.inn
  obtain ⟨p0, l0, r0, hf⟩ := ceil_node h.items h.ris hg
  have HF := hide hf
  have c0 : w.cell? ⟨t, 0, none⟩ = some (.pointer T.adr) := cell_of_heap h.head
  clear h hg hf
  go_enter Try.func38, Try.ntmps38
  go_wp2
  go_loopg [7, 8] T.size (fun n x y wr => ∃ (U B : Tr Int), U.size = n ∧ x = .pointer B.adr ∧ y = .pointer U.adr ∧ Alike w wr ∧ T.ceil key .nil = U.ceil key B ∧ U.In shI wr ∧ B.In shI wr)
  case atStart => exact ⟨T, .nil, rfl, rfl, rfl, ⟨rfl, rfl, rfl, rfl⟩, rfl, HH.out, trivial⟩
  case round =>
    clear c0
    obtain ⟨U, B, hn, rfl, rfl, hal, hce, hU, hB⟩ := hrel
    cases U with
    | nil =>
      rw [Tr.adr_nil]
      have hb : B = .node p0 k0 d0 v0 l0 r0 := by rw [HF.out] at hce; exact hce.symm
      subst hb
      rw [Tr.adr_node]
      obtain ⟨b0, _, _, _, _⟩ := nodeI hB.1
      have b2 : wr.cell? ⟨p0, 2, none⟩ = some (.int .i64 v0) := cell_of_heap hB.1
      have AA : Aside (Alike w wr) := hal
      clear hU hB hn hal hce HF HH
      go_wp2
      go_quiet (fail)
      go_wp2
      go_ret3
      exact ⟨rfl, (AA.out.trans (Alike.drewN wr _)).below _⟩
    | node p k d v l r =>
      rw [Tr.adr_node]
      obtain ⟨d0, _, d1, d2, _⟩ := nodeI hU.1
      by_cases hk : k < key
      · have AA : Aside ((Tr.node p k d v l r).size = gk ∧ Alike w wr ∧ T.ceil key .nil = r.ceil key B ∧ r.In shI wr ∧ B.In shI wr) := ⟨hn, hal, by rw [hce, Tr.ceil, if_pos hk], hU.2.2, hB⟩
        clear hn hal hce hU hB HF HH
        go_wp2
        obtain ⟨hn, a1, a2, a3, a4⟩ := AA.out
        go_roundg r.size
        case measure => simp [Tr.size] at hn; omega
        case rel => exact ⟨r, B, rfl, rfl, rfl, a1, a2, a3, a4⟩
      · have AA : Aside ((Tr.node p k d v l r).size = gk ∧ Alike w wr ∧ T.ceil key .nil = l.ceil key (.node p k d v l r) ∧ l.In shI wr ∧ (Tr.node p k d v l r).In shI wr) := ⟨hn, hal, by rw [hce, Tr.ceil, if_neg hk], hU.2.1, hU⟩
        clear hn hal hce hU hB HF HH
        go_wp2
        go_quiet (fail)
        go_wp2
        obtain ⟨hn, a1, a2, a3, a4⟩ := AA.out
        go_roundg l.size
        case measure => simp [Tr.size] at hn; omega
        case rel => exact ⟨l, .node p k d v l r, rfl, rfl, rfl, a1.trans ⟨rfl, rfl, rfl, rfl⟩, a2, a3.same (fun _ _ => rfl), a4.same (fun _ _ => rfl)⟩
end Go.Proofs.Ytblodflboalbmaa
