/- The calls of a tree of values struct{}: New, Len, Put, Drop, Get, Ceil. Printed by tools/gen/tre.py. -/
import Derived.Test.YtafamfjgehnddaaTreE
import Derived.Test.YtafamfjgehnddaaTreAt
import Derived.Test.YtafamfjgehnddaaPhase
import Derived.OwnWalk
namespace Go.Proofs.Ytafamfjgehnddaa
open Go.RowKit

abbrev TAtE (w : World) (t : Nat) (T : Tr Unit) (L : List (It Unit)) : Prop := TAt shE 157 w t T L
abbrev TurnedE (w w' : World) (t : Nat) (T : Tr Unit) (L : List (It Unit)) : Prop := Turned shE 157 w w' t T L

theorem newE (w : World) : Calls Try.prog 79 #[] w fun e w' => e = .returned (.pointer (some ⟨w.heap.size, 0, none⟩)) ∧ TAtE w' w.heap.size .nil [] ∧ Below w.heap.size w w' := by
  go_enter Try.func79, Try.ntmps79
  go_wp2
  go_ret
  exact ⟨rfl, ⟨heap_alloc_at _ _, trivial, trivial, fun e => e, rfl, trivial, List.Pairwise.nil⟩, (Only.alloc (Only.refl (fun _ => False) w) _).below (Nat.le_refl _) (fun _ h => h.elim)⟩

theorem putNoE (w : World) (t : Nat) (T : Tr Unit) (L : List (It Unit)) (h : TAtE w t T L) (key : Int) (draw : Nat) (_v : Unit) (i : It Unit) (hg : getL key L = some i) :
    Calls Try.prog 97 #[.pointer (some ⟨t, 0, none⟩), .int .i64 key, .int .u32 (draw : Int), .agg #[]] w fun e w' => e = .returned (.bool false) ∧ Below w.heap.size w w' := by
  have hB : Below w.heap.size w (w.alloc (.cells #[] 141)) := (Below.refl _ w).alloc (Nat.le_refl _) _
  replace h := h.below hB
  have HC := hide (linkE _ t T h.hung key)
  have HH := hide h.hung
  obtain ⟨_, p, l, r, hf⟩ := find_node h.items h.ris hg
  have HF := hide hf
  clear h hg hf
  go_enter Try.func97, Try.ntmps97
  go_wp2_with fail
  generalize (w.alloc (.cells #[] 141)) = w0 at *
  refine HC.out.mono ?_
  rintro e w1 ⟨rfl, b, o, F, rfl, hp, _⟩
  have hh := hp.hung HH.out
  rw [HF.out] at hh
  have c0 : w1.cell? ⟨b, o, none⟩ = some (.pointer (some ⟨p, 0, none⟩)) := hh.lk.cell
  clear hp hh
  go_wp2
  go_ret
  exact ⟨rfl, hB⟩

set_option maxHeartbeats 1000000 in
theorem putYesE (w : World) (t : Nat) (T : Tr Unit) (L : List (It Unit)) (h : TAtE w t T L) (key : Int) (draw : Nat) (v : Unit) (hg : getL key L = none) (hl : L.length < 4611686018427387904) :
    Calls Try.prog 97 #[.pointer (some ⟨t, 0, none⟩), .int .i64 key, .int .u32 (draw : Int), .agg #[]] w fun e w' => e = .returned (.bool true) ∧ TurnedE w w' t T (insL key draw v L) := by
  have hB : Below w.heap.size w (w.alloc (.cells #[] 141)) := (Below.refl _ w).alloc (Nat.le_refl _) _
  replace h := h.below hB
  have HC := hide (linkE _ t T h.hung key)
  have HH := hide h.hung
  have HT := hide h
  have HF := hide (find_nil h.items h.ris hg)
  have HG := hide (getL_none hg)
  clear h hg
  go_enter Try.func97, Try.ntmps97
  go_wp2_with fail
  generalize (w.alloc (.cells #[] 141)) = w0 at *
  refine HC.out.mono ?_
  rintro e w1 ⟨rfl, b, o, F, rfl, hp, _⟩
  have c0 : w1.cell? ⟨b, o, none⟩ = some (.pointer none) := by have := (hp.hung HH.out).lk.cell; rw [HF.out] at this; exact this
  clear hp HC
  go_wp2
  go_loopg [9] T.size (fun n x wr => ∃ b o U F, U.size = n ∧ x = .pointer (some ⟨b, o, none⟩) ∧ w1 = wr ∧ Path shE t 0 T b o U F ∧ ∀ m, T.put m key draw v = F (U.put m key draw v))
  case atStart => exact ⟨t, 0, T, _, rfl, rfl, rfl, .here, fun _ => rfl⟩
  case round =>
    clear c0 HF
    obtain ⟨b, o, U, F, hn, rfl, rfl, hp, hput⟩ := hrel
    have hh := hp.hung HH.out
    cases U with
    | nil =>
      have c0 : w1.cell? ⟨b, o, none⟩ = some (.pointer none) := hh.lk.cell
      have HP : Hid (∀ m, T.put m key draw v = F (.node m key draw v ((Tr.nil : Tr Unit).split key).1 ((Tr.nil : Tr Unit).split key).2)) := hide (fun m => (hput m).trans (by rw [put_at (.inl rfl)]))
      have HU := hide hh
      have HPA := hide hp
      have hbs : b < w1.heap.size := hh.lk.lt
      have c1 : ∀ q, (w1.alloc q).cell? ⟨b, o, none⟩ = some (.pointer (none)) := fun q => ((hh.lk).kept (Below.heap_alloc _ _ _ hbs)).cell
      have HSP := hide (splitE (w1.alloc (.cells (shE.blk key draw v (.pointer none) (.pointer none)) shE.ty (0, 0))).drew (Tr.nil : Tr Unit) key w1.heap.size 2 w1.heap.size 3
        (SplPre.alike (w := w1.alloc (.cells (shE.blk key draw v (.pointer none) (.pointer none)) shE.ty (0, 0))) ⟨hh.inn.same (fun x hx => Below.heap_alloc _ _ _ (hh.inn.lt hx)), hh.own, fun e => Nat.lt_irrefl _ (hh.inn.lt e), fun e => Nat.lt_irrefl _ (hh.inn.lt e), by simp, ⟨_, _, _, heap_alloc_at _ _, rfl⟩, ⟨_, _, _, heap_alloc_at _ _, rfl⟩⟩ ⟨rfl, rfl, rfl, rfl⟩))
      have hd1 : ∀ u : Mem (CellIs b o (.pointer (none))), u.w'.cell? ⟨b, o, none⟩ = some (.pointer (none)) := fun u => u.h
      have hne : Nonempty (Mem (CellIs b o (.pointer (none)))) := ⟨⟨_, c0⟩⟩
      have C1 : Hid (∀ q, CellIs b o (.pointer (none)) (w1.alloc q).drew) := hide (fun q => c1 q)
      clear hh hp hput hn
      go_wp2
      refine region_start (J := CellIs b o (.pointer (none))) (by kernel_rfl) ?_
      refine stretch (fuel := 1) (by kernel_rfl) (fun _ _ _ _ _ h => h) (C1.out _) [0, 1, 2, 3, 4, 5, 6, 7, 8, 9] (by kernel_rfl) ?_
      simp only [List.filterMap_cons, List.filterMap_nil, List.getElem?_toArray, List.getElem?_cons_zero, List.getElem?_cons_succ]
      show wpQuiet _ _ _ _ [_, _, _, _, _, _, _, _, _, _] _
      repeat (go_big_quiet_step (fail))
      refine wpQuiet_nil ?_
      refine wpAnyJ_writer (i := 10) rfl (by kernel_rfl) (fun K hK => ?_)
      go_simp
      refine HSP.out.mono ?_
      rintro e w2 ⟨rfl, hr2⟩
      obtain ⟨hrep, hbk⟩ := Rep.newNode HU.out (hr2.left ⟨rfl, rfl, rfl, rfl⟩)
      have c2 : w2.cell? ⟨b, o, none⟩ = some (.pointer (none)) := (HU.out.lk.kept hbk).cell
      have f2 : w2.frozen? ⟨b, o, none⟩ = false := (HU.out.lk.kept hbk).frozen
      refine hK _ _ c2 ?_
      clear hK K
      refine wpAnyJ_done (by kernel_rfl) ?_
      have hrt := HPA.out.rep HH.out hrep
      rw [← HP.out] at hrt
      have hct := Rep.headCell HT.out hrt
      have c3 := cell_of_heap (o := 1) hct
      have f3 := frozen_of_heap (o := 1) hct
      have c3' : (w2.setCell ⟨b, o, none⟩ (.pointer (some ⟨w1.heap.size, 0, none⟩))).cell? ⟨t, 1, none⟩ = some (.int .i64 (L.length : Int)) := c3
      have HE := hide (Rep.turned HT.out hrt (by rw [put_items _ _ _ _ (by rw [HT.out.items]; exact HT.out.ris) (by rw [HT.out.items]; exact HG.out), HT.out.items]) (put_heap _ _ _ _ HT.out.heap (by rw [HT.out.items]; exact HT.out.ris) (by rw [HT.out.items]; exact HG.out)) (insL_rising HT.out.ris HG.out))
      rw [insL_length] at HE
      clear hr2 hrep hrt hct c3 hbk
      go_wp2
      go_ret
      exact ⟨rfl, Turned.leftBelow (by simpa using HE.out) hB⟩
    | node p k d w l r =>
      have c0 : w1.cell? ⟨b, o, none⟩ = some (.pointer (some ⟨p, 0, none⟩)) := hh.lk.cell
      have HAB := hide (aboveE w1 p k d w l.ptr r.ptr hh.inn.1 key draw)
      by_cases ha : Abv k d key draw
      · have hdec : decide (Abv k d key draw) = true := by simpa using ha
        rw [hdec] at HAB
        by_cases hk : key < k
        · have HC := hide (towardLE w1 p k d w l.ptr r.ptr hh.inn.1 key hk)
          have AA : Aside ((Tr.node p k d w l r).size = gk ∧ Path shE t 0 T p 2 l (fun x => F (.node p k d w x r)) ∧ ∀ m, T.put m key draw v = F (.node p k d w (l.put m key draw v) r)) :=
            ⟨hn, .left hp, fun m => by rw [hput m, Tr.put, if_pos ha, if_pos hk]⟩
          clear hh hp hput HH hn ha hdec HT HG
          go_wp2_with fail
          refine HAB.out.mono ?_
          rintro e w3 ⟨rfl, rfl⟩
          go_wp2_with fail
          refine HC.out.mono ?_
          rintro e w3 ⟨rfl, rfl⟩
          go_wp2
          obtain ⟨hn, a1, a2⟩ := AA.out
          go_roundg l.size
          case measure => simp [Tr.size] at hn; omega
          case rel => exact ⟨p, 2, l, _, rfl, rfl, rfl, a1, a2⟩
        · have HC := hide (towardRE w1 p k d w l.ptr r.ptr hh.inn.1 key hk)
          have AA : Aside ((Tr.node p k d w l r).size = gk ∧ Path shE t 0 T p 3 r (fun x => F (.node p k d w l x)) ∧ ∀ m, T.put m key draw v = F (.node p k d w l (r.put m key draw v))) :=
            ⟨hn, .right hp, fun m => by rw [hput m, Tr.put, if_pos ha, if_neg hk]⟩
          clear hh hp hput HH hn ha hdec HT HG
          go_wp2_with fail
          refine HAB.out.mono ?_
          rintro e w3 ⟨rfl, rfl⟩
          go_wp2_with fail
          refine HC.out.mono ?_
          rintro e w3 ⟨rfl, rfl⟩
          go_wp2
          obtain ⟨hn, a1, a2⟩ := AA.out
          go_roundg r.size
          case measure => simp [Tr.size] at hn; omega
          case rel => exact ⟨p, 3, r, _, rfl, rfl, rfl, a1, a2⟩
      · have hdec : decide (Abv k d key draw) = false := by simpa using ha
        rw [hdec] at HAB
        have HP : Hid (∀ m, T.put m key draw v = F (.node m key draw v ((Tr.node p k d w l r).split key).1 ((Tr.node p k d w l r).split key).2)) := hide (fun m => (hput m).trans (by rw [put_at (.inr ⟨p, k, d, w, l, r, rfl, ha⟩)]))
        have HU := hide hh
        have HPA := hide hp
        have hbs : b < w1.heap.size := hh.lk.lt
        have c1 : ∀ q, (w1.alloc q).cell? ⟨b, o, none⟩ = some (.pointer (some ⟨p, 0, none⟩)) := fun q => ((hh.lk).kept (Below.heap_alloc _ _ _ hbs)).cell
        have HSP := hide (splitE (w1.alloc (.cells (shE.blk key draw v (.pointer none) (.pointer none)) shE.ty (0, 0))).drew (Tr.node p k d w l r) key w1.heap.size 2 w1.heap.size 3
          (SplPre.alike (w := w1.alloc (.cells (shE.blk key draw v (.pointer none) (.pointer none)) shE.ty (0, 0))) ⟨hh.inn.same (fun x hx => Below.heap_alloc _ _ _ (hh.inn.lt hx)), hh.own, fun e => Nat.lt_irrefl _ (hh.inn.lt e), fun e => Nat.lt_irrefl _ (hh.inn.lt e), by simp, ⟨_, _, _, heap_alloc_at _ _, rfl⟩, ⟨_, _, _, heap_alloc_at _ _, rfl⟩⟩ ⟨rfl, rfl, rfl, rfl⟩))
        have hd1 : ∀ u : Mem (CellIs b o (.pointer (some ⟨p, 0, none⟩))), u.w'.cell? ⟨b, o, none⟩ = some (.pointer (some ⟨p, 0, none⟩)) := fun u => u.h
        have hne : Nonempty (Mem (CellIs b o (.pointer (some ⟨p, 0, none⟩)))) := ⟨⟨_, c0⟩⟩
        have C1 : Hid (∀ q, CellIs b o (.pointer (some ⟨p, 0, none⟩)) (w1.alloc q).drew) := hide (fun q => c1 q)
        clear hh hp hput hn
        clear ha hdec
        go_wp2_with fail
        refine HAB.out.mono ?_
        rintro e w3 ⟨rfl, hw⟩
        rw [hw]
        clear hw w3
        go_wp2
        refine region_start (J := CellIs b o (.pointer (some ⟨p, 0, none⟩))) (by kernel_rfl) ?_
        refine stretch (fuel := 1) (by kernel_rfl) (fun _ _ _ _ _ h => h) (C1.out _) [0, 1, 2, 3, 4, 5, 6, 7, 8, 9] (by kernel_rfl) ?_
        simp only [List.filterMap_cons, List.filterMap_nil, List.getElem?_toArray, List.getElem?_cons_zero, List.getElem?_cons_succ]
        show wpQuiet _ _ _ _ [_, _, _, _, _, _, _, _, _, _] _
        repeat (go_big_quiet_step (fail))
        refine wpQuiet_nil ?_
        refine wpAnyJ_writer (i := 10) rfl (by kernel_rfl) (fun K hK => ?_)
        go_simp
        refine HSP.out.mono ?_
        rintro e w2 ⟨rfl, hr2⟩
        obtain ⟨hrep, hbk⟩ := Rep.newNode HU.out (hr2.left ⟨rfl, rfl, rfl, rfl⟩)
        have c2 : w2.cell? ⟨b, o, none⟩ = some (.pointer (some ⟨p, 0, none⟩)) := (HU.out.lk.kept hbk).cell
        have f2 : w2.frozen? ⟨b, o, none⟩ = false := (HU.out.lk.kept hbk).frozen
        refine hK _ _ c2 ?_
        clear hK K
        refine wpAnyJ_done (by kernel_rfl) ?_
        have hrt := HPA.out.rep HH.out hrep
        rw [← HP.out] at hrt
        have hct := Rep.headCell HT.out hrt
        have c3 := cell_of_heap (o := 1) hct
        have f3 := frozen_of_heap (o := 1) hct
        have c3' : (w2.setCell ⟨b, o, none⟩ (.pointer (some ⟨w1.heap.size, 0, none⟩))).cell? ⟨t, 1, none⟩ = some (.int .i64 (L.length : Int)) := c3
        have HE := hide (Rep.turned HT.out hrt (by rw [put_items _ _ _ _ (by rw [HT.out.items]; exact HT.out.ris) (by rw [HT.out.items]; exact HG.out), HT.out.items]) (put_heap _ _ _ _ HT.out.heap (by rw [HT.out.items]; exact HT.out.ris) (by rw [HT.out.items]; exact HG.out)) (insL_rising HT.out.ris HG.out))
        rw [insL_length] at HE
        clear hr2 hrep hrt hct c3 hbk
        go_wp2
        go_ret
        exact ⟨rfl, Turned.leftBelow (by simpa using HE.out) hB⟩
end Go.Proofs.Ytafamfjgehnddaa
