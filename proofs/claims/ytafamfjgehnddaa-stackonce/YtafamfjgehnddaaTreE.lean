/- Nodes of values struct{}: above, toward, link, split, join. Printed by tools/gen/tre.py. -/
import Derived.Test.YtafamfjgehnddaaBase
import Derived.Test.YtafamfjgehnddaaTreMem
import Derived.Deep.LoopGhost
import Derived.Handy
namespace Go.Proofs.Ytafamfjgehnddaa
open Go.RowKit

def shE : Sh Unit where
  ty := 170
  blk k d _ a b := #[.int .i64 k, .int .u32 (d : Int), a, b]
  lo := 2
  hi := 3
  ne := by decide
  setL := by intros; rfl
  setR := by intros; rfl
  getL := by intros; rfl
  getR := by intros; rfl

theorem nodeE {w : World} {p : Nat} {k : Int} {d : Nat} {v : Unit} {a b : Value} (h : w.heap[p]? = some (.cells (shE.blk k d v a b) shE.ty (0, 0))) :
    w.cell? ⟨p, 0, none⟩ = some (.int .i64 k) ∧ w.cell? ⟨p, 1, none⟩ = some (.int .u32 (d : Int)) ∧ w.cell? ⟨p, 2, none⟩ = some a ∧ w.cell? ⟨p, 3, none⟩ = some b ∧ ∀ o, w.frozen? ⟨p, o, none⟩ = false :=
  ⟨cell_of_heap h, cell_of_heap h, cell_of_heap h, cell_of_heap h, fun _ => frozen_of_heap h⟩

theorem aboveE (w : World) (p : Nat) (k : Int) (d : Nat) (v : Unit) (a b : Value) (h : w.heap[p]? = some (.cells (shE.blk k d v a b) shE.ty (0, 0))) (key : Int) (draw : Nat) :
    Calls Try.prog 101 #[.pointer (some ⟨p, 0, none⟩), .int .i64 key, .int .u32 (draw : Int)] w fun e w' => e = .returned (.bool (decide (Abv k d key draw))) ∧ w' = w := by
  obtain ⟨c0, c1, _, _, _⟩ := nodeE h
  clear h
  by_cases hd : d = draw
  · subst hd
    have E := hide (show decide (Abv k d key d) = decide (k < key) by apply decide_eq_decide.2; unfold Abv; omega)
    go_enter Try.func101, Try.ntmps101
    go_wp2
    go_ret
    exact ⟨ret_bool E.out.symm, rfl⟩
  · have q : ((d : Int) == (draw : Int)) = false := by rw [beq_eq_false_iff_ne]; omega
    have E := hide (show decide (Abv k d key draw) = decide ((draw : Int) < (d : Int)) by apply decide_eq_decide.2; unfold Abv; omega)
    clear hd
    go_enter Try.func101, Try.ntmps101
    go_wp2
    go_ret
    exact ⟨ret_bool (by rw [E.out]; simp), rfl⟩

theorem towardLE (w : World) (p : Nat) (k : Int) (d : Nat) (v : Unit) (a b : Value) (h : w.heap[p]? = some (.cells (shE.blk k d v a b) shE.ty (0, 0))) (key : Int) (hk : key < k) :
    Calls Try.prog 102 #[.pointer (some ⟨p, 0, none⟩), .int .i64 key] w fun e w' => e = .returned (.pointer (some ⟨p, 2, none⟩)) ∧ w' = w := by
  obtain ⟨c0, c1, _, _, _⟩ := nodeE h
  clear h
  go_enter Try.func102, Try.ntmps102
  go_wp2
  go_ret
  exact ⟨rfl, rfl⟩

theorem towardRE (w : World) (p : Nat) (k : Int) (d : Nat) (v : Unit) (a b : Value) (h : w.heap[p]? = some (.cells (shE.blk k d v a b) shE.ty (0, 0))) (key : Int) (hk : ¬ key < k) :
    Calls Try.prog 102 #[.pointer (some ⟨p, 0, none⟩), .int .i64 key] w fun e w' => e = .returned (.pointer (some ⟨p, 3, none⟩)) ∧ w' = w := by
  obtain ⟨c0, c1, _, _, _⟩ := nodeE h
  clear h
  go_enter Try.func102, Try.ntmps102
  go_wp2
  go_ret
  exact ⟨rfl, rfl⟩

theorem linkE (w : World) (t : Nat) (T : Tr Unit) (h : Hung shE w t 0 T) (key : Int) :
    Calls Try.prog 100 #[.pointer (some ⟨t, 0, none⟩), .int .i64 key] w fun e w' => w' = w ∧ ∃ b o F, e = .returned (.pointer (some ⟨b, o, none⟩)) ∧ Path shE t 0 T b o (T.find key) F ∧ T.drop key = F ((T.find key).drop key) := by
  have HH := hide h
  clear h
  go_enter Try.func100, Try.ntmps100
  go_wp2
  go_loopg [5] T.size (fun n x wr => ∃ b o T' F, T'.size = n ∧ x = .pointer (some ⟨b, o, none⟩) ∧ wr = w ∧ Path shE t 0 T b o T' F ∧ T.find key = T'.find key ∧ T.drop key = F (T'.drop key))
  case atStart => exact ⟨t, 0, T, _, rfl, rfl, rfl, .here, rfl, rfl⟩
  case round =>
    obtain ⟨b, o, T', F, hn, rfl, rfl, hp, hf, hd⟩ := hrel
    have hh := hp.hung HH.out
    cases T' with
    | nil =>
      have c0 : wr.cell? ⟨b, o, none⟩ = some (.pointer none) := hh.lk.cell
      have AA : Aside (Path shE t 0 T b o (T.find key) F ∧ T.drop key = F ((T.find key).drop key)) := ⟨by rw [hf]; exact hp, by rw [hd, hf]; rfl⟩
      clear hh hp hf hd HH hn
      go_wp2
      go_ret
      exact ⟨rfl, b, o, F, rfl, AA.out.1, AA.out.2⟩
    | node p k d v l r =>
      have c0 : wr.cell? ⟨b, o, none⟩ = some (.pointer (some ⟨p, 0, none⟩)) := hh.lk.cell
      obtain ⟨c1, _, _, _, _⟩ := nodeE hh.inn.1
      by_cases hk : k = key
      · subst hk
        have AA : Aside (Path shE t 0 T b o (T.find k) F ∧ T.drop k = F ((T.find k).drop k)) := by
          refine ⟨?_, ?_⟩
          · rw [hf]; simpa [Tr.find] using hp
          · rw [hd, hf]; simp [Tr.find]
        clear hh hp hf hd HH hn
        go_wp2
        go_ret
        exact ⟨rfl, b, o, F, rfl, AA.out.1, AA.out.2⟩
      · have q : (k == key) = false := by rw [beq_eq_false_iff_ne]; exact hk
        by_cases hl : key < k
        · have HC := hide (towardLE wr p k d v l.ptr r.ptr hh.inn.1 key hl)
          have AA : Aside ((Tr.node p k d v l r).size = gk ∧ Path shE t 0 T p 2 l (fun x => F (.node p k d v x r)) ∧ T.find key = l.find key ∧ T.drop key = F (.node p k d v (l.drop key) r)) :=
            ⟨hn, .left hp, by rw [hf]; simp [Tr.find, hk, hl], by rw [hd]; simp [Tr.drop, hk, hl]⟩
          clear hh hp hf hd HH hn hk
          go_wp2_with fail
          refine HC.out.mono ?_
          rintro e w1 ⟨rfl, rfl⟩
          go_wp2
          obtain ⟨hn, a1, a2, a3⟩ := AA.out
          go_roundg l.size
          case measure => simp [Tr.size] at hn; omega
          case rel => exact ⟨p, 2, l, _, rfl, rfl, rfl, a1, a2, a3⟩
        · have HC := hide (towardRE wr p k d v l.ptr r.ptr hh.inn.1 key hl)
          have AA : Aside ((Tr.node p k d v l r).size = gk ∧ Path shE t 0 T p 3 r (fun x => F (.node p k d v l x)) ∧ T.find key = r.find key ∧ T.drop key = F (.node p k d v l (r.drop key))) :=
            ⟨hn, .right hp, by rw [hf]; simp [Tr.find, hk, hl], by rw [hd]; simp [Tr.drop, hk, hl]⟩
          clear hh hp hf hd HH hn hk
          go_wp2_with fail
          refine HC.out.mono ?_
          rintro e w1 ⟨rfl, rfl⟩
          go_wp2
          obtain ⟨hn, a1, a2, a3⟩ := AA.out
          go_roundg r.size
          case measure => simp [Tr.size] at hn; omega
          case rel => exact ⟨p, 3, r, _, rfl, rfl, rfl, a1, a2, a3⟩

theorem splitE (w : World) (T : Tr Unit) (key : Int) (b1 o1 b2 o2 : Nat) (h : SplPre shE w T b1 o1 b2 o2) :
    Calls Try.prog 103 #[T.ptr, .int .i64 key, .pointer (some ⟨b1, o1, none⟩), .pointer (some ⟨b2, o2, none⟩)] w fun e w' => e = .returned (.tuple #[]) ∧ Rep2 shE w w' b1 o1 b2 o2 T.Mem (T.split key).1 (T.split key).2 := by
  have HH := hide h
  clear h
  go_enter Try.func103, Try.ntmps103
  go_wp2
  go_loopg [0, 2, 3] T.size (fun n a l m wr => ∃ U c1 p1 c2 p2, U.size = n ∧ a = .pointer U.adr ∧ l = .pointer (some ⟨c1, p1, none⟩) ∧ m = .pointer (some ⟨c2, p2, none⟩) ∧ SplPre shE wr U c1 p1 c2 p2 ∧
    ∀ w', Rep2 shE wr w' c1 p1 c2 p2 U.Mem (U.split key).1 (U.split key).2 → Rep2 shE w w' b1 o1 b2 o2 T.Mem (T.split key).1 (T.split key).2)
  case atStart => exact ⟨T, b1, o1, b2, o2, rfl, rfl, rfl, rfl, HH.out, fun _ g => g⟩
  case round =>
    obtain ⟨U, c1, p1, c2, p2, hn, rfl, rfl, rfl, hpre, hwand⟩ := hrel
    obtain ⟨u1, lk1⟩ := hpre.lk1
    obtain ⟨u2, lk2⟩ := hpre.lk2
    have k1 := lk1.cell
    have k2 := lk2.cell
    have f1 := lk1.frozen
    have f2 := lk2.frozen
    cases U with
    | nil =>
      rw [Tr.adr_nil]
      have AA : Aside (Rep2 shE w ((wr.setCell ⟨c1, p1, none⟩ (.pointer none)).setCell ⟨c2, p2, none⟩ (.pointer none)) b1 o1 b2 o2 T.Mem (T.split key).1 (T.split key).2) := hwand _ (Rep2.nil wr c1 p1 c2 p2 key)
      have k3 : (wr.setCell ⟨c1, p1, none⟩ (.pointer none)).cell? ⟨c2, p2, none⟩ = some u2 := (lk2.set hpre.ne).cell
      have f3 : (wr.setCell ⟨c1, p1, none⟩ (.pointer none)).frozen? ⟨c2, p2, none⟩ = false := (lk2.set hpre.ne).frozen
      clear hpre hwand lk1 lk2 HH hn
      go_wp2
      refine bodyPost_end (results_none rfl _ _ _) rfl ?_
      exact ⟨rfl, AA.out⟩
    | node p k d v l r =>
      rw [Tr.adr_node]
      obtain ⟨d0, _, _, _, _⟩ := nodeE hpre.inn.1
      have n1 : p ≠ c1 := fun e => hpre.out1 (.inl e.symm)
      have n2 : p ≠ c2 := fun e => hpre.out2 (.inl e.symm)
      by_cases hk : k < key
      · obtain ⟨_, _, _, d3, _⟩ := nodeE ((heap_setCell_ne (o := p1) n1 (.pointer (some ⟨p, 0, none⟩))).trans hpre.inn.1)
        have AA : Aside ((Tr.node p k d v l r).size = gk ∧ SplPre shE (wr.setCell ⟨c1, p1, none⟩ (.pointer (some ⟨p, 0, none⟩))) r p 3 c2 p2 ∧
            ∀ w', Rep2 shE (wr.setCell ⟨c1, p1, none⟩ (.pointer (some ⟨p, 0, none⟩))) w' p 3 c2 p2 r.Mem (r.split key).1 (r.split key).2 → Rep2 shE w w' b1 o1 b2 o2 T.Mem (T.split key).1 (T.split key).2) :=
          ⟨hn, hpre.less, fun w' g => hwand w' (Rep2.less hpre hk g)⟩
        clear hpre hwand lk1 lk2 HH hn n1 n2
        go_wp2
        go_quiet (fail)
        go_wp2
        obtain ⟨hn, a1, a2⟩ := AA.out
        go_roundg r.size
        case measure => simp [Tr.size] at hn; omega
        case rel => exact ⟨r, p, 3, c2, p2, rfl, rfl, rfl, rfl, a1.alike ⟨rfl, rfl, rfl, rfl⟩, fun w' g => a2 w' (g.left ⟨rfl, rfl, rfl, rfl⟩)⟩
      · obtain ⟨_, _, d3, _, _⟩ := nodeE ((heap_setCell_ne (o := p2) n2 (.pointer (some ⟨p, 0, none⟩))).trans hpre.inn.1)
        have AA : Aside ((Tr.node p k d v l r).size = gk ∧ SplPre shE (wr.setCell ⟨c2, p2, none⟩ (.pointer (some ⟨p, 0, none⟩))) l c1 p1 p 2 ∧
            ∀ w', Rep2 shE (wr.setCell ⟨c2, p2, none⟩ (.pointer (some ⟨p, 0, none⟩))) w' c1 p1 p 2 l.Mem (l.split key).1 (l.split key).2 → Rep2 shE w w' b1 o1 b2 o2 T.Mem (T.split key).1 (T.split key).2) :=
          ⟨hn, hpre.more, fun w' g => hwand w' (Rep2.more hpre hk g)⟩
        clear hpre hwand lk1 lk2 HH hn n1 n2
        go_wp2
        go_quiet (fail)
        go_wp2
        obtain ⟨hn, a1, a2⟩ := AA.out
        go_roundg l.size
        case measure => simp [Tr.size] at hn; omega
        case rel => exact ⟨l, c1, p1, p, 2, rfl, rfl, rfl, rfl, a1.alike ⟨rfl, rfl, rfl, rfl⟩, fun w' g => a2 w' (g.left ⟨rfl, rfl, rfl, rfl⟩)⟩

end Go.Proofs.Ytafamfjgehnddaa
