/- The document's example of a stack. A pop's step, a push's, each as one law; a push alone. The law's push: alone, to the first head. A pop's ways, a push's, by what the words are. What lies in a stack, by its words. Who has which page, and what each machine knows of its head: a game of pushes and pops, step by step (mathematics). Rows of numbers in memory, each a thing by itself; which holds one; one put ahead. -/
import Derived.Test.YtafamfjgehnddaaPK
import Derived.WalkSmall
import Derived.Test.YtafamfjgehnddaaPM
namespace Go.Proofs.Ytafamfjgehnddaa
open Go.RowKit

theorem didField0 (a b c d : Value) (w : World) : (Instr.field 50 (.agg #[a, b, c, d]) 0).run Try.prog w = .ok a w := by kernel_rfl
def didV (k at_ o n : Int) : Value := .agg #[.int .i64 k, .int .i64 at_, .int .u64 o, .int .u64 n]

set_option maxRecDepth 100000 in
theorem aw12 : ∃ s0 s1 s2 s3, St.first 108 = s0 ∧ s0.words.length = 108 ∧ s0.words.getD 8 0 = 0 ∧ s0.load 8 = s1 ∧ s1.did = didV 1 8 0 0 ∧ s1.words.length = 108 ∧ s1.put 99 0 = s2 ∧ s2.did = didV 2 99 0 0 ∧ s2.words.length = 108 ∧ s2.words.getD 8 0 = 0 ∧ s2.cas 8 0 4294967300 = s3 ∧ s3.did = didV 3 8 0 4294967300 ∧ s3.words.length = 108 ∧
    lst s3.words 4 1 4 (Tg.page (s3.words.getD 8 0)) = [3] :=
  ⟨_, _, _, _, rfl, by decide, by decide, rfl, by rfl, by decide, rfl, by rfl, by decide, by decide, rfl, by rfl, by decide, by decide⟩

set_option maxHeartbeats 4000000 in
theorem awake12 (w : World) : Calls Try.prog 20 #[] w fun e w' => e = .returned (.bool true) ∧ Below w.heap.size w w' := by
  obtain ⟨s0, s1, s2, s3, e0, l0, x0, e1, d1, l1, e2, d2, l2, x2, e3, d3, l3, el⟩ := aw12
  have hf := didField0
  have e108 : (Lay.words ((4 : Nat) : Int) 1).toNat = 108 := by decide
  have A1 := fun (R : Res) (w0 u : World) (l : Loc R) (ho : Own R w0 u) => @anew R w0 u l ho 4 1 (by decide) [] (by simp) none 0 (fun _ => ⟨rfl, rfl⟩) (fun h => absurd rfl h)
  rw [e108, e0] at A1
  have HA1 := hide A1
  have HPN := hide (fun (u : World) => newPushYes 4 1 8 3 (by decide) (by decide) u)
  have H0 := hide (And.intro l0 x0)
  have E1 := hide e1
  have D1 := hide d1
  have L1 := hide l1
  have E2 := hide e2
  have D2 := hide d2
  have L2 := hide l2
  have X2 := hide x2
  have E3 := hide e3
  have D3 := hide d3
  have L3 := hide l3
  have EL := hide el
  have b1 := heap_alloc_at w (.cells #[.int .i64 4, .int .i64 1] 26)
  have HB1 := hide (grown1 w (.cells #[.int .i64 4, .int .i64 1] 26))
  have HBX := hide b1
  clear e0 l0 x0 e1 d1 l1 e2 d2 l2 x2 e3 d3 l3 el A1 b1 e108
  go_enter Try.func20, Try.ntmps20
  go_wp2
  have O1 := hide (Own.boNew (m := w.heap.size) (o := .cells #[.int .i64 4, .int .i64 1] 26 (0, 0)) Loc.nought (Own.start w) HBX.out (Nat.le_refl _) HB1.out)
  clear HBX HB1
  generalize w.alloc (.cells #[.int .i64 4, .int .i64 1] 26) = w1 at *
  generalize w.heap.size = b at *
  have lb : Loc (Sep (BO b (.cells #[.int .i64 4, .int .i64 1] 26 (0, 0))) Nought) := Loc.bo.sep Loc.nought
  have O2 := hide (O1.out.below lb ((Alike.drewN w1 1).below _))
  have J2 : Hid (BkAt b (.cells #[.int .i64 4, .int .i64 1] 26 (0, 0)) w1.drew) := hide (Own.boAt O2.out)
  have hne : Nonempty (Mem (BkAt b (.cells #[.int .i64 4, .int .i64 1] 26 (0, 0)))) := ⟨⟨_, J2.out⟩⟩
  have U0 : ∀ u : Mem (BkAt b (.cells #[.int .i64 4, .int .i64 1] 26 (0, 0))), u.w'.cell? ⟨b, 0, none⟩ = some (.int .i64 4) := fun u => cell_of_heap u.h
  have U1 : ∀ u : Mem (BkAt b (.cells #[.int .i64 4, .int .i64 1] 26 (0, 0))), u.w'.cell? ⟨b, 1, none⟩ = some (.int .i64 1) := fun u => cell_of_heap u.h
  refine region_start (J := BkAt b (.cells #[.int .i64 4, .int .i64 1] 26 (0, 0))) (by kernel_rfl) ?_
  refine stretch (fuel := 4) (by kernel_rfl) (fun _ _ _ _ _ h => h) J2.out [0, 2] (by kernel_rfl) ?_
  simp only [List.filterMap_cons, List.filterMap_nil, List.getElem?_toArray, List.getElem?_cons_zero, List.getElem?_cons_succ]
  show wpQuiet _ _ _ _ [_, _] _
  repeat (go_big_quiet_step (fail))
  refine wpQuiet_nil ?_
  refine wpAnyJ_writer (i := 1) rfl (by kernel_rfl) (fun K' hK => ?_)
  go_simp
  refine (HA1.out _ _ _ lb O2.out).mono ?_
  rintro e w2 ⟨q, p, r, rfl, o2⟩
  have O3 := hide o2
  refine hK _ _ (Own.bo1 (o2.cast (R' := Sep (Sep (AX q 4 1 p r s0 4 [] 1 [(kOf 0 4, ([] : List Nat).getD 0 0, ())]) Nought) (BO b (.cells #[.int .i64 4, .int .i64 1] 26 (0, 0)))) (by ac_rfl))) ?_
  clear hK K' o2 O1 O2 HA1
  refine wpAnyJ_writer (i := 3) rfl (by kernel_rfl) (fun K' hK => ?_)
  go_simp
  refine (HPN.out _).mono ?_
  rintro e w3 ⟨m, rfl, h1, h2, h3⟩
  have O4 := hide (Own.boNew (Loc.ax.sep lb) O3.out h1 h2 h3)
  refine hK _ _ (Own.bo1 (O4.out.cast (R' := Sep (Sep (BO m (pushO 4 1 8 0 0 3)) (Sep (AX q 4 1 p r s0 4 [] 1 [(kOf 0 4, ([] : List Nat).getD 0 0, ())]) Nought)) (BO b (.cells #[.int .i64 4, .int .i64 1] 26 (0, 0)))) (by ac_rfl))) ?_
  clear hK K' O3 HPN h1 h2 h3
  refine stretch (fuel := 0) (by kernel_rfl) (fun _ _ _ _ _ h => h) (Own.bo1 (O4.out.cast (R' := Sep (Sep (BO m (pushO 4 1 8 0 0 3)) (Sep (AX q 4 1 p r s0 4 [] 1 [(kOf 0 4, ([] : List Nat).getD 0 0, ())]) Nought)) (BO b (.cells #[.int .i64 4, .int .i64 1] 26 (0, 0)))) (by ac_rfl))) [4, 5] (by kernel_rfl) ?_
  simp only [List.filterMap_cons, List.filterMap_nil, List.getElem?_toArray, List.getElem?_cons_zero, List.getElem?_cons_succ]
  show wpQuiet _ _ _ _ [_, _] _
  repeat (go_big_quiet_step (fail))
  refine wpQuiet_nil ?_
  refine wpAnyJ_done (by kernel_rfl) ?_
  clear U0 U1 hne J2
  go_wp2_with fail
  refine (push0 lb 8 O4.out (by rw [H0.out.1]; omega) 0 H0.out.2 s1 E1.out).mono ?_
  rintro e w4 ⟨rfl, o4⟩
  have O5 := hide o4
  clear o4 O4
  rw [D1.out]
  unfold didV
  go_wp2_with fail
  refine (push1 lb 8 O5.out (by rw [L1.out]; omega) (by omega) 99 (by decide) (by rw [L1.out]; omega) 0 (by decide) s2 E2.out).mono ?_
  rintro e w5 ⟨rfl, o5⟩
  have O6 := hide o5
  clear o5 O5
  rw [D2.out]
  unfold didV
  go_wp2_with fail
  refine (push2 lb 8 O6.out (by rw [L2.out]; omega) (by omega) 4294967300 (by decide) (by omega) 3 (by rw [X2.out]; rfl) s3 E3.out).mono ?_
  rintro e w6 ⟨rfl, o6⟩
  have O7 := hide o6
  clear o6 O6
  rw [D3.out]
  unfold didV
  go_wp2_with fail
  have O8 := hide (O7.out.below (Loc.bo.sep (Loc.ax.sep lb)) (grown1 w6 (.cells #[.int .i64 3, .int .i64 8, .int .u64 0, .int .u64 4294967300] 50)))
  clear O7
  generalize w6.alloc (.cells #[.int .i64 3, .int .i64 8, .int .u64 0, .int .u64 4294967300] 50) = w7 at *
  refine (pushDone _ _ _ _ _ _ _ _ (Own.boAt O8.out) true rfl).mono ?_
  rintro e w8 ⟨rfl, rfl⟩
  go_wp2_with fail
  refine (stackList (O8.out.cast BO.swap) 8 (by decide) (by rw [L3.out]; decide) 4 rfl [3] EL.out).mono ?_
  rintro e w9 ⟨v, rfl, hv, b9⟩
  have HV := hide hv
  have HB := hide (O8.out.back.trans (b9.mono O8.out.back.size))
  clear hv b9 O8
  go_wp2_with fail
  have hA := grown1 w9 (.cells #[.int .i64 3] 3)
  have hc := heap_alloc_at w9 (.cells #[.int .i64 3] 3)
  have hW2 : IntsV (w9.alloc (.cells #[.int .i64 3] 3)) (.slice (some ⟨w9.heap.size, 0, none⟩) 1 1) [3] := by
    refine ⟨_, _, rfl, fun _ => ⟨w9.heap.size, rfl, lt_of_heap hc, fun i hi => ?_⟩⟩
    match i, hi with
    | 0, _ => exact cell_of_heap hc
  refine (sameInts _ v _ [3] (HV.out.below hA) hW2 (by decide)).mono ?_
  rintro e w10 ⟨rfl, h10⟩
  have HB10 : Hid (Below w.heap.size w w10) := hide ((HB.out.trans (hA.mono HB.out.size)).trans (h10.below _))
  clear h10 hW2 hc hA
  go_wp2
  go_ret
  exact ⟨rfl, HB10.out⟩
end Go.Proofs.Ytafamfjgehnddaa

namespace Go.Proofs.Ytafamfjgehnddaa
open Go.RowKit

structure PopS where
  g : Int
  was : Nat
  page : Int
  below : Int
structure PushS where
  g : Int
  was : Nat
  page : Int
def popN (P T : Int) (i : Nat) (M : PopS) (s : St) : PopS × St :=
  if M.g = 0 then (if (Lay.page P T 11 (Tg.page (s.words.getD i 0))).2 = true then ⟨1, s.words.getD i 0, Tg.page (s.words.getD i 0), M.below⟩ else ⟨3, s.words.getD i 0, -1, M.below⟩, s.load i)
  else if M.g = 1 then (⟨2, M.was, M.page, nmd (s.words.getD (Lay.page P T 11 M.page).1.toNat 0)⟩, s.load (Lay.page P T 11 M.page).1.toNat)
  else (⟨if s.words.getD i 0 = M.was then 3 else 0, M.was, M.page, M.below⟩, s.cas i M.was (Tg.next M.was M.below).1)
def pushN (P T : Int) (i : Nat) (M : PushS) (s : St) : PushS × St :=
  if M.g = 0 then (⟨1, s.words.getD i 0, M.page⟩, s.load i)
  else if M.g = 1 then (⟨2, M.was, M.page⟩, s.put (Lay.page P T 11 M.page).1.toNat (Tg.page M.was + 1).toNat)
  else (⟨if s.words.getD i 0 = M.was then 3 else 0, M.was, M.page⟩, s.cas i M.was (Tg.next M.was M.page).1)

theorem Tg.next_lt (x : Nat) (p : Int) : (Tg.next x p).1 < 18446744073709551616 := by
  unfold Tg.next Tg.make
  split
  · rename_i h
    exact Tg.head_lt _ _ (Tg.succ_lt _) h.1 h.2
  · simp

section
variable {R : Res} {w0 w : World} {m : Nat} {q : Nat} {P T : Int} {p r : Nat} {s : St} {pg : Nat} {ds : List Nat} {dn : Nat} {L : RL}

theorem popStep (l : Loc R) (M : PopS) (i : Nat) (h : Own (Sep (BO m (popO P T (i : Int) M.g M.was M.page M.below)) (Sep (AX q P T p r s pg ds dn L) R)) w0 w) (hi : i < s.words.length) (hw : M.was < 18446744073709551616) (hg : M.g = 0 ∨ M.g = 1 ∨ M.g = 2) (h1 : M.g = 1 → (Lay.page P T 11 M.page).2 = true) (hl : s.words.length = (Lay.words P T).toNat) :
    Calls Try.prog 12 #[.pointer (some ⟨m, 0, none⟩), .pointer (some ⟨q, 0, none⟩)] w fun e w' => e = .returned (popN P T i M s).2.did ∧ Own (Sep (BO m (popO P T (i : Int) (popN P T i M s).1.g (popN P T i M s).1.was (popN P T i M s).1.page (popN P T i M s).1.below)) (Sep (AX q P T p r (popN P T i M s).2 pg ds dn L) R)) w0 w' := by
  obtain ⟨b, hS⟩ := AX.st (h.cast BO.swap)
  obtain ⟨g, was, page, y⟩ := M
  have hx := getD_lt _ hS.bd i
  rcases hg with e | e | e <;> (simp only at e h1 hw h ⊢; subst e)
  · cases hp : (Lay.page P T 11 (Tg.page (s.words.getD i 0))).2 with
    | true =>
      have e1 : popN P T i ⟨0, was, page, y⟩ s = (⟨1, s.words.getD i 0, Tg.page (s.words.getD i 0), y⟩, s.load i) := by simpa [popN] using hp
      rw [e1]
      exact pop0a l i h hi _ rfl hx _ rfl hp _ rfl
    | false =>
      have e1 : popN P T i ⟨0, was, page, y⟩ s = (⟨3, s.words.getD i 0, -1, y⟩, s.load i) := by simpa [popN] using hp
      rw [e1]
      exact pop0b l i h hi _ rfl hx _ rfl hp _ rfl
  · obtain ⟨q1, q2⟩ := Go.Proofs.Ytafamfjgehnddaa.next_lt (h1 rfl)
    exact pop1 l i h hi _ q2.symm (by rw [hl]; exact q1) _ rfl (getD_lt _ hS.bd _) _ rfl _ rfl
  · exact pop2 l i h hi hw _ rfl (Tg.next_lt _ _) _ rfl _ rfl

theorem pushStep (l : Loc R) (M : PushS) (i : Nat) (h : Own (Sep (BO m (pushO P T (i : Int) M.g M.was M.page)) (Sep (AX q P T p r s pg ds dn L) R)) w0 w) (hi : i < s.words.length) (hw : M.was < 18446744073709551616) (hg : M.g = 0 ∨ M.g = 1 ∨ M.g = 2) (h1 : (Lay.page P T 11 M.page).2 = true) (hl : s.words.length = (Lay.words P T).toNat) :
    Calls Try.prog 10 #[.pointer (some ⟨m, 0, none⟩), .pointer (some ⟨q, 0, none⟩)] w fun e w' => e = .returned (pushN P T i M s).2.did ∧ Own (Sep (BO m (pushO P T (i : Int) (pushN P T i M s).1.g (pushN P T i M s).1.was (pushN P T i M s).1.page)) (Sep (AX q P T p r (pushN P T i M s).2 pg ds dn L) R)) w0 w' := by
  obtain ⟨b, hS⟩ := AX.st (h.cast BO.swap)
  obtain ⟨g, was, page⟩ := M
  rcases hg with e | e | e <;> (simp only at e h1 hw h ⊢; subst e)
  · exact push0 l i h hi _ rfl _ rfl
  · obtain ⟨q1, q2⟩ := Go.Proofs.Ytafamfjgehnddaa.next_lt h1
    have hv : Tg.page was = (((Tg.page was + 1).toNat : Nat) : Int) - 1 := by have := Tg.page_may was; omega
    exact push1 l i h hi hw _ q2.symm (by rw [hl]; exact q1) _ hv _ rfl
  · exact push2 l i h hi hw _ rfl (Tg.next_lt _ _) _ rfl _ rfl
end

/-! ### what the words are behind a step -/
theorem st_load_words (s : St) (i : Nat) : (s.load i).words = s.words := load_words s i
theorem st_put_words (s : St) (i v : Nat) : (s.put i v).words = s.words.set i v := rfl
theorem st_cas_won (s : St) (i o n : Nat) (h : s.words.getD i 0 = o) : (s.cas i o n).words = s.words.set i n ∧ (s.cas i o n).kind = 3 := by unfold St.cas; rw [if_pos h]; exact ⟨rfl, rfl⟩
theorem st_cas_lost (s : St) (i o n : Nat) (h : s.words.getD i 0 ≠ o) : (s.cas i o n).words = s.words ∧ (s.cas i o n).kind = 4 := by unfold St.cas; rw [if_neg h]; exact ⟨set_getD _ _, rfl⟩
theorem getD_set_eq (l : List Nat) (i v : Nat) (h : i < l.length) : (l.set i v).getD i 0 = v := by simp [h]
theorem getD_set_ne (l : List Nat) (i j v : Nat) (h : i ≠ j) : (l.set i v).getD j 0 = l.getD j 0 := by simp [List.getD_eq_getElem?_getD, h]

/-- A push alone, of page y to the head at i. -/
def alone (P T : Int) (i : Nat) (y : Int) (ws : List Nat) : List Nat :=
  (ws.set (Lay.page P T 11 y).1.toNat (Tg.page (ws.getD i 0) + 1).toNat).set i (Tg.next (ws.getD i 0) y).1
theorem alone_len (P T : Int) (i : Nat) (y : Int) (ws : List Nat) : (alone P T i y ws).length = ws.length := by simp [alone]

theorem push_three (P T : Int) (i : Nat) (y : Int) (s : St) (hj : (Lay.page P T 11 y).1.toNat ≠ i) :
    ∃ M1 s1 M2 s2 M3 s3, pushN P T i ⟨0, 0, y⟩ s = (M1, s1) ∧ M1 = ⟨1, s.words.getD i 0, y⟩ ∧ s1.words = s.words ∧ s1.kind = 1 ∧ pushN P T i M1 s1 = (M2, s2) ∧ M2 = ⟨2, s.words.getD i 0, y⟩ ∧ s2.words = s.words.set (Lay.page P T 11 y).1.toNat (Tg.page (s.words.getD i 0) + 1).toNat ∧ s2.kind = 2 ∧
      pushN P T i M2 s2 = (M3, s3) ∧ M3 = ⟨3, s.words.getD i 0, y⟩ ∧ s3.words = alone P T i y s.words ∧ s3.kind = 3 := by
  refine ⟨_, _, _, _, _, _, rfl, rfl, st_load_words s i, rfl, rfl, rfl, ?_, rfl, rfl, ?_, ?_, ?_⟩
  · show (St.put (s.load i) _ _).words = _
    rw [st_put_words, st_load_words]
  all_goals
    have hw : (St.put (s.load i) (Lay.page P T 11 y).1.toNat (Tg.page (s.words.getD i 0) + 1).toNat).words = s.words.set (Lay.page P T 11 y).1.toNat (Tg.page (s.words.getD i 0) + 1).toNat := by rw [st_put_words, st_load_words]
    have hg : (St.put (s.load i) (Lay.page P T 11 y).1.toNat (Tg.page (s.words.getD i 0) + 1).toNat).words.getD i 0 = s.words.getD i 0 := by rw [hw, getD_set_ne _ _ _ _ hj]
  · show (⟨if _ then 3 else 0, _, _⟩ : PushS) = _
    rw [if_pos hg]
  · exact (st_cas_won _ _ _ _ hg).1.trans (by rw [hw]; rfl)
  · exact (st_cas_won _ _ _ _ hg).2
end Go.Proofs.Ytafamfjgehnddaa

namespace Go.Proofs.Ytafamfjgehnddaa
open Go.RowKit

def four {α : Type} (a b c d : α) : Nat → α | 0 => a | 1 => b | 2 => c | _ => d

end Go.Proofs.Ytafamfjgehnddaa

namespace Go.Proofs.Ytafamfjgehnddaa
open Go.RowKit

def popM (P T : Int) (i : Nat) (M : PopS) : Obj := popO P T (i : Int) M.g M.was M.page M.below
def pushM (P T : Int) (i : Nat) (M : PushS) : Obj := pushO P T (i : Int) M.g M.was M.page
def didK (k : Int) (s : St) : Value := .agg #[.int .i64 k, .int .i64 s.place, .int .u64 (s.old : Int), .int .u64 (s.new : Int)]

section
variable {R : Res} {w0 w : World} {m : Nat} {q : Nat} {P T : Int} {p r : Nat} {s : St} {pg : Nat} {ds : List Nat} {dn : Nat} {L : RL}
theorem popE (l : Loc R) {M M' : PopS} {s' : St} {k : Int} {i : Nat} (h : Own (Sep (BO m (popM P T i M)) (Sep (AX q P T p r s pg ds dn L) R)) w0 w) (hN : popN P T i M s = (M', s')) (hk : s'.kind = k) (hi : i < s.words.length) (hw : M.was < 18446744073709551616) (hg : M.g = 0 ∨ M.g = 1 ∨ M.g = 2) (h1 : M.g = 1 → (Lay.page P T 11 M.page).2 = true) (hl : s.words.length = (Lay.words P T).toNat) :
    Calls Try.prog 12 #[.pointer (some ⟨m, 0, none⟩), .pointer (some ⟨q, 0, none⟩)] w fun e w' => e = .returned (didK k s') ∧ Own (Sep (BO m (popM P T i M')) (Sep (AX q P T p r s' pg ds dn L) R)) w0 w' := by
  have := popStep l M i h hi hw hg h1 hl
  rw [hN] at this
  refine this.mono fun e w' ⟨h1, h2⟩ => ⟨h1.trans ?_, h2⟩
  rw [← hk]; rfl
theorem pushE (l : Loc R) {M M' : PushS} {s' : St} {k : Int} {i : Nat} (h : Own (Sep (BO m (pushM P T i M)) (Sep (AX q P T p r s pg ds dn L) R)) w0 w) (hN : pushN P T i M s = (M', s')) (hk : s'.kind = k) (hi : i < s.words.length) (hw : M.was < 18446744073709551616) (hg : M.g = 0 ∨ M.g = 1 ∨ M.g = 2) (h1 : (Lay.page P T 11 M.page).2 = true) (hl : s.words.length = (Lay.words P T).toNat) :
    Calls Try.prog 10 #[.pointer (some ⟨m, 0, none⟩), .pointer (some ⟨q, 0, none⟩)] w fun e w' => e = .returned (didK k s') ∧ Own (Sep (BO m (pushM P T i M')) (Sep (AX q P T p r s' pg ds dn L) R)) w0 w' := by
  have := pushStep l M i h hi hw hg h1 hl
  rw [hN] at this
  refine this.mono fun e w' ⟨h1, h2⟩ => ⟨h1.trans ?_, h2⟩
  rw [← hk]; rfl
end

section
variable (P T : Int) (i : Nat)
theorem pop_load (y : Int) (was : Nat) (pp : Int) (s : St) (x : Nat) (hx : s.words.getD i 0 = x) (pv : Int) (hp : Tg.page x = pv) (hok : (Lay.page P T 11 pv).2 = true) :
    ∃ s', popN P T i ⟨0, was, pp, y⟩ s = (⟨1, x, pv, y⟩, s') ∧ s'.words = s.words ∧ s'.kind = 1 := by
  subst hx hp
  exact ⟨s.load i, by simpa [popN] using hok, st_load_words s i, rfl⟩
theorem pop_none (y : Int) (was : Nat) (pp : Int) (s : St) (x : Nat) (hx : s.words.getD i 0 = x) (pv : Int) (hp : Tg.page x = pv) (hok : (Lay.page P T 11 pv).2 = false) :
    ∃ s', popN P T i ⟨0, was, pp, y⟩ s = (⟨3, x, -1, y⟩, s') ∧ s'.words = s.words ∧ s'.kind = 1 := by
  subst hx hp
  exact ⟨s.load i, by simpa [popN] using hok, st_load_words s i, rfl⟩
theorem pop_link (y : Int) (was : Nat) (pp : Int) (s : St) (j : Nat) (hj : (Lay.page P T 11 pp).1.toNat = j) (v : Nat) (hv : s.words.getD j 0 = v) :
    ∃ s', popN P T i ⟨1, was, pp, y⟩ s = (⟨2, was, pp, nmd v⟩, s') ∧ s'.words = s.words ∧ s'.kind = 1 := by
  subst hj hv
  exact ⟨s.load _, rfl, st_load_words s _, rfl⟩
theorem pop_won (y : Int) (was : Nat) (pp : Int) (s : St) (hw : s.words.getD i 0 = was) (n : Nat) (hn : (Tg.next was y).1 = n) :
    ∃ s', popN P T i ⟨2, was, pp, y⟩ s = (⟨3, was, pp, y⟩, s') ∧ s'.words = s.words.set i n ∧ s'.kind = 3 := by
  subst hn
  refine ⟨_, ?_, (st_cas_won s i was _ hw).1, (st_cas_won s i was _ hw).2⟩
  show ((⟨if _ then 3 else 0, _, _, _⟩ : PopS), _) = _
  rw [if_pos hw]
theorem pop_lost (y : Int) (was : Nat) (pp : Int) (s : St) (hw : s.words.getD i 0 ≠ was) :
    ∃ s', popN P T i ⟨2, was, pp, y⟩ s = (⟨0, was, pp, y⟩, s') ∧ s'.words = s.words ∧ s'.kind = 4 := by
  refine ⟨_, ?_, (st_cas_lost s i was (Tg.next was y).1 hw).1, (st_cas_lost s i was (Tg.next was y).1 hw).2⟩
  show ((⟨if _ then 3 else 0, _, _, _⟩ : PopS), _) = _
  rw [if_neg hw]
theorem push_load (was : Nat) (pp : Int) (s : St) (x : Nat) (hx : s.words.getD i 0 = x) :
    ∃ s', pushN P T i ⟨0, was, pp⟩ s = (⟨1, x, pp⟩, s') ∧ s'.words = s.words ∧ s'.kind = 1 := by
  subst hx
  exact ⟨s.load i, rfl, st_load_words s i, rfl⟩
theorem push_put (was : Nat) (pp : Int) (s : St) (j : Nat) (hj : (Lay.page P T 11 pp).1.toNat = j) (v : Nat) (hv : (Tg.page was + 1).toNat = v) :
    ∃ s', pushN P T i ⟨1, was, pp⟩ s = (⟨2, was, pp⟩, s') ∧ s'.words = s.words.set j v ∧ s'.kind = 2 := by
  subst hj hv
  exact ⟨s.put _ _, rfl, rfl, rfl⟩
theorem push_won (was : Nat) (pp : Int) (s : St) (hw : s.words.getD i 0 = was) (n : Nat) (hn : (Tg.next was pp).1 = n) :
    ∃ s', pushN P T i ⟨2, was, pp⟩ s = (⟨3, was, pp⟩, s') ∧ s'.words = s.words.set i n ∧ s'.kind = 3 := by
  subst hn
  refine ⟨_, ?_, (st_cas_won s i was _ hw).1, (st_cas_won s i was _ hw).2⟩
  show ((⟨if _ then 3 else 0, _, _⟩ : PushS), _) = _
  rw [if_pos hw]
theorem push_lost (was : Nat) (pp : Int) (s : St) (hw : s.words.getD i 0 ≠ was) :
    ∃ s', pushN P T i ⟨2, was, pp⟩ s = (⟨0, was, pp⟩, s') ∧ s'.words = s.words ∧ s'.kind = 4 := by
  refine ⟨_, ?_, (st_cas_lost s i was (Tg.next was pp).1 hw).1, (st_cas_lost s i was (Tg.next was pp).1 hw).2⟩
  show ((⟨if _ then 3 else 0, _, _⟩ : PushS), _) = _
  rw [if_neg hw]
end

/-! ### numbers of heads -/
theorem Tg.next_head (t : Nat) (x y : Int) (ht : t + 1 < 4294967296) (h1 : -1 ≤ x) (h2 : x < 4096) (h3 : -1 ≤ y) (h4 : y < 4096) : (Tg.next (Tg.head t x) y).1 = Tg.head (t + 1) y := by
  unfold Tg.next
  rw [Tg.tag_head t x h1 h2, Tg.make_in _ _ h3 h4]
  show Tg.head (Tg.succ t) y = _
  rw [show Tg.succ t = t + 1 by unfold Tg.succ; omega]
theorem Tg.head_ne {t u : Nat} {x y : Int} (h : t ≠ u) (h1 : -1 ≤ x) (h2 : x < 4096) (h3 : -1 ≤ y) (h4 : y < 4096) : Tg.head t x ≠ Tg.head u y := by
  intro e
  exact h (by rw [← Tg.tag_head t x h1 h2, ← Tg.tag_head u y h3 h4, e])
theorem nmd_of (y : Int) (h1 : -1 ≤ y) (h2 : y < 4096) : nmd (y + 1).toNat = y := by unfold nmd; rw [if_pos (by omega)]; omega
end Go.Proofs.Ytafamfjgehnddaa

namespace Go.Proofs.Ytafamfjgehnddaa
open Go.RowKit

/-- Lists of numbers below n, each once, are no longer than n. -/
theorem pigeon : ∀ (n : Nat) (L : List Int), L.Nodup → (∀ x ∈ L, 0 ≤ x ∧ x < (n : Int)) → L.length ≤ n
  | 0, L, _, h => by
    cases L with
    | nil => simp
    | cons x r => have := h x (by simp); omega
  | n + 1, L, hn, h => by
    by_cases hm : (n : Int) ∈ L
    · have h1 := List.length_erase_of_mem hm
      have h2 := pigeon n (L.erase (n : Int)) (hn.erase _) (fun x hx => by
        have h3 := (hn.mem_erase_iff).1 hx
        have h4 := h x h3.2
        have : x ≠ (n : Int) := h3.1
        omega)
      have h5 : 0 < L.length := List.length_pos_of_mem hm
      omega
    · have := pigeon n L hn (fun x hx => by
        have h4 := h x hx
        have : x ≠ (n : Int) := fun e => hm (e ▸ hx)
        omega)
      omega

/-- Where the word lies that names what lies below page p. -/
def knx (T p : Int) : Nat := (70 + 14 * T + 5 * p).toNat
def top : List Int → Int
  | [] => -1
  | p :: _ => p
def Chain (ws : List Nat) (P T : Int) : List Int → Prop
  | [] => True
  | p :: r => (0 ≤ p ∧ p < P) ∧ ws.getD (knx T p) 0 = (top r + 1).toNat ∧ Chain ws P T r

theorem Chain.bd {ws : List Nat} {P T : Int} : ∀ {L : List Int}, Chain ws P T L → ∀ p ∈ L, 0 ≤ p ∧ p < P
  | [], _, p, hp => by cases hp
  | a :: r, h, p, hp => by
    rcases List.mem_cons.1 hp with rfl | hp
    · exact h.1
    · exact Chain.bd h.2.2 p hp
theorem Chain.top {ws : List Nat} {P T : Int} {L : List Int} (h : Chain ws P T L) (hP : 0 ≤ P) : -1 ≤ Go.Proofs.Ytafamfjgehnddaa.top L ∧ Go.Proofs.Ytafamfjgehnddaa.top L < P := by
  cases L with
  | nil => exact ⟨by show (-1 : Int) ≤ -1; omega, by show (-1 : Int) < P; omega⟩
  | cons a r => exact ⟨by have := h.1.1; show -1 ≤ a; omega, h.1.2⟩
theorem Chain.set {ws : List Nat} {P T : Int} {j v : Nat} : ∀ {L : List Int}, Chain ws P T L → (∀ p ∈ L, j ≠ knx T p) → Chain (ws.set j v) P T L
  | [], _, _ => trivial
  | a :: r, h, hj => ⟨h.1, (getD_set_ne _ _ _ _ (hj a (by simp))).trans h.2.1, Chain.set h.2.2 (fun p hp => hj p (by simp [hp]))⟩
theorem knx_at {P T p : Int} (hm : Lay.may P T = true) (h1 : 0 ≤ p) (h2 : p < P) : (Lay.page P T 11 p).1.toNat = knx T p := by rw [next_in hm h1 h2]; rfl
theorem knx_in {P T p : Int} (hm : Lay.may P T = true) (h1 : 0 ≤ p) (h2 : p < P) : 84 ≤ knx T p ∧ knx T p < (Lay.words P T).toNat := by
  obtain ⟨m1, m2, m3, m4⟩ := Lay.may_iff.1 hm
  have := Lay.maps_bd m1 m2
  rw [Lay.words_in hm]
  unfold knx Lay.total
  omega
theorem knx_ne {P T p y : Int} (hm : Lay.may P T = true) (_h1 : 0 ≤ p) (_h2 : 0 ≤ y) (h : p ≠ y) : knx T p ≠ knx T y := by
  obtain ⟨m1, m2, m3, m4⟩ := Lay.may_iff.1 hm
  unfold knx
  omega
theorem lst_chain {ws : List Nat} {P T : Int} (hm : Lay.may P T = true) : ∀ (n : Nat) (L : List Int), Chain ws P T L → L.length ≤ n → lst ws P T n (Go.Proofs.Ytafamfjgehnddaa.top L) = L
  | 0, L, _, hl => by cases L with
    | nil => rfl
    | cons a r => simp at hl
  | n + 1, [], _, _ => by
    unfold lst
    rw [next_out (.inl (by show (-1 : Int) < 0; omega)), if_neg (by simp)]
  | n + 1, p :: r, h, hl => by
    obtain ⟨m1, m2, m3, m4⟩ := Lay.may_iff.1 hm
    unfold lst
    show (if (Lay.page P T 11 p).2 = true then p :: lst ws P T n (nmd (ws.getD (Lay.page P T 11 p).1.toNat 0)) else []) = p :: r
    rw [if_pos (by rw [next_in hm h.1.1 h.1.2]), knx_at hm h.1.1 h.1.2, h.2.1]
    have hb := h.2.2.top (by omega)
    rw [nmd_of _ hb.1 (by omega), lst_chain hm n r h.2.2 (by simpa using hl)]

/-- The stack at the head i: its tag t, what lies there. -/
structure Stk (P T : Int) (i : Nat) (ws : List Nat) (t : Nat) (L : List Int) : Prop where
  may : Lay.may P T = true
  hi : i < 68
  len : ws.length = (Lay.words P T).toNat
  head : ws.getD i 0 = Tg.head t (Go.Proofs.Ytafamfjgehnddaa.top L)
  chain : Chain ws P T L
  once : L.Nodup
theorem Stk.tops {P T : Int} {i : Nat} {ws : List Nat} {t : Nat} {L : List Int} (h : Stk P T i ws t L) : -1 ≤ top L ∧ top L < P ∧ P ≤ 4096 := by
  obtain ⟨m1, m2, m3, m4⟩ := Lay.may_iff.1 h.may
  have := h.chain.top (by omega)
  omega
theorem Stk.page {P T : Int} {i : Nat} {ws : List Nat} {t : Nat} {L : List Int} (h : Stk P T i ws t L) : Tg.page (ws.getD i 0) = top L := by
  have := h.tops
  rw [h.head, Tg.page_head t _ (by omega) (by omega)]
theorem Stk.list {P T : Int} {i : Nat} {ws : List Nat} {t : Nat} {L : List Int} (h : Stk P T i ws t L) (n : Nat) (hn : P = (n : Int)) : lst ws P T n (Tg.page (ws.getD i 0)) = L := by
  rw [h.page]
  exact lst_chain h.may n L h.chain (pigeon n L h.once (fun x hx => by have := h.chain.bd x hx; omega))
theorem Stk.push {P T : Int} {i : Nat} {ws : List Nat} {t : Nat} {L : List Int} (h : Stk P T i ws t L) {y : Int} (h1 : 0 ≤ y) (h2 : y < P) (hy : y ∉ L) (ht : t + 1 < 4294967296) : Stk P T i (alone P T i y ws) (t + 1) (y :: L) := by
  have hT := h.tops
  have hk := knx_in h.may h1 h2
  have hi := h.hi
  have hw : 90 ≤ (Lay.words P T).toNat := by have := Lay.words_bd h.may; omega
  have hl := h.len
  unfold alone
  rw [h.page, knx_at h.may h1 h2, h.head, Tg.next_head t _ y ht hT.1 (by omega) (by omega) (by omega)]
  refine ⟨h.may, h.hi, by rw [List.length_set, List.length_set]; exact h.len, getD_set_eq _ _ _ (by rw [List.length_set]; omega), ⟨⟨h1, h2⟩, ?_, ?_⟩, List.nodup_cons.2 ⟨hy, h.once⟩⟩
  · rw [getD_set_ne _ _ _ _ (by omega), getD_set_eq _ _ _ (by omega)]
  · refine Chain.set (Chain.set h.chain (fun p hp => ?_)) (fun p hp => ?_)
    · have := h.chain.bd p hp
      exact knx_ne h.may h1 this.1 (fun e => hy (e ▸ hp))
    · have := h.chain.bd p hp
      have := knx_in h.may this.1 this.2
      omega

/-- A pop alone, of a stack where p lies on top. -/
theorem pop_three {P T : Int} {i : Nat} {s : St} {t : Nat} {p : Int} {r : List Int} (h : Stk P T i s.words t (p :: r)) (ht : t + 1 < 4294967296) :
    ∃ s1 s2 s3, popN P T i ⟨0, 0, 0, 0⟩ s = (⟨1, Tg.head t p, p, 0⟩, s1) ∧ popN P T i ⟨1, Tg.head t p, p, 0⟩ s1 = (⟨2, Tg.head t p, p, top r⟩, s2) ∧ popN P T i ⟨2, Tg.head t p, p, top r⟩ s2 = (⟨3, Tg.head t p, p, top r⟩, s3) ∧
      s1.words.length = (Lay.words P T).toNat ∧ s2.words.length = (Lay.words P T).toNat ∧ Stk P T i s3.words (t + 1) r := by
  have hT := h.tops
  have hp := h.chain.1
  have hr := h.chain.2.2.top (P := P) (by omega)
  have hw : 90 ≤ (Lay.words P T).toNat := by have := Lay.words_bd h.may; omega
  have hl := h.len
  have hi := h.hi
  obtain ⟨s1, e1, w1, _⟩ := pop_load P T i 0 0 0 s (Tg.head t p) h.head p (by have := h.page; rw [h.head] at this; exact this) (by rw [next_in h.may hp.1 hp.2])
  obtain ⟨s2, e2, w2, _⟩ := pop_link P T i 0 (Tg.head t p) p s1 _ (knx_at h.may hp.1 hp.2) (top r + 1).toNat (by rw [w1]; exact h.chain.2.1)
  rw [nmd_of _ hr.1 (by omega)] at e2
  obtain ⟨s3, e3, w3, _⟩ := pop_won P T i (top r) (Tg.head t p) p s2 (by rw [w2, w1]; exact h.head) (Tg.head (t + 1) (top r)) (Tg.next_head t p _ ht (by omega) (by omega) hr.1 (by omega))
  refine ⟨s1, s2, s3, e1, e2, e3, by rw [w1]; exact h.len, by rw [w2, w1]; exact h.len, ?_⟩
  rw [w3, w2, w1]
  exact ⟨h.may, h.hi, by rw [List.length_set]; exact h.len, getD_set_eq _ _ _ (by omega), Chain.set h.chain.2.2 (fun q hq => by
    have := h.chain.2.2.bd q hq
    have := knx_in h.may this.1 this.2
    omega), (List.nodup_cons.1 h.once).2⟩
theorem pop_zero {P T : Int} {i : Nat} {s : St} {t : Nat} (h : Stk P T i s.words t []) :
    ∃ s1, popN P T i ⟨0, 0, 0, 0⟩ s = (⟨3, Tg.head t (-1), -1, 0⟩, s1) ∧ s1.words = s.words := by
  obtain ⟨s1, e1, w1, _⟩ := pop_none P T i 0 0 0 s (Tg.head t (-1)) h.head (-1) (by have := h.page; rw [h.head] at this; exact this) (by rw [next_out (.inl (by omega))])
  exact ⟨s1, e1, w1⟩
end Go.Proofs.Ytafamfjgehnddaa

namespace Go.Proofs.Ytafamfjgehnddaa
open Go.RowKit

def sumN : Nat → (Nat → Nat) → Nat
  | 0, _ => 0
  | n + 1, f => f n + sumN n f
theorem sumN_congr {f g : Nat → Nat} : ∀ n, (∀ t, t < n → f t = g t) → sumN n f = sumN n g
  | 0, _ => rfl
  | n + 1, h => by
    show f n + sumN n f = g n + sumN n g
    rw [h n (by omega), sumN_congr n (fun t ht => h t (by omega))]
theorem sumN_upd (f : Nat → Nat) (t x : Nat) : ∀ n, t < n → sumN n (upd f t x) + f t = sumN n f + x
  | n + 1, h => by
    show upd f t x n + sumN n (upd f t x) + f t = f n + sumN n f + x
    by_cases e : t = n
    · subst e
      have e : sumN t (upd f t x) = sumN t f := sumN_congr t (fun j hj => upd_ne f x (show j ≠ t by omega))
      rw [upd_at, e]; omega
    · rw [upd_ne f x (fun q => e q.symm)]
      have := sumN_upd f t x n (by omega); omega
theorem sumN_le {f g : Nat → Nat} : ∀ n, (∀ t, t < n → f t ≤ g t) → sumN n f ≤ sumN n g
  | 0, _ => Nat.le_refl _
  | n + 1, h => by
    show f n + sumN n f ≤ g n + sumN n g
    have h1 := h n (by omega)
    have h2 := sumN_le n (fun t ht => h t (by omega))
    omega
theorem sumN_one {f : Nat → Nat} {t : Nat} : ∀ n, t < n → f t ≤ sumN n f
  | n + 1, h => by
    show f t ≤ f n + sumN n f
    by_cases e : t = n
    · subst e; omega
    · have := sumN_one (f := f) (t := t) n (by omega); omega
theorem sumN_two {f : Nat → Nat} {t u : Nat} (hne : t ≠ u) : ∀ n, t < n → u < n → f t + f u ≤ sumN n f
  | n + 1, h1, h2 => by
    show f t + f u ≤ f n + sumN n f
    by_cases e : t = n
    · subst e
      have := sumN_one (f := f) (t := u) t (by omega); omega
    · by_cases e2 : u = n
      · subst e2
        have := sumN_one (f := f) (t := t) u (by omega); omega
      · have := sumN_two (f := f) hne n (by omega) (by omega); omega
theorem sumN_zero {f : Nat → Nat} : ∀ n, (∀ t, t < n → f t = 0) → sumN n f = 0
  | 0, _ => rfl
  | n + 1, h => by
    show f n + sumN n f = 0
    rw [h n (by omega), sumN_zero n (fun t ht => h t (by omega))]
theorem sumN_bd {f : Nat → Nat} {c : Nat} : ∀ n, (∀ t, t < n → f t ≤ c) → sumN n f ≤ n * c
  | 0, _ => by simp [sumN]
  | n + 1, h => by
    show f n + sumN n f ≤ (n + 1) * c
    have h1 := h n (by omega)
    have h2 := sumN_bd n (fun t ht => h t (by omega))
    rw [Nat.succ_mul]; omega

/-- A thread's machine. -/
inductive Mc where
  | off
  | pop (h : Nat) (M : PopS)
  | push (h : Nat) (M : PushS)
def Mc.holds (p : Int) : Mc → Nat
  | .push _ M => if M.page = p then 1 else 0
  | _ => 0
/-- The game: who has which pages, the machines, the stacks, how often each head was turned, the words. -/
structure GS where
  hv : Nat → List Int
  m : Nat → Mc
  st : Nat → List Int
  tn : Nat → Nat
  ws : List Nat
def hdw (h : Nat) : Nat := 8 + 7 * h
def Seen (G : GS) (h was : Nat) : Prop := was < 18446744073709551616 ∧ Tg.tag was ≤ G.tn h ∧ (Tg.tag was = G.tn h → was = G.ws.getD (hdw h) 0)
def PopIn (P : Int) (G : GS) (h : Nat) (M : PopS) : Prop :=
  h < 3 ∧ M.was < 18446744073709551616 ∧ ((M.g = 0) ∨ (M.g = 1 ∧ Seen G h M.was ∧ Tg.page M.was = M.page ∧ 0 ≤ M.page ∧ M.page < P) ∨
    (M.g = 2 ∧ Seen G h M.was ∧ Tg.page M.was = M.page ∧ 0 ≤ M.page ∧ M.page < P ∧ -1 ≤ M.below ∧ M.below < P ∧ (M.was = G.ws.getD (hdw h) 0 → ∃ r, G.st h = M.page :: r ∧ M.below = top r)))
def PushIn (P T : Int) (G : GS) (h : Nat) (M : PushS) : Prop :=
  h < 3 ∧ M.was < 18446744073709551616 ∧ 0 ≤ M.page ∧ M.page < P ∧ ((M.g = 0) ∨ (M.g = 1 ∧ Seen G h M.was ∧ Tg.page M.was < P) ∨
    (M.g = 2 ∧ Seen G h M.was ∧ Tg.page M.was < P ∧ G.ws.getD (knx T M.page) 0 = (Tg.page M.was + 1).toNat))
def McIn (P T : Int) (G : GS) : Mc → Prop
  | .off => True
  | .pop h M => PopIn P G h M
  | .push h M => PushIn P T G h M
def GS.tot (G : GS) (n : Nat) (p : Int) : Nat :=
  sumN n (fun t => (G.hv t).count p) + sumN n (fun t => (G.m t).holds p) + ((G.st 0).count p + (G.st 1).count p + (G.st 2).count p)
/-- What is left to do: fewer with each step. -/
def stale (G : GS) (h : Nat) (g : Int) (was : Nat) : Nat := if g ≠ 0 ∧ was ≠ G.ws.getD (hdw h) 0 then 3 else 0
def Mc.left (G : GS) : Mc → Nat
  | .off => 0
  | .pop h M => 18 - M.g.toNat + stale G h M.g M.was
  | .push h M => 18 - M.g.toNat + stale G h M.g M.was
def GS.left (G : GS) (n : Nat) : Nat := sumN n (fun t => (G.m t).left G)

structure GOk (n : Nat) (P T : Int) (G : GS) : Prop where
  may : Lay.may P T = true
  pages : ∀ p : Int, G.tot n p = if 0 ≤ p ∧ p < P then 1 else 0
  stk : ∀ h, h < 3 → Stk P T (hdw h) G.ws (G.tn h) (G.st h)
  mc : ∀ t, t < n → McIn P T G (G.m t)
  bd : ∀ i, G.ws.getD i 0 < 18446744073709551616
  next : ∀ p : Int, 0 ≤ p → p < P → (G.ws.getD (knx T p) 0 : Int) ≤ P

theorem hdw_lt {h : Nat} (q : h < 3) : hdw h < 23 ∧ 8 ≤ hdw h := by unfold hdw; omega
theorem hdw_ne {h k : Nat} (q : h ≠ k) : hdw h ≠ hdw k := by unfold hdw; omega
theorem head_tag {n : Nat} {P T : Int} {G : GS} (hG : GOk n P T G) {h : Nat} (hh : h < 3) : Tg.tag (G.ws.getD (hdw h) 0) = G.tn h ∧ Tg.page (G.ws.getD (hdw h) 0) = top (G.st h) := by
  have hs := hG.stk h hh
  have ht := hs.tops
  refine ⟨?_, hs.page⟩
  rw [hs.head, Tg.tag_head _ _ (by omega) (by omega)]
theorem seen_now {n : Nat} {P T : Int} {G : GS} (hG : GOk n P T G) {h : Nat} (hh : h < 3) : Seen G h (G.ws.getD (hdw h) 0) :=
  ⟨hG.bd _, by rw [(head_tag hG hh).1]; exact Nat.le_refl _, fun _ => rfl⟩

/-- One machine is turned, the words stay. -/
theorem GOk.turnM {n : Nat} {P T : Int} {G : GS} (hG : GOk n P T G) (t : Nat) (ht : t < n) (m' : Mc) (hi : McIn P T G m') (hh : ∀ p, m'.holds p = (G.m t).holds p) : GOk n P T { G with m := upd G.m t m' } := by
  refine ⟨hG.may, fun p => ?_, hG.stk, fun u hu => ?_, hG.bd, hG.next⟩
  · have := hG.pages p
    unfold GS.tot at this ⊢
    simp only
    rw [← this]
    have e := sumN_upd (fun t => (G.m t).holds p) t (m'.holds p) n ht
    have e2 : sumN n (fun j => (upd G.m t m' j).holds p) = sumN n (upd (fun t => (G.m t).holds p) t (m'.holds p)) := sumN_congr n (fun j _ => by unfold upd; split <;> rfl)
    have e3 := hh p
    rw [e2]
    omega
  · by_cases e : u = t
    · subst e
      show McIn P T _ (upd G.m u m' u)
      rw [upd_at]
      cases m' <;> exact hi
    · show McIn P T _ (upd G.m t m' u)
      rw [upd_ne _ _ e]
      have := hG.mc u hu
      generalize G.m u = x at *
      cases x <;> exact this
theorem left_ws {G G' : GS} (h : G.ws = G'.ws) : ∀ m : Mc, m.left G = m.left G'
  | .off => rfl
  | .pop k M => by show 18 - M.g.toNat + stale G k M.g M.was = 18 - M.g.toNat + stale G' k M.g M.was; unfold stale; rw [h]
  | .push k M => by show 18 - M.g.toNat + stale G k M.g M.was = 18 - M.g.toNat + stale G' k M.g M.was; unfold stale; rw [h]
theorem left_upd (n : Nat) (G G' : GS) (t : Nat) (ht : t < n) (m' : Mc) (hm : G'.m = upd G.m t m') (hw : G'.ws = G.ws) : G'.left n + (G.m t).left G = G.left n + m'.left G := by
  unfold GS.left
  have e := sumN_upd (fun t => (G.m t).left G) t (m'.left G) n ht
  rw [← e]
  congr 1
  refine sumN_congr n (fun j _ => ?_)
  rw [hm, left_ws hw]
  unfold upd
  split <;> rfl

/-- A head is turned by one that saw it: what others know of it is old. -/
theorem turned_in {n : Nat} {P T : Int} {G : GS} (hG : GOk n P T G) {h : Nat} (hh : h < 3) (L' : List Int) (hv' : Nat → List Int) (m' : Nat → Mc) (ht : G.tn h + 1 < 4294967296) (hL : -1 ≤ top L' ∧ top L' < P) (m : Mc) (hi : McIn P T G m) :
    McIn P T { hv := hv', m := m', st := upd G.st h L', tn := upd G.tn h (G.tn h + 1), ws := G.ws.set (hdw h) (Tg.head (G.tn h + 1) (top L')) } m := by
  have hst := hG.stk h hh
  have hP := hst.tops
  have hl := hst.len
  have hw : 90 ≤ (Lay.words P T).toNat := by have := Lay.words_bd hG.may; omega
  have hx := hdw_lt hh
  have tg : Tg.tag (Tg.head (G.tn h + 1) (top L')) = G.tn h + 1 := Tg.tag_head _ _ (by omega) (by omega)
  have at_ : (G.ws.set (hdw h) (Tg.head (G.tn h + 1) (top L'))).getD (hdw h) 0 = Tg.head (G.tn h + 1) (top L') := getD_set_eq _ _ _ (by omega)
  have ne_ : ∀ j, j ≠ hdw h → (G.ws.set (hdw h) (Tg.head (G.tn h + 1) (top L'))).getD j 0 = G.ws.getD j 0 := fun j hj => getD_set_ne _ _ _ _ (fun e => hj e.symm)
  have sn : ∀ k was, Seen G k was → Seen { hv := hv', m := m', st := upd G.st h L', tn := upd G.tn h (G.tn h + 1), ws := G.ws.set (hdw h) (Tg.head (G.tn h + 1) (top L')) } k was := by
    intro k was ⟨s0, s1, s2⟩
    refine ⟨s0, ?_⟩
    by_cases e : k = h
    · subst e
      simp only [upd_at]
      exact ⟨by omega, fun q => by omega⟩
    · simp only [upd_ne _ _ e]
      refine ⟨s1, fun q => ?_⟩
      rw [ne_ _ (hdw_ne e)]
      exact s2 q
  cases m with
  | off => trivial
  | pop k M =>
    obtain ⟨k3, kw, hg⟩ := hi
    refine ⟨k3, kw, ?_⟩
    rcases hg with g0 | ⟨g1, a, b⟩ | ⟨g2, a, b, c, d, e1, e2, f⟩
    · exact .inl g0
    · exact .inr (.inl ⟨g1, sn _ _ a, b⟩)
    · refine .inr (.inr ⟨g2, sn _ _ a, b, c, d, e1, e2, ?_⟩)
      by_cases e : k = h
      · subst e
        intro q
        exfalso
        rw [at_] at q
        have := a.2.1
        rw [q, tg] at this
        omega
      · simp only [upd_ne _ _ e]
        rw [ne_ _ (hdw_ne e)]
        exact f
  | push k M =>
    obtain ⟨k3, kw, p0, p1, hg⟩ := hi
    refine ⟨k3, kw, p0, p1, ?_⟩
    rcases hg with g0 | ⟨g1, a, b⟩ | ⟨g2, a, b, c⟩
    · exact .inl g0
    · exact .inr (.inl ⟨g1, sn _ _ a, b⟩)
    · have hk := knx_in hG.may p0 p1
      exact .inr (.inr ⟨g2, sn _ _ a, b, by rw [ne_ _ (by omega)]; exact c⟩)

theorem holds_pop {h : Nat} {M : PopS} (p : Int) : (Mc.pop h M).holds p = 0 := rfl
/-- The words a machine's step left, the machine turned: nothing else. -/
def GS.setM (G : GS) (t : Nat) (m' : Mc) : GS := { G with m := upd G.m t m' }
theorem popN_g0 {P T : Int} {i : Nat} {M : PopS} {s : St} (h : M.g = 0) : popN P T i M s = (if (Lay.page P T 11 (Tg.page (s.words.getD i 0))).2 = true then ⟨1, s.words.getD i 0, Tg.page (s.words.getD i 0), M.below⟩ else ⟨3, s.words.getD i 0, -1, M.below⟩, s.load i) := by
  unfold popN; rw [if_pos h]
theorem popN_g1 {P T : Int} {i : Nat} {M : PopS} {s : St} (h : M.g = 1) : popN P T i M s = (⟨2, M.was, M.page, nmd (s.words.getD (Lay.page P T 11 M.page).1.toNat 0)⟩, s.load (Lay.page P T 11 M.page).1.toNat) := by
  unfold popN; rw [if_neg (by rw [h]; decide), if_pos h]
theorem popN_g2 {P T : Int} {i : Nat} {M : PopS} {s : St} (h : M.g = 2) : popN P T i M s = (⟨if s.words.getD i 0 = M.was then 3 else 0, M.was, M.page, M.below⟩, s.cas i M.was (Tg.next M.was M.below).1) := by
  unfold popN; rw [if_neg (by rw [h]; decide), if_neg (by rw [h]; decide)]
theorem pushN_g0 {P T : Int} {i : Nat} {M : PushS} {s : St} (h : M.g = 0) : pushN P T i M s = (⟨1, s.words.getD i 0, M.page⟩, s.load i) := by
  unfold pushN; rw [if_pos h]
theorem pushN_g1 {P T : Int} {i : Nat} {M : PushS} {s : St} (h : M.g = 1) : pushN P T i M s = (⟨2, M.was, M.page⟩, s.put (Lay.page P T 11 M.page).1.toNat (Tg.page M.was + 1).toNat) := by
  unfold pushN; rw [if_neg (by rw [h]; decide), if_pos h]
theorem pushN_g2 {P T : Int} {i : Nat} {M : PushS} {s : St} (h : M.g = 2) : pushN P T i M s = (⟨if s.words.getD i 0 = M.was then 3 else 0, M.was, M.page⟩, s.cas i M.was (Tg.next M.was M.page).1) := by
  unfold pushN; rw [if_neg (by rw [h]; decide), if_neg (by rw [h]; decide)]

/-- What a step of a thread comes to: the machine goes on (fewer steps are left), or is done. -/
structure Stepped (n : Nat) (P T : Int) (G G' : GS) (t h : Nat) (s' : St) (m' : Mc) (hv' : List Int) : Prop where
  ok : GOk n P T G'
  m : G'.m = upd G.m t m'
  hv : G'.hv = upd G.hv t hv'
  ws : G'.ws = s'.words
  left : G'.left n + 1 ≤ G.left n
  turned : (s'.kind = 3 ∧ s'.place = ((hdw h : Nat) : Int) ∧ G'.tn = upd G.tn h (G.tn h + 1)) ∨ (s'.kind ≠ 3 ∧ G'.tn = G.tn)

theorem page_ok {n : Nat} {P T : Int} {G : GS} (hG : GOk n P T G) {h : Nat} (hh : h < 3) : (Lay.page P T 11 (top (G.st h))).2 = decide (0 ≤ top (G.st h)) := by
  have ht := (hG.stk h hh).tops
  by_cases h0 : 0 ≤ top (G.st h)
  · rw [next_in hG.may h0 ht.2.1]; simp [h0]
  · rw [next_out (.inl (by omega))]; simp [h0]
theorem hv_id (G : GS) (t : Nat) : G.hv = upd G.hv t (G.hv t) := (upd_id _ _).symm

/-- A pop loads its head. -/
theorem pop_one {n : Nat} {P T : Int} {G : GS} (hG : GOk n P T G) {t : Nat} (ht : t < n) {h : Nat} {M : PopS} (hm : G.m t = .pop h M) (hg : M.g = 0) {s : St} (hs : s.words = G.ws) :
    ∃ G', Stepped n P T G G' t h (popN P T (hdw h) M s).2 (if (popN P T (hdw h) M s).1.g = 3 then .off else .pop h (popN P T (hdw h) M s).1) (G.hv t) ∧ ((popN P T (hdw h) M s).1.g = 3 → (popN P T (hdw h) M s).1.page = -1) ∧ ((popN P T (hdw h) M s).1.g = 1 ∨ (popN P T (hdw h) M s).1.g = 3) := by
  have hi := hG.mc t ht
  rw [hm] at hi
  obtain ⟨h3, hw, _⟩ := hi
  have hst := hG.stk h h3
  have htp := hst.tops
  obtain ⟨e1, e2⟩ := head_tag hG h3
  rw [popN_g0 hg, hs, e2, page_ok hG h3]
  have hle : (G.m t).left G = 18 := by rw [hm]; show 18 - M.g.toNat + stale G h M.g M.was = 18; unfold stale; rw [hg]; rfl
  by_cases h0 : 0 ≤ top (G.st h)
  · rw [if_pos (by simpa using h0)]
    refine ⟨G.setM t (.pop h ⟨1, G.ws.getD (hdw h) 0, top (G.st h), M.below⟩), ⟨?_, ?_, hv_id G t, ?_, ?_, .inr ⟨by show (1 : Int) ≠ 3; decide, rfl⟩⟩, fun e => absurd e (by show ¬ ((1 : Int) = 3); decide), .inl rfl⟩
    · exact hG.turnM t ht _ ⟨h3, hG.bd _, .inr (.inl ⟨rfl, seen_now hG h3, e2, h0, htp.2.1⟩)⟩ (fun p => by rw [hm]; rfl)
    · show upd G.m t _ = _
      rw [if_neg (by show ¬ ((1 : Int) = 3); decide)]
    · show G.ws = _
      rw [st_load_words, hs]
    · have := left_upd n G (G.setM t (.pop h ⟨1, G.ws.getD (hdw h) 0, top (G.st h), M.below⟩)) t ht (.pop h ⟨1, G.ws.getD (hdw h) 0, top (G.st h), M.below⟩) rfl rfl
      have hl : (Mc.pop h ⟨1, G.ws.getD (hdw h) 0, top (G.st h), M.below⟩).left G = 17 := by
        show 18 - (1 : Int).toNat + stale G h 1 (G.ws.getD (hdw h) 0) = 17
        unfold stale
        rw [if_neg (by simp)]
        rfl
      omega
  · rw [if_neg (by simpa using h0)]
    refine ⟨G.setM t .off, ⟨?_, ?_, hv_id G t, ?_, ?_, .inr ⟨by show (1 : Int) ≠ 3; decide, rfl⟩⟩, fun _ => rfl, .inr rfl⟩
    · exact hG.turnM t ht _ trivial (fun p => by rw [hm]; rfl)
    · show upd G.m t _ = _
      rw [if_pos rfl]
    · show G.ws = _
      rw [st_load_words, hs]
    · have := left_upd n G (G.setM t .off) t ht .off rfl rfl
      have hl : Mc.off.left G = 0 := rfl
      omega

theorem nmd_le {y : Nat} {P : Int} (h : (y : Int) ≤ P) (hP : P ≤ 4096) : -1 ≤ nmd y ∧ nmd y < P ∨ nmd y = -1 ∧ P = 0 ∨ (-1 ≤ nmd y ∧ nmd y < P) := by
  unfold nmd; split <;> omega
/-- A pop loads what lies below. -/
theorem pop_two {n : Nat} {P T : Int} {G : GS} (hG : GOk n P T G) {t : Nat} (ht : t < n) {h : Nat} {M : PopS} (hm : G.m t = .pop h M) (hg : M.g = 1) {s : St} (hs : s.words = G.ws) :
    ∃ G', Stepped n P T G G' t h (popN P T (hdw h) M s).2 (.pop h (popN P T (hdw h) M s).1) (G.hv t) ∧ (popN P T (hdw h) M s).1.g = 2 := by
  have hi := hG.mc t ht
  rw [hm] at hi
  obtain ⟨h3, hw, hc⟩ := hi
  rcases hc with g0 | ⟨_, hsn, hpg, p0, p1⟩ | ⟨g2, _⟩
  · rw [hg] at g0; exact absurd g0 (by decide)
  · have hst := hG.stk h h3
    have htp := hst.tops
    have hk := knx_at hG.may p0 p1
    have hnx := hG.next _ p0 p1
    rw [popN_g1 hg, hs, hk]
    refine ⟨G.setM t (.pop h ⟨2, M.was, M.page, nmd (G.ws.getD (knx T M.page) 0)⟩), ⟨?_, rfl, hv_id G t, ?_, ?_, .inr ⟨by show (1 : Int) ≠ 3; decide, rfl⟩⟩, rfl⟩
    · refine hG.turnM t ht _ ⟨h3, hw, .inr (.inr ⟨rfl, hsn, hpg, p0, p1, ?_, ?_, fun e => ?_⟩)⟩ (fun p => by rw [hm]; rfl)
      · show -1 ≤ nmd _; unfold nmd; split <;> omega
      · show nmd _ < P; unfold nmd; split <;> omega
      · have e2 := (head_tag hG h3).2
        have e' : M.was = G.ws.getD (hdw h) 0 := e
        rw [← e', hpg] at e2
        cases hL : G.st h with
        | nil => rw [hL] at e2; have : M.page = -1 := e2; omega
        | cons x r =>
          rw [hL] at e2
          have ex : M.page = x := e2
          have hch := hst.chain
          rw [hL] at hch
          have hb := hch.2.2.top (P := P) (by omega)
          refine ⟨r, by rw [ex], ?_⟩
          show nmd (G.ws.getD (knx T M.page) 0) = top r
          rw [ex, hch.2.1, nmd_of _ hb.1 (by omega)]
    · show G.ws = _
      rw [st_load_words, hs]
    · have := left_upd n G (G.setM t (.pop h ⟨2, M.was, M.page, nmd (G.ws.getD (knx T M.page) 0)⟩)) t ht (.pop h ⟨2, M.was, M.page, nmd (G.ws.getD (knx T M.page) 0)⟩) rfl rfl
      have hl : (Mc.pop h ⟨2, M.was, M.page, nmd (G.ws.getD (knx T M.page) 0)⟩).left G + 1 = (G.m t).left G := by
        rw [hm]
        show 18 - (2 : Int).toNat + stale G h 2 M.was + 1 = 18 - M.g.toNat + stale G h M.g M.was
        unfold stale
        rw [hg]
        by_cases e : M.was = G.ws.getD (hdw h) 0
        · rw [if_neg (fun q => q.2 e), if_neg (fun q => q.2 e)]; rfl
        · rw [if_pos ⟨by decide, e⟩, if_pos ⟨by decide, e⟩]; rfl
      omega
  · rw [hg] at g2; exact absurd g2 (by decide)

/-- A pop's swap is lost. -/
theorem pop_miss {n : Nat} {P T : Int} {G : GS} (hG : GOk n P T G) {t : Nat} (ht : t < n) {h : Nat} {M : PopS} (hm : G.m t = .pop h M) (hg : M.g = 2) {s : St} (hs : s.words = G.ws) (hne : s.words.getD (hdw h) 0 ≠ M.was) :
    ∃ G', Stepped n P T G G' t h (popN P T (hdw h) M s).2 (.pop h (popN P T (hdw h) M s).1) (G.hv t) ∧ (popN P T (hdw h) M s).1.g = 0 := by
  have hi := hG.mc t ht
  rw [hm] at hi
  obtain ⟨h3, hw, _⟩ := hi
  obtain ⟨q1, q2⟩ := st_cas_lost s (hdw h) M.was (Tg.next M.was M.below).1 hne
  rw [popN_g2 hg, if_neg hne]
  refine ⟨G.setM t (.pop h ⟨0, M.was, M.page, M.below⟩), ⟨?_, rfl, hv_id G t, ?_, ?_, .inr ⟨by rw [q2]; decide, rfl⟩⟩, rfl⟩
  · exact hG.turnM t ht _ ⟨h3, hw, .inl rfl⟩ (fun p => by rw [hm]; rfl)
  · show G.ws = _
    rw [q1, hs]
  · have := left_upd n G (G.setM t (.pop h ⟨0, M.was, M.page, M.below⟩)) t ht (.pop h ⟨0, M.was, M.page, M.below⟩) rfl rfl
    have hl : (Mc.pop h ⟨0, M.was, M.page, M.below⟩).left G = 18 := by
      show 18 - (0 : Int).toNat + stale G h 0 M.was = 18
      unfold stale; simp
    have hl2 : (G.m t).left G = 19 := by
      rw [hm]
      show 18 - M.g.toNat + stale G h M.g M.was = 19
      unfold stale
      rw [hg, if_pos ⟨by decide, fun e => hne (by rw [hs]; exact e.symm)⟩]
      rfl
    omega

/-- A head is turned: what is left of the others. -/
theorem left_turn {n : Nat} (hn : n ≤ 6) {G G' : GS} {t : Nat} (ht : t < n) (hm : G'.m = upd G.m t .off) (hl : 16 ≤ (G.m t).left G) : G'.left n + 1 ≤ G.left n := by
  unfold GS.left
  have h1 : sumN n (fun j => (G'.m j).left G') ≤ sumN n (upd (fun j => (G.m j).left G + 3) t 0) := by
    refine sumN_le n (fun j _ => ?_)
    show (G'.m j).left G' ≤ upd (fun j => (G.m j).left G + 3) t 0 j
    rw [hm]
    unfold upd
    split
    · exact Nat.le_refl _
    · show (G.m j).left G' ≤ (G.m j).left G + 3
      generalize G.m j = mm
      cases mm with
      | off => exact Nat.zero_le _
      | pop k M => show 18 - M.g.toNat + stale G' k M.g M.was ≤ 18 - M.g.toNat + stale G k M.g M.was + 3; unfold stale; split <;> split <;> omega
      | push k M => show 18 - M.g.toNat + stale G' k M.g M.was ≤ 18 - M.g.toNat + stale G k M.g M.was + 3; unfold stale; split <;> split <;> omega
  have h2 := sumN_upd (fun j => (G.m j).left G + 3) t 0 n ht
  have h3 : ∀ m, sumN m (fun j => (G.m j).left G + 3) = sumN m (fun j => (G.m j).left G) + 3 * m := by
    intro m
    induction m with
    | zero => rfl
    | succ m ih => show (G.m m).left G + 3 + sumN m _ = (G.m m).left G + sumN m _ + 3 * (m + 1); rw [ih]; omega
  have h4 := h3 n
  omega

/-- The pages where one is handed over. -/
theorem tot_move {n : Nat} {G G' : GS} {t h : Nat} (ht : t < n) (h3 : h < 3) (m' : Mc) (hv' L' : List Int) (hm : G'.m = upd G.m t m') (hh : G'.hv = upd G.hv t hv') (hs : G'.st = upd G.st h L')
    (p : Int) (hc : hv'.count p + m'.holds p + L'.count p = (G.hv t).count p + (G.m t).holds p + (G.st h).count p) : G'.tot n p = G.tot n p := by
  unfold GS.tot
  have e1 := sumN_upd (fun j => (G.hv j).count p) t (hv'.count p) n ht
  have e2 := sumN_upd (fun j => (G.m j).holds p) t (m'.holds p) n ht
  have f1 : sumN n (fun j => (G'.hv j).count p) = sumN n (upd (fun j => (G.hv j).count p) t (hv'.count p)) := sumN_congr n (fun j _ => by rw [hh]; unfold upd; split <;> rfl)
  have f2 : sumN n (fun j => (G'.m j).holds p) = sumN n (upd (fun j => (G.m j).holds p) t (m'.holds p)) := sumN_congr n (fun j _ => by rw [hm]; unfold upd; split <;> rfl)
  have f3 : (G'.st 0).count p + (G'.st 1).count p + (G'.st 2).count p + (G.st h).count p = (G.st 0).count p + (G.st 1).count p + (G.st 2).count p + L'.count p := by
    rw [hs]
    unfold upd
    match h, h3 with
    | 0, _ => simp; omega
    | 1, _ => simp; omega
    | 2, _ => simp; omega
  omega

theorem cas_won_place (s : St) (i o n : Nat) (h : s.words.getD i 0 = o) : (s.cas i o n).place = (i : Int) := by unfold St.cas; rw [if_pos h]; rfl
theorem next_of_head {t : Nat} {x y : Int} (ht : t + 1 < 4294967296) (h1 : -1 ≤ x) (h2 : x < 4096) (h3 : -1 ≤ y) (h4 : y < 4096) : (Tg.next (Tg.head t x) y).1 = Tg.head (t + 1) y := Tg.next_head t x y ht h1 h2 h3 h4

/-- The stacks behind a turn. -/
theorem stk_turn {n : Nat} {P T : Int} {G : GS} (hG : GOk n P T G) {h : Nat} (h3 : h < 3) (L' : List Int) (hc : Chain G.ws P T L') (hn : L'.Nodup) (_ht : G.tn h + 1 < 4294967296) :
    ∀ k, k < 3 → Stk P T (hdw k) (G.ws.set (hdw h) (Tg.head (G.tn h + 1) (top L'))) (upd G.tn h (G.tn h + 1) k) (upd G.st h L' k) := by
  intro k k3
  have hst := hG.stk k k3
  have hl := hst.len
  have hw : 90 ≤ (Lay.words P T).toNat := by have := Lay.words_bd hG.may; omega
  have hx := hdw_lt h3
  have ch : ∀ L, Chain G.ws P T L → Chain (G.ws.set (hdw h) (Tg.head (G.tn h + 1) (top L'))) P T L := fun L hL => hL.set (fun p hp => by
    have := hL.bd p hp
    have := knx_in hG.may this.1 this.2
    omega)
  by_cases e : k = h
  · subst e
    rw [upd_at, upd_at]
    exact ⟨hG.may, hst.hi, by rw [List.length_set]; exact hl, getD_set_eq _ _ _ (by omega), ch _ hc, hn⟩
  · rw [upd_ne _ _ e, upd_ne _ _ e]
    exact ⟨hG.may, hst.hi, by rw [List.length_set]; exact hl, (getD_set_ne _ _ _ _ (hdw_ne (fun q => e q.symm))).trans hst.head, ch _ hst.chain, hst.once⟩
theorem bd_set {ws : List Nat} (h : ∀ i, ws.getD i 0 < 18446744073709551616) (j x : Nat) (hx : x < 18446744073709551616) : ∀ i, (ws.set j x).getD i 0 < 18446744073709551616 := by
  intro i
  by_cases e : j = i
  · subst e
    by_cases hl : j < ws.length
    · rw [getD_set_eq _ _ _ hl]; exact hx
    · rw [List.getD_eq_getElem?_getD, List.getElem?_eq_none (by rw [List.length_set]; omega)]; decide
  · rw [getD_set_ne _ _ _ _ e]; exact h i

/-- A turn of a head by thread t, which is done. -/
theorem turn_ok {n : Nat} {P T : Int} {G : GS} (hG : GOk n P T G) (t : Nat) (ht : t < n) {h : Nat} (h3 : h < 3) (L' : List Int) (hv' : List Int) (hc : Chain G.ws P T L') (hn : L'.Nodup) (htn : G.tn h + 1 < 4294967296)
    (hcnt : ∀ p : Int, hv'.count p + L'.count p = (G.hv t).count p + (G.m t).holds p + (G.st h).count p) :
    GOk n P T { hv := upd G.hv t hv', m := upd G.m t .off, st := upd G.st h L', tn := upd G.tn h (G.tn h + 1), ws := G.ws.set (hdw h) (Tg.head (G.tn h + 1) (top L')) } := by
  have htp := (hG.stk h h3).tops
  have hP : 0 ≤ P := by have := Lay.may_iff.1 hG.may; omega
  have hL := hc.top hP
  have hx := hdw_lt h3
  refine ⟨hG.may, fun p => ?_, stk_turn hG h3 L' hc hn htn, fun u hu => ?_, bd_set hG.bd _ _ (Tg.head_lt _ _ htn (by omega) (by omega)), fun p p0 pP => ?_⟩
  · rw [← hG.pages p]
    refine tot_move (G := G) ht h3 .off hv' L' rfl rfl rfl p ?_
    have := hcnt p
    show hv'.count p + 0 + L'.count p = _
    omega
  · by_cases e : u = t
    · subst e
      show McIn P T _ (upd G.m u .off u)
      rw [upd_at]; trivial
    · show McIn P T _ (upd G.m t .off u)
      rw [upd_ne _ _ e]
      exact turned_in hG h3 L' _ _ htn hL _ (hG.mc u hu)
  · have hk := knx_in hG.may p0 pP
    show ((G.ws.set (hdw h) _).getD (knx T p) 0 : Int) ≤ P
    rw [getD_set_ne _ _ _ _ (by omega)]
    exact hG.next p p0 pP

/-- A pop's swap is won. -/
theorem pop_win {n : Nat} (hn6 : n ≤ 6) {P T : Int} {G : GS} (hG : GOk n P T G) {t : Nat} (ht : t < n) {h : Nat} {M : PopS} (hm : G.m t = .pop h M) (hg : M.g = 2) {s : St} (hs : s.words = G.ws) (he : s.words.getD (hdw h) 0 = M.was) (htn : G.tn h + 1 < 4294967296) :
    ∃ G', Stepped n P T G G' t h (popN P T (hdw h) M s).2 .off (G.hv t ++ [M.page]) ∧ (popN P T (hdw h) M s).1.g = 3 ∧ (popN P T (hdw h) M s).1.page = M.page ∧ 0 ≤ M.page := by
  have hi := hG.mc t ht
  rw [hm] at hi
  obtain ⟨h3, hw, hc⟩ := hi
  rcases hc with g0 | ⟨g1, _⟩ | ⟨_, hsn, hpg, p0, p1, b0, b1, hb⟩
  · rw [hg] at g0; exact absurd g0 (by decide)
  · rw [hg] at g1; exact absurd g1 (by decide)
  · have hst := hG.stk h h3
    have htp := hst.tops
    have e2 : M.was = G.ws.getD (hdw h) 0 := by rw [← hs]; exact he.symm
    obtain ⟨r, hr, hbt⟩ := hb e2
    have hch := hst.chain
    rw [hr] at hch
    have hno := hst.once
    rw [hr] at hno
    obtain ⟨q1, q2⟩ := st_cas_won s (hdw h) M.was (Tg.next M.was M.below).1 he
    have hnw : (Tg.next M.was M.below).1 = Tg.head (G.tn h + 1) (top r) := by
      rw [e2, hst.head, hbt]
      exact Tg.next_head _ _ _ htn (by omega) (by omega) (by rw [← hbt]; exact b0) (by rw [← hbt]; omega)
    rw [popN_g2 hg, if_pos he]
    refine ⟨_, ⟨turn_ok hG t ht h3 r (G.hv t ++ [M.page]) hch.2.2 (List.nodup_cons.1 hno).2 htn (fun p => ?_), rfl, rfl, ?_, ?_, .inl ⟨q2, cas_won_place s _ _ _ he, rfl⟩⟩, rfl, rfl, p0⟩
    · rw [hr, hm]
      show (G.hv t ++ [M.page]).count p + r.count p = (G.hv t).count p + 0 + (M.page :: r).count p
      rw [List.count_append, List.count_cons, List.count_cons, List.count_nil]
      omega
    · show G.ws.set _ _ = _
      rw [q1, hs, hnw]
    · refine left_turn hn6 ht rfl ?_
      rw [hm]
      show 16 ≤ 18 - M.g.toNat + stale G h M.g M.was
      rw [hg]
      exact Nat.le_add_right 16 _

/-- A push loads its head. -/
theorem push_one {n : Nat} {P T : Int} {G : GS} (hG : GOk n P T G) {t : Nat} (ht : t < n) {h : Nat} {M : PushS} (hm : G.m t = .push h M) (hg : M.g = 0) {s : St} (hs : s.words = G.ws) :
    ∃ G', Stepped n P T G G' t h (pushN P T (hdw h) M s).2 (.push h (pushN P T (hdw h) M s).1) (G.hv t) ∧ (pushN P T (hdw h) M s).1.g = 1 := by
  have hi := hG.mc t ht
  rw [hm] at hi
  obtain ⟨h3, hw, p0, p1, _⟩ := hi
  have htp := (hG.stk h h3).tops
  obtain ⟨e1, e2⟩ := head_tag hG h3
  rw [pushN_g0 hg, hs]
  refine ⟨G.setM t (.push h ⟨1, G.ws.getD (hdw h) 0, M.page⟩), ⟨?_, rfl, hv_id G t, ?_, ?_, .inr ⟨by show (1 : Int) ≠ 3; decide, rfl⟩⟩, rfl⟩
  · exact hG.turnM t ht _ ⟨h3, hG.bd _, p0, p1, .inr (.inl ⟨rfl, seen_now hG h3, by show Tg.page (G.ws.getD (hdw h) 0) < P; rw [e2]; exact htp.2.1⟩)⟩ (fun p => by rw [hm]; rfl)
  · show G.ws = _
    rw [st_load_words, hs]
  · have := left_upd n G (G.setM t (.push h ⟨1, G.ws.getD (hdw h) 0, M.page⟩)) t ht (.push h ⟨1, G.ws.getD (hdw h) 0, M.page⟩) rfl rfl
    have hl : (Mc.push h ⟨1, G.ws.getD (hdw h) 0, M.page⟩).left G = 17 := by
      show 18 - (1 : Int).toNat + stale G h 1 (G.ws.getD (hdw h) 0) = 17
      unfold stale
      rw [if_neg (by simp)]
      rfl
    have hle : (G.m t).left G = 18 := by rw [hm]; show 18 - M.g.toNat + stale G h M.g M.was = 18; unfold stale; rw [hg]; rfl
    omega
/-- A push's swap is lost. -/
theorem push_miss {n : Nat} {P T : Int} {G : GS} (hG : GOk n P T G) {t : Nat} (ht : t < n) {h : Nat} {M : PushS} (hm : G.m t = .push h M) (hg : M.g = 2) {s : St} (hs : s.words = G.ws) (hne : s.words.getD (hdw h) 0 ≠ M.was) :
    ∃ G', Stepped n P T G G' t h (pushN P T (hdw h) M s).2 (.push h (pushN P T (hdw h) M s).1) (G.hv t) ∧ (pushN P T (hdw h) M s).1.g = 0 := by
  have hi := hG.mc t ht
  rw [hm] at hi
  obtain ⟨h3, hw, p0, p1, _⟩ := hi
  obtain ⟨q1, q2⟩ := st_cas_lost s (hdw h) M.was (Tg.next M.was M.page).1 hne
  rw [pushN_g2 hg, if_neg hne]
  refine ⟨G.setM t (.push h ⟨0, M.was, M.page⟩), ⟨?_, rfl, hv_id G t, ?_, ?_, .inr ⟨by rw [q2]; decide, rfl⟩⟩, rfl⟩
  · exact hG.turnM t ht _ ⟨h3, hw, p0, p1, .inl rfl⟩ (fun p => by rw [hm]; rfl)
  · show G.ws = _
    rw [q1, hs]
  · have := left_upd n G (G.setM t (.push h ⟨0, M.was, M.page⟩)) t ht (.push h ⟨0, M.was, M.page⟩) rfl rfl
    have hl : (Mc.push h ⟨0, M.was, M.page⟩).left G = 18 := by
      show 18 - (0 : Int).toNat + stale G h 0 M.was = 18
      unfold stale; simp
    have hl2 : (G.m t).left G = 19 := by
      rw [hm]
      show 18 - M.g.toNat + stale G h M.g M.was = 19
      unfold stale
      rw [hg, if_pos ⟨by decide, fun e => hne (by rw [hs]; exact e.symm)⟩]
      rfl
    omega
/-- A page that a push holds lies in no stack, and no other push holds it. -/
theorem held_alone {n : Nat} {P T : Int} {G : GS} (hG : GOk n P T G) {t : Nat} (ht : t < n) {h : Nat} {M : PushS} (hm : G.m t = .push h M) : (∀ k, k < 3 → M.page ∉ G.st k) ∧ ∀ u k M', u < n → u ≠ t → G.m u = .push k M' → M'.page ≠ M.page := by
  have hp := hG.pages M.page
  unfold GS.tot at hp
  have h1 : 1 ≤ sumN n (fun j => (G.m j).holds M.page) := by
    have := sumN_one (f := fun j => (G.m j).holds M.page) (t := t) n ht
    have e : (G.m t).holds M.page = 1 := by rw [hm]; exact if_pos rfl
    omega
  have hle : (if 0 ≤ M.page ∧ M.page < P then 1 else 0) ≤ 1 := by split <;> omega
  refine ⟨fun k hk hmem => ?_, fun u k M' hu hne hmu e => ?_⟩
  · have hc : 1 ≤ (G.st k).count M.page := List.one_le_count_iff.2 hmem
    match k, hk with
    | 0, _ => omega
    | 1, _ => omega
    | 2, _ => omega
  · have := sumN_two (f := fun j => (G.m j).holds M.page) (t := t) (u := u) (fun q => hne q.symm) n ht hu
    have e1 : (G.m t).holds M.page = 1 := by rw [hm]; exact if_pos rfl
    have e2 : (G.m u).holds M.page = 1 := by rw [hmu]; exact if_pos e
    omega

/-- A machine turned, and the words. -/
def GS.setMW (G : GS) (t : Nat) (m' : Mc) (ws : List Nat) : GS := { G with m := upd G.m t m', ws := ws }
def Mc.h3 : Mc → Prop
  | .off => True
  | .pop k _ => k < 3
  | .push k _ => k < 3
theorem McIn.h3 {P T : Int} {G : GS} : ∀ {m : Mc}, McIn P T G m → m.h3
  | .off, _ => trivial
  | .pop _ _, h => h.1
  | .push _ _, h => h.1
/-- A word below a page is put, by who holds it. -/
theorem push_two {n : Nat} {P T : Int} {G : GS} (hG : GOk n P T G) {t : Nat} (ht : t < n) {h : Nat} {M : PushS} (hm : G.m t = .push h M) (hg : M.g = 1) {s : St} (hs : s.words = G.ws) :
    ∃ G', Stepped n P T G G' t h (pushN P T (hdw h) M s).2 (.push h (pushN P T (hdw h) M s).1) (G.hv t) ∧ (pushN P T (hdw h) M s).1.g = 2 := by
  have hi := hG.mc t ht
  rw [hm] at hi
  obtain ⟨h3, hw, p0, p1, hc⟩ := hi
  rcases hc with g0 | ⟨_, hsn, hpg⟩ | ⟨g2, _⟩
  · rw [hg] at g0; exact absurd g0 (by decide)
  · obtain ⟨al1, al2⟩ := held_alone hG ht hm
    have hk := knx_at hG.may p0 p1
    have hki := knx_in hG.may p0 p1
    have hpm := Tg.page_may M.was
    have hPm := Lay.may_iff.1 hG.may
    rw [pushN_g1 hg, hk]
    have hv : (Tg.page M.was + 1).toNat ≤ 4096 := by omega
    have hdx : ∀ k, k < 3 → (G.ws.set (knx T M.page) (Tg.page M.was + 1).toNat).getD (hdw k) 0 = G.ws.getD (hdw k) 0 := fun k k3 => getD_set_ne _ _ _ _ (by have := hdw_lt k3; omega)
    have hl0 := (hG.stk h h3).len
    have sn : ∀ k was, k < 3 → Seen G k was → Seen (G.setMW t (.push h ⟨2, M.was, M.page⟩) (G.ws.set (knx T M.page) (Tg.page M.was + 1).toNat)) k was := fun k was k3 ⟨s0, s1, s2⟩ => ⟨s0, s1, fun q => by rw [s2 q]; exact (show (G.setMW t (.push h ⟨2, M.was, M.page⟩) (G.ws.set (knx T M.page) (Tg.page M.was + 1).toNat)).ws.getD (hdw k) 0 = _ from hdx k k3).symm⟩
    have lf : ∀ m : Mc, m.h3 → m.left (G.setMW t (.push h ⟨2, M.was, M.page⟩) (G.ws.set (knx T M.page) (Tg.page M.was + 1).toNat)) = m.left G := by
      intro m hm'
      cases m with
      | off => rfl
      | pop k M' =>
        show 18 - M'.g.toNat + stale _ k M'.g M'.was = 18 - M'.g.toNat + stale G k M'.g M'.was
        unfold stale
        rw [show (G.setMW t (.push h ⟨2, M.was, M.page⟩) (G.ws.set (knx T M.page) (Tg.page M.was + 1).toNat)).ws.getD (hdw k) 0 = G.ws.getD (hdw k) 0 from hdx k hm']
      | push k M' =>
        show 18 - M'.g.toNat + stale _ k M'.g M'.was = 18 - M'.g.toNat + stale G k M'.g M'.was
        unfold stale
        rw [show (G.setMW t (.push h ⟨2, M.was, M.page⟩) (G.ws.set (knx T M.page) (Tg.page M.was + 1).toNat)).ws.getD (hdw k) 0 = G.ws.getD (hdw k) 0 from hdx k hm']
    refine ⟨(G.setMW t (.push h ⟨2, M.was, M.page⟩) (G.ws.set (knx T M.page) (Tg.page M.was + 1).toNat)), ⟨⟨hG.may, fun p => ?_, fun k k3 => ?_, fun u hu => ?_, bd_set hG.bd _ _ (by omega), fun p q0 q1 => ?_⟩, rfl, hv_id G t, ?_, ?_, .inr ⟨by show (2 : Int) ≠ 3; decide, rfl⟩⟩, rfl⟩
    · rw [← hG.pages p]
      refine tot_move (G := G) (G' := (G.setMW t (.push h ⟨2, M.was, M.page⟩) (G.ws.set (knx T M.page) (Tg.page M.was + 1).toNat))) ht h3 (.push h ⟨2, M.was, M.page⟩) (G.hv t) (G.st h) rfl (hv_id G t) (upd_id _ _).symm p ?_
      rw [hm]
      rfl
    · have hst := hG.stk k k3
      refine ⟨hG.may, hst.hi, by show (G.ws.set _ _).length = _; rw [List.length_set]; exact hst.len, (hdx k k3).trans hst.head, hst.chain.set (fun q hq => ?_), hst.once⟩
      have hb := hst.chain.bd q hq
      exact knx_ne hG.may p0 hb.1 (fun e => al1 k k3 (by rw [e]; exact hq))
    · by_cases e : u = t
      · subst e
        show McIn P T _ (upd G.m u _ u)
        rw [upd_at]
        exact ⟨h3, hw, p0, p1, .inr (.inr ⟨rfl, sn h _ h3 hsn, hpg, getD_set_eq _ _ _ (by omega)⟩)⟩
      · show McIn P T _ (upd G.m t _ u)
        rw [upd_ne _ _ e]
        have hiu := hG.mc u hu
        cases hmu : G.m u with
        | off => trivial
        | pop k M' =>
          rw [hmu] at hiu
          obtain ⟨k3, kw, hc'⟩ := hiu
          refine ⟨k3, kw, ?_⟩
          rcases hc' with g0 | ⟨g1, a, b⟩ | ⟨g2, a, b, c, d, e1, e2, f⟩
          · exact .inl g0
          · exact .inr (.inl ⟨g1, sn k _ k3 a, b⟩)
          · refine .inr (.inr ⟨g2, sn k _ k3 a, b, c, d, e1, e2, ?_⟩)
            show M'.was = (G.ws.set _ _).getD (hdw k) 0 → _
            rw [hdx k k3]
            exact f
        | push k M' =>
          rw [hmu] at hiu
          obtain ⟨k3, kw, q0, q1, hc'⟩ := hiu
          refine ⟨k3, kw, q0, q1, ?_⟩
          rcases hc' with g0 | ⟨g1, a, b⟩ | ⟨g2, a, b, c⟩
          · exact .inl g0
          · exact .inr (.inl ⟨g1, sn k _ k3 a, b⟩)
          · refine .inr (.inr ⟨g2, sn k _ k3 a, b, ?_⟩)
            show (G.ws.set _ _).getD (knx T M'.page) 0 = _
            rw [getD_set_ne _ _ _ _ (knx_ne hG.may p0 q0 (fun q => al2 u k M' hu e hmu q.symm))]
            exact c
    · show ((G.ws.set (knx T M.page) (Tg.page M.was + 1).toNat).getD (knx T p) 0 : Int) ≤ P
      by_cases e : p = M.page
      · subst e
        rw [getD_set_eq _ _ _ (by omega)]
        omega
      · rw [getD_set_ne _ _ _ _ (knx_ne hG.may p0 q0 (fun q => e q.symm))]
        exact hG.next p q0 q1
    · show G.ws.set _ _ = _
      rw [st_put_words, hs]
    · have f : sumN n (fun j => ((G.setMW t (.push h ⟨2, M.was, M.page⟩) (G.ws.set (knx T M.page) (Tg.page M.was + 1).toNat)).m j).left (G.setMW t (.push h ⟨2, M.was, M.page⟩) (G.ws.set (knx T M.page) (Tg.page M.was + 1).toNat))) + (G.m t).left G = sumN n (fun j => (G.m j).left G) + (Mc.push h ⟨2, M.was, M.page⟩).left G := by
        rw [← sumN_upd (fun j => (G.m j).left G) t ((Mc.push h ⟨2, M.was, M.page⟩).left G) n ht]
        congr 1
        refine sumN_congr n (fun j hj => ?_)
        show (upd G.m t (.push h ⟨2, M.was, M.page⟩) j).left _ = upd (fun j => (G.m j).left G) t _ j
        unfold upd
        split
        · exact lf (.push h ⟨2, M.was, M.page⟩) h3
        · exact lf _ (McIn.h3 (hG.mc j hj))
      have hl : (Mc.push h ⟨2, M.was, M.page⟩).left G + 1 = (G.m t).left G := by
        rw [hm]
        show 18 - (2 : Int).toNat + stale G h 2 M.was + 1 = 18 - M.g.toNat + stale G h M.g M.was
        unfold stale
        rw [hg]
        by_cases e : M.was = G.ws.getD (hdw h) 0
        · rw [if_neg (fun q => q.2 e), if_neg (fun q => q.2 e)]; rfl
        · rw [if_pos ⟨by decide, e⟩, if_pos ⟨by decide, e⟩]; rfl
      show sumN n (fun j => ((G.setMW t (.push h ⟨2, M.was, M.page⟩) (G.ws.set (knx T M.page) (Tg.page M.was + 1).toNat)).m j).left (G.setMW t (.push h ⟨2, M.was, M.page⟩) (G.ws.set (knx T M.page) (Tg.page M.was + 1).toNat))) + 1 ≤ sumN n (fun j => (G.m j).left G)
      omega
  · rw [hg] at g2; exact absurd g2 (by decide)

/-- A push's swap is won. -/
theorem push_win {n : Nat} (hn6 : n ≤ 6) {P T : Int} {G : GS} (hG : GOk n P T G) {t : Nat} (ht : t < n) {h : Nat} {M : PushS} (hm : G.m t = .push h M) (hg : M.g = 2) {s : St} (hs : s.words = G.ws) (he : s.words.getD (hdw h) 0 = M.was) (htn : G.tn h + 1 < 4294967296) :
    ∃ G', Stepped n P T G G' t h (pushN P T (hdw h) M s).2 .off (G.hv t) ∧ (pushN P T (hdw h) M s).1.g = 3 := by
  have hi := hG.mc t ht
  rw [hm] at hi
  obtain ⟨h3, hw, p0, p1, hc⟩ := hi
  rcases hc with g0 | ⟨g1, _⟩ | ⟨_, hsn, hpg, hkw⟩
  · rw [hg] at g0; exact absurd g0 (by decide)
  · rw [hg] at g1; exact absurd g1 (by decide)
  · obtain ⟨al1, _⟩ := held_alone hG ht hm
    have hst := hG.stk h h3
    have htp := hst.tops
    have e2 : M.was = G.ws.getD (hdw h) 0 := by rw [← hs]; exact he.symm
    have ept : Tg.page M.was = top (G.st h) := by rw [e2]; exact (head_tag hG h3).2
    obtain ⟨q1, q2⟩ := st_cas_won s (hdw h) M.was (Tg.next M.was M.page).1 he
    have hnw : (Tg.next M.was M.page).1 = Tg.head (G.tn h + 1) (top (M.page :: G.st h)) := by
      rw [e2, hst.head]
      exact Tg.next_head _ _ _ htn (by omega) (by omega) (by omega) (by omega)
    rw [pushN_g2 hg, if_pos he]
    refine ⟨_, ⟨turn_ok hG t ht h3 (M.page :: G.st h) (G.hv t) ⟨⟨p0, p1⟩, by rw [hkw, ept], hst.chain⟩ (List.nodup_cons.2 ⟨al1 h h3, hst.once⟩) htn (fun p => ?_), rfl, rfl, ?_, ?_, .inl ⟨q2, cas_won_place s _ _ _ he, rfl⟩⟩, rfl⟩
    · rw [hm]
      show (G.hv t).count p + (M.page :: G.st h).count p = (G.hv t).count p + (if M.page = p then 1 else 0) + (G.st h).count p
      rw [List.count_cons]
      by_cases e : M.page = p <;> simp [e] <;> omega
    · show G.ws.set _ _ = _
      rw [q1, hs, hnw]
    · refine left_turn hn6 ht ?_ ?_
      · rfl
      · rw [hm]
        show 16 ≤ 18 - M.g.toNat + stale G h M.g M.was
        rw [hg]
        exact Nat.le_add_right 16 _

/-- A pop begins. -/
theorem begin_pop {n : Nat} {P T : Int} {G : GS} (hG : GOk n P T G) {t : Nat} (ht : t < n) (hm : G.m t = .off) {h : Nat} (h3 : h < 3) : GOk n P T (G.setM t (.pop h ⟨0, 0, 0, 0⟩)) :=
  hG.turnM t ht _ ⟨h3, by decide, .inl rfl⟩ (fun p => by rw [hm]; rfl)
/-- A push begins: the last of the thread's pages. -/
theorem begin_push {n : Nat} {P T : Int} {G : GS} (hG : GOk n P T G) {t : Nat} (ht : t < n) (hm : G.m t = .off) {h : Nat} (h3 : h < 3) {l : List Int} {p : Int} (hl : G.hv t = l ++ [p]) :
    GOk n P T { G with hv := upd G.hv t l, m := upd G.m t (.push h ⟨0, 0, p⟩) } ∧ 0 ≤ p ∧ p < P := by
  have hp : 0 ≤ p ∧ p < P := by
    have hh := hG.pages p
    unfold GS.tot at hh
    have h1 := sumN_one (f := fun j => (G.hv j).count p) (t := t) n ht
    have h2 : 1 ≤ (G.hv t).count p := by rw [hl]; exact List.one_le_count_iff.2 (by simp)
    by_cases e : 0 ≤ p ∧ p < P
    · exact e
    · rw [if_neg e] at hh; omega
  refine ⟨⟨hG.may, fun q => ?_, hG.stk, fun u hu => ?_, hG.bd, hG.next⟩, hp⟩
  · rw [← hG.pages q]
    refine tot_move (G := G) (G' := { G with hv := upd G.hv t l, m := upd G.m t (.push h ⟨0, 0, p⟩) }) ht h3 (.push h ⟨0, 0, p⟩) l (G.st h) rfl rfl (upd_id _ _).symm q ?_
    rw [hl, hm]
    show l.count q + (if p = q then 1 else 0) + _ = (l ++ [p]).count q + 0 + _
    rw [List.count_append, List.count_cons, List.count_nil]
    by_cases e : p = q <;> simp [e]
  · by_cases e : u = t
    · subst e
      show McIn P T _ (upd G.m u _ u)
      rw [upd_at]
      exact ⟨h3, by show 0 < 18446744073709551616; decide, hp.1, hp.2, .inl rfl⟩
    · show McIn P T _ (upd G.m t _ u)
      rw [upd_ne _ _ e]
      have := hG.mc u hu
      generalize G.m u = x at *
      cases x <;> exact this

/-- The pages below m, dealt out in turns. -/
def dealt (n : Nat) : Nat → Nat → List Int
  | 0 => fun _ => []
  | m + 1 => upd (dealt n m) (m % n) (dealt n m (m % n) ++ [(m : Int)])
theorem dealt_count {n : Nat} (hn : 0 < n) (p : Int) : ∀ m, sumN n (fun t => (dealt n m t).count p) = if 0 ≤ p ∧ p < (m : Int) then 1 else 0
  | 0 => by
    rw [if_neg (by omega)]
    exact sumN_zero n (fun t _ => rfl)
  | m + 1 => by
    have h1 := sumN_upd (fun t => (dealt n m t).count p) (m % n) ((dealt n m (m % n) ++ [(m : Int)]).count p) n (Nat.mod_lt _ hn)
    have h2 : sumN n (fun t => (dealt n (m + 1) t).count p) = sumN n (upd (fun t => (dealt n m t).count p) (m % n) ((dealt n m (m % n) ++ [(m : Int)]).count p)) := sumN_congr n (fun j _ => by show List.count p (upd (dealt n m) (m % n) (dealt n m (m % n) ++ [(m : Int)]) j) = _; unfold upd; split <;> rfl)
    have h3 : (dealt n m (m % n) ++ [(m : Int)]).count p = (dealt n m (m % n)).count p + if (m : Int) = p then 1 else 0 := by
      rw [List.count_append, List.count_cons, List.count_nil]
      by_cases e : (m : Int) = p <;> simp [e]
    have ih := dealt_count hn p m
    rw [h2]
    rw [h3] at h1
    rw [ih] at h1
    by_cases e : (m : Int) = p
    · rw [if_pos e, if_neg (by omega)] at h1
      rw [if_pos (by omega)]
      rw [h3, if_pos e]
      omega
    · rw [if_neg e] at h1
      rw [h3, if_neg e]
      by_cases e2 : 0 ≤ p ∧ p < (m : Int)
      · rw [if_pos e2] at h1; rw [if_pos (by omega)]; omega
      · rw [if_neg e2] at h1; rw [if_neg (by omega)]; omega
theorem dealt_len (n : Nat) : ∀ m t, (dealt n m t).length ≤ m
  | 0, _ => Nat.le_refl _
  | m + 1, t => by
    show (upd (dealt n m) (m % n) _ t).length ≤ m + 1
    have := dealt_len n m
    unfold upd
    split
    · rw [List.length_append]; have := this (m % n); simp; omega
    · have := this t; omega

/-- The game at its start. -/
theorem start_ok {n P : Nat} {T : Int} (hn : 0 < n) (hm : Lay.may (P : Int) T = true) : GOk n (P : Int) T ⟨dealt n P, fun _ => .off, fun _ => [], fun _ => 0, (St.first (Lay.words (P : Int) T).toNat).words⟩ := by
  obtain ⟨m1, m2, m3, m4⟩ := Lay.may_iff.1 hm
  have hw := Lay.words_bd hm
  have hf : ∀ i, 1 ≤ i → (St.first (Lay.words (P : Int) T).toNat).words.getD i 0 = 0 := fun i h => St.first_last _ _ h
  refine ⟨hm, fun p => ?_, fun h h3 => ?_, fun t _ => trivial, fun i => ?_, fun p p0 pP => ?_⟩
  · unfold GS.tot
    have e : sumN n (fun t => Mc.holds p ((fun _ => Mc.off : Nat → Mc) t)) = 0 := sumN_zero n (fun t _ => rfl)
    show sumN n (fun t => (dealt n P t).count p) + sumN n (fun t => Mc.holds p ((fun _ => Mc.off : Nat → Mc) t)) + (0 + 0 + 0) = _
    rw [e, dealt_count hn]
    simp only [Nat.add_zero]
  · have := hdw_lt h3
    exact ⟨hm, by omega, St.first_len _, (hf _ (by omega)).trans (by show 0 = Tg.head 0 (-1); decide), trivial, List.nodup_nil⟩
  · by_cases e : 1 ≤ i
    · show (St.first _).words.getD i 0 < _; rw [hf i e]; decide
    · have : i = 0 := by omega
      subst this
      show (St.first _).words.getD 0 0 < _
      rw [St.first_zero _ (by omega)]; decide
  · have := knx_in hm p0 pP
    show ((St.first _).words.getD (knx T p) 0 : Int) ≤ _
    rw [hf _ (by omega)]
    omega
/-- What is left is little. -/
theorem left_most {n : Nat} (hn : n ≤ 6) (G : GS) : G.left n ≤ 126 := by
  have : G.left n ≤ n * 21 := by
    refine sumN_bd n (fun t _ => ?_)
    generalize G.m t = m
    cases m with
    | off => exact Nat.zero_le _
    | pop k M => show 18 - M.g.toNat + stale G k M.g M.was ≤ 21; unfold stale; split <;> omega
    | push k M => show 18 - M.g.toNat + stale G k M.g M.was ≤ 21; unfold stale; split <;> omega
  omega
end Go.Proofs.Ytafamfjgehnddaa

namespace Go.Proofs.Ytafamfjgehnddaa
open Go Go.RowKit

/-- A row of numbers that lies by itself. -/
def IV (v : Value) (l : List Int) : Res := fun W G => IntsV W v l ∧ ∀ x, G x ↔ l ≠ [] ∧ ∃ a m c, v = .slice (some a) m c ∧ a.block = x
theorem Loc.iv {v : Value} {l : List Int} : Loc (IV v l) := by
  refine ⟨fun {w w' M G} ⟨h1, h2⟩ o hn => ⟨?_, h2⟩, fun {w G x} ⟨h1, h2⟩ hx => ?_⟩
  · obtain ⟨a, c, e, h⟩ := h1
    refine ⟨a, c, e, fun hne => ?_⟩
    obtain ⟨g, e2, hg, hc⟩ := h hne
    have hg' : ¬ M g := hn g ((h2 g).2 ⟨hne, ⟨g, 0, none⟩, l.length, c, by rw [e, e2], rfl⟩)
    exact ⟨g, e2, Nat.lt_of_lt_of_le hg o.size, fun i hi => (o.cell (p := ⟨g, i, none⟩) hg hg').trans (hc i hi)⟩
  · obtain ⟨hl, a, m, c, e, rfl⟩ := (h2 x).1 hx
    obtain ⟨a', c', e', h⟩ := h1
    obtain ⟨g, e2, hg, _⟩ := h hl
    rw [e] at e'; cases e'
    cases e2; exact hg
theorem Own.iv {R R' : Res} {w0 w : World} {v : Value} {l : List Int} (h : Own R' w0 w) (e : R' = Sep (IV v l) R) : IntsV w v l := by
  obtain ⟨_, ⟨_, _, a, _⟩, _⟩ := h.cast e
  exact a.1
theorem Own.ivNew {R : Res} {w0 w w' : World} {v : Value} {l : List Int} (lR : Loc R) (h : Own R w0 w) (h1 : IntsV w' v l) (hn : ∀ a m c, v = .slice (some a) m c → w.heap.size ≤ a.block) (b : Below w.heap.size w w') : Own (Sep (IV v l) R) w0 w' :=
  Own.fresh (R1 := IV v l) lR h (G := fun x => l ≠ [] ∧ ∃ a m c, v = .slice (some a) m c ∧ a.block = x) ⟨h1, fun _ => Iff.rfl⟩ (fun _ ⟨_, a, m, c, e, hx⟩ => hx ▸ hn a m c e) b
theorem intsNil (W : World) : IntsV W (.slice none 0 0) [] := ⟨none, 0, rfl, fun h => absurd rfl h⟩

theorem srcInts {W : World} {v : Value} {l : List Int} (h : IntsV W v l) (hz : l = [] → v = .slice none 0 0) : Src W v l.length (intVals l) := by
  obtain ⟨a, c, rfl, h⟩ := h
  by_cases hl : l = []
  · exact .inl ⟨hz hl, by rw [hl]; rfl, by rw [hl]; rfl⟩
  · obtain ⟨g, rfl, hg, hc⟩ := h hl
    refine .inr ⟨_, _, rfl, fun j u hj => ?_⟩
    have hj' : j < l.length := by
      have := (List.getElem?_eq_some_iff.1 hj).1
      simpa [intVals] using this
    have e : u = .int .i64 (l.getD j 0) := by
      simp [intVals, hj'] at hj
      simp [hj', ← hj]
    rw [e]
    have ea : (⟨g, 0, none⟩ : Addr).add j = ⟨g, j, none⟩ := by unfold Addr.add; split <;> simp_all
    rw [ea]
    exact hc j hj'
theorem ints_one (l : List Int) : ∀ u ∈ intVals l, u.oneCell' = true := by
  intro u hu
  obtain ⟨i, _, rfl⟩ := List.mem_map.1 hu
  rfl
theorem wpAppendSrc {P : Program} (w : World) {ops : Array Oper} {rest : List Oper} {o : Oper} {a : Act} {Q : Exit → Act → World → Prop}
    (hg : o.guard = none) (s x : Operand) (t : TypeId) (hop : o.op = Op.call { callee := Callee.builtin Builtin.append, args := #[s, x], argTypes := #[t, t] })
    (base : Nat) (e : TypeId) (i : TypeInfo) (z : Value) (size bytes : Nat) (h1 : P.underlying t = some (.slice e)) (h2 : P.info? e = some i) (h3 : i.zero = some z) (h4 : i.size = size) (h5 : i.bytes = bytes) (h6 : z.cells.size = size) (h7 : 0 < size)
    (v : Value) (k : Nat) (xs : List Value) (hs : a.eval s = v) (hown : w.ownsRow base e size v k xs) (m : Nat) (news : List Value) (hx : Src w (a.eval x) m news) (hn : news.length = m * size)
    (h1c : ∀ u ∈ news, u.oneCell' = true) (b1 : k + m ≤ maxLen) (b2 : (k + m) * bytes ≤ 140737488355328) (b3 : base ≤ w.heap.size)
    (hK : ∀ v' w', w'.ownsRow base e size v' (k + m) (xs ++ news) → w.grownBy w' v.ownBlock → wpList P ops Q rest (a.put o.dst v') w') :
    wpList P ops Q (o :: rest) a w := by
  refine wpList_plain hg fun K hK' => ?_
  exact oper_append w s x t hop base e i z size bytes h1 h2 h3 h4 h5 h6 h7 v k xs hs hown m news hx hn h1c b1 b2 b3 (fun v' w' q1 q2 _ => hK' _ _ (hK v' w' q1 q2))
/-- A new row of one number. -/
theorem owns_oneI (w : World) (x : Int) : (w.alloc (.cells #[.int .i64 x] 3)).ownsRow w.heap.size 3 1 (.slice (some ⟨w.heap.size, 0, none⟩) 1 1) 1 (intVals [x]) :=
  ⟨rfl, .inr ⟨w.heap.size, 1, #[.int .i64 x], rfl, Nat.le_refl _, heap_alloc_at _ _, Nat.le_refl _, by unfold maxLen; omega, rfl, rfl⟩⟩
theorem below_from {N : Nat} {W w3 : World} {v : Value} {t : TypeId} {size k : Nat} {xs : List Value} (hN : N ≤ W.heap.size) (hrow : W.ownsRow N t size v k xs) (hgrow : W.grownBy w3 v.ownBlock) : Below N W w3 := by
  refine (Below.refl N W).grown hgrow hN (fun j ej => ?_)
  rcases hrow.2 with ⟨rfl, _⟩ | ⟨g, cap, cur, rfl, hb, _, _⟩
  · simp [Value.ownBlock] at ej
  · obtain rfl : g = j := by simpa [Value.ownBlock] using ej
    exact hb

theorem lawHead (k : Int) (h1 : 0 ≤ k) (h2 : k < 100000) (w : World) : Calls Try.prog 17 #[.int .i64 k] w fun e w' => e = .returned (.int .i64 (8 + k % 60)) ∧ w' = w := by
  go_enter Try.func17, Try.ntmps17
  go_wp2
  go_ret
  exact ⟨rfl, rfl⟩
end Go.Proofs.Ytafamfjgehnddaa
