/- Takes by number, in a row: what lies in memory while threads play with the lock. -/
import Derived.Test.YtgenkjmcddjaoaaLK
import Derived.Test.YtgenkjmcddjaoaaRows1
import Derived.Test.YtgenkjmcddjaoaaOpenBytes
namespace Go.Proofs.Ytgenkjmcddjaoaa
open Go.RowKit

def optP (S : Nat → Option Nat) (j : Nat) : Value := match S j with
  | none => .pointer none
  | some m => .pointer (some ⟨m, 0, none⟩)
def takesR (n : Nat) (S : Nat → Option Nat) (j : Nat) : Res := match S j with
  | none => Nought
  | some m => BO m (takeO 2 (n : Int) false (j : Int))
theorem optP_none {S : Nat → Option Nat} {t : Nat} (h : S t = none) : optP S t = .pointer none := by unfold optP; rw [h]
theorem optP_some {S : Nat → Option Nat} {t m : Nat} (h : S t = some m) : optP S t = .pointer (some ⟨m, 0, none⟩) := by unfold optP; rw [h]
theorem optP_upd (S : Nat → Option Nat) (t m : Nat) : upd (optP S) t (.pointer (some ⟨m, 0, none⟩)) = optP (upd S t (some m)) := by
  funext j
  unfold upd optP
  by_cases e : j = t
  · subst e; simp
  · simp [e]
theorem optP_off (S : Nat → Option Nat) (t : Nat) : upd (optP S) t (.pointer none) = optP (upd S t none) := by
  funext j
  unfold upd optP
  by_cases e : j = t
  · subst e; simp
  · simp [e]
theorem takesR_upd (n : Nat) (S : Nat → Option Nat) (t m : Nat) : takesR n (upd S t (some m)) = upd (takesR n S) t (BO m (takeO 2 (n : Int) false (t : Int))) := by
  funext j
  unfold upd takesR
  by_cases e : j = t
  · subst e; simp
  · simp [e]
theorem takesR_off (n : Nat) (S : Nat → Option Nat) (t : Nat) : takesR n (upd S t none) = upd (takesR n S) t Nought := by
  funext j
  unfold upd takesR
  by_cases e : j = t
  · subst e; simp
  · simp [e]
theorem Loc.takes {n : Nat} {S : Nat → Option Nat} (j : Nat) : Loc (takesR n S j) := by
  unfold takesR; split
  · exact Loc.nought
  · exact Loc.bo
/-- The row, the arena, the takes. -/
def AloneR (g q p r n : Nat) (s : St) (rl : RL) (S : Nat → Option Nat) (R : Res) : Res :=
  Sep (BO g (.cells (rowN n (optP S)) 69 (0, 0))) (Sep (AX q 2 (n : Int) p r s 2 [] 1 rl) (Sep (Many (takesR n S) n) R))
section
variable {R : Res} {g q p r n t m : Nat} {s : St} {rl : RL} {S : Nat → Option Nat}
theorem Loc.alone (l : Loc R) : Loc (AloneR g q p r n s rl S R) := Loc.bo.sep (Loc.ax.sep ((Loc.many Loc.takes n).sep l))
/-- A take comes forth. -/
theorem AloneR.out (ht : t < n) (hS : S t = some m) : AloneR g q p r n s rl S R = Sep (BO m (takeO 2 (n : Int) false (t : Int))) (Sep (AX q 2 (n : Int) p r s 2 [] 1 rl) (Sep (BO g (.cells (rowN n (optP S)) 69 (0, 0))) (Sep (Many (upd (takesR n S) t Nought) n) R))) := by
  unfold AloneR
  rw [Many.at (takesR n S) t n ht]
  have e : takesR n S t = BO m (takeO 2 (n : Int) false (t : Int)) := by unfold takesR; rw [hS]
  rw [e]
  ac_rfl
/-- A new one. -/
theorem AloneR.new (ht : t < n) (hS : S t = none) : Sep (BO g (.cells (rowN n (upd (optP S) t (.pointer (some ⟨m, 0, none⟩)))) 69 (0, 0))) (Sep (BO m (takeO 2 (n : Int) false (t : Int))) (Sep (AX q 2 (n : Int) p r s 2 [] 1 rl) (Sep (Many (takesR n S) n) R))) = AloneR g q p r n s rl (upd S t (some m)) R := by
  unfold AloneR
  have e : takesR n S t = Nought := by unfold takesR; rw [hS]
  rw [Many.at (takesR n S) t n ht, e, Sep.nought, optP_upd, takesR_upd, Many.put (takesR n S) t (BO m (takeO 2 (n : Int) false (t : Int))) n ht]
  ac_rfl
/-- None. -/
theorem AloneR.start (RB : Res) : AloneR g q p r n s rl (fun _ => none) RB = Sep (BO g (.cells (rowN n (fun _ => .pointer none)) 69 (0, 0))) (Sep (AX q 2 (n : Int) p r s 2 [] 1 rl) RB) := by
  unfold AloneR
  rw [show takesR n (fun _ => none) = (fun _ => Nought) from rfl, Many.none, Sep.nought]
  rfl
/-- One is done. -/
theorem AloneR.off : Sep (BO g (.cells (rowN n (upd (optP S) t (.pointer none))) 69 (0, 0))) (Sep (AX q 2 (n : Int) p r s 2 [] 1 rl) (Sep (Many (upd (takesR n S) t Nought) n) R)) = AloneR g q p r n s rl (upd S t none) R := by
  unfold AloneR
  rw [optP_off, takesR_off]
end

theorem infoTakeP : (Try.prog.info? 69).map (fun i => (i.zero, i.size, i.bytes)) = some (some (.pointer none), 1, 8) := by kernel_rfl

section
variable {R : Res} {w0 w : World} {m : Nat} {q : Nat} {P T : Int} {p r : Nat} {s : St} {pg : Nat} {ds : List Nat} {dn : Nat} {L : RL}
theorem heldV (l : Loc R) (h : Own (Sep (AX q P T p r s pg ds dn L) R) w0 w) (hs : 2 < s.words.length) (x : Nat) (hx : s.words.getD 2 0 = x) (hT : (x : Int) ≤ T) (hT2 : T ≤ 1000) (v : Int) (hv : (x : Int) - 1 = v) :
    Calls Try.prog 25 #[.pointer (some ⟨q, 0, none⟩)] w fun e w' => e = .returned (.int .i64 v) ∧ Own (Sep (AX q P T p r s pg ds dn L) R) w0 w' := by
  have := heldX l h hs x hx hT hT2
  rw [hv] at this
  exact this
/-- A take's step: won. -/
theorem takeWon (l : Loc R) (t : Nat) (ht : t < 1000) (h : Own (Sep (BO m (takeO P T false (t : Int))) (Sep (AX q P T p r s pg ds dn L) R)) w0 w) (hi : 2 < s.words.length) (hx : s.words.getD 2 0 = 0) :
    Calls Try.prog 27 #[.pointer (some ⟨m, 0, none⟩), .pointer (some ⟨q, 0, none⟩)] w fun e w' => ∃ s' a b c, e = .returned (.agg #[.int .i64 3, .int .i64 a, .int .u64 b, .int .u64 c]) ∧ s'.words.getD 2 0 = t + 1 ∧ 2 < s'.words.length ∧ Own (Sep (BO m (takeO P T true (t : Int))) (Sep (AX q P T p r s' pg ds dn L) R)) w0 w' := by
  refine (takeStep l t ht h hi true (by rw [hx]; rfl) _ rfl).mono ?_
  rintro e w' ⟨he, ho⟩
  have hk := lk_cas_kind s (t + 1)
  rw [if_pos hx] at hk
  have ha := lk_cas_at s (t + 1) hi
  rw [if_pos hx] at ha
  exact ⟨_, (s.cas 2 0 (t + 1)).place, (s.cas 2 0 (t + 1)).old, (s.cas 2 0 (t + 1)).new, by rw [he]; unfold St.did; rw [hk], ha, by rw [lk_cas_len]; exact hi, ho⟩
theorem takeLost (l : Loc R) (t : Nat) (ht : t < 1000) (h : Own (Sep (BO m (takeO P T false (t : Int))) (Sep (AX q P T p r s pg ds dn L) R)) w0 w) (hi : 2 < s.words.length) (x : Nat) (hx : s.words.getD 2 0 = x + 1) :
    Calls Try.prog 27 #[.pointer (some ⟨m, 0, none⟩), .pointer (some ⟨q, 0, none⟩)] w fun e w' => ∃ s' a b c, e = .returned (.agg #[.int .i64 4, .int .i64 a, .int .u64 b, .int .u64 c]) ∧ s'.words.getD 2 0 = x + 1 ∧ 2 < s'.words.length ∧ Own (Sep (BO m (takeO P T false (t : Int))) (Sep (AX q P T p r s' pg ds dn L) R)) w0 w' := by
  refine (takeStep l t ht h hi false (by rw [hx]; simp) _ rfl).mono ?_
  rintro e w' ⟨he, ho⟩
  have hne : s.words.getD 2 0 ≠ 0 := by omega
  have hk := lk_cas_kind s (t + 1)
  rw [if_neg hne] at hk
  have ha := lk_cas_at s (t + 1) hi
  rw [if_neg hne, hx] at ha
  exact ⟨_, (s.cas 2 0 (t + 1)).place, (s.cas 2 0 (t + 1)).old, (s.cas 2 0 (t + 1)).new, by rw [he]; unfold St.did; rw [hk], ha, by rw [lk_cas_len]; exact hi, ho⟩
theorem leaveDid (l : Loc R) (h : Own (Sep (BO m (leaveO P T false)) (Sep (AX q P T p r s pg ds dn L) R)) w0 w) (hi : 2 < s.words.length) :
    Calls Try.prog 23 #[.pointer (some ⟨m, 0, none⟩), .pointer (some ⟨q, 0, none⟩)] w fun e w' => ∃ s' a b c, e = .returned (.agg #[.int .i64 2, .int .i64 a, .int .u64 b, .int .u64 c]) ∧ s'.words.getD 2 0 = 0 ∧ 2 < s'.words.length ∧ Own (Sep (BO m (leaveO P T true)) (Sep (AX q P T p r s' pg ds dn L) R)) w0 w' := by
  refine (leaveStep l h hi _ rfl).mono ?_
  rintro e w' ⟨he, ho⟩
  exact ⟨_, (s.put 2 0).place, (s.put 2 0).old, (s.put 2 0).new, he, lk_put_at s hi, by rw [lk_put_len]; exact hi, ho⟩
end
end Go.Proofs.Ytgenkjmcddjaoaa
