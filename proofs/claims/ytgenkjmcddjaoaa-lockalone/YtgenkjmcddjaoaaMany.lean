/- Many things beside one another, by number; rows of cells by number. (Of any program.) -/
import Derived.Test.YtgenkjmcddjaoaaSepAc
namespace Go.Proofs.Ytgenkjmcddjaoaa
open Go.RowKit

theorem Sep.nought (R : Res) : Sep Nought R = R := by
  funext w G
  apply propext
  constructor
  · rintro ⟨G1, G2, a, b, _, d⟩
    have e : G = G2 := funext fun x => propext ⟨fun h => ((d x).1 h).elim (fun q => absurd q (a x)) id, fun h => (d x).2 (.inr h)⟩
    rw [e]; exact b
  · intro h
    exact ⟨fun _ => False, G, fun _ h => h, h, fun _ h => h.elim, fun x => ⟨.inr, fun q => q.elim (fun q => q.elim) id⟩⟩
theorem Sep.nought' (R : Res) : Sep R Nought = R := (Sep.comm' _ _).trans (Sep.nought R)

/-- The things of all numbers below n. -/
def Many (f : Nat → Res) : Nat → Res
  | 0 => Nought
  | n + 1 => Sep (f n) (Many f n)
/-- One is turned. -/
def upd {α : Type} (f : Nat → α) (t : Nat) (x : α) : Nat → α := fun j => if j = t then x else f j
theorem upd_at {α : Type} (f : Nat → α) (t : Nat) (x : α) : upd f t x t = x := if_pos rfl
theorem upd_ne {α : Type} (f : Nat → α) {t j : Nat} (x : α) (h : j ≠ t) : upd f t x j = f j := if_neg h
theorem upd_upd {α : Type} (f : Nat → α) (t : Nat) (x y : α) : upd (upd f t x) t y = upd f t y := by
  funext j; unfold upd; split <;> rfl
theorem upd_id {α : Type} (f : Nat → α) (t : Nat) : upd f t (f t) = f := by
  funext j; unfold upd; split
  · rename_i h; rw [h]
  · rfl
theorem Loc.many {f : Nat → Res} (h : ∀ j, Loc (f j)) : ∀ n, Loc (Many f n)
  | 0 => Loc.nought
  | n + 1 => (h n).sep (Loc.many h n)
theorem Many.congr {f g : Nat → Res} : ∀ n, (∀ j, j < n → f j = g j) → Many f n = Many g n
  | 0, _ => rfl
  | n + 1, h => by
    show Sep (f n) (Many f n) = Sep (g n) (Many g n)
    rw [h n (by omega), Many.congr n (fun j hj => h j (by omega))]
theorem Many.at (f : Nat → Res) (t : Nat) : ∀ n, t < n → Many f n = Sep (f t) (Many (upd f t Nought) n)
  | n + 1, h => by
    show Sep (f n) (Many f n) = Sep (f t) (Sep (upd f t Nought n) (Many (upd f t Nought) n))
    by_cases e : t = n
    · subst e
      rw [upd_at, Sep.nought]
      exact congrArg (Sep (f t)) (Many.congr t (fun j hj => (upd_ne f Nought (show j ≠ t by omega)).symm))
    · rw [upd_ne f Nought (fun q => e q.symm), Many.at f t n (by omega)]
      ac_rfl
theorem Many.put (f : Nat → Res) (t : Nat) (r : Res) (n : Nat) (h : t < n) : Many (upd f t r) n = Sep r (Many (upd f t Nought) n) := by
  rw [Many.at (upd f t r) t n h, upd_at, upd_upd]
/-- The one of number t comes forth. -/
theorem Many.out (f : Nat → Res) (t : Nat) (n : Nat) (h : t < n) (R : Res) : Sep (Many f n) R = Sep (f t) (Sep (Many (upd f t Nought) n) R) := by
  rw [Many.at f t n h]; ac_rfl
theorem Many.back (f : Nat → Res) (t : Nat) (r : Res) (n : Nat) (h : t < n) (R : Res) : Sep r (Sep (Many (upd f t Nought) n) R) = Sep (Many (upd f t r) n) R := by
  rw [Many.put f t r n h]; ac_rfl
theorem Loc.rest {f : Nat → Res} (h : ∀ j, Loc (f j)) (t n : Nat) : Loc (Many (upd f t Nought) n) :=
  Loc.many (fun j => by unfold upd; split; exact Loc.nought; exact h j) n
theorem Many.none : ∀ n, Many (fun _ => Nought) n = Nought
  | 0 => rfl
  | n + 1 => by show Sep Nought (Many _ n) = Nought; rw [Sep.nought, Many.none n]

/-- The cells g 0 .. g (n - 1). -/
def rowN (n : Nat) (g : Nat → Value) : Array Value := ((List.range n).map g).toArray
theorem rowN_get {n t : Nat} (g : Nat → Value) (h : t < n) : (rowN n g)[t]? = some (g t) := by
  simp [rowN, h]
theorem rowN_set (n t : Nat) (g : Nat → Value) (v : Value) : (rowN n g).setIfInBounds t v = rowN n (upd g t v) := by
  apply Array.ext_getElem?
  intro j
  rw [Array.getElem?_setIfInBounds]
  simp only [rowN, List.size_toArray, List.length_map, List.length_range, List.getElem?_toArray, List.getElem?_map]
  by_cases e : t = j
  · subst e
    by_cases h : t < n <;> simp [h, upd_at]
  · rw [if_neg e]
    by_cases h : j < n
    · simp [h, upd_ne g v (fun q => e q.symm)]
    · rw [List.getElem?_eq_none (by simp; omega)]; rfl
theorem rowN_const (n : Nat) (v : Value) : rowN n (fun _ => v) = Array.replicate n v := by
  apply Array.ext_getElem?
  intro j
  simp only [rowN, List.getElem?_toArray, List.getElem?_map, Array.getElem?_replicate]
  by_cases h : j < n <;> simp [h]
theorem rowN_congr {n : Nat} {g g' : Nat → Value} (h : ∀ j, j < n → g j = g' j) : rowN n g = rowN n g' := by
  unfold rowN
  congr 1
  apply List.map_congr_left
  intro j hj
  exact h j (List.mem_range.1 hj)
end Go.Proofs.Ytgenkjmcddjaoaa
