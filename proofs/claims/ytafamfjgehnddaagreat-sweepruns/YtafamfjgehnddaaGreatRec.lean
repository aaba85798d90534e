/- Spans, as plain data: what the words of a page say, and of all pages. -/
import Derived.Test.YtafamfjgehnddaaGreatLay
import Derived.Test.YtafamfjgehnddaaGreatPh
namespace Go.Proofs.YtafamfjgehnddaaGreat.Rec

/-- A span, field by field. -/
structure Sp where
  page : Int
  pages : Int
  cls : Int
  gen : Int
  ph : Int
  alloc : Nat
  mark : Nat
deriving DecidableEq
def Sp.zero : Sp := ⟨0, 0, 0, 0, 0, 0, 0⟩
/-- The word of a kind of a page; 0 if there is none. -/
def tol (ws : List Nat) (P T k p : Int) : Nat := if (Lay.page P T k p).2 = true then ws.getD (Lay.page P T k p).1.toNat 0 else 0
/-- What the words of a page say. -/
def said (ws : List Nat) (P T p : Int) : Sp :=
  ⟨p, ((tol ws P T 10 p / 256 : Nat) : Int), ((tol ws P T 10 p % 256 : Nat) : Int), Ph.gen (tol ws P T 9 p), Ph.ph (tol ws P T 9 p), tol ws P T 12 p, tol ws P T 13 p⟩
def read (ws : List Nat) (P T p : Int) : Sp × Bool := if tol ws P T 9 p = 0 then (Sp.zero, false) else (said ws P T p, true)
def one (ws : List Nat) (P T : Int) (p : Nat) : List Sp := if tol ws P T 9 (p : Int) = 0 then [] else [said ws P T (p : Int)]
/-- The spans of the first pages. -/
def upto (ws : List Nat) (P T : Int) : Nat → List Sp
  | 0 => []
  | n + 1 => upto ws P T n ++ one ws P T n
theorem upto_len (ws : List Nat) (P T : Int) : ∀ n, (upto ws P T n).length ≤ n
  | 0 => Nat.le_refl _
  | n + 1 => by
    have := upto_len ws P T n
    unfold upto one
    rw [List.length_append]
    split <;> simp <;> omega
theorem upto_no {ws : List Nat} {P T : Int} {n : Nat} (h : tol ws P T 9 (n : Int) = 0) : upto ws P T (n + 1) = upto ws P T n := by show upto ws P T n ++ one ws P T n = _; unfold one; rw [if_pos h, List.append_nil]
theorem upto_yes {ws : List Nat} {P T : Int} {n : Nat} (h : tol ws P T 9 (n : Int) ≠ 0) : upto ws P T (n + 1) = upto ws P T n ++ [said ws P T (n : Int)] := by rw [upto, one, if_neg h]
theorem getD_bd (ws : List Nat) (h : ∀ x ∈ ws, x < 18446744073709551616) (i : Nat) : ws.getD i 0 < 18446744073709551616 := by
  rw [List.getD_eq_getElem?_getD]
  by_cases hi : i < ws.length
  · rw [List.getElem?_eq_getElem hi]; exact h _ (List.getElem_mem hi)
  · rw [List.getElem?_eq_none (by omega)]; simp
theorem tol_bd {ws : List Nat} (h : ∀ x ∈ ws, x < 18446744073709551616) (P T k p : Int) : tol ws P T k p < 18446744073709551616 := by
  unfold tol
  split
  · exact getD_bd ws h _
  · omega
theorem page_may {P T k p : Int} (h : (Lay.page P T k p).2 = true) : Lay.may P T = true ∧ 0 ≤ p ∧ p < P ∧ 9 ≤ k ∧ k ≤ 14 ∧ (Lay.page P T k p).1 = if k = 14 then 68 + 14 * T + 5 * P + p else 68 + 14 * T + 5 * p + (k - 9) := by
  unfold Lay.page at h ⊢
  split at h
  · rename_i hc
    rw [if_pos hc]
    simp only [Bool.and_eq_true, Lay.below_iff, decide_eq_true_eq] at hc
    exact ⟨hc.1.1, hc.1.2.1, hc.1.2.2, hc.2.1, hc.2.2, rfl⟩
  · cases h
theorem page_in {P T k p : Int} (hm : Lay.may P T = true) (h1 : 0 ≤ p) (h2 : p < P) (h3 : 9 ≤ k) (h4 : k ≤ 14) : Lay.page P T k p = (if k = 14 then 68 + 14 * T + 5 * P + p else 68 + 14 * T + 5 * p + (k - 9), true) := by
  unfold Lay.page
  rw [if_pos (by simp [hm, Lay.below_iff, h1, h2, h3, h4])]
  rfl
theorem page_off {P T k p : Int} (h : p < 0 ∨ P ≤ p) : Lay.page P T k p = (0, false) := by
  unfold Lay.page
  rw [if_neg]
  simp only [Bool.and_eq_true, Lay.below_iff]
  omega
theorem page_bad {P T k p : Int} (h : Lay.may P T = false) : Lay.page P T k p = (0, false) := by
  unfold Lay.page
  rw [h]; rfl
theorem page_lt {P T k p : Int} (h : (Lay.page P T k p).2 = true) : (Lay.page P T k p).1.toNat < (Lay.words P T).toNat ∧ ((Lay.page P T k p).1.toNat : Int) = (Lay.page P T k p).1 := by
  obtain ⟨h1, h2, h3, h4, h5, h6⟩ := page_may h
  obtain ⟨m1, m2, m3, m4⟩ := Lay.may_iff.1 h1
  have := Lay.maps_bd m1 m2
  rw [h6, Lay.words_in h1]
  unfold Lay.total
  split <;> omega
/-- Where the words of page p begin; where its KIndex is. -/
def at5 (T : Int) (p : Nat) : Nat := (68 + 14 * T + 5 * p).toNat
def atX (P T : Int) (p : Nat) : Nat := (68 + 14 * T + 5 * P + p).toNat
theorem tol5 {ws : List Nat} {P T k : Int} {p j : Nat} (hm : Lay.may P T = true) (hp : (p : Int) < P) (hk : k = 9 + (j : Int)) (hj : j < 5) : tol ws P T k (p : Int) = ws.getD (at5 T p + j) 0 := by
  obtain ⟨m1, m2, m3, m4⟩ := Lay.may_iff.1 hm
  unfold tol at5
  rw [page_in (k := k) (p := (p : Int)) hm (by omega) hp (by omega) (by omega), if_neg (show ¬ k = 14 by omega), if_pos rfl]
  congr 1
  show (68 + 14 * T + 5 * (p : Int) + (k - 9)).toNat = _
  omega
theorem tolX {ws : List Nat} {P T : Int} {p : Nat} (hm : Lay.may P T = true) (hp : (p : Int) < P) : tol ws P T 14 (p : Int) = ws.getD (atX P T p) 0 := by
  unfold tol atX
  rw [page_in (k := 14) (p := (p : Int)) hm (by omega) hp (by omega) (by omega), if_pos rfl]
  simp
theorem tol_off {ws : List Nat} {P T k p : Int} (h : p < 0 ∨ P ≤ p) : tol ws P T k p = 0 := by
  unfold tol; rw [page_off h]; rfl
end Go.Proofs.YtafamfjgehnddaaGreat.Rec
