/- What ArenaOwn wants: numbers, and a block that lies beside. -/
import Derived.Test.YtafamfjgehnddaaArnAwake
namespace Go.Proofs.Ytafamfjgehnddaa
open Go.RowKit

/-- A block. -/
def BO (B : Nat) (o : Obj) : Res := fun w G => w.heap[B]? = some o ∧ ∀ x, G x ↔ x = B
theorem Loc.bo {B : Nat} {o : Obj} : Loc (BO B o) := ⟨fun ⟨h, e⟩ k hn => ⟨(k.block B (lt_of_heap h) (hn B ((e B).2 rfl))).trans h, e⟩, fun {w G x} ⟨h, e⟩ hx => by rw [(e x).1 hx]; exact lt_of_heap h⟩
theorem Own.bo {A1 A2 : Res} {B : Nat} {o : Obj} {w0 w : World} (h : Own (Sep A1 (Sep A2 (BO B o))) w0 w) : w.heap[B]? = some o := by
  obtain ⟨_, ⟨_, _, _, ⟨_, _, _, a, _⟩, _⟩, _⟩ := h
  exact a.1
theorem Own.bo1 {A1 : Res} {B : Nat} {o : Obj} {w0 w : World} (h : Own (Sep A1 (BO B o)) w0 w) : w.heap[B]? = some o := by
  obtain ⟨_, ⟨_, _, _, a, _⟩, _⟩ := h
  exact a.1
/-- A block as the class of worlds. -/
def BkAt (B : Nat) (o : Obj) (w : World) : Prop := w.heap[B]? = some o

theorem one_fit {pg : Nat} {n : Int} {d : Nat} (_h1 : 1 ≤ n) (h2 : n ≤ pg) : fitL n [(kOf 0 pg, d, ())] = some (kOf 0 pg, d, ()) := by
  unfold fitL ceilL
  have : ¬ (kOf 0 pg < kOf 0 n) := by unfold kOf; omega
  simp [this]
theorem one_take {pg : Nat} {n : Int} {d : Nat} (h1 : 1 ≤ n) (h2 : n ≤ pg) : takeA n [(kOf 0 pg, d, ())] = (0, 0) := by
  unfold takeA
  rw [if_neg (by omega), one_fit h1 h2]
  simp [rA_k (a := 0) (n := pg) (by omega) (by omega)]
theorem one_left {pg : Nat} {n : Int} {d dn : Nat} {ds : List Nat} (h1 : 1 ≤ n) (h2 : n ≤ pg) (h3 : pg ≤ 4096) : totL (takeS ds n dn [(kOf 0 pg, d, ())]).2 = pg - n := by
  unfold takeS
  rw [if_neg (by omega), one_fit h1 h2]
  simp only [cutL, rA_k (a := 0) (n := (pg : Int)) (by omega) (by omega), rN_k (a := 0) (n := (pg : Int)) (by omega) (by omega)]
  split
  · simp [delL, insL, totL]
    exact rN_k (by omega) (by omega)
  · simp [delL, totL]
    omega
theorem one_tot {pg : Nat} {d : Nat} : totL [(kOf 0 pg, d, ())] = pg := by
  simp [totL]
  exact rN_k (by omega) (by omega)
theorem put_len (s : St) (i v : Nat) : (s.put i v).words.length = s.words.length := by simp [St.put, St.access]
theorem load_words (s : St) (i : Nat) : (s.load i).words = s.words := by simp only [St.load, St.access]; exact set_getD _ _
theorem put_same (s : St) (i v : Nat) (h : i < s.words.length) : (s.put i v).words.getD i 0 = v := by simp [St.put, St.access, h]
theorem put_other (s : St) (i j v : Nat) (h : i ≠ j) : (s.put i v).words.getD j 0 = s.words.getD j 0 := by
  simp [St.put, St.access, List.getD_eq_getElem?_getD, h]
end Go.Proofs.Ytafamfjgehnddaa
