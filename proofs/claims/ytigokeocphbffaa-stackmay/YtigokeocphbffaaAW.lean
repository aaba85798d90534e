/- awake: the document's example. The document's example of an arena. What ArenaOwn wants: numbers, and a block that lies beside. -/
import Derived.Test.YtigokeocphbffaaRunOwn
import Derived.Test.YtigokeocphbffaaArnNew
namespace Go.Proofs.Ytigokeocphbffaa
open Go.RowKit

theorem aw1 : takeA 3 [(kOf 0 8, 0, ())] = (0, 0) ∧ takeS [] 3 1 [(kOf 0 8, 0, ())] = (2, [(40963, 0, ())]) := by decide
theorem aw2 : takeA 2 [(40963, 0, ())] = (3, 0) ∧ takeS [] 2 2 [(40963, 0, ())] = (3, [(24581, 0, ())]) := by decide
theorem aw3 : putA 8 0 3 [(24581, 0, ())] = 0 ∧ putS 8 [] 0 3 3 [(24581, 0, ())] = (4, [(24576, 0, ()), (24581, 0, ())]) := by decide
theorem aw4 : takeA 3 [(24576, 0, ()), (24581, 0, ())] = (0, 0) := by decide
theorem aw0 : ([] : List Nat).getD 0 0 = 0 := rfl
theorem awF1 : Fit 1 8 [] 1 [(kOf 0 8, 0, ())] := Fit.new (ds := []) (by decide) (by decide) (by decide)
theorem awF2 : Fit 2 8 [] 2 [(40963, 0, ())] := by have := awF1.take 3; rw [aw1.2] at this; exact this
theorem awF3 : Fit 3 8 [] 3 [(24581, 0, ())] := by have := awF2.take 2; rw [aw2.2] at this; exact this
theorem awF4 : Fit 4 8 [] 4 [(24576, 0, ()), (24581, 0, ())] := by have := awF3.put 0 3; rw [aw3.2] at this; exact this
theorem awR0 : (([(24576, 0, ()), (24581, 0, ())] : RL).map (·.1)).map rOf = [(0, 3), (5, 3)] := by decide
theorem awR : runsOf [(24576, 0, ()), (24581, 0, ())] = [(0, 3), (5, 3)] := (runsOf_is awF4.good (by rw [awR0]) (by decide)).symm

end Go.Proofs.Ytigokeocphbffaa

namespace Go.Proofs.Ytigokeocphbffaa
open Go.RowKit

theorem St.first_len (n : Nat) : (St.first n).words.length = n := by simp [St.first]
theorem St.first_zero (n : Nat) (h : 1 ≤ n) : (St.first n).words.getD 0 0 = 1 := by
  obtain ⟨m, rfl⟩ : ∃ m, n = m + 1 := ⟨n - 1, by omega⟩
  simp [St.first, List.replicate_succ]
theorem St.first_last (n i : Nat) (h : 1 ≤ i) : (St.first n).words.getD i 0 = 0 := by
  simp only [St.first, List.getD_eq_getElem?_getD, List.getElem?_set]
  rw [if_neg (by omega)]
  by_cases h : i < n
  · simp [h]
  · simp [h]

end Go.Proofs.Ytigokeocphbffaa

namespace Go.Proofs.Ytigokeocphbffaa
open Go.RowKit

/-- A block. -/
def BO (B : Nat) (o : Obj) : Res := fun w G => w.heap[B]? = some o ∧ ∀ x, G x ↔ x = B
theorem Loc.bo {B : Nat} {o : Obj} : Loc (BO B o) := ⟨fun ⟨h, e⟩ k hn => ⟨(k.block B (lt_of_heap h) (hn B ((e B).2 rfl))).trans h, e⟩, fun {w G x} ⟨h, e⟩ hx => by rw [(e x).1 hx]; exact lt_of_heap h⟩
theorem Own.bo {A1 A2 : Res} {B : Nat} {o : Obj} {w0 w : World} (h : Own (Sep A1 (Sep A2 (BO B o))) w0 w) : w.heap[B]? = some o := by
  obtain ⟨_, ⟨_, _, _, ⟨_, _, _, a, _⟩, _⟩, _⟩ := h
  exact a.1
theorem Own.bo1 {A1 : Res} {B : Nat} {o : Obj} {w0 w : World} (h : Own (Sep A1 (BO B o)) w0 w) : w.heap[B]? = some o := by
  obtain ⟨_, ⟨_, _, _, a, _⟩, _⟩ := h
  exact a.1
/-- A block as the class of worlds. -/
def BkAt (B : Nat) (o : Obj) (w : World) : Prop := w.heap[B]? = some o

theorem one_fit {pg : Nat} {n : Int} {d : Nat} (_h1 : 1 ≤ n) (h2 : n ≤ pg) : fitL n [(kOf 0 pg, d, ())] = some (kOf 0 pg, d, ()) := by
  unfold fitL ceilL
  have : ¬ (kOf 0 pg < kOf 0 n) := by unfold kOf; omega
  simp [this]
theorem one_take {pg : Nat} {n : Int} {d : Nat} (h1 : 1 ≤ n) (h2 : n ≤ pg) : takeA n [(kOf 0 pg, d, ())] = (0, 0) := by
  unfold takeA
  rw [if_neg (by omega), one_fit h1 h2]
  simp [rA_k (a := 0) (n := pg) (by omega) (by omega)]
theorem one_left {pg : Nat} {n : Int} {d dn : Nat} {ds : List Nat} (h1 : 1 ≤ n) (h2 : n ≤ pg) (h3 : pg ≤ 4096) : totL (takeS ds n dn [(kOf 0 pg, d, ())]).2 = pg - n := by
  unfold takeS
  rw [if_neg (by omega), one_fit h1 h2]
  simp only [cutL, rA_k (a := 0) (n := (pg : Int)) (by omega) (by omega), rN_k (a := 0) (n := (pg : Int)) (by omega) (by omega)]
  split
  · simp [delL, insL, totL]
    exact rN_k (by omega) (by omega)
  · simp [delL, totL]
    omega
theorem one_tot {pg : Nat} {d : Nat} : totL [(kOf 0 pg, d, ())] = pg := by
  simp [totL]
  exact rN_k (by omega) (by omega)
theorem put_len (s : St) (i v : Nat) : (s.put i v).words.length = s.words.length := by simp [St.put, St.access]
theorem load_words (s : St) (i : Nat) : (s.load i).words = s.words := by simp only [St.load, St.access]; exact set_getD _ _
theorem put_same (s : St) (i v : Nat) (h : i < s.words.length) : (s.put i v).words.getD i 0 = v := by simp [St.put, St.access, h]
theorem put_other (s : St) (i j v : Nat) (h : i ≠ j) : (s.put i v).words.getD j 0 = s.words.getD j 0 := by
  simp [St.put, St.access, List.getD_eq_getElem?_getD, h]
end Go.Proofs.Ytigokeocphbffaa
