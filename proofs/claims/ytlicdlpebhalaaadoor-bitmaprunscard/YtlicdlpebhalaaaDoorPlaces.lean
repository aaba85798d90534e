/- What word.Places answers, at every word: a new slice of the places of its set bits, rising. -/
import Derived.Test.YtlicdlpebhalaaaDoorIter
import Derived.WalkSmall
namespace Go.Proofs.YtlicdlpebhalaaaDoor
open Go.RowKit Go.Shelf

attribute [local go_sem] Oper.semAt_some

theorem info3 : (Tryd.prog.info? 3).map (fun i => (i.zero, i.size, i.bytes)) = some (some (.int .i64 0), 1, 8) := by kernel_rfl

/-- A list of places as values. -/
def vals (l : List Nat) : List Value := l.map fun (k : Nat) => Value.int .i64 (k : Int)

/-- The slice leads to a new row of these places. -/
def RowAt (W : World) (base : Nat) (a : Option Addr) (l : List Nat) : Prop :=
  l ≠ [] → ∃ g, a = some ⟨g, 0, none⟩ ∧ base ≤ g ∧ g < W.heap.size ∧ ∀ (i y : Nat), l[i]? = some y → W.cell? ⟨g, i, none⟩ = some (.int .i64 (y : Int))

theorem rowAt_of_owns {W : World} {base : Nat} {v : Value} {l : List Nat} (h : W.ownsRow base 3 1 v l.length (vals l)) : ∃ a cap, v = .slice a l.length cap ∧ RowAt W base a l := by
  rcases h.2 with ⟨rfl, h0⟩ | ⟨g, cap, cur, rfl, hb, hg, hle, _, hsz, hcur⟩
  · exact ⟨none, 0, by rw [h0], fun hne => absurd (List.length_eq_zero_iff.1 h0) hne⟩
  · refine ⟨_, _, rfl, fun _ => ⟨g, rfl, hb, (Array.getElem?_eq_some_iff.1 hg).1, fun i y hy => ?_⟩⟩
    obtain ⟨hi, _⟩ := List.getElem?_eq_some_iff.1 hy
    have h1 : (cur.toList.take (l.length * 1))[i]? = some (.int .i64 (y : Int)) := by
      rw [hcur]
      simp [vals, hy]
    rw [List.getElem?_take_of_lt (by omega)] at h1
    simp only [World.cell?, hg]
    simpa using h1

theorem RowAt.below {W W' : World} {base n : Nat} {a : Option Addr} {l : List Nat} (h : RowAt W base a l) (hb : Below n W W') (hn : W.heap.size ≤ n) : RowAt W' base a l := fun hne => by
  obtain ⟨g, e, h1, h2, h3⟩ := h hne
  exact ⟨g, e, h1, Nat.lt_of_lt_of_le h2 hb.size, fun i y hy => (hb.cell (p := ⟨g, i, none⟩) (by simp; omega)).trans (h3 i y hy)⟩

/-- Of w's set bits the k lowest. -/
def firstAns (x : Nat) (k : Int) : Nat := match (Plain.pls x)[Plain.hold k]? with | some i => x &&& Plain.ones i | none => x

end Go.Proofs.YtlicdlpebhalaaaDoor
