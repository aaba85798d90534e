/- slices.SortFunc and slices.SortedFunc of runs; List. -/
import Derived.Test.YtafamfjgehnddaaRunRow
import Derived.Shelf.SlSortCmp.NoneTotal
import Derived.Shelf.Lay
import Derived.Ground.SlsfProg
namespace Go.Proofs.Ytafamfjgehnddaa
open Go.RowKit Go.Shelf

/-- Which comes first? -/
def cmpI (x y : Int) : Int := if x < y then -1 else if y < x then 1 else 0
def encR (x : Int × Int) : List Value := [.int .i64 x.1, .int .i64 x.2]
def cmpR (x y : Int × Int) : Int := cmpI x.1 y.1
theorem ltR (x y : Int × Int) : ltOf cmpR x y = decide (x.1 < y.1) := by
  unfold ltOf cmpR cmpI
  by_cases h1 : x.1 < y.1
  · simp [h1]
  · by_cases h2 : y.1 < x.1 <;> simp [h1, h2]
theorem swoR : Sort.SWO (ltOf cmpR) where
  irrefl x := by rw [ltR]; simp
  trans x y z h1 h2 := by rw [ltR] at *; simp at *; omega
  ntrans x y z h1 h2 := by rw [ltR] at *; simp at *; omega

/-- A value that is such a list of runs. -/
def RunsV (W : World) (v : Value) (l : List (Int × Int)) : Prop := ∃ a c, v = .slice a l.length c ∧ (l ≠ [] → ∃ g, a = some ⟨g, 0, none⟩ ∧ g < W.heap.size ∧ ∀ i, i < l.length → W.cell? ⟨g, i * 2, none⟩ = some (.int .i64 (l.getD i (0, 0)).1) ∧ W.cell? ⟨g, i * 2 + 1, none⟩ = some (.int .i64 (l.getD i (0, 0)).2))
theorem RunsV.kept {W W' : World} {v : Value} {l : List (Int × Int)} {M : Nat → Prop} (h : RunsV W v l) (ho : Only M W W') (hM : ∀ a m c, v = .slice (some a) m c → ¬ M a.block) : RunsV W' v l := by
  obtain ⟨a, c, e, h⟩ := h
  refine ⟨a, c, e, fun hne => ?_⟩
  obtain ⟨g, e2, h2, h3⟩ := h hne
  have hg : ¬ M g := hM ⟨g, 0, none⟩ l.length c (by rw [e, e2])
  exact ⟨g, e2, Nat.lt_of_lt_of_le h2 ho.size, fun i hi => ⟨(ho.cell (p := ⟨g, i * 2, none⟩) h2 hg).trans (h3 i hi).1, (ho.cell (p := ⟨g, i * 2 + 1, none⟩) h2 hg).trans (h3 i hi).2⟩⟩
theorem RunsV.below {W W' : World} {v : Value} {l : List (Int × Int)} (h : RunsV W v l) (hb : Below W.heap.size W W') : RunsV W' v l := h.kept (Below.only hb (fun _ => False)) (fun _ _ _ _ h => h)

theorem holds_of_owns {W : World} {base g cap n : Nat} {l : List (Int × Int)} (h : W.ownsRow base 147 2 (.slice (some ⟨g, 0, none⟩) n cap) n (pairsI l)) (hl : l.length = n) : Sort.HoldsK encR 2 W g 0 l.toArray := by
  intro j hj
  rw [Sort.size_flatK] at hj
  simp only [List.size_toArray] at hj
  have hd : j / 2 < l.length := by omega
  rw [Sort.get_flatK _ _ _ _ (by simpa using hj), Nat.zero_add]
  refine ⟨?_, h.frozenAt j⟩
  rw [World.ownsRow.cellAt h j (by omega)]
  have hg : (l.toArray[j / 2]!) = l.getD (j / 2) (0, 0) := by simp [List.getD, hd]
  rw [hg]
  obtain ⟨q1, q2⟩ := pairsI_get l (j / 2) hd
  rcases Nat.mod_two_eq_zero_or_one j with e | e
  · rw [show j = j / 2 * 2 from by omega, q1]
    simp [encR]
  · rw [show j = j / 2 * 2 + 1 from by omega, q2, show (j / 2 * 2 + 1) / 2 = j / 2 from by omega, show (j / 2 * 2 + 1) % 2 = 1 from by omega]
    simp [encR]
theorem runs_of_holds {W : World} {g cap : Nat} {l : List (Int × Int)} (h : Sort.HoldsK encR 2 W g 0 l.toArray) (hg : g < W.heap.size) : RunsV W (.slice (some ⟨g, 0, none⟩) l.length cap) l := by
  refine ⟨_, _, rfl, fun _ => ⟨g, rfl, hg, fun i hi => ?_⟩⟩
  have e : (l.toArray[i]!) = l.getD i (0, 0) := by simp [List.getD, hi]
  have h0 := (Sort.HoldsK.cell h (i := i) (c := 0) (by simpa using hi) (by decide)).1
  have h1 := (Sort.HoldsK.cell h (i := i) (c := 1) (by simpa using hi) (by decide)).1
  rw [e] at h0 h1
  simp only [Nat.zero_add, Nat.add_zero] at h0 h1
  exact ⟨h0, h1⟩
theorem sorted_below {w : World} {b g n : Nat} {os : Array Obj} (d : Array (Int × Int)) (hb : b ≤ g) (hw : b ≤ w.heap.size) : Below b w (sortWorldK encR 2 w g 0 n d os) := by
  refine ⟨rfl, rfl, rfl, ?_, fun k hk => ?_⟩
  · simp [sortWorldK, Sort.grow, Sort.putRowK, Sort.putRow, Sort.mapBlock, Sort.ahead]
  · have : g ≠ k := by omega
    unfold sortWorldK
    rw [Sort.heap_grow_old _ _ (by simp [Sort.putRowK, Sort.putRow, Sort.mapBlock, Sort.ahead]; omega)]
    simp [Sort.putRowK, Sort.putRow, Sort.mapBlock, Sort.ahead, Array.getElem?_modify, this]

attribute [local go_sem] Oper.semAt_some

end Go.Proofs.Ytafamfjgehnddaa
