/- A list of numbers of 16 bits that came in, opened; a row of one word that was made. -/
import Derived.Test.YtbfkhbeekdfceaaTgOk
import Derived.Deep.Slices
import Derived.ChangeSame
import Derived.Carry
import Derived.RangeFuncBox
import Derived.Maps.AppendAt
namespace Go.Proofs.Ytbfkhbeekdfceaa
open Go.ChangeShapes Go.WideShapes Go.ChangeAt Go.RowKit Go.Deep

theorem laidOut : laidOutB Try.prog = true := by kernel_rfl
theorem cellsU16 : Try.prog.cellsOf 31 = 1 := by kernel_rfl
theorem infoU64 : (Try.prog.info? 23).map (fun i => (i.zero, i.size, i.bytes)) = some (some (.int .u64 0), 1, 8) := by kernel_rfl

theorem add_at (b o k : Nat) : (⟨b, o, none⟩ : Addr).add k = ⟨b, o + k, none⟩ := by
  by_cases h : k = 0
  · subst h; simp [Addr.add]
  · simp [Addr.add, h]

/-- The place k of such a list. -/
structure HalfAt (w : World) (b o k x : Nat) : Prop where
  cell : w.cell? ⟨b, o + k, none⟩ = some (.int .u16 (x : Int))
  lt : b < w.heap.size
  hx : x < 65536

theorem HalfAt.kept {w w' : World} {b o k x : Nat} {B : Nat} (h : HalfAt w b o k x) (hb : Below B w w') (hB : b < B) : HalfAt w' b o k x :=
  ⟨(hb.cell (p := ⟨b, _, none⟩) hB).trans h.cell, Nat.lt_of_lt_of_le h.lt hb.size, h.hx⟩

def HalvesIn (w : World) (ao : Option Addr) (len : Nat) : Prop := ∀ k, k < len → ∃ b o x, ao = some ⟨b, o, none⟩ ∧ HalfAt w b o k x

theorem open_halves {H : Type} {enc : TypeId × Value → H} {W : World} {v : Value} {d : DataW H} {ps : List MemPlace} {base : Nat} (hv : Value.okWide Try.prog W .any base 33 v)
    (h : DataW.Trod enc Try.prog W 0 (fun _ => true) true 33 v d ps) : ∃ ao len cap, v = .slice ao len cap ∧ len ≤ cap ∧ cap ≤ maxLen ∧ HalvesIn W ao len := by
  obtain ⟨a0, len0, cap0, rfl⟩ := okWide_slice Try.underlying33 hv
  obtain ⟨fuel, h⟩ := h
  rw [show (Value.slice a0 len0 cap0).cells.toList = [.slice a0 len0 cap0] from rfl] at h
  rcases open_slice Try.underlying33 h with ⟨hc, _⟩ | ⟨a, len, cap, m, n, D, Pl, hc, _, hl, hm, hmm, _, hx⟩
  · simp only [List.cons.injEq, and_true, Value.slice.injEq] at hc
    obtain ⟨rfl, rfl, rfl⟩ := hc
    exact ⟨none, 0, 0, rfl, Nat.le_refl _, Nat.zero_le _, fun k hk => by omega⟩
  · simp only [List.cons.injEq, and_true, Value.slice.injEq] at hc
    obtain ⟨rfl, rfl, rfl⟩ := hc
    simp only [if_true] at hmm
    subst hmm
    refine ⟨some a, len0, m, rfl, hl, hm, fun k hk => ?_⟩
    rw [cellsU16] at hx
    have hspot : a.spot = none := by
      obtain ⟨cs', h1, h2⟩ := hx 0 (by omega)
      obtain ⟨_, hlen, hcell⟩ := World.cells?_some h1
      have h0 := hcell 0 (by omega)
      rw [List.getElem?_eq_getElem (by omega)] at h0
      simpa [Addr.add] using World.cell?_spot h0
    obtain ⟨b, o, sp⟩ := a
    simp only at hspot
    subst hspot
    obtain ⟨cs', h1, h2⟩ := hx k (by omega)
    obtain ⟨_, hlen, hcell⟩ := World.cells?_some h1
    match cs', hlen with
    | [v0], _ =>
      obtain ⟨n0, e0, _, w0⟩ := DataW.trod_int Try.underlying31 h2
      simp only [List.cons.injEq, and_true] at e0
      subst e0
      obtain ⟨x0, hx0, rfl⟩ := u16_nat w0
      have a0 := hcell 0 (by omega)
      rw [add_at, add_at] at a0
      simp only [Nat.mul_one, Nat.add_zero, List.getElem?_cons_zero] at a0
      exact ⟨b, o, x0, rfl, a0, World.block_lt_of_cell? W _ a0, hx0⟩

/-- A new row of one word. -/
theorem owns_one (w : World) (x : Nat) : (w.alloc (.cells #[.int .u64 (x : Int)] 23)).ownsRow w.heap.size 23 1 (.slice (some ⟨w.heap.size, 0, none⟩) 1 1) 1 (wordVals [x]) :=
  ⟨rfl, .inr ⟨w.heap.size, 1, #[.int .u64 (x : Int)], rfl, Nat.le_refl _, heap_alloc_at _ _, Nat.le_refl _, by unfold maxLen; omega, rfl, rfl⟩⟩

theorem wordVals_snoc (l : List Nat) (x : Nat) : wordVals (l ++ [x]) = wordVals l ++ [.int .u64 (x : Int)] := by simp [wordVals]

theorem below_app {n₀ : Nat} {w W w3 : World} {tmp : Obj} {v : Value} {t : TypeId} {size k : Nat} {xs : List Value} (hB : Below n₀ w W) (hn : n₀ ≤ w.heap.size) (hrow : W.ownsRow n₀ t size v k xs)
    (hgrow : (W.alloc tmp).grownBy w3 v.ownBlock) : Below n₀ w w3 := by
  refine (hB.alloc (Nat.le_trans hn hB.size) tmp).grown hgrow (by have := hB.size; simp; omega) (fun j ej => ?_)
  rcases hrow.2 with ⟨rfl, _⟩ | ⟨g, cap, cur, rfl, hb, _, _⟩
  · simp [Value.ownBlock] at ej
  · obtain rfl : g = j := by simpa [Value.ownBlock] using ej
    exact hb

/-- The heads so far: the tags go up by one from t on. -/
structure Row (t k : Nat) (l : List Nat) : Prop where
  len : l.length = k + 1
  tags : ∀ j, j ≤ k → Tg.tag (l.getD j 0) = (t + j) % 4294967296

theorem Row.one (t x : Nat) (ht : t < 4294967296) (h : Tg.tag x = t) : Row t 0 [x] := ⟨rfl, fun j hj => by
  obtain rfl : j = 0 := by omega
  show Tg.tag x = _
  rw [h]
  omega⟩

theorem Row.more {t k : Nat} {l : List Nat} (h : Row t k l) (x : Nat) (hx : Tg.tag x = (t + (k + 1)) % 4294967296) : Row t (k + 1) (l ++ [x]) := ⟨by simp [h.len], fun j hj => by
  by_cases hl : j ≤ k
  · have hlt : j < l.length := by rw [h.len]; omega
    have e : (l ++ [x]).getD j 0 = l.getD j 0 := by simp [List.getElem?_append_left hlt]
    rw [e]
    exact h.tags j hl
  · obtain rfl : j = k + 1 := by omega
    have e : (l ++ [x]).getD (k + 1) 0 = x := by
      rw [← h.len]
      simp
    rw [e]
    exact hx⟩

theorem Row.ne {t k : Nat} {l : List Nat} (h : Row t k l) (hk : k < 4294967295) {x : Nat} (hx : Tg.tag x = (t + (k + 1)) % 4294967296) (j : Nat) (hj : j < k + 1) : l.getD j 0 ≠ x := fun e => by
  have := h.tags j (by omega)
  rw [e, hx] at this
  omega

end Go.Proofs.Ytbfkhbeekdfceaa
