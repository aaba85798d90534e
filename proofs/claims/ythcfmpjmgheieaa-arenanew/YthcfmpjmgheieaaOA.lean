/- Lists of bytes that came in, opened. Draws as an argument; the first of them. -/
import Derived.Test.YthcfmpjmgheieaaRunNew
import Derived.Deep.Slices
import Derived.Deep.Strs
import Derived.ChangeSame
import Derived.Carry
import Derived.ChangeMaps5
namespace Go.Proofs.Ythcfmpjmgheieaa
open Go.ChangeShapes Go.WideShapes Go.ChangeAt Go.RowKit Go.Deep

theorem laidOut : laidOutB Try.prog = true := by kernel_rfl

theorem cellsU8 : Try.prog.cellsOf 5 = 1 := by kernel_rfl

theorem add_at (b o k : Nat) : (⟨b, o, none⟩ : Addr).add k = ⟨b, o + k, none⟩ := by
  by_cases h : k = 0
  · subst h; simp [Addr.add]
  · simp [Addr.add, h]

theorem pick {β : Type} [Inhabited β] {n : Nat} {p : Nat → β → Prop} (h : ∀ k, k < n → ∃ x, p k x) : ∃ f : Nat → β, ∀ k, k < n → p k (f k) := by
  classical
  exact ⟨fun k => if hk : k < n then (h k hk).choose else default, fun k hk => by simp only [hk, dif_pos]; exact (h k hk).choose_spec⟩

set_option maxRecDepth 100000 in
theorem open_bytes {H : Type} {enc : TypeId × Value → H} {W : World} {v : Value} {d : DataW H} {ps : List MemPlace} {base : Nat} (hv : Value.okWide Try.prog W .any base 22 v)
    (h : DataW.Trod enc Try.prog W 0 (fun _ => true) true 22 v d ps) : ∃ ao len cap, v = .slice ao len cap ∧ len ≤ cap ∧ cap ≤ maxLen ∧ ∃ f : Nat → Nat, ∀ k, k < len → f k < 256 ∧ AtB W ao k (.int .u8 (f k : Nat)) := by
  suffices hh : ∃ ao len cap, v = .slice ao len cap ∧ len ≤ cap ∧ cap ≤ maxLen ∧ ∀ k, k < len → ∃ x : Nat, x < 256 ∧ AtB W ao k (.int .u8 x) by
    obtain ⟨ao, len, cap, h1, h2, h3, h4⟩ := hh
    obtain ⟨f, hf⟩ := pick h4
    exact ⟨ao, len, cap, h1, h2, h3, f, hf⟩
  obtain ⟨a0, len0, cap0, rfl⟩ := okWide_slice Try.underlying22 hv
  obtain ⟨fuel, h⟩ := h
  rw [show (Value.slice a0 len0 cap0).cells.toList = [.slice a0 len0 cap0] from rfl] at h
  rcases open_slice Try.underlying22 h with ⟨hc, _⟩ | ⟨a, len, cap, m, n, D, Pl, hc, _, hl, hm, hmm, _, hx⟩
  · simp only [List.cons.injEq, and_true, Value.slice.injEq] at hc
    obtain ⟨rfl, rfl, rfl⟩ := hc
    exact ⟨none, 0, 0, rfl, Nat.le_refl _, Nat.zero_le _, fun k hk => by omega⟩
  · simp only [List.cons.injEq, and_true, Value.slice.injEq] at hc
    obtain ⟨rfl, rfl, rfl⟩ := hc
    simp only [if_true] at hmm
    subst hmm
    refine ⟨some a, len0, m, rfl, hl, hm, fun k hk => ?_⟩
    rw [cellsU8] at hx
    have hspot : a.spot = none := by
      obtain ⟨cs', h1, h2⟩ := hx 0 (by omega)
      obtain ⟨_, hlen, hcell⟩ := World.cells?_some h1
      have h0 := hcell 0 (by omega)
      rw [List.getElem?_eq_getElem (by omega)] at h0
      simpa [Addr.add] using World.cell?_spot h0
    obtain ⟨b, o, sp⟩ := a
    simp only at hspot
    subst hspot
    obtain ⟨cs', h1, h2⟩ := hx k (by omega)
    obtain ⟨_, hlen, hcell⟩ := World.cells?_some h1
    match cs', hlen with
    | [v0], _ =>
      obtain ⟨n0, e0, _, w0⟩ := DataW.trod_int Try.underlying5 h2
      simp only [List.cons.injEq, and_true] at e0
      subst e0
      obtain ⟨x0, hx0, rfl⟩ := u8_nat w0
      have a0 := hcell 0 (by omega)
      rw [add_at, add_at] at a0
      simp only [Nat.mul_one, Nat.add_zero, List.getElem?_cons_zero] at a0
      exact ⟨x0, hx0, b, o, rfl, World.block_lt_of_cell? W _ a0, a0⟩

end Go.Proofs.Ythcfmpjmgheieaa

namespace Go.Proofs.Ythcfmpjmgheieaa
open Go.ChangeShapes Go.WideShapes Go.ChangeAt Go.RowKit Go.Deep

theorem cellsU32 : Try.prog.cellsOf 79 = 1 := by kernel_rfl

set_option maxRecDepth 100000 in
theorem open_draws {H : Type} {enc : TypeId × Value → H} {W : World} {v : Value} {d : DataW H} {ps : List MemPlace} {base : Nat} (hv : Value.okWide Try.prog W .any base 25 v)
    (h : DataW.Trod enc Try.prog W 0 (fun _ => true) true 25 v d ps) : ∃ ao len cap, v = .slice ao len cap ∧ len ≤ cap ∧ (cap ≤ maxLen ∧ (ao = none → len = 0 ∧ cap = 0)) ∧ ∃ f : Nat → Nat, ∀ k, k < len → f k < 4294967296 ∧ AtB W ao k (.int .u32 (f k : Nat)) := by
  suffices hh : ∃ ao len cap, v = .slice ao len cap ∧ len ≤ cap ∧ (cap ≤ maxLen ∧ (ao = none → len = 0 ∧ cap = 0)) ∧ ∀ k, k < len → ∃ x : Nat, x < 4294967296 ∧ AtB W ao k (.int .u32 x) by
    obtain ⟨ao, len, cap, h1, h2, h3, h4⟩ := hh
    obtain ⟨f, hf⟩ := pick h4
    exact ⟨ao, len, cap, h1, h2, h3, f, hf⟩
  obtain ⟨a0, len0, cap0, rfl⟩ := okWide_slice Try.underlying25 hv
  obtain ⟨fuel, h⟩ := h
  rw [show (Value.slice a0 len0 cap0).cells.toList = [.slice a0 len0 cap0] from rfl] at h
  rcases open_slice Try.underlying25 h with ⟨hc, _⟩ | ⟨a, len, cap, m, n, D, Pl, hc, _, hl, hm, hmm, _, hx⟩
  · simp only [List.cons.injEq, and_true, Value.slice.injEq] at hc
    obtain ⟨rfl, rfl, rfl⟩ := hc
    exact ⟨none, 0, 0, rfl, Nat.le_refl _, ⟨Nat.zero_le _, fun _ => ⟨rfl, rfl⟩⟩, fun k hk => by omega⟩
  · simp only [List.cons.injEq, and_true, Value.slice.injEq] at hc
    obtain ⟨rfl, rfl, rfl⟩ := hc
    simp only [if_true] at hmm
    subst hmm
    refine ⟨some a, len0, m, rfl, hl, ⟨hm, fun e => by cases e⟩, fun k hk => ?_⟩
    rw [cellsU32] at hx
    have hspot : a.spot = none := by
      obtain ⟨cs', h1, h2⟩ := hx 0 (by omega)
      obtain ⟨_, hlen, hcell⟩ := World.cells?_some h1
      have h0 := hcell 0 (by omega)
      rw [List.getElem?_eq_getElem (by omega)] at h0
      simpa [Addr.add] using World.cell?_spot h0
    obtain ⟨b, o, sp⟩ := a
    simp only at hspot
    subst hspot
    obtain ⟨cs', h1, h2⟩ := hx k (by omega)
    obtain ⟨_, hlen, hcell⟩ := World.cells?_some h1
    match cs', hlen with
    | [v0], _ =>
      obtain ⟨n0, e0, _, w0⟩ := DataW.trod_int Try.underlying79 h2
      simp only [List.cons.injEq, and_true] at e0
      subst e0
      obtain ⟨x0, hx0, rfl⟩ := u32_nat w0
      have a0 := hcell 0 (by omega)
      rw [add_at, add_at] at a0
      simp only [Nat.mul_one, Nat.add_zero, List.getElem?_cons_zero] at a0
      exact ⟨x0, hx0, b, o, rfl, World.block_lt_of_cell? W _ a0, a0⟩

/-- The first m of them. -/
def firstD (f : Nat → Nat) (m : Nat) : List Nat := (List.range m).map f
theorem firstD_length (f : Nat → Nat) (m : Nat) : (firstD f m).length = m := by simp [firstD]
theorem firstD_in {w : World} {a : Option Addr} {n m : Nat} {f : Nat → Nat} (h : ∀ k, k < n → f k < 4294967296 ∧ AtB w a k (.int .u32 (f k : Nat))) (hm : m ≤ n) : DrawsIn w a (firstD f m) := fun hne => by
  have hm0 : 0 < m := by
    rcases Nat.eq_zero_or_pos m with e | e
    · exact absurd (by rw [e]; rfl) hne
    · exact e
  obtain ⟨_, b, o, rfl, hb, _⟩ := h 0 (by omega)
  refine ⟨b, o, rfl, hb, fun i hi => ?_⟩
  rw [firstD_length] at hi
  obtain ⟨_, b', o', e, _, hc⟩ := h i (by omega)
  cases e
  rw [hc]
  simp [firstD, List.getD, hi]
end Go.Proofs.Ythcfmpjmgheieaa
