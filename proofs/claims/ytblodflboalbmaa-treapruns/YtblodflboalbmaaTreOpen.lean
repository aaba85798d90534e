/- Lists that came in, opened: of ints, of numbers of 32 and 8 bits, of calls; a text. Printed by tools/gen/treopen.py. -/
import Derived.Test.YtblodflboalbmaaTreAwake
import Derived.Deep.Slices
import Derived.Deep.Strs
import Derived.ChangeSame
import Derived.Carry
import Derived.ChangeMaps5
namespace Go.Proofs.Ytblodflboalbmaa
open Go.ChangeShapes Go.WideShapes Go.ChangeAt Go.RowKit Go.Deep

theorem laidOut : laidOutB Try.prog = true := by kernel_rfl
theorem cellsI : Try.prog.cellsOf 3 = 1 := by kernel_rfl
theorem cellsU8 : Try.prog.cellsOf 5 = 1 := by kernel_rfl
theorem cellsU32 : Try.prog.cellsOf 29 = 1 := by kernel_rfl

theorem add_at (b o k : Nat) : (⟨b, o, none⟩ : Addr).add k = ⟨b, o + k, none⟩ := by
  by_cases h : k = 0
  · subst h; simp [Addr.add]
  · simp [Addr.add, h]

theorem pick {β : Type} [Inhabited β] {n : Nat} {p : Nat → β → Prop} (h : ∀ k, k < n → ∃ x, p k x) : ∃ f : Nat → β, ∀ k, k < n → p k (f k) := by
  classical
  exact ⟨fun k => if hk : k < n then (h k hk).choose else default, fun k hk => by simp only [hk, dif_pos]; exact (h k hk).choose_spec⟩

/-- At place k of the list lies v. -/
def At (w : World) (ao : Option Addr) (k : Nat) (v : Value) : Prop := ∃ b o, ao = some ⟨b, o, none⟩ ∧ b < w.heap.size ∧ w.cell? ⟨b, o + k, none⟩ = some v
theorem At.below {w w' : World} {ao : Option Addr} {k : Nat} {v : Value} (h : At w ao k v) (hb : Below w.heap.size w w') : ∃ b o, ao = some ⟨b, o, none⟩ ∧ w'.cell? ⟨b, o + k, none⟩ = some v := by
  obtain ⟨b, o, h1, h2, h3⟩ := h
  exact ⟨b, o, h1, (hb.cell (p := ⟨b, o + k, none⟩) h2).trans h3⟩

set_option maxRecDepth 100000 in
theorem open_text {H : Type} {enc : TypeId × Value → H} {W : World} {v : Value} {d : DataW H} {ps : List MemPlace} {base : Nat} (hv : Value.okWide Try.prog W .any base 9 v)
    (h : DataW.Trod enc Try.prog W 0 (fun _ => true) true 9 v d ps) : ∃ s : ByteArray, v = .string s ∧ s.size ≤ maxLen := by
  obtain ⟨s, h1, _, _, h2⟩ := Go.ChangeMaps.open_string Try.underlying9 hv h
  exact ⟨s, h1, h2⟩

set_option maxRecDepth 100000 in
theorem open_ints {H : Type} {enc : TypeId × Value → H} {W : World} {v : Value} {d : DataW H} {ps : List MemPlace} {base : Nat} (hv : Value.okWide Try.prog W .any base 38 v)
    (h : DataW.Trod enc Try.prog W 0 (fun _ => true) true 38 v d ps) : ∃ ao len cap, v = .slice ao len cap ∧ len ≤ cap ∧ cap ≤ maxLen ∧ ∃ f : Nat → Int, ∀ k, k < len → (-9223372036854775808 ≤ f k ∧ f k ≤ 9223372036854775807) ∧ At W ao k (.int .i64 (f k : Int)) := by
  suffices hh : ∃ ao len cap, v = .slice ao len cap ∧ len ≤ cap ∧ cap ≤ maxLen ∧ ∀ k, k < len → ∃ x : Int, (-9223372036854775808 ≤ x ∧ x ≤ 9223372036854775807) ∧ At W ao k (.int .i64 x) by
    obtain ⟨ao, len, cap, h1, h2, h3, h4⟩ := hh
    obtain ⟨f, hf⟩ := pick h4
    exact ⟨ao, len, cap, h1, h2, h3, f, hf⟩
  obtain ⟨a0, len0, cap0, rfl⟩ := okWide_slice Try.underlying38 hv
  obtain ⟨fuel, h⟩ := h
  rw [show (Value.slice a0 len0 cap0).cells.toList = [.slice a0 len0 cap0] from rfl] at h
  rcases open_slice Try.underlying38 h with ⟨hc, _⟩ | ⟨a, len, cap, m, n, D, Pl, hc, _, hl, hm, hmm, _, hx⟩
  · simp only [List.cons.injEq, and_true, Value.slice.injEq] at hc
    obtain ⟨rfl, rfl, rfl⟩ := hc
    exact ⟨none, 0, 0, rfl, Nat.le_refl _, Nat.zero_le _, fun k hk => by omega⟩
  · simp only [List.cons.injEq, and_true, Value.slice.injEq] at hc
    obtain ⟨rfl, rfl, rfl⟩ := hc
    simp only [if_true] at hmm
    subst hmm
    refine ⟨some a, len0, m, rfl, hl, hm, fun k hk => ?_⟩
    rw [cellsI] at hx
    have hspot : a.spot = none := by
      obtain ⟨cs', h1, h2⟩ := hx 0 (by omega)
      obtain ⟨_, hlen, hcell⟩ := World.cells?_some h1
      have h0 := hcell 0 (by omega)
      rw [List.getElem?_eq_getElem (by omega)] at h0
      simpa [Addr.add] using World.cell?_spot h0
    obtain ⟨b, o, sp⟩ := a
    simp only at hspot
    subst hspot
    obtain ⟨cs', h1, h2⟩ := hx k (by omega)
    obtain ⟨_, hlen, hcell⟩ := World.cells?_some h1
    match cs', hlen with
    | [v0], _ =>
      obtain ⟨n0, e0, _, w0⟩ := DataW.trod_int Try.underlying3 h2
      simp only [List.cons.injEq, and_true] at e0
      subst e0
      have hx0 := i64_bd w0
      have a0 := hcell 0 (by omega)
      rw [add_at, add_at] at a0
      simp only [Nat.mul_one, Nat.add_zero, List.getElem?_cons_zero] at a0
      exact ⟨n0, hx0, b, o, rfl, World.block_lt_of_cell? W _ a0, a0⟩

set_option maxRecDepth 100000 in
theorem open_draws {H : Type} {enc : TypeId × Value → H} {W : World} {v : Value} {d : DataW H} {ps : List MemPlace} {base : Nat} (hv : Value.okWide Try.prog W .any base 42 v)
    (h : DataW.Trod enc Try.prog W 0 (fun _ => true) true 42 v d ps) : ∃ ao len cap, v = .slice ao len cap ∧ len ≤ cap ∧ cap ≤ maxLen ∧ ∃ f : Nat → Nat, ∀ k, k < len → f k < 4294967296 ∧ At W ao k (.int .u32 (f k : Nat)) := by
  suffices hh : ∃ ao len cap, v = .slice ao len cap ∧ len ≤ cap ∧ cap ≤ maxLen ∧ ∀ k, k < len → ∃ x : Nat, x < 4294967296 ∧ At W ao k (.int .u32 x) by
    obtain ⟨ao, len, cap, h1, h2, h3, h4⟩ := hh
    obtain ⟨f, hf⟩ := pick h4
    exact ⟨ao, len, cap, h1, h2, h3, f, hf⟩
  obtain ⟨a0, len0, cap0, rfl⟩ := okWide_slice Try.underlying42 hv
  obtain ⟨fuel, h⟩ := h
  rw [show (Value.slice a0 len0 cap0).cells.toList = [.slice a0 len0 cap0] from rfl] at h
  rcases open_slice Try.underlying42 h with ⟨hc, _⟩ | ⟨a, len, cap, m, n, D, Pl, hc, _, hl, hm, hmm, _, hx⟩
  · simp only [List.cons.injEq, and_true, Value.slice.injEq] at hc
    obtain ⟨rfl, rfl, rfl⟩ := hc
    exact ⟨none, 0, 0, rfl, Nat.le_refl _, Nat.zero_le _, fun k hk => by omega⟩
  · simp only [List.cons.injEq, and_true, Value.slice.injEq] at hc
    obtain ⟨rfl, rfl, rfl⟩ := hc
    simp only [if_true] at hmm
    subst hmm
    refine ⟨some a, len0, m, rfl, hl, hm, fun k hk => ?_⟩
    rw [cellsU32] at hx
    have hspot : a.spot = none := by
      obtain ⟨cs', h1, h2⟩ := hx 0 (by omega)
      obtain ⟨_, hlen, hcell⟩ := World.cells?_some h1
      have h0 := hcell 0 (by omega)
      rw [List.getElem?_eq_getElem (by omega)] at h0
      simpa [Addr.add] using World.cell?_spot h0
    obtain ⟨b, o, sp⟩ := a
    simp only at hspot
    subst hspot
    obtain ⟨cs', h1, h2⟩ := hx k (by omega)
    obtain ⟨_, hlen, hcell⟩ := World.cells?_some h1
    match cs', hlen with
    | [v0], _ =>
      obtain ⟨n0, e0, _, w0⟩ := DataW.trod_int Try.underlying29 h2
      simp only [List.cons.injEq, and_true] at e0
      subst e0
      obtain ⟨x0, hx0, rfl⟩ := u32_nat w0
      have a0 := hcell 0 (by omega)
      rw [add_at, add_at] at a0
      simp only [Nat.mul_one, Nat.add_zero, List.getElem?_cons_zero] at a0
      exact ⟨x0, hx0, b, o, rfl, World.block_lt_of_cell? W _ a0, a0⟩

set_option maxRecDepth 100000 in
theorem open_bytes {H : Type} {enc : TypeId × Value → H} {W : World} {v : Value} {d : DataW H} {ps : List MemPlace} {base : Nat} (hv : Value.okWide Try.prog W .any base 43 v)
    (h : DataW.Trod enc Try.prog W 0 (fun _ => true) true 43 v d ps) : ∃ ao len cap, v = .slice ao len cap ∧ len ≤ cap ∧ cap ≤ maxLen ∧ ∃ f : Nat → Nat, ∀ k, k < len → f k < 256 ∧ At W ao k (.int .u8 (f k : Nat)) := by
  suffices hh : ∃ ao len cap, v = .slice ao len cap ∧ len ≤ cap ∧ cap ≤ maxLen ∧ ∀ k, k < len → ∃ x : Nat, x < 256 ∧ At W ao k (.int .u8 x) by
    obtain ⟨ao, len, cap, h1, h2, h3, h4⟩ := hh
    obtain ⟨f, hf⟩ := pick h4
    exact ⟨ao, len, cap, h1, h2, h3, f, hf⟩
  obtain ⟨a0, len0, cap0, rfl⟩ := okWide_slice Try.underlying43 hv
  obtain ⟨fuel, h⟩ := h
  rw [show (Value.slice a0 len0 cap0).cells.toList = [.slice a0 len0 cap0] from rfl] at h
  rcases open_slice Try.underlying43 h with ⟨hc, _⟩ | ⟨a, len, cap, m, n, D, Pl, hc, _, hl, hm, hmm, _, hx⟩
  · simp only [List.cons.injEq, and_true, Value.slice.injEq] at hc
    obtain ⟨rfl, rfl, rfl⟩ := hc
    exact ⟨none, 0, 0, rfl, Nat.le_refl _, Nat.zero_le _, fun k hk => by omega⟩
  · simp only [List.cons.injEq, and_true, Value.slice.injEq] at hc
    obtain ⟨rfl, rfl, rfl⟩ := hc
    simp only [if_true] at hmm
    subst hmm
    refine ⟨some a, len0, m, rfl, hl, hm, fun k hk => ?_⟩
    rw [cellsU8] at hx
    have hspot : a.spot = none := by
      obtain ⟨cs', h1, h2⟩ := hx 0 (by omega)
      obtain ⟨_, hlen, hcell⟩ := World.cells?_some h1
      have h0 := hcell 0 (by omega)
      rw [List.getElem?_eq_getElem (by omega)] at h0
      simpa [Addr.add] using World.cell?_spot h0
    obtain ⟨b, o, sp⟩ := a
    simp only at hspot
    subst hspot
    obtain ⟨cs', h1, h2⟩ := hx k (by omega)
    obtain ⟨_, hlen, hcell⟩ := World.cells?_some h1
    match cs', hlen with
    | [v0], _ =>
      obtain ⟨n0, e0, _, w0⟩ := DataW.trod_int Try.underlying5 h2
      simp only [List.cons.injEq, and_true] at e0
      subst e0
      obtain ⟨x0, hx0, rfl⟩ := u8_nat w0
      have a0 := hcell 0 (by omega)
      rw [add_at, add_at] at a0
      simp only [Nat.mul_one, Nat.add_zero, List.getElem?_cons_zero] at a0
      exact ⟨x0, hx0, b, o, rfl, World.block_lt_of_cell? W _ a0, a0⟩

theorem cellsOp : Try.prog.cellsOf 31 = 3 := by kernel_rfl
theorem fieldsOp : ∃ f0 f1 f2 : Field, Try.prog.underlying 31 = some (.struct #[f0, f1, f2]) ∧ (f0.type = 5 ∧ f0.offset = 0) ∧ (f1.type = 3 ∧ f1.offset = 1) ∧ (f2.type = 29 ∧ f2.offset = 2) :=
  ⟨_, _, _, Try.underlying31, ⟨rfl, rfl⟩, ⟨rfl, rfl⟩, ⟨rfl, rfl⟩⟩

set_option maxRecDepth 100000 in
theorem open_calls {H : Type} {enc : TypeId × Value → H} {W : World} {v : Value} {d : DataW H} {ps : List MemPlace} {base : Nat} (hv : Value.okWide Try.prog W .any base 22 v)
    (h : DataW.Trod enc Try.prog W 0 (fun _ => true) true 22 v d ps) : ∃ ao len cap, v = .slice ao len cap ∧ len ≤ cap ∧ cap ≤ maxLen ∧ ∃ f : Nat → Nat × Int × Nat, ∀ k, k < len → ((f k).1 < 256 ∧ (-9223372036854775808 ≤ (f k).2.1 ∧ (f k).2.1 ≤ 9223372036854775807) ∧ (f k).2.2 < 4294967296) ∧ At W ao (k * 3) (.int .u8 ((f k).1 : Int)) ∧ At W ao (k * 3 + 1) (.int .i64 (f k).2.1) ∧ At W ao (k * 3 + 2) (.int .u32 ((f k).2.2 : Int)) := by
  suffices hh : ∃ ao len cap, v = .slice ao len cap ∧ len ≤ cap ∧ cap ≤ maxLen ∧ ∀ k, k < len → ∃ x : Nat × Int × Nat, (x.1 < 256 ∧ (-9223372036854775808 ≤ x.2.1 ∧ x.2.1 ≤ 9223372036854775807) ∧ x.2.2 < 4294967296) ∧ At W ao (k * 3) (.int .u8 (x.1 : Int)) ∧ At W ao (k * 3 + 1) (.int .i64 x.2.1) ∧ At W ao (k * 3 + 2) (.int .u32 (x.2.2 : Int)) by
    obtain ⟨ao, len, cap, h1, h2, h3, h4⟩ := hh
    obtain ⟨f, hf⟩ := pick h4
    exact ⟨ao, len, cap, h1, h2, h3, f, hf⟩
  obtain ⟨a0, len0, cap0, rfl⟩ := okWide_slice Try.underlying22 hv
  obtain ⟨fuel, h⟩ := h
  rw [show (Value.slice a0 len0 cap0).cells.toList = [.slice a0 len0 cap0] from rfl] at h
  rcases open_slice Try.underlying22 h with ⟨hc, _⟩ | ⟨a, len, cap, m, n, D, Pl, hc, _, hl, hm, hmm, _, hx⟩
  · simp only [List.cons.injEq, and_true, Value.slice.injEq] at hc
    obtain ⟨rfl, rfl, rfl⟩ := hc
    exact ⟨none, 0, 0, rfl, Nat.le_refl _, Nat.zero_le _, fun k hk => by omega⟩
  · simp only [List.cons.injEq, and_true, Value.slice.injEq] at hc
    obtain ⟨rfl, rfl, rfl⟩ := hc
    simp only [if_true] at hmm
    subst hmm
    refine ⟨some a, len0, m, rfl, hl, hm, fun k hk => ?_⟩
    rw [cellsOp] at hx
    obtain ⟨f0, f1, f2, hs, ⟨t0, o0⟩, ⟨t1, o1⟩, ⟨t2, o2⟩⟩ := fieldsOp
    have hspot : a.spot = none := by
      obtain ⟨cs', h1, h2⟩ := hx 0 (by omega)
      obtain ⟨_, hlen, hcell⟩ := World.cells?_some h1
      have h0 := hcell 0 (by omega)
      rw [List.getElem?_eq_getElem (by omega)] at h0
      simpa [Addr.add] using World.cell?_spot h0
    obtain ⟨b, o, sp⟩ := a
    simp only at hspot
    subst hspot
    obtain ⟨cs', h1, h2⟩ := hx k (by omega)
    obtain ⟨_, hlen, hcell⟩ := World.cells?_some h1
    obtain ⟨xs, q, _, _, _, hxl, hf⟩ := DataW.trod_struct hs h2
    match xs, hxl, cs', hlen with
    | [y0, y1, y2], _, [v0, v1, v2], _ =>
      have g0 := hf 0 f0 rfl
      have g1 := hf 1 f1 rfl
      have g2 := hf 2 f2 rfl
      rw [t0, o0, cellsU8] at g0
      rw [t1, o1, cellsI] at g1
      rw [t2, o2, cellsU32] at g2
      obtain ⟨n0, e0, _, w0⟩ := DataW.trod_int Try.underlying5 g0
      obtain ⟨n1, e1, _, w1⟩ := DataW.trod_int Try.underlying3 g1
      obtain ⟨n2, e2, _, w2⟩ := DataW.trod_int Try.underlying29 g2
      simp only [List.drop_zero, List.drop_succ_cons, List.take_succ_cons, List.take_zero, List.cons.injEq, and_true] at e0 e1 e2
      subst e0 e1 e2
      obtain ⟨x0, hx0, rfl⟩ := u8_nat w0
      have hx1 := i64_bd w1
      obtain ⟨x2, hx2, rfl⟩ := u32_nat w2
      have a0 := hcell 0 (by omega)
      have a1 := hcell 1 (by omega)
      have a2 := hcell 2 (by omega)
      rw [add_at, add_at] at a0 a1 a2
      have hlt := World.block_lt_of_cell? W _ a0
      exact ⟨(x0, n1, x2), ⟨hx0, hx1, hx2⟩, ⟨b, o, rfl, hlt, a0⟩, ⟨b, o, rfl, hlt, by rw [← Nat.add_assoc]; exact a1⟩, ⟨b, o, rfl, hlt, by rw [← Nat.add_assoc]; exact a2⟩⟩
end Go.Proofs.Ytblodflboalbmaa
