/- Layouts and names of words that came in by value, opened. (Structs of two and of three numbers.) -/
import Derived.Test.YtafamfjgehnddaaLayOk
import Derived.ChangeSame
import Derived.Carry
import Derived.Lib.SmallJoins
namespace Go.Proofs.Ytafamfjgehnddaa
open Go.ChangeShapes Go.WideShapes Go.ChangeAt Go.RowKit Go.Joins

theorem laidOut : laidOutB Try.prog = true := by kernel_rfl
theorem cellsLayout : Try.prog.cellsOf 26 = 2 := by kernel_rfl
theorem cellsSpot : Try.prog.cellsOf 131 = 3 := by kernel_rfl

set_option maxRecDepth 100000 in
theorem open_layout {H : Type} {enc : TypeId × Value → H} {W : World} {v : Value} {d : DataW H} {ps : List MemPlace} {base : Nat} (hv : Value.okWide Try.prog W .any base 26 v)
    (h : DataW.Trod enc Try.prog W 0 (fun _ => true) true 26 v d ps) : ∃ P T : Int, v = .agg #[.int .i64 P, .int .i64 T] ∧ (-9223372036854775808 ≤ P ∧ P ≤ 9223372036854775807) ∧ (-9223372036854775808 ≤ T ∧ T ≤ 9223372036854775807) := by
  obtain ⟨c0, c1, y0, y1, m, rfl, _, _, hy0, hy1⟩ := open_agg2 Try.underlying26 (by kernel_rfl) cellsLayout hv h
  obtain ⟨a, e0, _, wa⟩ := DataW.trod_int Try.underlying3 hy0
  obtain ⟨b, e1, _, wb⟩ := DataW.trod_int Try.underlying3 hy1
  simp only [List.cons.injEq, and_true] at e0 e1
  subst e0 e1
  exact ⟨a, b, rfl, i64_bd wa, i64_bd wb⟩

set_option maxRecDepth 100000 in
theorem open_spot {H : Type} {enc : TypeId × Value → H} {W : World} {v : Value} {d : DataW H} {ps : List MemPlace} {base : Nat} (hv : Value.okWide Try.prog W .any base 131 v)
    (h : DataW.Trod enc Try.prog W 0 (fun _ => true) true 131 v d ps) : ∃ K A B : Int, v = .agg #[.int .i64 K, .int .i64 A, .int .i64 B] ∧ (-9223372036854775808 ≤ K ∧ K ≤ 9223372036854775807) ∧ (-9223372036854775808 ≤ A ∧ A ≤ 9223372036854775807) ∧ (-9223372036854775808 ≤ B ∧ B ≤ 9223372036854775807) := by
  obtain ⟨c0, c1, c2, y0, y1, y2, m, rfl, _, _, hy0, hy1, hy2⟩ := open_agg3 Try.underlying131 (by kernel_rfl) cellsSpot hv h
  obtain ⟨a, e0, _, wa⟩ := DataW.trod_int Try.underlying3 hy0
  obtain ⟨b, e1, _, wb⟩ := DataW.trod_int Try.underlying3 hy1
  obtain ⟨c, e2, _, wc⟩ := DataW.trod_int Try.underlying3 hy2
  simp only [List.cons.injEq, and_true] at e0 e1 e2
  subst e0 e1 e2
  exact ⟨a, b, c, rfl, i64_bd wa, i64_bd wb, i64_bd wc⟩

end Go.Proofs.Ytafamfjgehnddaa
