/- The listed table of package class, out of the rows' condition, in the form that the walks read it. -/
import Derived.Test.YtgdliebllmgibaaDoorLaidIn
import Derived.Test.YtgdliebllmgibaaDoorClsRows
import Derived.Test.YtgdliebllmgibaaDoorCards
import Derived.Test.YtgdliebllmgibaaDoorTie
import Derived.ProofKit
import Derived.OpenShut
import Derived.Stop.Joined
import Derived.Deep.Strs
import Derived.SevenTiedAt
namespace Go.Proofs.YtgdliebllmgibaaDoor
open Go.ChangeShapes Go.WideShapes Go.ChangeAt Go.RowKit

theorem gCls : Tryd.prog.globalNamed "dustpan/class.rows" = some 0 := by kernel_rfl
theorem tCls : (Tryd.prog.globals[0]?).map (·.type) = some 159 := by kernel_rfl
theorem cellsCls : Tryd.prog.cellsOf 159 = 42 := by kernel_rfl
theorem cellsRow : Tryd.prog.cellsOf 143 = 3 := by kernel_rfl
theorem cellsInt : Tryd.prog.cellsOf 3 = 1 := by kernel_rfl

theorem laid_cls : (Rows.laid_dustpan_class_rows : DataW Unit) = .agg ((Cls.tab.take 14).map fun r => .agg [.lit (.int .i64 (r.1 : Int)), .lit (.int .i64 (r.2.1 : Int)), .lit (.int .i64 (r.2.2 : Int))]) := by kernel_rfl

theorem cls_of_trod {w : World} {fuel : Nat} {cs : List Value} {p : List MemPlace}
    (h : DataW.trod (fun _ => ()) Tryd.prog w 0 (fun _ => true) false fuel 159 cs = some (Rows.laid_dustpan_class_rows, p)) (j : Nat) (hj : j < 14) :
    cs[j * 3]? = some (.int .i64 (Cls.bytes (j : Int) : Int)) ∧ cs[j * 3 + 1]? = some (.int .i64 (Cls.pages (j : Int) : Int)) ∧ cs[j * 3 + 2]? = some (.int .i64 (Cls.slots (j : Int) : Int)) := by
  rw [laid_cls] at h
  obtain ⟨xs, m, _, hx, _, hl, hel⟩ := DataW.trod_array Tryd.underlying159 h
  have hE := hel j hj
  rw [cellsRow] at hE
  simp only [Prod.mk.injEq, DataW.agg.injEq] at hx
  have hx1 := congrArg (fun l => l[j]?) hx.1
  have htl : j < (Cls.tab.take 14).length := by simp [Cls.tab]; omega
  have hg : (Cls.tab.take 14)[j]? = some (Cls.tab.getD j (0, 0, 0)) := by
    rw [List.getElem?_take, if_pos hj, List.getD_eq_getElem?_getD]
    have : j < Cls.tab.length := by simp [Cls.tab]; omega
    simp [this]
  simp only [List.getElem?_map, hg, Option.map_some] at hx1
  cases hy : xs[j]? with
  | none => rw [hy] at hx1; cases hx1
  | some y =>
    rw [hy] at hx1 hE
    simp only [Option.map_some, Option.some.injEq] at hx1
    obtain ⟨y0, y1, y2, n, hyx, _, h0, h1, h2⟩ := Deep.trod_struct3 Tryd.underlying143 hE
    simp only [cellsInt] at h0 h1 h2
    obtain ⟨z0, hc0, e0, _⟩ := DataW.trod_int Tryd.underlying3 h0
    obtain ⟨z1, hc1, e1, _⟩ := DataW.trod_int Tryd.underlying3 h1
    obtain ⟨z2, hc2, e2, _⟩ := DataW.trod_int Tryd.underlying3 h2
    subst e0 e1 e2
    rw [hyx] at hx1
    simp only [DataW.agg.injEq, List.cons.injEq, DataW.lit.injEq, Lit.int.injEq, true_and, and_true] at hx1
    obtain ⟨q0, q1, q2⟩ := hx1
    have k0 := congrArg (fun l => l[0]?) hc0
    have k1 := congrArg (fun l => l[0]?) hc1
    have k2 := congrArg (fun l => l[0]?) hc2
    simp [List.getElem?_drop] at k0 k1 k2
    rw [Cls.bytes_nat, Cls.pages_nat, Cls.slots_nat, q0, q1, q2]
    exact ⟨k0, k1, k2⟩

theorem clsTab_of {W : World} {l : List (String × DataW Unit)} (h : laidMet Tryd.prog l W) (hm : ("dustpan/class.rows", Rows.laid_dustpan_class_rows) ∈ l) : ClsTab W := by
  obtain ⟨g, t, cs, fuel, p, h1, h2, h3, h4⟩ := laidMet_at h hm
  obtain rfl := Option.some.inj (gCls.symm.trans h1)
  obtain rfl := Option.some.inj (tCls.symm.trans h2)
  intro j hj
  have := cls_of_trod h4 j hj
  simp only [Array.getElem?_toList] at this
  rw [World.var?_cell gCls h3, World.var?_cell gCls h3, World.var?_cell gCls h3]
  exact this

end Go.Proofs.YtgdliebllmgibaaDoor
