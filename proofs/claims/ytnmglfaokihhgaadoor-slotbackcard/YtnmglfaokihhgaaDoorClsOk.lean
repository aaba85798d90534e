/- The calls of chapter 4 in a world that has grown: the table stays. -/
import Derived.Test.YtnmglfaokihhgaaDoorClsRefOf
namespace Go.Proofs.YtnmglfaokihhgaaDoor
open Go.RowKit

/-- The world has grown, and the table of package class lies as it lay. -/
structure ClsOk (w w' : World) : Prop where
  below : Below w.heap.size w w'
  tab : ClsTab w'

theorem ClsOk.start {w : World} (h : ClsTab w) : ClsOk w w := ⟨Below.refl _ _, h⟩
theorem ClsOk.grow {w w1 w2 : World} (h : ClsOk w w1) (hb : Below w1.heap.size w1 w2) : ClsOk w w2 := ⟨h.below.trans (hb.mono h.below.size), h.tab.grown hb⟩
theorem ClsOk.drewN {w w1 : World} (h : ClsOk w w1) (q : Nat) : ClsOk w (w1.drewN q) := h.grow (below_drewN (Below.refl _ _) q)

theorem csizeOk (c x : Int) (hx : (Cls.bytes c : Int) = x) {w0 w : World} (h : ClsOk w0 w) :
    Calls Tryd.prog 19 #[.int .i64 c] w fun e w' => e = .returned (.int .i64 x) ∧ ClsOk w0 w' := by
  have hc := csize c w h.tab
  rw [hx] at hc
  exact hc.mono fun _ _ ⟨he, hb⟩ => ⟨he, h.grow hb⟩

theorem rsizeOk (c x : Int) (hx : (Cls.bytes c : Int) = x) {w0 w : World} (h : ClsOk w0 w) :
    Calls Tryd.prog 20 #[.int .i64 c] w fun e w' => e = .returned (.int .i64 x) ∧ ClsOk w0 w' := by
  have hc := rsize c w
  rw [hx] at hc
  exact hc.mono fun _ _ ⟨he, hb⟩ => ⟨he, h.grow hb⟩

theorem rpagesOk (c x : Int) (hx : (Cls.pages c : Int) = x) {w0 w : World} (h : ClsOk w0 w) :
    Calls Tryd.prog 17 #[.int .i64 c] w fun e w' => e = .returned (.int .i64 x) ∧ ClsOk w0 w' := by
  have hc := rpages c w
  rw [hx] at hc
  exact hc.mono fun _ _ ⟨he, hb⟩ => ⟨he, h.grow hb⟩

theorem cslotsOk (c x : Int) (hx : (Cls.slots c : Int) = x) {w0 w : World} (h : ClsOk w0 w) :
    Calls Tryd.prog 18 #[.int .i64 c] w fun e w' => e = .returned (.int .i64 x) ∧ ClsOk w0 w' := by
  have hc := cslots c w h.tab
  rw [hx] at hc
  exact hc.mono fun _ _ ⟨he, hb⟩ => ⟨he, h.grow hb⟩

theorem rslotsOk (c x : Int) (hx : (Cls.slots c : Int) = x) {w0 w : World} (h : ClsOk w0 w) :
    Calls Tryd.prog 16 #[.int .i64 c] w fun e w' => e = .returned (.int .i64 x) ∧ ClsOk w0 w' := by
  have hc := rslots c w
  rw [hx] at hc
  exact hc.mono fun _ _ ⟨he, hb⟩ => ⟨he, h.grow hb⟩

end Go.Proofs.YtnmglfaokihhgaaDoor
