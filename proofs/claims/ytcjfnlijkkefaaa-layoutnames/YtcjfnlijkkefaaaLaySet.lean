/- A name put into a block where another one lay. -/
import Derived.Test.YtcjfnlijkkefaaaLayMath
namespace Go.Proofs.Ytcjfnlijkkefaaa
open Go.RowKit

theorem SBox.set3 {w : World} {r : Nat} {K A B : Int} (h : SBox w r K A B) (K' A' B' : Int) :
    SBox (((w.setCell ⟨r, 0, none⟩ (.int .i64 K')).setCell ⟨r, 1, none⟩ (.int .i64 A')).setCell ⟨r, 2, none⟩ (.int .i64 B')) r K' A' B' :=
  heap_setCell_at (o := 2) (heap_setCell_at (o := 1) (heap_setCell_at (o := 0) h _) _) _

theorem LBox.set3 {w0 w : World} {b r : Nat} {P T : Int} (h : LBox w0 w b P T) (hr : b < r) (hl : w0.heap.size ≤ b) (u v x : Value) :
    LBox w0 (((w.setCell ⟨r, 0, none⟩ u).setCell ⟨r, 1, none⟩ v).setCell ⟨r, 2, none⟩ x) b P T :=
  ((h.other (by omega) (by omega)).other (by omega) (by omega)).other (by omega) (by omega)

theorem LBox.drewN {w0 w : World} {b : Nat} {P T : Int} (h : LBox w0 w b P T) (q : Nat) : LBox w0 (w.drewN q) b P T := h.grow (below_drewN (Below.refl _ w) q)
theorem SBox.drewN {w : World} {r : Nat} {K A B : Int} (h : SBox w r K A B) (q : Nat) : SBox (w.drewN q) r K A B := h.grow (below_drewN (Below.refl _ w) q)

end Go.Proofs.Ytcjfnlijkkefaaa
