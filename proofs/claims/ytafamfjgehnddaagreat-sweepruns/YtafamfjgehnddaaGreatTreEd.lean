/- The calls of a tree of empty values: Drop, Ceil. -/
import Derived.Test.YtafamfjgehnddaaGreatTreEm
import Derived.Test.YtafamfjgehnddaaGreatTreWalk2
import Derived.OwnWalk
namespace Go.Proofs.YtafamfjgehnddaaGreat
open Go.RowKit

theorem partE {w : World} {p : Nat} {c : Array Value} (h : w.heap[p]? = some (.cells c shE.ty (0, 0))) : (partAt ⟨p, 0, none⟩ 2 12).run Tryz.prog w = .ok ⟨p, 2, some 12⟩ w := by
  have hs : w.shape? p = some (255, c.size) := by simp [World.shape?, h, shE]
  have e0 : ∀ {β : Type} (f : Option (TypeId × Nat) → Sem β), (Sem.shape p f).run Tryz.prog w = (f (some (255, c.size))).run Tryz.prog w := fun f => by rw [← hs]; rfl
  have e1 : Tryz.prog.cellsOf 255 = 4 := by kernel_rfl
  have e2 : byteOfCell Tryz.prog Tryz.prog.depth 255 0 = some 0 := by kernel_rfl
  have e3 : byteOfCell Tryz.prog Tryz.prog.depth 255 2 = some 16 := by kernel_rfl
  simp [partAt, byteOf, noView, viewAt, shape, go_sem, e0, e1, e2, e3]

end Go.Proofs.YtafamfjgehnddaaGreat
