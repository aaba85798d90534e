/- The calls of a tree of empty values: Drop, Ceil. -/
import Derived.Test.YtafamfjgehnddaaTreEm
import Derived.Test.YtafamfjgehnddaaTreWalk2
import Derived.OwnWalk
namespace Go.Proofs.Ytafamfjgehnddaa
open Go.RowKit

theorem partE {w : World} {p : Nat} {c : Array Value} (h : w.heap[p]? = some (.cells c shE.ty (0, 0))) : (partAt ⟨p, 0, none⟩ 2 12).run Try.prog w = .ok ⟨p, 2, some 12⟩ w := by
  have hs : w.shape? p = some (170, c.size) := by simp [World.shape?, h, shE]
  have e0 : ∀ {β : Type} (f : Option (TypeId × Nat) → Sem β), (Sem.shape p f).run Try.prog w = (f (some (170, c.size))).run Try.prog w := fun f => by rw [← hs]; rfl
  have e1 : Try.prog.cellsOf 170 = 4 := by kernel_rfl
  have e2 : byteOfCell Try.prog Try.prog.depth 170 0 = some 0 := by kernel_rfl
  have e3 : byteOfCell Try.prog Try.prog.depth 170 2 = some 16 := by kernel_rfl
  simp [partAt, byteOf, noView, viewAt, shape, go_sem, e0, e1, e2, e3]

end Go.Proofs.Ytafamfjgehnddaa
