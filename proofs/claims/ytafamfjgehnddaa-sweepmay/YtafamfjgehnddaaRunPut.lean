/- Package runs: Put. -/
import Derived.Test.YtafamfjgehnddaaRunSort
import Derived.Deep.CutRange
import Derived.Deep.CutBlock
namespace Go.Proofs.Ytafamfjgehnddaa
open Go.RowKit

attribute [local go_sem] Oper.semAt_some

def PutS (B : Nat) (q : Prop) : Res := fun W G => q ∧ Boxed W (B + 1) 68 (.int .i64 4) ∧ ∀ z, G z ↔ z = B + 1
theorem Loc.putS {B : Nat} {q : Prop} : Loc (PutS B q) :=
  ⟨fun ⟨h0, h1, h2⟩ o hn => ⟨h0, (o.block _ h1.lt (hn _ ((h2 _).2 rfl))).trans h1, h2⟩, fun ⟨_, h1, h2⟩ hz => by have := (h2 _).1 hz; subst this; exact h1.lt⟩
end Go.Proofs.Ytafamfjgehnddaa
