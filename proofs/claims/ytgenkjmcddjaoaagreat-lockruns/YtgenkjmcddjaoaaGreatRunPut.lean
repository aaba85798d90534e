/- Package runs: Put. -/
import Derived.Test.YtgenkjmcddjaoaaGreatRunSort
import Derived.Deep.CutRange
import Derived.Deep.CutBlock
namespace Go.Proofs.YtgenkjmcddjaoaaGreat
open Go.RowKit

attribute [local go_sem] Oper.semAt_some

/-- What the first loop of Put has in memory: where, what has been told, the end, the runs beside. -/
def PutI (B : Nat) (x y : Int) (base : Nat) (bs : List Int) : Res := fun W G => ∃ G8, Boxed W B 3 (.int .i64 x) ∧ Boxed W (B + 1) 63 (.int .i64 0) ∧ Boxed W (B + 2) 3 (.int .i64 y) ∧
  BoxRow (B + 3) 103 132 base 2 bs.length (pairsI (bs.map rOf)) W G8 ∧ ∀ z, G z ↔ (z = B ∨ z = B + 1 ∨ z = B + 2) ∨ G8 z
theorem Loc.putI {B : Nat} {x y : Int} {base : Nat} {bs : List Int} : Loc (PutI B x y base bs) := by
  refine ⟨fun {w w' M G} ⟨G8, h1, h2, h3, h4, h5⟩ o hn => ⟨G8, (o.block _ h1.lt (hn _ ((h5 _).2 (.inl (.inl rfl))))).trans h1, (o.block _ h2.lt (hn _ ((h5 _).2 (.inl (.inr (.inl rfl)))))).trans h2, (o.block _ h3.lt (hn _ ((h5 _).2 (.inl (.inr (.inr rfl)))))).trans h3, Loc.boxRow.kept h4 o (fun z hz => hn z ((h5 z).2 (.inr hz))), h5⟩, fun {w G z} ⟨G8, h1, h2, h3, h4, h5⟩ hz => ?_⟩
  rcases (h5 z).1 hz with (rfl | rfl | rfl) | q
  · exact h1.lt
  · exact h2.lt
  · exact h3.lt
  · exact Loc.boxRow.lt h4 q
def PutS (B : Nat) (q : Prop) : Res := fun W G => q ∧ Boxed W (B + 1) 63 (.int .i64 4) ∧ ∀ z, G z ↔ z = B + 1
theorem Loc.putS {B : Nat} {q : Prop} : Loc (PutS B q) :=
  ⟨fun ⟨h0, h1, h2⟩ o hn => ⟨h0, (o.block _ h1.lt (hn _ ((h2 _).2 rfl))).trans h1, h2⟩, fun ⟨_, h1, h2⟩ hz => by have := (h2 _).1 hz; subst this; exact h1.lt⟩
def PutR (B : Nat) (x n y : Int) (base : Nat) (pre : List Int) : Res := fun W G => (∀ k ∈ pre, hits x n k = false) ∧ PutI B x y base (pre.filter (besd x n)) W G
theorem Loc.putR {B : Nat} {x n y : Int} {base : Nat} {pre : List Int} : Loc (PutR B x n y base pre) :=
  ⟨fun ⟨h0, h1⟩ o hn => ⟨h0, Loc.putI.kept h1 o hn⟩, fun ⟨_, h1⟩ hz => Loc.putI.lt h1 hz⟩

end Go.Proofs.YtgenkjmcddjaoaaGreat
