/- A statement whose order is drawn, and whose operations and callees leave what lay when it began: one walk, in the order of the text, serves every order. (Of any program.) -/
import Derived.BigQuiet
import Derived.Below
namespace Go.Proofs.Ytafamfjgehnddaa
open Go.RowKit

/-- A world in which whatever lay in w lies as it lay. -/
structure Over (w : World) where
  w' : World
  h : Below w.heap.size w w'

theorem over_region {P : Program} {id : Nat} {Q : Exit → Act → World → Prop} {a : Act} {w : World} {l : List Oper} (hm : P.follows .mixedOrders = true) (hB : Region.lexB .any l.toArray = true)
    (h : wpQuiet P l.toArray (fun x => ∃ u : Over w, x = u.w') (fun a' => ∀ x, (∃ u : Over w, x = u.w') → Q .normal a' x) l a) : (Code.region id l.toArray true).wp P Q a w :=
  wp_region_quiet (C := fun x => ∃ u : Over w, x = u.w') hm hB ⟨⟨_, (Below.refl _ w).drew⟩, rfl⟩ (by simpa using h)

theorem over_call {P : Program} {f : FuncId} {args : Array Value} {w : World} (u : Over w) {v : Value}
    (h : Calls P f args u.w' fun e w'' => e = .returned v ∧ Below u.w'.heap.size u.w' w'') : Calls P f args u.w' fun e w'' => e = .returned v ∧ ∃ m : Over w, w'' = m.w' :=
  h.mono fun _ w'' ⟨he, hb⟩ => ⟨he, ⟨w'', u.h.trans (hb.mono u.h.size)⟩, rfl⟩

end Go.Proofs.Ytafamfjgehnddaa
