/-
  No cell of these rows narrows 'for every input' (looked for: loops, veiled, ifaces, maps, wideKeys, modest, calm, conditions, laid).
  DERIVED. THE GIVEN ROWS OF THIS SEAT. 5 by the template 'for every input the law returns true; each argument reads behind the call as it read before'; 0 by the template 'total and deterministic' (their statements: YtdhjingcnnkbiaaTotals.lean).
  GIVEN WITH THE SEED: the statements are not yours to turn. If you find one false, say at which input.
  Laid BY PROGRAM, IN A SANDBOX (cutbox-rows.mjs): the forced cells as the released guide's own fill.sh prints them over the translation 8fc982625d0d80a3… (all of the seat's roots in one cut). By AI agents, Wed Nov 11 2026. No macro, syntax, notation, axiom, sorry.
-/
import Derived.Test.YtdhjingcnnkbiaaChecked
import GoSem.Claim
import GoSem.ClaimJoined
import GoSem.ClaimMapViews
import Derived.JoinedTies
import Derived.KernelRfl
namespace Go.Proofs.Ytdhjingcnnkbiaa
/- THE CELL 'sum', in the pinned program and in every row, IS THE sha256 OF THE DUMP (.gsa) THAT YtdhjingcnnkbiaaProg.lean LOADS. Nothing in Lean hashes anything: it is a label: what it is worth is what the hold of that sum in a sandbox is worth. -/
noncomputable def Try.pinned : Pinned := { name := "ytdhjingcnnkbiaa", sum := "8fc982625d0d80a360787955bb1a5d17bbed57ab0bb755bf4e61d5d5ad2abfeb", checked := Try.checked }
namespace Rows
def none {H : Type} : Left H := { results := [], args := [] }

/-- 'dustpanlaw7.PhaseAll': WHATEVER THE INPUT: true; the input reads as it did. -/
def phaseAllSpec : ChangeSpec := { name := "phaseAll", fn := fun _ => fun
  | [d1, d2, d3] => { results := [.lit (.bool true)], args := [d1, d2, d3] }
  | _ => none }
def phaseAllRow : OpenClaim := { program := "ytdhjingcnnkbiaa", sum := "8fc982625d0d80a360787955bb1a5d17bbed57ab0bb755bf4e61d5d5ad2abfeb", func := "dustpan/dustpanlaw7.PhaseAll", spec := "phaseAll", apart := false }
def PhaseAllSaid : Prop := phaseAllRow.holds Try.pinned (OpenSpec.ofChange phaseAllSpec)

/-- ITS FALSE NEIGHBOUR: 'it returns false'. Refute it at one input. -/
def phaseAllWrong : ChangeSpec := { name := "phaseAll", fn := fun _ => fun
  | [d1, d2, d3] => { results := [.lit (.bool false)], args := [d1, d2, d3] }
  | _ => none }
def PhaseAllWrongFalsely : Prop := phaseAllRow.holds Try.pinned (OpenSpec.ofChange phaseAllWrong)

/-- 'dustpanlaw7.PhaseBack': WHATEVER THE INPUT: true; the input reads as it did. -/
def phaseBackSpec : ChangeSpec := { name := "phaseBack", fn := fun _ => fun
  | [d1, d2] => { results := [.lit (.bool true)], args := [d1, d2] }
  | _ => none }
def phaseBackRow : OpenClaim := { program := "ytdhjingcnnkbiaa", sum := "8fc982625d0d80a360787955bb1a5d17bbed57ab0bb755bf4e61d5d5ad2abfeb", func := "dustpan/dustpanlaw7.PhaseBack", spec := "phaseBack", apart := false }
def PhaseBackSaid : Prop := phaseBackRow.holds Try.pinned (OpenSpec.ofChange phaseBackSpec)

/-- ITS FALSE NEIGHBOUR: 'it returns false'. Refute it at one input. -/
def phaseBackWrong : ChangeSpec := { name := "phaseBack", fn := fun _ => fun
  | [d1, d2] => { results := [.lit (.bool false)], args := [d1, d2] }
  | _ => none }
def PhaseBackWrongFalsely : Prop := phaseBackRow.holds Try.pinned (OpenSpec.ofChange phaseBackWrong)

/-- 'dustpanlaw7.PhaseWalk': WHATEVER THE INPUT: true; the input reads as it did. -/
def phaseWalkSpec : ChangeSpec := { name := "phaseWalk", fn := fun _ => fun
  | [d1, d2] => { results := [.lit (.bool true)], args := [d1, d2] }
  | _ => none }
def phaseWalkRow : OpenClaim := { program := "ytdhjingcnnkbiaa", sum := "8fc982625d0d80a360787955bb1a5d17bbed57ab0bb755bf4e61d5d5ad2abfeb", func := "dustpan/dustpanlaw7.PhaseWalk", spec := "phaseWalk", apart := false }
def PhaseWalkSaid : Prop := phaseWalkRow.holds Try.pinned (OpenSpec.ofChange phaseWalkSpec)

/-- ITS FALSE NEIGHBOUR: 'it returns false'. Refute it at one input. -/
def phaseWalkWrong : ChangeSpec := { name := "phaseWalk", fn := fun _ => fun
  | [d1, d2] => { results := [.lit (.bool false)], args := [d1, d2] }
  | _ => none }
def PhaseWalkWrongFalsely : Prop := phaseWalkRow.holds Try.pinned (OpenSpec.ofChange phaseWalkWrong)

/-- 'dustpanlaw7.PhaseOnce': WHATEVER THE INPUT: true; the input reads as it did. -/
def phaseOnceSpec : ChangeSpec := { name := "phaseOnce", fn := fun _ => fun
  | [d1, d2] => { results := [.lit (.bool true)], args := [d1, d2] }
  | _ => none }
def phaseOnceRow : OpenClaim := { program := "ytdhjingcnnkbiaa", sum := "8fc982625d0d80a360787955bb1a5d17bbed57ab0bb755bf4e61d5d5ad2abfeb", func := "dustpan/dustpanlaw7.PhaseOnce", spec := "phaseOnce", apart := false }
def PhaseOnceSaid : Prop := phaseOnceRow.holds Try.pinned (OpenSpec.ofChange phaseOnceSpec)

/-- ITS FALSE NEIGHBOUR: 'it returns false'. Refute it at one input. -/
def phaseOnceWrong : ChangeSpec := { name := "phaseOnce", fn := fun _ => fun
  | [d1, d2] => { results := [.lit (.bool false)], args := [d1, d2] }
  | _ => none }
def PhaseOnceWrongFalsely : Prop := phaseOnceRow.holds Try.pinned (OpenSpec.ofChange phaseOnceWrong)

/-- 'dustpanlaw7.PhaseOther': WHATEVER THE INPUT: true; the input reads as it did. -/
def phaseOtherSpec : ChangeSpec := { name := "phaseOther", fn := fun _ => fun
  | [d1, d2, d3] => { results := [.lit (.bool true)], args := [d1, d2, d3] }
  | _ => none }
def phaseOtherRow : OpenClaim := { program := "ytdhjingcnnkbiaa", sum := "8fc982625d0d80a360787955bb1a5d17bbed57ab0bb755bf4e61d5d5ad2abfeb", func := "dustpan/dustpanlaw7.PhaseOther", spec := "phaseOther", apart := false }
def PhaseOtherSaid : Prop := phaseOtherRow.holds Try.pinned (OpenSpec.ofChange phaseOtherSpec)

/-- ITS FALSE NEIGHBOUR: 'it returns false'. Refute it at one input. -/
def phaseOtherWrong : ChangeSpec := { name := "phaseOther", fn := fun _ => fun
  | [d1, d2, d3] => { results := [.lit (.bool false)], args := [d1, d2, d3] }
  | _ => none }
def PhaseOtherWrongFalsely : Prop := phaseOtherRow.holds Try.pinned (OpenSpec.ofChange phaseOtherWrong)

/- THE SECOND FORM. 'bulk': how many values and letters a reading holds, each counted each time it is reached (what is shared counts as often as it is met; a slice's spare places count too). A statement '..UptoSaid' is the law's where the arguments, and the package variables that the reading takes, are together of bulk at most 1048576: NARROWER than '..Said'. Prove '..Said' where nothing that the law and all that it calls make is longer than what came in: it says more and counts as full. Else prove '..UptoSaid'. A law counts once. -/
mutual
def uptoBulk {H : Type} : DataW H → Nat
  | .lit (.string bytes) => bytes.length + 1
  | .lit _ => 1
  | .nil => 1
  | .ptr d => uptoBulk d + 1
  | .slice elems spare => uptoBulkAll elems + uptoBulkAll spare + 1
  | .agg parts => uptoBulkAll parts + 1
  | .iface _ d => uptoBulk d + 1
  | .map entries => uptoBulkEntries entries + 1
  | .held _ => 1
def uptoBulkAll {H : Type} : List (DataW H) → Nat
  | [] => 0
  | d :: r => uptoBulk d + uptoBulkAll r
def uptoBulkEntries {H : Type} : List (Lit × DataW H) → Nat
  | [] => 0
  | x :: r => uptoBulkEntry x + uptoBulkEntries r
def uptoBulkEntry {H : Type} : Lit × DataW H → Nat
  | (.string bytes, d) => bytes.length + uptoBulk d + 1
  | (_, d) => uptoBulk d + 1
 end
def uptoSmall : (H : Type) → List (DataW H) → Bool := fun _ ds => decide (uptoBulkAll ds ≤ 1048576)
def OpenSpec.upto (s : _root_.Go.ChangeSpec) : _root_.Go.OpenSpec := { _root_.Go.OpenSpec.ofChange s with cond := some uptoSmall }

/-- 'dustpanlaw7.PhaseAll', WHERE WHAT IT READS IS OF BULK AT MOST 1048576: true; the input reads as it did. -/
def phaseAllUptoRow : OpenClaim := { program := "ytdhjingcnnkbiaa", sum := "8fc982625d0d80a360787955bb1a5d17bbed57ab0bb755bf4e61d5d5ad2abfeb", func := "dustpan/dustpanlaw7.PhaseAll", spec := "phaseAll", apart := false, narrowed := true }
def PhaseAllUptoSaid : Prop := phaseAllUptoRow.holds Try.pinned (OpenSpec.upto phaseAllSpec)

/-- 'dustpanlaw7.PhaseBack', WHERE WHAT IT READS IS OF BULK AT MOST 1048576: true; the input reads as it did. -/
def phaseBackUptoRow : OpenClaim := { program := "ytdhjingcnnkbiaa", sum := "8fc982625d0d80a360787955bb1a5d17bbed57ab0bb755bf4e61d5d5ad2abfeb", func := "dustpan/dustpanlaw7.PhaseBack", spec := "phaseBack", apart := false, narrowed := true }
def PhaseBackUptoSaid : Prop := phaseBackUptoRow.holds Try.pinned (OpenSpec.upto phaseBackSpec)

/-- 'dustpanlaw7.PhaseWalk', WHERE WHAT IT READS IS OF BULK AT MOST 1048576: true; the input reads as it did. -/
def phaseWalkUptoRow : OpenClaim := { program := "ytdhjingcnnkbiaa", sum := "8fc982625d0d80a360787955bb1a5d17bbed57ab0bb755bf4e61d5d5ad2abfeb", func := "dustpan/dustpanlaw7.PhaseWalk", spec := "phaseWalk", apart := false, narrowed := true }
def PhaseWalkUptoSaid : Prop := phaseWalkUptoRow.holds Try.pinned (OpenSpec.upto phaseWalkSpec)

/-- 'dustpanlaw7.PhaseOnce', WHERE WHAT IT READS IS OF BULK AT MOST 1048576: true; the input reads as it did. -/
def phaseOnceUptoRow : OpenClaim := { program := "ytdhjingcnnkbiaa", sum := "8fc982625d0d80a360787955bb1a5d17bbed57ab0bb755bf4e61d5d5ad2abfeb", func := "dustpan/dustpanlaw7.PhaseOnce", spec := "phaseOnce", apart := false, narrowed := true }
def PhaseOnceUptoSaid : Prop := phaseOnceUptoRow.holds Try.pinned (OpenSpec.upto phaseOnceSpec)

/-- 'dustpanlaw7.PhaseOther', WHERE WHAT IT READS IS OF BULK AT MOST 1048576: true; the input reads as it did. -/
def phaseOtherUptoRow : OpenClaim := { program := "ytdhjingcnnkbiaa", sum := "8fc982625d0d80a360787955bb1a5d17bbed57ab0bb755bf4e61d5d5ad2abfeb", func := "dustpan/dustpanlaw7.PhaseOther", spec := "phaseOther", apart := false, narrowed := true }
def PhaseOtherUptoSaid : Prop := phaseOtherUptoRow.holds Try.pinned (OpenSpec.upto phaseOtherSpec)

end Rows
end Go.Proofs.Ytdhjingcnnkbiaa
