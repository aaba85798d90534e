/-
  No cell of these rows narrows 'for every input' (looked for: loops, veiled, ifaces, maps, wideKeys, modest, calm, conditions, laid).
  DERIVED. THE GIVEN ROWS OF THIS SEAT. 7 by the template 'for every input the law returns true; each argument reads behind the call as it read before'; 0 by the template 'total and deterministic' (their statements: YtblodflboalbmaaTotals.lean).
  GIVEN WITH THE SEED: the statements are not yours to turn. If you find one false, say at which input.
  Laid BY PROGRAM, IN A SANDBOX (cutbox-rows.mjs): the forced cells as the released guide's own fill.sh prints them over the translation 39ef9e4ca1c55993… (all of the seat's roots in one cut). By AI agents, Wed Nov 11 2026. No macro, syntax, notation, axiom, sorry.
-/
import Derived.Test.YtblodflboalbmaaChecked
import GoSem.Claim
import GoSem.ClaimJoined
import GoSem.ClaimMapViews
import Derived.JoinedTies
import Derived.KernelRfl
namespace Go.Proofs.Ytblodflboalbmaa
/- THE CELL 'sum', in the pinned program and in every row, IS THE sha256 OF THE DUMP (.gsa) THAT YtblodflboalbmaaProg.lean LOADS. Nothing in Lean hashes anything: it is a label: what it is worth is what the hold of that sum in a sandbox is worth. -/
noncomputable def Try.pinned : Pinned := { name := "ytblodflboalbmaa", sum := "39ef9e4ca1c559938af15e841f5e394e78fb2f8d2efb810e7b9d544f92b5640a", checked := Try.checked }
namespace Rows
def none {H : Type} : Left H := { results := [], args := [] }

/-- 'dustpanlaw9.TreapRuns': WHATEVER THE INPUT: true; the input reads as it did. -/
def treapRunsSpec : ChangeSpec := { name := "treapRuns", fn := fun _ => fun
  | [d1, d2] => { results := [.lit (.bool true)], args := [d1, d2] }
  | _ => none }
def treapRunsRow : OpenClaim := { program := "ytblodflboalbmaa", sum := "39ef9e4ca1c559938af15e841f5e394e78fb2f8d2efb810e7b9d544f92b5640a", func := "dustpan/dustpanlaw9.TreapRuns", spec := "treapRuns", unfollowed := true, recurses := true, apart := false }
def TreapRunsSaid : Prop := treapRunsRow.holds Try.pinned (OpenSpec.ofChange treapRunsSpec)

/-- ITS FALSE NEIGHBOUR: 'it returns false'. Refute it at one input. -/
def treapRunsWrong : ChangeSpec := { name := "treapRuns", fn := fun _ => fun
  | [d1, d2] => { results := [.lit (.bool false)], args := [d1, d2] }
  | _ => none }
def TreapRunsWrongFalsely : Prop := treapRunsRow.holds Try.pinned (OpenSpec.ofChange treapRunsWrong)

/-- 'dustpanlaw9.TreapOrder': WHATEVER THE INPUT: true; the input reads as it did. -/
def treapOrderSpec : ChangeSpec := { name := "treapOrder", fn := fun _ => fun
  | [d1, d2] => { results := [.lit (.bool true)], args := [d1, d2] }
  | _ => none }
def treapOrderRow : OpenClaim := { program := "ytblodflboalbmaa", sum := "39ef9e4ca1c559938af15e841f5e394e78fb2f8d2efb810e7b9d544f92b5640a", func := "dustpan/dustpanlaw9.TreapOrder", spec := "treapOrder", unfollowed := true, recurses := true, apart := false }
def TreapOrderSaid : Prop := treapOrderRow.holds Try.pinned (OpenSpec.ofChange treapOrderSpec)

/-- ITS FALSE NEIGHBOUR: 'it returns false'. Refute it at one input. -/
def treapOrderWrong : ChangeSpec := { name := "treapOrder", fn := fun _ => fun
  | [d1, d2] => { results := [.lit (.bool false)], args := [d1, d2] }
  | _ => none }
def TreapOrderWrongFalsely : Prop := treapOrderRow.holds Try.pinned (OpenSpec.ofChange treapOrderWrong)

/-- 'dustpanlaw9.TreapHeap': WHATEVER THE INPUT: true; the input reads as it did. -/
def treapHeapSpec : ChangeSpec := { name := "treapHeap", fn := fun _ => fun
  | [d1, d2] => { results := [.lit (.bool true)], args := [d1, d2] }
  | _ => none }
def treapHeapRow : OpenClaim := { program := "ytblodflboalbmaa", sum := "39ef9e4ca1c559938af15e841f5e394e78fb2f8d2efb810e7b9d544f92b5640a", func := "dustpan/dustpanlaw9.TreapHeap", spec := "treapHeap", unfollowed := true, recurses := true, apart := false }
def TreapHeapSaid : Prop := treapHeapRow.holds Try.pinned (OpenSpec.ofChange treapHeapSpec)

/-- ITS FALSE NEIGHBOUR: 'it returns false'. Refute it at one input. -/
def treapHeapWrong : ChangeSpec := { name := "treapHeap", fn := fun _ => fun
  | [d1, d2] => { results := [.lit (.bool false)], args := [d1, d2] }
  | _ => none }
def TreapHeapWrongFalsely : Prop := treapHeapRow.holds Try.pinned (OpenSpec.ofChange treapHeapWrong)

/-- 'dustpanlaw9.TreapCeil': WHATEVER THE INPUT: true; the input reads as it did. -/
def treapCeilSpec : ChangeSpec := { name := "treapCeil", fn := fun _ => fun
  | [d1, d2] => { results := [.lit (.bool true)], args := [d1, d2] }
  | _ => none }
def treapCeilRow : OpenClaim := { program := "ytblodflboalbmaa", sum := "39ef9e4ca1c559938af15e841f5e394e78fb2f8d2efb810e7b9d544f92b5640a", func := "dustpan/dustpanlaw9.TreapCeil", spec := "treapCeil", unfollowed := true, recurses := true, apart := false }
def TreapCeilSaid : Prop := treapCeilRow.holds Try.pinned (OpenSpec.ofChange treapCeilSpec)

/-- ITS FALSE NEIGHBOUR: 'it returns false'. Refute it at one input. -/
def treapCeilWrong : ChangeSpec := { name := "treapCeil", fn := fun _ => fun
  | [d1, d2] => { results := [.lit (.bool false)], args := [d1, d2] }
  | _ => none }
def TreapCeilWrongFalsely : Prop := treapCeilRow.holds Try.pinned (OpenSpec.ofChange treapCeilWrong)

/-- 'dustpanlaw9.TreapBack': WHATEVER THE INPUT: true; the input reads as it did. -/
def treapBackSpec : ChangeSpec := { name := "treapBack", fn := fun _ => fun
  | [d1, d2, d3, d4] => { results := [.lit (.bool true)], args := [d1, d2, d3, d4] }
  | _ => none }
def treapBackRow : OpenClaim := { program := "ytblodflboalbmaa", sum := "39ef9e4ca1c559938af15e841f5e394e78fb2f8d2efb810e7b9d544f92b5640a", func := "dustpan/dustpanlaw9.TreapBack", spec := "treapBack", unfollowed := true, recurses := true, apart := false }
def TreapBackSaid : Prop := treapBackRow.holds Try.pinned (OpenSpec.ofChange treapBackSpec)

/-- ITS FALSE NEIGHBOUR: 'it returns false'. Refute it at one input. -/
def treapBackWrong : ChangeSpec := { name := "treapBack", fn := fun _ => fun
  | [d1, d2, d3, d4] => { results := [.lit (.bool false)], args := [d1, d2, d3, d4] }
  | _ => none }
def TreapBackWrongFalsely : Prop := treapBackRow.holds Try.pinned (OpenSpec.ofChange treapBackWrong)

/-- 'dustpanlaw9.TreapAny': WHATEVER THE INPUT: true; the input reads as it did. -/
def treapAnySpec : ChangeSpec := { name := "treapAny", fn := fun _ => fun
  | [d1, d2] => { results := [.lit (.bool true)], args := [d1, d2] }
  | _ => none }
def treapAnyRow : OpenClaim := { program := "ytblodflboalbmaa", sum := "39ef9e4ca1c559938af15e841f5e394e78fb2f8d2efb810e7b9d544f92b5640a", func := "dustpan/dustpanlaw9.TreapAny", spec := "treapAny", unfollowed := true, recurses := true, apart := false }
def TreapAnySaid : Prop := treapAnyRow.holds Try.pinned (OpenSpec.ofChange treapAnySpec)

/-- ITS FALSE NEIGHBOUR: 'it returns false'. Refute it at one input. -/
def treapAnyWrong : ChangeSpec := { name := "treapAny", fn := fun _ => fun
  | [d1, d2] => { results := [.lit (.bool false)], args := [d1, d2] }
  | _ => none }
def TreapAnyWrongFalsely : Prop := treapAnyRow.holds Try.pinned (OpenSpec.ofChange treapAnyWrong)

/-- 'dustpanlaw9.TreapNone': WHATEVER THE INPUT: true; the input reads as it did. -/
def treapNoneSpec : ChangeSpec := { name := "treapNone", fn := fun _ => fun
  | [d1, d2, d3] => { results := [.lit (.bool true)], args := [d1, d2, d3] }
  | _ => none }
def treapNoneRow : OpenClaim := { program := "ytblodflboalbmaa", sum := "39ef9e4ca1c559938af15e841f5e394e78fb2f8d2efb810e7b9d544f92b5640a", func := "dustpan/dustpanlaw9.TreapNone", spec := "treapNone", unfollowed := true, recurses := true, apart := false }
def TreapNoneSaid : Prop := treapNoneRow.holds Try.pinned (OpenSpec.ofChange treapNoneSpec)

/-- ITS FALSE NEIGHBOUR: 'it returns false'. Refute it at one input. -/
def treapNoneWrong : ChangeSpec := { name := "treapNone", fn := fun _ => fun
  | [d1, d2, d3] => { results := [.lit (.bool false)], args := [d1, d2, d3] }
  | _ => none }
def TreapNoneWrongFalsely : Prop := treapNoneRow.holds Try.pinned (OpenSpec.ofChange treapNoneWrong)

/- THE SECOND FORM. 'bulk': how many values and letters a reading holds, each counted each time it is reached (what is shared counts as often as it is met; a slice's spare places count too). A statement '..UptoSaid' is the law's where the arguments, and the package variables that the reading takes, are together of bulk at most 1048576: NARROWER than '..Said'. Prove '..Said' where nothing that the law and all that it calls make is longer than what came in: it says more and counts as full. Else prove '..UptoSaid'. A law counts once. -/
mutual
def uptoBulk {H : Type} : DataW H → Nat
  | .lit (.string bytes) => bytes.length + 1
  | .lit _ => 1
  | .nil => 1
  | .ptr d => uptoBulk d + 1
  | .slice elems spare => uptoBulkAll elems + uptoBulkAll spare + 1
  | .agg parts => uptoBulkAll parts + 1
  | .iface _ d => uptoBulk d + 1
  | .map entries => uptoBulkEntries entries + 1
  | .held _ => 1
def uptoBulkAll {H : Type} : List (DataW H) → Nat
  | [] => 0
  | d :: r => uptoBulk d + uptoBulkAll r
def uptoBulkEntries {H : Type} : List (Lit × DataW H) → Nat
  | [] => 0
  | x :: r => uptoBulkEntry x + uptoBulkEntries r
def uptoBulkEntry {H : Type} : Lit × DataW H → Nat
  | (.string bytes, d) => bytes.length + uptoBulk d + 1
  | (_, d) => uptoBulk d + 1
 end
def uptoSmall : (H : Type) → List (DataW H) → Bool := fun _ ds => decide (uptoBulkAll ds ≤ 1048576)
def OpenSpec.upto (s : _root_.Go.ChangeSpec) : _root_.Go.OpenSpec := { _root_.Go.OpenSpec.ofChange s with cond := some uptoSmall }

/-- 'dustpanlaw9.TreapRuns', WHERE WHAT IT READS IS OF BULK AT MOST 1048576: true; the input reads as it did. -/
def treapRunsUptoRow : OpenClaim := { program := "ytblodflboalbmaa", sum := "39ef9e4ca1c559938af15e841f5e394e78fb2f8d2efb810e7b9d544f92b5640a", func := "dustpan/dustpanlaw9.TreapRuns", spec := "treapRuns", unfollowed := true, recurses := true, apart := false, narrowed := true }
def TreapRunsUptoSaid : Prop := treapRunsUptoRow.holds Try.pinned (OpenSpec.upto treapRunsSpec)

/-- 'dustpanlaw9.TreapOrder', WHERE WHAT IT READS IS OF BULK AT MOST 1048576: true; the input reads as it did. -/
def treapOrderUptoRow : OpenClaim := { program := "ytblodflboalbmaa", sum := "39ef9e4ca1c559938af15e841f5e394e78fb2f8d2efb810e7b9d544f92b5640a", func := "dustpan/dustpanlaw9.TreapOrder", spec := "treapOrder", unfollowed := true, recurses := true, apart := false, narrowed := true }
def TreapOrderUptoSaid : Prop := treapOrderUptoRow.holds Try.pinned (OpenSpec.upto treapOrderSpec)

/-- 'dustpanlaw9.TreapHeap', WHERE WHAT IT READS IS OF BULK AT MOST 1048576: true; the input reads as it did. -/
def treapHeapUptoRow : OpenClaim := { program := "ytblodflboalbmaa", sum := "39ef9e4ca1c559938af15e841f5e394e78fb2f8d2efb810e7b9d544f92b5640a", func := "dustpan/dustpanlaw9.TreapHeap", spec := "treapHeap", unfollowed := true, recurses := true, apart := false, narrowed := true }
def TreapHeapUptoSaid : Prop := treapHeapUptoRow.holds Try.pinned (OpenSpec.upto treapHeapSpec)

/-- 'dustpanlaw9.TreapCeil', WHERE WHAT IT READS IS OF BULK AT MOST 1048576: true; the input reads as it did. -/
def treapCeilUptoRow : OpenClaim := { program := "ytblodflboalbmaa", sum := "39ef9e4ca1c559938af15e841f5e394e78fb2f8d2efb810e7b9d544f92b5640a", func := "dustpan/dustpanlaw9.TreapCeil", spec := "treapCeil", unfollowed := true, recurses := true, apart := false, narrowed := true }
def TreapCeilUptoSaid : Prop := treapCeilUptoRow.holds Try.pinned (OpenSpec.upto treapCeilSpec)

/-- 'dustpanlaw9.TreapBack', WHERE WHAT IT READS IS OF BULK AT MOST 1048576: true; the input reads as it did. -/
def treapBackUptoRow : OpenClaim := { program := "ytblodflboalbmaa", sum := "39ef9e4ca1c559938af15e841f5e394e78fb2f8d2efb810e7b9d544f92b5640a", func := "dustpan/dustpanlaw9.TreapBack", spec := "treapBack", unfollowed := true, recurses := true, apart := false, narrowed := true }
def TreapBackUptoSaid : Prop := treapBackUptoRow.holds Try.pinned (OpenSpec.upto treapBackSpec)

/-- 'dustpanlaw9.TreapAny', WHERE WHAT IT READS IS OF BULK AT MOST 1048576: true; the input reads as it did. -/
def treapAnyUptoRow : OpenClaim := { program := "ytblodflboalbmaa", sum := "39ef9e4ca1c559938af15e841f5e394e78fb2f8d2efb810e7b9d544f92b5640a", func := "dustpan/dustpanlaw9.TreapAny", spec := "treapAny", unfollowed := true, recurses := true, apart := false, narrowed := true }
def TreapAnyUptoSaid : Prop := treapAnyUptoRow.holds Try.pinned (OpenSpec.upto treapAnySpec)

/-- 'dustpanlaw9.TreapNone', WHERE WHAT IT READS IS OF BULK AT MOST 1048576: true; the input reads as it did. -/
def treapNoneUptoRow : OpenClaim := { program := "ytblodflboalbmaa", sum := "39ef9e4ca1c559938af15e841f5e394e78fb2f8d2efb810e7b9d544f92b5640a", func := "dustpan/dustpanlaw9.TreapNone", spec := "treapNone", unfollowed := true, recurses := true, apart := false, narrowed := true }
def TreapNoneUptoSaid : Prop := treapNoneUptoRow.holds Try.pinned (OpenSpec.upto treapNoneSpec)

end Rows
end Go.Proofs.Ytblodflboalbmaa
