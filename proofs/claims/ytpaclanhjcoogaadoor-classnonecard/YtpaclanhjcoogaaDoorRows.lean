/-
  NARROWER THAN 'FOR EVERY INPUT', by the rows' own cells (each row's printed sentence says how): ClassAll: laid · ClassFits: laid · ClassRows: laid · ClassNone: laid.
  DERIVED. THE GIVEN ROWS OF THIS SEAT. 4 by the template 'for every input the law returns true; each argument reads behind the call as it read before'; 0 by the template 'total and deterministic' (their statements: YtpaclanhjcoogaaDoorTotals.lean).
  GIVEN WITH THE SEED: the statements are not yours to turn. If you find one false, say at which input.
  Laid BY PROGRAM, IN A SANDBOX (cutbox-rows.mjs): the forced cells as the released guide's own fill.sh prints them over the translation 5086959bb65dd7e2… (all of the seat's roots in one cut). By AI agents, Wed Nov 11 2026. No macro, syntax, notation, axiom, sorry.
-/
import Derived.Test.YtpaclanhjcoogaaDoorChecked
import GoSem.Claim
import GoSem.ClaimJoined
import GoSem.ClaimMapViews
import Derived.JoinedTies
import Derived.KernelRfl
namespace Go.Proofs.YtpaclanhjcoogaaDoor
/- THE CELL 'sum', in the pinned program and in every row, IS THE sha256 OF THE DUMP (.gsa) THAT YtpaclanhjcoogaaDoorProg.lean LOADS. Nothing in Lean hashes anything: it is a label: what it is worth is what the hold of that sum in a sandbox is worth. -/
noncomputable def Tryd.pinned : Pinned := { name := "ytpaclanhjcoogaadoor", sum := "5086959bb65dd7e27e31821d0a483e0fb7fe0726d9e8391e828e76c0e83e1622", checked := Tryd.checked }
namespace Rows
def none {H : Type} : Left H := { results := [], args := [] }

/- WHAT THE LISTED PACKAGE-LEVEL VARIABLES READ AS WHEN THE CALL BEGINS. Each datum BY PROGRAM (the guide's laid-datum.mjs) off the statement by which the dump's own 'gosem.cut.vars' lays the variable. In a bare row this is a premise. The card (YtpaclanhjcoogaaDoorCards.lean) ties it to the program's text. -/
def laid_dustpan_class_rows {H : Type} : DataW H := .agg [.agg [.lit (.int .i64 128), .lit (.int .i64 1), .lit (.int .i64 64)], .agg [.lit (.int .i64 192), .lit (.int .i64 1), .lit (.int .i64 42)], .agg [.lit (.int .i64 256), .lit (.int .i64 1), .lit (.int .i64 32)], .agg [.lit (.int .i64 384), .lit (.int .i64 1), .lit (.int .i64 21)], .agg [.lit (.int .i64 512), .lit (.int .i64 1), .lit (.int .i64 16)], .agg [.lit (.int .i64 768), .lit (.int .i64 1), .lit (.int .i64 10)], .agg [.lit (.int .i64 1024), .lit (.int .i64 1), .lit (.int .i64 8)], .agg [.lit (.int .i64 1536), .lit (.int .i64 3), .lit (.int .i64 16)], .agg [.lit (.int .i64 2048), .lit (.int .i64 1), .lit (.int .i64 4)], .agg [.lit (.int .i64 3072), .lit (.int .i64 3), .lit (.int .i64 8)], .agg [.lit (.int .i64 4096), .lit (.int .i64 1), .lit (.int .i64 2)], .agg [.lit (.int .i64 6144), .lit (.int .i64 3), .lit (.int .i64 4)], .agg [.lit (.int .i64 8192), .lit (.int .i64 2), .lit (.int .i64 2)], .agg [.lit (.int .i64 12288), .lit (.int .i64 3), .lit (.int .i64 2)]]

/-- 'dustpanlaw4.ClassAll': WHATEVER THE INPUT: true; the input reads as it did. -/
def classAllSpec : ChangeSpec := { name := "classAll", fn := fun _ => fun
  | [d1, d2] => { results := [.lit (.bool true)], args := [d1, d2] }
  | _ => none }
def classAllRow : OpenClaim := { program := "ytpaclanhjcoogaadoor", sum := "5086959bb65dd7e27e31821d0a483e0fb7fe0726d9e8391e828e76c0e83e1622", func := "dustpan/dustpanlaw4.ClassAll", spec := "classAll", named := ["dustpan/class.rows"], apart := false, laid := [("dustpan/class.rows", laid_dustpan_class_rows)] }
def ClassAllSaid : Prop := classAllRow.holds Tryd.pinned (OpenSpec.ofChange classAllSpec)

/-- ITS FALSE NEIGHBOUR: 'it returns false'. Refute it at one input. -/
def classAllWrong : ChangeSpec := { name := "classAll", fn := fun _ => fun
  | [d1, d2] => { results := [.lit (.bool false)], args := [d1, d2] }
  | _ => none }
def ClassAllWrongFalsely : Prop := classAllRow.holds Tryd.pinned (OpenSpec.ofChange classAllWrong)

/-- 'dustpanlaw4.ClassFits': WHATEVER THE INPUT: true; the input reads as it did. -/
def classFitsSpec : ChangeSpec := { name := "classFits", fn := fun _ => fun
  | [d] => { results := [.lit (.bool true)], args := [d] }
  | _ => none }
def classFitsRow : OpenClaim := { program := "ytpaclanhjcoogaadoor", sum := "5086959bb65dd7e27e31821d0a483e0fb7fe0726d9e8391e828e76c0e83e1622", func := "dustpan/dustpanlaw4.ClassFits", spec := "classFits", named := ["dustpan/class.rows"], apart := false, laid := [("dustpan/class.rows", laid_dustpan_class_rows)] }
def ClassFitsSaid : Prop := classFitsRow.holds Tryd.pinned (OpenSpec.ofChange classFitsSpec)

/-- ITS FALSE NEIGHBOUR: 'it returns false'. Refute it at one input. -/
def classFitsWrong : ChangeSpec := { name := "classFits", fn := fun _ => fun
  | [d] => { results := [.lit (.bool false)], args := [d] }
  | _ => none }
def ClassFitsWrongFalsely : Prop := classFitsRow.holds Tryd.pinned (OpenSpec.ofChange classFitsWrong)

/-- 'dustpanlaw4.ClassRows': WHATEVER THE INPUT: true; the input reads as it did. -/
def classRowsSpec : ChangeSpec := { name := "classRows", fn := fun _ => fun
  | [d] => { results := [.lit (.bool true)], args := [d] }
  | _ => none }
def classRowsRow : OpenClaim := { program := "ytpaclanhjcoogaadoor", sum := "5086959bb65dd7e27e31821d0a483e0fb7fe0726d9e8391e828e76c0e83e1622", func := "dustpan/dustpanlaw4.ClassRows", spec := "classRows", named := ["dustpan/class.rows"], apart := false, laid := [("dustpan/class.rows", laid_dustpan_class_rows)] }
def ClassRowsSaid : Prop := classRowsRow.holds Tryd.pinned (OpenSpec.ofChange classRowsSpec)

/-- ITS FALSE NEIGHBOUR: 'it returns false'. Refute it at one input. -/
def classRowsWrong : ChangeSpec := { name := "classRows", fn := fun _ => fun
  | [d] => { results := [.lit (.bool false)], args := [d] }
  | _ => none }
def ClassRowsWrongFalsely : Prop := classRowsRow.holds Tryd.pinned (OpenSpec.ofChange classRowsWrong)

/-- 'dustpanlaw4.ClassNone': WHATEVER THE INPUT: true; the input reads as it did. -/
def classNoneSpec : ChangeSpec := { name := "classNone", fn := fun _ => fun
  | [d] => { results := [.lit (.bool true)], args := [d] }
  | _ => none }
def classNoneRow : OpenClaim := { program := "ytpaclanhjcoogaadoor", sum := "5086959bb65dd7e27e31821d0a483e0fb7fe0726d9e8391e828e76c0e83e1622", func := "dustpan/dustpanlaw4.ClassNone", spec := "classNone", named := ["dustpan/class.rows"], apart := false, laid := [("dustpan/class.rows", laid_dustpan_class_rows)] }
def ClassNoneSaid : Prop := classNoneRow.holds Tryd.pinned (OpenSpec.ofChange classNoneSpec)

/-- ITS FALSE NEIGHBOUR: 'it returns false'. Refute it at one input. -/
def classNoneWrong : ChangeSpec := { name := "classNone", fn := fun _ => fun
  | [d] => { results := [.lit (.bool false)], args := [d] }
  | _ => none }
def ClassNoneWrongFalsely : Prop := classNoneRow.holds Tryd.pinned (OpenSpec.ofChange classNoneWrong)

/- THE SECOND FORM. 'bulk': how many values and letters a reading holds, each counted each time it is reached (what is shared counts as often as it is met; a slice's spare places count too). A statement '..UptoSaid' is the law's where the arguments, and the package variables that the reading takes, are together of bulk at most 1048576: NARROWER than '..Said'. Prove '..Said' where nothing that the law and all that it calls make is longer than what came in: it says more and counts as full. Else prove '..UptoSaid'. A law counts once. -/
mutual
def uptoBulk {H : Type} : DataW H → Nat
  | .lit (.string bytes) => bytes.length + 1
  | .lit _ => 1
  | .nil => 1
  | .ptr d => uptoBulk d + 1
  | .slice elems spare => uptoBulkAll elems + uptoBulkAll spare + 1
  | .agg parts => uptoBulkAll parts + 1
  | .iface _ d => uptoBulk d + 1
  | .map entries => uptoBulkEntries entries + 1
  | .held _ => 1
def uptoBulkAll {H : Type} : List (DataW H) → Nat
  | [] => 0
  | d :: r => uptoBulk d + uptoBulkAll r
def uptoBulkEntries {H : Type} : List (Lit × DataW H) → Nat
  | [] => 0
  | x :: r => uptoBulkEntry x + uptoBulkEntries r
def uptoBulkEntry {H : Type} : Lit × DataW H → Nat
  | (.string bytes, d) => bytes.length + uptoBulk d + 1
  | (_, d) => uptoBulk d + 1
 end
def uptoSmall : (H : Type) → List (DataW H) → Bool := fun _ ds => decide (uptoBulkAll ds ≤ 1048576)
def OpenSpec.upto (s : _root_.Go.ChangeSpec) : _root_.Go.OpenSpec := { _root_.Go.OpenSpec.ofChange s with cond := some uptoSmall }

/-- 'dustpanlaw4.ClassAll', WHERE WHAT IT READS IS OF BULK AT MOST 1048576: true; the input reads as it did. -/
def classAllUptoRow : OpenClaim := { program := "ytpaclanhjcoogaadoor", sum := "5086959bb65dd7e27e31821d0a483e0fb7fe0726d9e8391e828e76c0e83e1622", func := "dustpan/dustpanlaw4.ClassAll", spec := "classAll", named := ["dustpan/class.rows"], apart := false, laid := [("dustpan/class.rows", laid_dustpan_class_rows)], narrowed := true }
def ClassAllUptoSaid : Prop := classAllUptoRow.holds Tryd.pinned (OpenSpec.upto classAllSpec)

/-- 'dustpanlaw4.ClassFits', WHERE WHAT IT READS IS OF BULK AT MOST 1048576: true; the input reads as it did. -/
def classFitsUptoRow : OpenClaim := { program := "ytpaclanhjcoogaadoor", sum := "5086959bb65dd7e27e31821d0a483e0fb7fe0726d9e8391e828e76c0e83e1622", func := "dustpan/dustpanlaw4.ClassFits", spec := "classFits", named := ["dustpan/class.rows"], apart := false, laid := [("dustpan/class.rows", laid_dustpan_class_rows)], narrowed := true }
def ClassFitsUptoSaid : Prop := classFitsUptoRow.holds Tryd.pinned (OpenSpec.upto classFitsSpec)

/-- 'dustpanlaw4.ClassRows', WHERE WHAT IT READS IS OF BULK AT MOST 1048576: true; the input reads as it did. -/
def classRowsUptoRow : OpenClaim := { program := "ytpaclanhjcoogaadoor", sum := "5086959bb65dd7e27e31821d0a483e0fb7fe0726d9e8391e828e76c0e83e1622", func := "dustpan/dustpanlaw4.ClassRows", spec := "classRows", named := ["dustpan/class.rows"], apart := false, laid := [("dustpan/class.rows", laid_dustpan_class_rows)], narrowed := true }
def ClassRowsUptoSaid : Prop := classRowsUptoRow.holds Tryd.pinned (OpenSpec.upto classRowsSpec)

/-- 'dustpanlaw4.ClassNone', WHERE WHAT IT READS IS OF BULK AT MOST 1048576: true; the input reads as it did. -/
def classNoneUptoRow : OpenClaim := { program := "ytpaclanhjcoogaadoor", sum := "5086959bb65dd7e27e31821d0a483e0fb7fe0726d9e8391e828e76c0e83e1622", func := "dustpan/dustpanlaw4.ClassNone", spec := "classNone", named := ["dustpan/class.rows"], apart := false, laid := [("dustpan/class.rows", laid_dustpan_class_rows)], narrowed := true }
def ClassNoneUptoSaid : Prop := classNoneUptoRow.holds Tryd.pinned (OpenSpec.upto classNoneSpec)

end Rows
end Go.Proofs.YtpaclanhjcoogaaDoor
