/-
  NARROWER THAN 'FOR EVERY INPUT', by the rows' own cells (each row's printed sentence says how): SlotAll: laid · SlotBack: laid · SlotApart: laid · SlotBytes: laid.
  DERIVED. THE GIVEN ROWS OF THIS SEAT. 4 by the template 'for every input the law returns true; each argument reads behind the call as it read before'; 0 by the template 'total and deterministic' (their statements: YtnmglfaokihhgaaDoorTotals.lean).
  GIVEN WITH THE SEED: the statements are not yours to turn. If you find one false, say at which input.
  Laid BY PROGRAM, IN A SANDBOX (cutbox-rows.mjs): the forced cells as the released guide's own fill.sh prints them over the translation 9aae3b8a3fcf17e8… (all of the seat's roots in one cut). By AI agents, Wed Nov 11 2026. No macro, syntax, notation, axiom, sorry.
-/
import Derived.Test.YtnmglfaokihhgaaDoorChecked
import GoSem.Claim
import GoSem.ClaimJoined
import GoSem.ClaimMapViews
import Derived.JoinedTies
import Derived.KernelRfl
namespace Go.Proofs.YtnmglfaokihhgaaDoor
/- THE CELL 'sum', in the pinned program and in every row, IS THE sha256 OF THE DUMP (.gsa) THAT YtnmglfaokihhgaaDoorProg.lean LOADS. Nothing in Lean hashes anything: it is a label: what it is worth is what the hold of that sum in a sandbox is worth. -/
noncomputable def Tryd.pinned : Pinned := { name := "ytnmglfaokihhgaadoor", sum := "9aae3b8a3fcf17e8871c9992475ae7531d255e26b4c1d9b6524c01da8c944741", checked := Tryd.checked }
namespace Rows
def none {H : Type} : Left H := { results := [], args := [] }

/- WHAT THE LISTED PACKAGE-LEVEL VARIABLES READ AS WHEN THE CALL BEGINS. Each datum BY PROGRAM (the guide's laid-datum.mjs) off the statement by which the dump's own 'gosem.cut.vars' lays the variable. In a bare row this is a premise. The card (YtnmglfaokihhgaaDoorCards.lean) ties it to the program's text. -/
def laid_dustpan_class_rows {H : Type} : DataW H := .agg [.agg [.lit (.int .i64 128), .lit (.int .i64 1), .lit (.int .i64 64)], .agg [.lit (.int .i64 192), .lit (.int .i64 1), .lit (.int .i64 42)], .agg [.lit (.int .i64 256), .lit (.int .i64 1), .lit (.int .i64 32)], .agg [.lit (.int .i64 384), .lit (.int .i64 1), .lit (.int .i64 21)], .agg [.lit (.int .i64 512), .lit (.int .i64 1), .lit (.int .i64 16)], .agg [.lit (.int .i64 768), .lit (.int .i64 1), .lit (.int .i64 10)], .agg [.lit (.int .i64 1024), .lit (.int .i64 1), .lit (.int .i64 8)], .agg [.lit (.int .i64 1536), .lit (.int .i64 3), .lit (.int .i64 16)], .agg [.lit (.int .i64 2048), .lit (.int .i64 1), .lit (.int .i64 4)], .agg [.lit (.int .i64 3072), .lit (.int .i64 3), .lit (.int .i64 8)], .agg [.lit (.int .i64 4096), .lit (.int .i64 1), .lit (.int .i64 2)], .agg [.lit (.int .i64 6144), .lit (.int .i64 3), .lit (.int .i64 4)], .agg [.lit (.int .i64 8192), .lit (.int .i64 2), .lit (.int .i64 2)], .agg [.lit (.int .i64 12288), .lit (.int .i64 3), .lit (.int .i64 2)]]

/-- 'dustpanlaw5.SlotAll': WHATEVER THE INPUT: true; the input reads as it did. -/
def slotAllSpec : ChangeSpec := { name := "slotAll", fn := fun _ => fun
  | [d1, d2, d3, d4, d5, d6, d7] => { results := [.lit (.bool true)], args := [d1, d2, d3, d4, d5, d6, d7] }
  | _ => none }
def slotAllRow : OpenClaim := { program := "ytnmglfaokihhgaadoor", sum := "9aae3b8a3fcf17e8871c9992475ae7531d255e26b4c1d9b6524c01da8c944741", func := "dustpan/dustpanlaw5.SlotAll", spec := "slotAll", named := ["dustpan/class.rows"], apart := false, laid := [("dustpan/class.rows", laid_dustpan_class_rows)] }
def SlotAllSaid : Prop := slotAllRow.holds Tryd.pinned (OpenSpec.ofChange slotAllSpec)

/-- ITS FALSE NEIGHBOUR: 'it returns false'. Refute it at one input. -/
def slotAllWrong : ChangeSpec := { name := "slotAll", fn := fun _ => fun
  | [d1, d2, d3, d4, d5, d6, d7] => { results := [.lit (.bool false)], args := [d1, d2, d3, d4, d5, d6, d7] }
  | _ => none }
def SlotAllWrongFalsely : Prop := slotAllRow.holds Tryd.pinned (OpenSpec.ofChange slotAllWrong)

/-- 'dustpanlaw5.SlotBack': WHATEVER THE INPUT: true; the input reads as it did. -/
def slotBackSpec : ChangeSpec := { name := "slotBack", fn := fun _ => fun
  | [d1, d2, d3, d4] => { results := [.lit (.bool true)], args := [d1, d2, d3, d4] }
  | _ => none }
def slotBackRow : OpenClaim := { program := "ytnmglfaokihhgaadoor", sum := "9aae3b8a3fcf17e8871c9992475ae7531d255e26b4c1d9b6524c01da8c944741", func := "dustpan/dustpanlaw5.SlotBack", spec := "slotBack", named := ["dustpan/class.rows"], apart := false, laid := [("dustpan/class.rows", laid_dustpan_class_rows)] }
def SlotBackSaid : Prop := slotBackRow.holds Tryd.pinned (OpenSpec.ofChange slotBackSpec)

/-- ITS FALSE NEIGHBOUR: 'it returns false'. Refute it at one input. -/
def slotBackWrong : ChangeSpec := { name := "slotBack", fn := fun _ => fun
  | [d1, d2, d3, d4] => { results := [.lit (.bool false)], args := [d1, d2, d3, d4] }
  | _ => none }
def SlotBackWrongFalsely : Prop := slotBackRow.holds Tryd.pinned (OpenSpec.ofChange slotBackWrong)

/-- 'dustpanlaw5.SlotApart': WHATEVER THE INPUT: true; the input reads as it did. -/
def slotApartSpec : ChangeSpec := { name := "slotApart", fn := fun _ => fun
  | [d1, d2, d3, d4] => { results := [.lit (.bool true)], args := [d1, d2, d3, d4] }
  | _ => none }
def slotApartRow : OpenClaim := { program := "ytnmglfaokihhgaadoor", sum := "9aae3b8a3fcf17e8871c9992475ae7531d255e26b4c1d9b6524c01da8c944741", func := "dustpan/dustpanlaw5.SlotApart", spec := "slotApart", named := ["dustpan/class.rows"], apart := false, laid := [("dustpan/class.rows", laid_dustpan_class_rows)] }
def SlotApartSaid : Prop := slotApartRow.holds Tryd.pinned (OpenSpec.ofChange slotApartSpec)

/-- ITS FALSE NEIGHBOUR: 'it returns false'. Refute it at one input. -/
def slotApartWrong : ChangeSpec := { name := "slotApart", fn := fun _ => fun
  | [d1, d2, d3, d4] => { results := [.lit (.bool false)], args := [d1, d2, d3, d4] }
  | _ => none }
def SlotApartWrongFalsely : Prop := slotApartRow.holds Tryd.pinned (OpenSpec.ofChange slotApartWrong)

/-- 'dustpanlaw5.SlotBytes': WHATEVER THE INPUT: true; the input reads as it did. -/
def slotBytesSpec : ChangeSpec := { name := "slotBytes", fn := fun _ => fun
  | [d1, d2, d3, d4] => { results := [.lit (.bool true)], args := [d1, d2, d3, d4] }
  | _ => none }
def slotBytesRow : OpenClaim := { program := "ytnmglfaokihhgaadoor", sum := "9aae3b8a3fcf17e8871c9992475ae7531d255e26b4c1d9b6524c01da8c944741", func := "dustpan/dustpanlaw5.SlotBytes", spec := "slotBytes", named := ["dustpan/class.rows"], apart := false, laid := [("dustpan/class.rows", laid_dustpan_class_rows)] }
def SlotBytesSaid : Prop := slotBytesRow.holds Tryd.pinned (OpenSpec.ofChange slotBytesSpec)

/-- ITS FALSE NEIGHBOUR: 'it returns false'. Refute it at one input. -/
def slotBytesWrong : ChangeSpec := { name := "slotBytes", fn := fun _ => fun
  | [d1, d2, d3, d4] => { results := [.lit (.bool false)], args := [d1, d2, d3, d4] }
  | _ => none }
def SlotBytesWrongFalsely : Prop := slotBytesRow.holds Tryd.pinned (OpenSpec.ofChange slotBytesWrong)

/- THE SECOND FORM. 'bulk': how many values and letters a reading holds, each counted each time it is reached (what is shared counts as often as it is met; a slice's spare places count too). A statement '..UptoSaid' is the law's where the arguments, and the package variables that the reading takes, are together of bulk at most 1048576: NARROWER than '..Said'. Prove '..Said' where nothing that the law and all that it calls make is longer than what came in: it says more and counts as full. Else prove '..UptoSaid'. A law counts once. -/
mutual
def uptoBulk {H : Type} : DataW H → Nat
  | .lit (.string bytes) => bytes.length + 1
  | .lit _ => 1
  | .nil => 1
  | .ptr d => uptoBulk d + 1
  | .slice elems spare => uptoBulkAll elems + uptoBulkAll spare + 1
  | .agg parts => uptoBulkAll parts + 1
  | .iface _ d => uptoBulk d + 1
  | .map entries => uptoBulkEntries entries + 1
  | .held _ => 1
def uptoBulkAll {H : Type} : List (DataW H) → Nat
  | [] => 0
  | d :: r => uptoBulk d + uptoBulkAll r
def uptoBulkEntries {H : Type} : List (Lit × DataW H) → Nat
  | [] => 0
  | x :: r => uptoBulkEntry x + uptoBulkEntries r
def uptoBulkEntry {H : Type} : Lit × DataW H → Nat
  | (.string bytes, d) => bytes.length + uptoBulk d + 1
  | (_, d) => uptoBulk d + 1
 end
def uptoSmall : (H : Type) → List (DataW H) → Bool := fun _ ds => decide (uptoBulkAll ds ≤ 1048576)
def OpenSpec.upto (s : _root_.Go.ChangeSpec) : _root_.Go.OpenSpec := { _root_.Go.OpenSpec.ofChange s with cond := some uptoSmall }

/-- 'dustpanlaw5.SlotAll', WHERE WHAT IT READS IS OF BULK AT MOST 1048576: true; the input reads as it did. -/
def slotAllUptoRow : OpenClaim := { program := "ytnmglfaokihhgaadoor", sum := "9aae3b8a3fcf17e8871c9992475ae7531d255e26b4c1d9b6524c01da8c944741", func := "dustpan/dustpanlaw5.SlotAll", spec := "slotAll", named := ["dustpan/class.rows"], apart := false, laid := [("dustpan/class.rows", laid_dustpan_class_rows)], narrowed := true }
def SlotAllUptoSaid : Prop := slotAllUptoRow.holds Tryd.pinned (OpenSpec.upto slotAllSpec)

/-- 'dustpanlaw5.SlotBack', WHERE WHAT IT READS IS OF BULK AT MOST 1048576: true; the input reads as it did. -/
def slotBackUptoRow : OpenClaim := { program := "ytnmglfaokihhgaadoor", sum := "9aae3b8a3fcf17e8871c9992475ae7531d255e26b4c1d9b6524c01da8c944741", func := "dustpan/dustpanlaw5.SlotBack", spec := "slotBack", named := ["dustpan/class.rows"], apart := false, laid := [("dustpan/class.rows", laid_dustpan_class_rows)], narrowed := true }
def SlotBackUptoSaid : Prop := slotBackUptoRow.holds Tryd.pinned (OpenSpec.upto slotBackSpec)

/-- 'dustpanlaw5.SlotApart', WHERE WHAT IT READS IS OF BULK AT MOST 1048576: true; the input reads as it did. -/
def slotApartUptoRow : OpenClaim := { program := "ytnmglfaokihhgaadoor", sum := "9aae3b8a3fcf17e8871c9992475ae7531d255e26b4c1d9b6524c01da8c944741", func := "dustpan/dustpanlaw5.SlotApart", spec := "slotApart", named := ["dustpan/class.rows"], apart := false, laid := [("dustpan/class.rows", laid_dustpan_class_rows)], narrowed := true }
def SlotApartUptoSaid : Prop := slotApartUptoRow.holds Tryd.pinned (OpenSpec.upto slotApartSpec)

/-- 'dustpanlaw5.SlotBytes', WHERE WHAT IT READS IS OF BULK AT MOST 1048576: true; the input reads as it did. -/
def slotBytesUptoRow : OpenClaim := { program := "ytnmglfaokihhgaadoor", sum := "9aae3b8a3fcf17e8871c9992475ae7531d255e26b4c1d9b6524c01da8c944741", func := "dustpan/dustpanlaw5.SlotBytes", spec := "slotBytes", named := ["dustpan/class.rows"], apart := false, laid := [("dustpan/class.rows", laid_dustpan_class_rows)], narrowed := true }
def SlotBytesUptoSaid : Prop := slotBytesUptoRow.holds Tryd.pinned (OpenSpec.upto slotBytesSpec)

end Rows
end Go.Proofs.YtnmglfaokihhgaaDoor
