/-
  DERIVED. GIVEN WITH THE SEED: THE CARDS: each row of YtpaclanhjcoogaaDoorRows.lean that lists a variable, with what it lists TIED to the program's text (the seventh form; the later family's looks); each row that meets fmt, with fmt's text TOLD by the authors' own Lean function (tested against real Go, not proved from fmt's source: count such statements apart). THE CARD IS WHAT COUNTS. Prove the row's statement (the work); the ties are given (YtpaclanhjcoogaaDoorTie.lean); close each card by the builder's one call (the guide's Derived/Test/ToyasCard.lean, 'card_holds'). Laid BY PROGRAM, IN A SANDBOX (cutbox-door.mjs). By AI agents, Wed Nov 11 2026. No macro, syntax, notation, axiom, sorry.
-/
import Derived.Test.YtpaclanhjcoogaaDoorRows
import GoSem.ClaimSeven
namespace Go.Proofs.YtpaclanhjcoogaaDoor
namespace Rows

/-- THE TIED CARD OF 'dustpanlaw4.ClassAll'. -/
def classAllCard : Claim7 := { stood := { row := classAllRow, standIns := [], harness := (true, "3f5461222c4ae0409fcb4f041214539758d4cf36247f9aa17c0dc68b224529b0"), looks := false }, kinds := [], alts := [], laidByText := true, laidKinds := [.data], laidTests := true, laidLooks := .later }
def ClassAllCardSaid : Prop := Claim7.holds Tryd.pinned (.plain (OpenSpec.ofChange classAllSpec)) classAllCard

/-- THE TIED CARD OF 'dustpanlaw4.ClassFits'. -/
def classFitsCard : Claim7 := { stood := { row := classFitsRow, standIns := [], harness := (true, "3f5461222c4ae0409fcb4f041214539758d4cf36247f9aa17c0dc68b224529b0"), looks := false }, kinds := [], alts := [], laidByText := true, laidKinds := [.data], laidTests := true, laidLooks := .later }
def ClassFitsCardSaid : Prop := Claim7.holds Tryd.pinned (.plain (OpenSpec.ofChange classFitsSpec)) classFitsCard

/-- THE TIED CARD OF 'dustpanlaw4.ClassRows'. -/
def classRowsCard : Claim7 := { stood := { row := classRowsRow, standIns := [], harness := (true, "3f5461222c4ae0409fcb4f041214539758d4cf36247f9aa17c0dc68b224529b0"), looks := false }, kinds := [], alts := [], laidByText := true, laidKinds := [.data], laidTests := true, laidLooks := .later }
def ClassRowsCardSaid : Prop := Claim7.holds Tryd.pinned (.plain (OpenSpec.ofChange classRowsSpec)) classRowsCard

/-- THE TIED CARD OF 'dustpanlaw4.ClassNone'. -/
def classNoneCard : Claim7 := { stood := { row := classNoneRow, standIns := [], harness := (true, "3f5461222c4ae0409fcb4f041214539758d4cf36247f9aa17c0dc68b224529b0"), looks := false }, kinds := [], alts := [], laidByText := true, laidKinds := [.data], laidTests := true, laidLooks := .later }
def ClassNoneCardSaid : Prop := Claim7.holds Tryd.pinned (.plain (OpenSpec.ofChange classNoneSpec)) classNoneCard

/-- THE SECOND FORM's CARD OF 'dustpanlaw4.ClassAll'. -/
def classAllUptoCard : Claim7 := { stood := { row := classAllUptoRow, standIns := [], harness := (true, "3f5461222c4ae0409fcb4f041214539758d4cf36247f9aa17c0dc68b224529b0"), looks := false }, kinds := [], alts := [], laidByText := true, laidKinds := [.data], laidTests := true, laidLooks := .later }
def ClassAllUptoCardSaid : Prop := Claim7.holds Tryd.pinned (.plain (OpenSpec.upto classAllSpec)) classAllUptoCard

/-- THE SECOND FORM's CARD OF 'dustpanlaw4.ClassFits'. -/
def classFitsUptoCard : Claim7 := { stood := { row := classFitsUptoRow, standIns := [], harness := (true, "3f5461222c4ae0409fcb4f041214539758d4cf36247f9aa17c0dc68b224529b0"), looks := false }, kinds := [], alts := [], laidByText := true, laidKinds := [.data], laidTests := true, laidLooks := .later }
def ClassFitsUptoCardSaid : Prop := Claim7.holds Tryd.pinned (.plain (OpenSpec.upto classFitsSpec)) classFitsUptoCard

/-- THE SECOND FORM's CARD OF 'dustpanlaw4.ClassRows'. -/
def classRowsUptoCard : Claim7 := { stood := { row := classRowsUptoRow, standIns := [], harness := (true, "3f5461222c4ae0409fcb4f041214539758d4cf36247f9aa17c0dc68b224529b0"), looks := false }, kinds := [], alts := [], laidByText := true, laidKinds := [.data], laidTests := true, laidLooks := .later }
def ClassRowsUptoCardSaid : Prop := Claim7.holds Tryd.pinned (.plain (OpenSpec.upto classRowsSpec)) classRowsUptoCard

/-- THE SECOND FORM's CARD OF 'dustpanlaw4.ClassNone'. -/
def classNoneUptoCard : Claim7 := { stood := { row := classNoneUptoRow, standIns := [], harness := (true, "3f5461222c4ae0409fcb4f041214539758d4cf36247f9aa17c0dc68b224529b0"), looks := false }, kinds := [], alts := [], laidByText := true, laidKinds := [.data], laidTests := true, laidLooks := .later }
def ClassNoneUptoCardSaid : Prop := Claim7.holds Tryd.pinned (.plain (OpenSpec.upto classNoneSpec)) classNoneUptoCard
end Rows
end Go.Proofs.YtpaclanhjcoogaaDoor
