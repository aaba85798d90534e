/-
  DERIVED. GIVEN WITH THE SEED: THE CARDS: each row of YteahpfobjnofmaaDoorRows.lean that lists a variable, with what it lists TIED to the program's text (the seventh form; the later family's looks); each row that meets fmt, with fmt's text TOLD by the authors' own Lean function (tested against real Go, not proved from fmt's source: count such statements apart). THE CARD IS WHAT COUNTS. Prove the row's statement (the work); the ties are given (YteahpfobjnofmaaDoorTie.lean); close each card by the builder's one call (the guide's Derived/Test/ToyasCard.lean, 'card_holds'). Laid BY PROGRAM, IN A SANDBOX (cutbox-door.mjs). By AI agents, Wed Nov 11 2026. No macro, syntax, notation, axiom, sorry.
-/
import Derived.Test.YteahpfobjnofmaaDoorRows
import GoSem.ClaimSeven
namespace Go.Proofs.YteahpfobjnofmaaDoor
namespace Rows

/-- THE TIED CARD OF 'dustpanlaw1.WordAll'. -/
def wordAllCard : Claim7 := { stood := { row := wordAllRow, standIns := [], harness := (true, "b908dca4562f9d0eb3456803fbb934d60c23d207070fe3ba6b3324649341448f"), looks := false }, kinds := [], alts := [], laidByText := true, laidKinds := [.data], laidTests := true, laidLooks := .later }
def WordAllCardSaid : Prop := Claim7.holds Tryd.pinned (.plain (OpenSpec.ofChange wordAllSpec)) wordAllCard

/-- THE TIED CARD OF 'dustpanlaw1.WordBack'. -/
def wordBackCard : Claim7 := { stood := { row := wordBackRow, standIns := [], harness := (true, "b908dca4562f9d0eb3456803fbb934d60c23d207070fe3ba6b3324649341448f"), looks := false }, kinds := [], alts := [], laidByText := true, laidKinds := [.data], laidTests := true, laidLooks := .later }
def WordBackCardSaid : Prop := Claim7.holds Tryd.pinned (.plain (OpenSpec.ofChange wordBackSpec)) wordBackCard

/-- THE TIED CARD OF 'dustpanlaw1.WordLow'. -/
def wordLowCard : Claim7 := { stood := { row := wordLowRow, standIns := [], harness := (true, "b908dca4562f9d0eb3456803fbb934d60c23d207070fe3ba6b3324649341448f"), looks := false }, kinds := [], alts := [], laidByText := true, laidKinds := [.data], laidTests := true, laidLooks := .later }
def WordLowCardSaid : Prop := Claim7.holds Tryd.pinned (.plain (OpenSpec.ofChange wordLowSpec)) wordLowCard

/-- THE TIED CARD OF 'dustpanlaw1.WordNth'. -/
def wordNthCard : Claim7 := { stood := { row := wordNthRow, standIns := [], harness := (true, "b908dca4562f9d0eb3456803fbb934d60c23d207070fe3ba6b3324649341448f"), looks := false }, kinds := [], alts := [], laidByText := true, laidKinds := [.data], laidTests := true, laidLooks := .later }
def WordNthCardSaid : Prop := Claim7.holds Tryd.pinned (.plain (OpenSpec.ofChange wordNthSpec)) wordNthCard

/-- THE TIED CARD OF 'dustpanlaw1.WordFirst'. -/
def wordFirstCard : Claim7 := { stood := { row := wordFirstRow, standIns := [], harness := (true, "b908dca4562f9d0eb3456803fbb934d60c23d207070fe3ba6b3324649341448f"), looks := false }, kinds := [], alts := [], laidByText := true, laidKinds := [.data], laidTests := true, laidLooks := .later }
def WordFirstCardSaid : Prop := Claim7.holds Tryd.pinned (.plain (OpenSpec.ofChange wordFirstSpec)) wordFirstCard

/-- THE TIED CARD OF 'dustpanlaw1.WordCount'. -/
def wordCountCard : Claim7 := { stood := { row := wordCountRow, standIns := [], harness := (true, "b908dca4562f9d0eb3456803fbb934d60c23d207070fe3ba6b3324649341448f"), looks := false }, kinds := [], alts := [], laidByText := true, laidKinds := [.data], laidTests := true, laidLooks := .later }
def WordCountCardSaid : Prop := Claim7.holds Tryd.pinned (.plain (OpenSpec.ofChange wordCountSpec)) wordCountCard

/-- THE SECOND FORM's CARD OF 'dustpanlaw1.WordAll'. -/
def wordAllUptoCard : Claim7 := { stood := { row := wordAllUptoRow, standIns := [], harness := (true, "b908dca4562f9d0eb3456803fbb934d60c23d207070fe3ba6b3324649341448f"), looks := false }, kinds := [], alts := [], laidByText := true, laidKinds := [.data], laidTests := true, laidLooks := .later }
def WordAllUptoCardSaid : Prop := Claim7.holds Tryd.pinned (.plain (OpenSpec.upto wordAllSpec)) wordAllUptoCard

/-- THE SECOND FORM's CARD OF 'dustpanlaw1.WordBack'. -/
def wordBackUptoCard : Claim7 := { stood := { row := wordBackUptoRow, standIns := [], harness := (true, "b908dca4562f9d0eb3456803fbb934d60c23d207070fe3ba6b3324649341448f"), looks := false }, kinds := [], alts := [], laidByText := true, laidKinds := [.data], laidTests := true, laidLooks := .later }
def WordBackUptoCardSaid : Prop := Claim7.holds Tryd.pinned (.plain (OpenSpec.upto wordBackSpec)) wordBackUptoCard

/-- THE SECOND FORM's CARD OF 'dustpanlaw1.WordLow'. -/
def wordLowUptoCard : Claim7 := { stood := { row := wordLowUptoRow, standIns := [], harness := (true, "b908dca4562f9d0eb3456803fbb934d60c23d207070fe3ba6b3324649341448f"), looks := false }, kinds := [], alts := [], laidByText := true, laidKinds := [.data], laidTests := true, laidLooks := .later }
def WordLowUptoCardSaid : Prop := Claim7.holds Tryd.pinned (.plain (OpenSpec.upto wordLowSpec)) wordLowUptoCard

/-- THE SECOND FORM's CARD OF 'dustpanlaw1.WordNth'. -/
def wordNthUptoCard : Claim7 := { stood := { row := wordNthUptoRow, standIns := [], harness := (true, "b908dca4562f9d0eb3456803fbb934d60c23d207070fe3ba6b3324649341448f"), looks := false }, kinds := [], alts := [], laidByText := true, laidKinds := [.data], laidTests := true, laidLooks := .later }
def WordNthUptoCardSaid : Prop := Claim7.holds Tryd.pinned (.plain (OpenSpec.upto wordNthSpec)) wordNthUptoCard

/-- THE SECOND FORM's CARD OF 'dustpanlaw1.WordFirst'. -/
def wordFirstUptoCard : Claim7 := { stood := { row := wordFirstUptoRow, standIns := [], harness := (true, "b908dca4562f9d0eb3456803fbb934d60c23d207070fe3ba6b3324649341448f"), looks := false }, kinds := [], alts := [], laidByText := true, laidKinds := [.data], laidTests := true, laidLooks := .later }
def WordFirstUptoCardSaid : Prop := Claim7.holds Tryd.pinned (.plain (OpenSpec.upto wordFirstSpec)) wordFirstUptoCard

/-- THE SECOND FORM's CARD OF 'dustpanlaw1.WordCount'. -/
def wordCountUptoCard : Claim7 := { stood := { row := wordCountUptoRow, standIns := [], harness := (true, "b908dca4562f9d0eb3456803fbb934d60c23d207070fe3ba6b3324649341448f"), looks := false }, kinds := [], alts := [], laidByText := true, laidKinds := [.data], laidTests := true, laidLooks := .later }
def WordCountUptoCardSaid : Prop := Claim7.holds Tryd.pinned (.plain (OpenSpec.upto wordCountSpec)) wordCountUptoCard
end Rows
end Go.Proofs.YteahpfobjnofmaaDoor
