/-
  DERIVED. GIVEN WITH THE SEED: THE CARDS: each row of YtgdliebllmgibaaDoorRows.lean that lists a variable, with what it lists TIED to the program's text (the seventh form; the later family's looks); each row that meets fmt, with fmt's text TOLD by the authors' own Lean function (tested against real Go, not proved from fmt's source: count such statements apart). THE CARD IS WHAT COUNTS. Prove the row's statement (the work); the ties are given (YtgdliebllmgibaaDoorTie.lean); close each card by the builder's one call (the guide's Derived/Test/ToyasCard.lean, 'card_holds'). Laid BY PROGRAM, IN A SANDBOX (cutbox-door.mjs). By AI agents, Wed Nov 11 2026. No macro, syntax, notation, axiom, sorry.
-/
import Derived.Test.YtgdliebllmgibaaDoorRows
import GoSem.ClaimSeven
namespace Go.Proofs.YtgdliebllmgibaaDoor
namespace Rows

/-- THE TIED CARD OF 'dustpanlaw14.RecordBack'. -/
def recordBackCard : Claim7 := { stood := { row := recordBackRow, standIns := [], harness := (true, "2b4b426070f714df14b02f4cdba6f47ab81da080f822b34171151bea08b4b8d4"), looks := false }, kinds := [], alts := [], laidByText := true, laidKinds := [.data], laidTests := true, laidLooks := .later }
def RecordBackCardSaid : Prop := Claim7.holds Tryd.pinned (.plain (OpenSpec.ofChange recordBackSpec)) recordBackCard

/-- THE TIED CARD OF 'dustpanlaw14.RecordWords'. -/
def recordWordsCard : Claim7 := { stood := { row := recordWordsRow, standIns := [], harness := (true, "2b4b426070f714df14b02f4cdba6f47ab81da080f822b34171151bea08b4b8d4"), looks := false }, kinds := [], alts := [], laidByText := true, laidKinds := [.data], laidTests := true, laidLooks := .later }
def RecordWordsCardSaid : Prop := Claim7.holds Tryd.pinned (.plain (OpenSpec.ofChange recordWordsSpec)) recordWordsCard

/-- THE TIED CARD OF 'dustpanlaw14.RecordMay'. -/
def recordMayCard : Claim7 := { stood := { row := recordMayRow, standIns := [], harness := (true, "2b4b426070f714df14b02f4cdba6f47ab81da080f822b34171151bea08b4b8d4"), looks := false }, kinds := [], alts := [], laidByText := true, laidKinds := [.data], laidTests := true, laidLooks := .later }
def RecordMayCardSaid : Prop := Claim7.holds Tryd.pinned (.plain (OpenSpec.ofChange recordMaySpec)) recordMayCard

/-- THE SECOND FORM's CARD OF 'dustpanlaw14.RecordBack'. -/
def recordBackUptoCard : Claim7 := { stood := { row := recordBackUptoRow, standIns := [], harness := (true, "2b4b426070f714df14b02f4cdba6f47ab81da080f822b34171151bea08b4b8d4"), looks := false }, kinds := [], alts := [], laidByText := true, laidKinds := [.data], laidTests := true, laidLooks := .later }
def RecordBackUptoCardSaid : Prop := Claim7.holds Tryd.pinned (.plain (OpenSpec.upto recordBackSpec)) recordBackUptoCard

/-- THE SECOND FORM's CARD OF 'dustpanlaw14.RecordWords'. -/
def recordWordsUptoCard : Claim7 := { stood := { row := recordWordsUptoRow, standIns := [], harness := (true, "2b4b426070f714df14b02f4cdba6f47ab81da080f822b34171151bea08b4b8d4"), looks := false }, kinds := [], alts := [], laidByText := true, laidKinds := [.data], laidTests := true, laidLooks := .later }
def RecordWordsUptoCardSaid : Prop := Claim7.holds Tryd.pinned (.plain (OpenSpec.upto recordWordsSpec)) recordWordsUptoCard

/-- THE SECOND FORM's CARD OF 'dustpanlaw14.RecordMay'. -/
def recordMayUptoCard : Claim7 := { stood := { row := recordMayUptoRow, standIns := [], harness := (true, "2b4b426070f714df14b02f4cdba6f47ab81da080f822b34171151bea08b4b8d4"), looks := false }, kinds := [], alts := [], laidByText := true, laidKinds := [.data], laidTests := true, laidLooks := .later }
def RecordMayUptoCardSaid : Prop := Claim7.holds Tryd.pinned (.plain (OpenSpec.upto recordMaySpec)) recordMayUptoCard
end Rows
end Go.Proofs.YtgdliebllmgibaaDoor
