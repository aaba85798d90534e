/-
  DERIVED. GIVEN WITH THE SEED: THE CARDS: each row of YtlicdlpebhalaaaDoorRows.lean that lists a variable, with what it lists TIED to the program's text (the seventh form; the later family's looks); each row that meets fmt, with fmt's text TOLD by the authors' own Lean function (tested against real Go, not proved from fmt's source: count such statements apart). THE CARD IS WHAT COUNTS. Prove the row's statement (the work); the ties are given (YtlicdlpebhalaaaDoorTie.lean); close each card by the builder's one call (the guide's Derived/Test/ToyasCard.lean, 'card_holds'). Laid BY PROGRAM, IN A SANDBOX (cutbox-door.mjs). By AI agents, Wed Nov 11 2026. No macro, syntax, notation, axiom, sorry.
-/
import Derived.Test.YtlicdlpebhalaaaDoorRows
import GoSem.ClaimSeven
namespace Go.Proofs.YtlicdlpebhalaaaDoor
namespace Rows

/-- THE TIED CARD OF 'dustpanlaw3.BitmapAll'. -/
def bitmapAllCard : Claim7 := { stood := { row := bitmapAllRow, standIns := [], harness := (true, "6fc65819a77c73ce99a1c081f2558f99aa8d3c850c923daa96cdcf8d21cd8057"), looks := false }, kinds := [], alts := [], laidByText := true, laidKinds := [.data], laidTests := true, laidLooks := .later }
def BitmapAllCardSaid : Prop := Claim7.holds Tryd.pinned (.plain (OpenSpec.ofChange bitmapAllSpec)) bitmapAllCard

/-- THE TIED CARD OF 'dustpanlaw3.BitmapParts'. -/
def bitmapPartsCard : Claim7 := { stood := { row := bitmapPartsRow, standIns := [], harness := (true, "6fc65819a77c73ce99a1c081f2558f99aa8d3c850c923daa96cdcf8d21cd8057"), looks := false }, kinds := [], alts := [], laidByText := true, laidKinds := [.data], laidTests := true, laidLooks := .later }
def BitmapPartsCardSaid : Prop := Claim7.holds Tryd.pinned (.plain (OpenSpec.ofChange bitmapPartsSpec)) bitmapPartsCard

/-- THE TIED CARD OF 'dustpanlaw3.BitmapTurn'. -/
def bitmapTurnCard : Claim7 := { stood := { row := bitmapTurnRow, standIns := [], harness := (true, "6fc65819a77c73ce99a1c081f2558f99aa8d3c850c923daa96cdcf8d21cd8057"), looks := false }, kinds := [], alts := [], laidByText := true, laidKinds := [.data], laidTests := true, laidLooks := .later }
def BitmapTurnCardSaid : Prop := Claim7.holds Tryd.pinned (.plain (OpenSpec.ofChange bitmapTurnSpec)) bitmapTurnCard

/-- THE TIED CARD OF 'dustpanlaw3.BitmapRuns'. -/
def bitmapRunsCard : Claim7 := { stood := { row := bitmapRunsRow, standIns := [], harness := (true, "6fc65819a77c73ce99a1c081f2558f99aa8d3c850c923daa96cdcf8d21cd8057"), looks := false }, kinds := [], alts := [], laidByText := true, laidKinds := [.data], laidTests := true, laidLooks := .later }
def BitmapRunsCardSaid : Prop := Claim7.holds Tryd.pinned (.plain (OpenSpec.ofChange bitmapRunsSpec)) bitmapRunsCard

/-- THE TIED CARD OF 'dustpanlaw3.BitmapNext'. -/
def bitmapNextCard : Claim7 := { stood := { row := bitmapNextRow, standIns := [], harness := (true, "6fc65819a77c73ce99a1c081f2558f99aa8d3c850c923daa96cdcf8d21cd8057"), looks := false }, kinds := [], alts := [], laidByText := true, laidKinds := [.data], laidTests := true, laidLooks := .later }
def BitmapNextCardSaid : Prop := Claim7.holds Tryd.pinned (.plain (OpenSpec.ofChange bitmapNextSpec)) bitmapNextCard

/-- THE TIED CARD OF 'dustpanlaw3.BitmapOwn'. -/
def bitmapOwnCard : Claim7 := { stood := { row := bitmapOwnRow, standIns := [], harness := (true, "6fc65819a77c73ce99a1c081f2558f99aa8d3c850c923daa96cdcf8d21cd8057"), looks := false }, kinds := [], alts := [], laidByText := true, laidKinds := [.data], laidTests := true, laidLooks := .later }
def BitmapOwnCardSaid : Prop := Claim7.holds Tryd.pinned (.plain (OpenSpec.ofChange bitmapOwnSpec)) bitmapOwnCard

/-- THE SECOND FORM's CARD OF 'dustpanlaw3.BitmapAll'. -/
def bitmapAllUptoCard : Claim7 := { stood := { row := bitmapAllUptoRow, standIns := [], harness := (true, "6fc65819a77c73ce99a1c081f2558f99aa8d3c850c923daa96cdcf8d21cd8057"), looks := false }, kinds := [], alts := [], laidByText := true, laidKinds := [.data], laidTests := true, laidLooks := .later }
def BitmapAllUptoCardSaid : Prop := Claim7.holds Tryd.pinned (.plain (OpenSpec.upto bitmapAllSpec)) bitmapAllUptoCard

/-- THE SECOND FORM's CARD OF 'dustpanlaw3.BitmapParts'. -/
def bitmapPartsUptoCard : Claim7 := { stood := { row := bitmapPartsUptoRow, standIns := [], harness := (true, "6fc65819a77c73ce99a1c081f2558f99aa8d3c850c923daa96cdcf8d21cd8057"), looks := false }, kinds := [], alts := [], laidByText := true, laidKinds := [.data], laidTests := true, laidLooks := .later }
def BitmapPartsUptoCardSaid : Prop := Claim7.holds Tryd.pinned (.plain (OpenSpec.upto bitmapPartsSpec)) bitmapPartsUptoCard

/-- THE SECOND FORM's CARD OF 'dustpanlaw3.BitmapTurn'. -/
def bitmapTurnUptoCard : Claim7 := { stood := { row := bitmapTurnUptoRow, standIns := [], harness := (true, "6fc65819a77c73ce99a1c081f2558f99aa8d3c850c923daa96cdcf8d21cd8057"), looks := false }, kinds := [], alts := [], laidByText := true, laidKinds := [.data], laidTests := true, laidLooks := .later }
def BitmapTurnUptoCardSaid : Prop := Claim7.holds Tryd.pinned (.plain (OpenSpec.upto bitmapTurnSpec)) bitmapTurnUptoCard

/-- THE SECOND FORM's CARD OF 'dustpanlaw3.BitmapRuns'. -/
def bitmapRunsUptoCard : Claim7 := { stood := { row := bitmapRunsUptoRow, standIns := [], harness := (true, "6fc65819a77c73ce99a1c081f2558f99aa8d3c850c923daa96cdcf8d21cd8057"), looks := false }, kinds := [], alts := [], laidByText := true, laidKinds := [.data], laidTests := true, laidLooks := .later }
def BitmapRunsUptoCardSaid : Prop := Claim7.holds Tryd.pinned (.plain (OpenSpec.upto bitmapRunsSpec)) bitmapRunsUptoCard

/-- THE SECOND FORM's CARD OF 'dustpanlaw3.BitmapNext'. -/
def bitmapNextUptoCard : Claim7 := { stood := { row := bitmapNextUptoRow, standIns := [], harness := (true, "6fc65819a77c73ce99a1c081f2558f99aa8d3c850c923daa96cdcf8d21cd8057"), looks := false }, kinds := [], alts := [], laidByText := true, laidKinds := [.data], laidTests := true, laidLooks := .later }
def BitmapNextUptoCardSaid : Prop := Claim7.holds Tryd.pinned (.plain (OpenSpec.upto bitmapNextSpec)) bitmapNextUptoCard

/-- THE SECOND FORM's CARD OF 'dustpanlaw3.BitmapOwn'. -/
def bitmapOwnUptoCard : Claim7 := { stood := { row := bitmapOwnUptoRow, standIns := [], harness := (true, "6fc65819a77c73ce99a1c081f2558f99aa8d3c850c923daa96cdcf8d21cd8057"), looks := false }, kinds := [], alts := [], laidByText := true, laidKinds := [.data], laidTests := true, laidLooks := .later }
def BitmapOwnUptoCardSaid : Prop := Claim7.holds Tryd.pinned (.plain (OpenSpec.upto bitmapOwnSpec)) bitmapOwnUptoCard
end Rows
end Go.Proofs.YtlicdlpebhalaaaDoor
