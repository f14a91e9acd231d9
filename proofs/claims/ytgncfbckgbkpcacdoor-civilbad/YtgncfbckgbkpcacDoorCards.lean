/-
  DERIVED. GIVEN WITH THE SEED: THE CARDS: each row of YtgncfbckgbkpcacDoorRows.lean that lists a variable, with what it lists TIED to the program's text (the seventh form; the later family's looks); each row that meets fmt, with fmt's text TOLD by the authors' own Lean function (tested against real Go, not proved from fmt's source: count such statements apart). THE CARD IS WHAT COUNTS. Prove the row's statement (the work); the ties are given (YtgncfbckgbkpcacDoorTie.lean); close each card by the builder's one call (the guide's Derived/Test/ToyasCard.lean, 'card_holds'). Laid BY PROGRAM, IN A SANDBOX (cutbox-door.mjs). By AI agents, Wed Nov 11 2026. No macro, syntax, notation, axiom, sorry.
-/
import Derived.Test.YtgncfbckgbkpcacDoorRows
import GoSem.ClaimSeven
namespace Go.Proofs.YtgncfbckgbkpcacDoor
namespace Rows

/-- THE TIED CARD OF 'sundialkeep.YearsLong'. -/
def yearsLongCard : Claim7 := { stood := { row := yearsLongRow, standIns := [], harness := (true, "3069d6fad4eebaa1a40c7885566dcd2abab600a00621442a7f57c1cdd5628c6b"), looks := false }, kinds := [], alts := [], laidByText := true, laidKinds := [.data], laidTests := true, laidLooks := .later }
def YearsLongCardSaid : Prop := Claim7.holds Tryd.pinned (.plain (OpenSpec.ofChange yearsLongSpec)) yearsLongCard

/-- THE TIED CARD OF 'sundialkeep.DaysFound'. -/
def daysFoundCard : Claim7 := { stood := { row := daysFoundRow, standIns := [], harness := (true, "3069d6fad4eebaa1a40c7885566dcd2abab600a00621442a7f57c1cdd5628c6b"), looks := false }, kinds := [], alts := [], laidByText := true, laidKinds := [.data], laidTests := true, laidLooks := .later }
def DaysFoundCardSaid : Prop := Claim7.holds Tryd.pinned (.plain (OpenSpec.ofChange daysFoundSpec)) daysFoundCard

/-- THE TIED CARD OF 'sundialkeep.InstantsMove'. -/
def instantsMoveCard : Claim7 := { stood := { row := instantsMoveRow, standIns := [], harness := (true, "3069d6fad4eebaa1a40c7885566dcd2abab600a00621442a7f57c1cdd5628c6b"), looks := false }, kinds := [], alts := [], laidByText := true, laidKinds := [.data], laidTests := true, laidLooks := .later }
def InstantsMoveCardSaid : Prop := Claim7.holds Tryd.pinned (.plain (OpenSpec.ofChange instantsMoveSpec)) instantsMoveCard

/-- THE TIED CARD OF 'sundialkeep.CivilBad'. -/
def civilBadCard : Claim7 := { stood := { row := civilBadRow, standIns := [], harness := (true, "3069d6fad4eebaa1a40c7885566dcd2abab600a00621442a7f57c1cdd5628c6b"), looks := false }, kinds := [], alts := [], laidByText := true, laidKinds := [.data], laidTests := true, laidLooks := .later }
def CivilBadCardSaid : Prop := Claim7.holds Tryd.pinned (.plain (OpenSpec.ofChange civilBadSpec)) civilBadCard

/-- THE SECOND FORM's CARD OF 'sundialkeep.YearsLong'. -/
def yearsLongUptoCard : Claim7 := { stood := { row := yearsLongUptoRow, standIns := [], harness := (true, "3069d6fad4eebaa1a40c7885566dcd2abab600a00621442a7f57c1cdd5628c6b"), looks := false }, kinds := [], alts := [], laidByText := true, laidKinds := [.data], laidTests := true, laidLooks := .later }
def YearsLongUptoCardSaid : Prop := Claim7.holds Tryd.pinned (.plain (OpenSpec.upto yearsLongSpec)) yearsLongUptoCard

/-- THE SECOND FORM's CARD OF 'sundialkeep.DaysFound'. -/
def daysFoundUptoCard : Claim7 := { stood := { row := daysFoundUptoRow, standIns := [], harness := (true, "3069d6fad4eebaa1a40c7885566dcd2abab600a00621442a7f57c1cdd5628c6b"), looks := false }, kinds := [], alts := [], laidByText := true, laidKinds := [.data], laidTests := true, laidLooks := .later }
def DaysFoundUptoCardSaid : Prop := Claim7.holds Tryd.pinned (.plain (OpenSpec.upto daysFoundSpec)) daysFoundUptoCard

/-- THE SECOND FORM's CARD OF 'sundialkeep.InstantsMove'. -/
def instantsMoveUptoCard : Claim7 := { stood := { row := instantsMoveUptoRow, standIns := [], harness := (true, "3069d6fad4eebaa1a40c7885566dcd2abab600a00621442a7f57c1cdd5628c6b"), looks := false }, kinds := [], alts := [], laidByText := true, laidKinds := [.data], laidTests := true, laidLooks := .later }
def InstantsMoveUptoCardSaid : Prop := Claim7.holds Tryd.pinned (.plain (OpenSpec.upto instantsMoveSpec)) instantsMoveUptoCard

/-- THE SECOND FORM's CARD OF 'sundialkeep.CivilBad'. -/
def civilBadUptoCard : Claim7 := { stood := { row := civilBadUptoRow, standIns := [], harness := (true, "3069d6fad4eebaa1a40c7885566dcd2abab600a00621442a7f57c1cdd5628c6b"), looks := false }, kinds := [], alts := [], laidByText := true, laidKinds := [.data], laidTests := true, laidLooks := .later }
def CivilBadUptoCardSaid : Prop := Claim7.holds Tryd.pinned (.plain (OpenSpec.upto civilBadSpec)) civilBadUptoCard
end Rows
end Go.Proofs.YtgncfbckgbkpcacDoor
