/-
  DERIVED. GIVEN WITH THE SEED: THE CARDS: each row of YtgncfbckgbkpcaaDoorRows.lean that lists a variable, with what it lists TIED to the program's text (the seventh form; the later family's looks); each row that meets fmt, with fmt's text TOLD by the authors' own Lean function (tested against real Go, not proved from fmt's source: count such statements apart). THE CARD IS WHAT COUNTS. Prove the row's statement (the work); the ties are given (YtgncfbckgbkpcaaDoorTie.lean); close each card by the builder's one call (the guide's Derived/Test/ToyasCard.lean, 'card_holds'). Laid BY PROGRAM, IN A SANDBOX (cutbox-door.mjs). By AI agents, Wed Nov 11 2026. No macro, syntax, notation, axiom, sorry.
-/
import Derived.Test.YtgncfbckgbkpcaaDoorRows
import GoSem.ClaimSeven
namespace Go.Proofs.YtgncfbckgbkpcaaDoor
namespace Rows

/-- THE TIED CARD OF 'sundiallaw.CivilDays'. -/
def civilDaysCard : Claim7 := { stood := { row := civilDaysRow, standIns := [], harness := (true, "1b5a32a62411d7d90ecdafc6d5d7f57086b4247ff2c0100cdfb48728a4a1ea50"), looks := false }, kinds := [], alts := [], laidByText := true, laidKinds := [.data], laidTests := true, laidLooks := .later }
def CivilDaysCardSaid : Prop := Claim7.holds Tryd.pinned (.plain (OpenSpec.ofChange civilDaysSpec)) civilDaysCard

/-- THE TIED CARD OF 'sundiallaw.CivilNumbers'. -/
def civilNumbersCard : Claim7 := { stood := { row := civilNumbersRow, standIns := [], harness := (true, "1b5a32a62411d7d90ecdafc6d5d7f57086b4247ff2c0100cdfb48728a4a1ea50"), looks := false }, kinds := [], alts := [], laidByText := true, laidKinds := [.data], laidTests := true, laidLooks := .later }
def CivilNumbersCardSaid : Prop := Claim7.holds Tryd.pinned (.plain (OpenSpec.ofChange civilNumbersSpec)) civilNumbersCard

/-- THE TIED CARD OF 'sundiallaw.CivilDates'. -/
def civilDatesCard : Claim7 := { stood := { row := civilDatesRow, standIns := [], harness := (true, "1b5a32a62411d7d90ecdafc6d5d7f57086b4247ff2c0100cdfb48728a4a1ea50"), looks := false }, kinds := [], alts := [], laidByText := true, laidKinds := [.data], laidTests := true, laidLooks := .later }
def CivilDatesCardSaid : Prop := Claim7.holds Tryd.pinned (.plain (OpenSpec.ofChange civilDatesSpec)) civilDatesCard

/-- THE SECOND FORM's CARD OF 'sundiallaw.CivilDays'. -/
def civilDaysUptoCard : Claim7 := { stood := { row := civilDaysUptoRow, standIns := [], harness := (true, "1b5a32a62411d7d90ecdafc6d5d7f57086b4247ff2c0100cdfb48728a4a1ea50"), looks := false }, kinds := [], alts := [], laidByText := true, laidKinds := [.data], laidTests := true, laidLooks := .later }
def CivilDaysUptoCardSaid : Prop := Claim7.holds Tryd.pinned (.plain (OpenSpec.upto civilDaysSpec)) civilDaysUptoCard

/-- THE SECOND FORM's CARD OF 'sundiallaw.CivilNumbers'. -/
def civilNumbersUptoCard : Claim7 := { stood := { row := civilNumbersUptoRow, standIns := [], harness := (true, "1b5a32a62411d7d90ecdafc6d5d7f57086b4247ff2c0100cdfb48728a4a1ea50"), looks := false }, kinds := [], alts := [], laidByText := true, laidKinds := [.data], laidTests := true, laidLooks := .later }
def CivilNumbersUptoCardSaid : Prop := Claim7.holds Tryd.pinned (.plain (OpenSpec.upto civilNumbersSpec)) civilNumbersUptoCard

/-- THE SECOND FORM's CARD OF 'sundiallaw.CivilDates'. -/
def civilDatesUptoCard : Claim7 := { stood := { row := civilDatesUptoRow, standIns := [], harness := (true, "1b5a32a62411d7d90ecdafc6d5d7f57086b4247ff2c0100cdfb48728a4a1ea50"), looks := false }, kinds := [], alts := [], laidByText := true, laidKinds := [.data], laidTests := true, laidLooks := .later }
def CivilDatesUptoCardSaid : Prop := Claim7.holds Tryd.pinned (.plain (OpenSpec.upto civilDatesSpec)) civilDatesUptoCard
end Rows
end Go.Proofs.YtgncfbckgbkpcaaDoor
