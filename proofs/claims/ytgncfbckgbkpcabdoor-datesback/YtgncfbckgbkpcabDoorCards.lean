/-
  DERIVED. GIVEN WITH THE SEED: THE CARDS: each row of YtgncfbckgbkpcabDoorRows.lean that lists a variable, with what it lists TIED to the program's text (the seventh form; the later family's looks); each row that meets fmt, with fmt's text TOLD by the authors' own Lean function (tested against real Go, not proved from fmt's source: count such statements apart). THE CARD IS WHAT COUNTS. Prove the row's statement (the work); the ties are given (YtgncfbckgbkpcabDoorTie.lean); close each card by the builder's one call (the guide's Derived/Test/ToyasCard.lean, 'card_holds'). Laid BY PROGRAM, IN A SANDBOX (cutbox-door.mjs). By AI agents, Wed Nov 11 2026. No macro, syntax, notation, axiom, sorry.
-/
import Derived.Test.YtgncfbckgbkpcabDoorRows
import GoSem.ClaimSeven
namespace Go.Proofs.YtgncfbckgbkpcabDoor
namespace Rows

/-- THE TIED CARD OF 'sundiallaw.CivilFinds'. -/
def civilFindsCard : Claim7 := { stood := { row := civilFindsRow, standIns := [], harness := (true, "9df9342f0bce46373029427cb2963b6a7c7ce38a59a96bee5b01e9bbafbc4c8e"), looks := false }, kinds := [], alts := [], laidByText := true, laidKinds := [.data], laidTests := true, laidLooks := .later }
def CivilFindsCardSaid : Prop := Claim7.holds Tryd.pinned (.plain (OpenSpec.ofChange civilFindsSpec)) civilFindsCard

/-- THE TIED CARD OF 'sundiallaw.CivilInstants'. -/
def civilInstantsCard : Claim7 := { stood := { row := civilInstantsRow, standIns := [], harness := (true, "9df9342f0bce46373029427cb2963b6a7c7ce38a59a96bee5b01e9bbafbc4c8e"), looks := false }, kinds := [], alts := [], laidByText := true, laidKinds := [.data], laidTests := true, laidLooks := .later }
def CivilInstantsCardSaid : Prop := Claim7.holds Tryd.pinned (.plain (OpenSpec.ofChange civilInstantsSpec)) civilInstantsCard

/-- THE TIED CARD OF 'sundialkeep.DatesBack'. -/
def datesBackCard : Claim7 := { stood := { row := datesBackRow, standIns := [], harness := (true, "9df9342f0bce46373029427cb2963b6a7c7ce38a59a96bee5b01e9bbafbc4c8e"), looks := false }, kinds := [], alts := [], laidByText := true, laidKinds := [.data], laidTests := true, laidLooks := .later }
def DatesBackCardSaid : Prop := Claim7.holds Tryd.pinned (.plain (OpenSpec.ofChange datesBackSpec)) datesBackCard

/-- THE SECOND FORM's CARD OF 'sundiallaw.CivilFinds'. -/
def civilFindsUptoCard : Claim7 := { stood := { row := civilFindsUptoRow, standIns := [], harness := (true, "9df9342f0bce46373029427cb2963b6a7c7ce38a59a96bee5b01e9bbafbc4c8e"), looks := false }, kinds := [], alts := [], laidByText := true, laidKinds := [.data], laidTests := true, laidLooks := .later }
def CivilFindsUptoCardSaid : Prop := Claim7.holds Tryd.pinned (.plain (OpenSpec.upto civilFindsSpec)) civilFindsUptoCard

/-- THE SECOND FORM's CARD OF 'sundiallaw.CivilInstants'. -/
def civilInstantsUptoCard : Claim7 := { stood := { row := civilInstantsUptoRow, standIns := [], harness := (true, "9df9342f0bce46373029427cb2963b6a7c7ce38a59a96bee5b01e9bbafbc4c8e"), looks := false }, kinds := [], alts := [], laidByText := true, laidKinds := [.data], laidTests := true, laidLooks := .later }
def CivilInstantsUptoCardSaid : Prop := Claim7.holds Tryd.pinned (.plain (OpenSpec.upto civilInstantsSpec)) civilInstantsUptoCard

/-- THE SECOND FORM's CARD OF 'sundialkeep.DatesBack'. -/
def datesBackUptoCard : Claim7 := { stood := { row := datesBackUptoRow, standIns := [], harness := (true, "9df9342f0bce46373029427cb2963b6a7c7ce38a59a96bee5b01e9bbafbc4c8e"), looks := false }, kinds := [], alts := [], laidByText := true, laidKinds := [.data], laidTests := true, laidLooks := .later }
def DatesBackUptoCardSaid : Prop := Claim7.holds Tryd.pinned (.plain (OpenSpec.upto datesBackSpec)) datesBackUptoCard
end Rows
end Go.Proofs.YtgncfbckgbkpcabDoor
