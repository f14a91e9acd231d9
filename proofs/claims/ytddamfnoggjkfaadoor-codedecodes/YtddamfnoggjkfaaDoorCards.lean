/-
  DERIVED. GIVEN WITH THE SEED: THE CARDS: each row of YtddamfnoggjkfaaDoorRows.lean that lists a variable, with what it lists TIED to the program's text (the seventh form; the later family's looks); each row that meets fmt, with fmt's text TOLD by the authors' own Lean function (tested against real Go, not proved from fmt's source: count such statements apart). THE CARD IS WHAT COUNTS. Prove the row's statement (the work); the ties are given (YtddamfnoggjkfaaDoorTie.lean); close each card by the builder's one call (the guide's Derived/Test/ToyasCard.lean, 'card_holds'). Laid BY PROGRAM, IN A SANDBOX (cutbox-door.mjs). By AI agents, Wed Nov 11 2026. No macro, syntax, notation, axiom, sorry.
-/
import Derived.Test.YtddamfnoggjkfaaDoorRows
import GoSem.ClaimSeven
namespace Go.Proofs.YtddamfnoggjkfaaDoor
namespace Rows

/-- THE TIED CARD OF 'sundiallaw.CodeEncodes'. -/
def codeEncodesCard : Claim7 := { stood := { row := codeEncodesRow, standIns := [], harness := (true, "2034431077496f04ac0b68b5443db4d4d63d448778e72db6b15a5ae9d0c7924e"), looks := false }, kinds := [], alts := [], laidByText := true, laidKinds := [.data], laidTests := true, laidLooks := .later }
def CodeEncodesCardSaid : Prop := Claim7.holds Tryd.pinned (.plain (OpenSpec.ofChange codeEncodesSpec)) codeEncodesCard

/-- THE TIED CARD OF 'sundiallaw.CodeDecodes'. -/
def codeDecodesCard : Claim7 := { stood := { row := codeDecodesRow, standIns := [], harness := (true, "2034431077496f04ac0b68b5443db4d4d63d448778e72db6b15a5ae9d0c7924e"), looks := false }, kinds := [], alts := [], laidByText := true, laidKinds := [.data], laidTests := true, laidLooks := .later }
def CodeDecodesCardSaid : Prop := Claim7.holds Tryd.pinned (.plain (OpenSpec.ofChange codeDecodesSpec)) codeDecodesCard

/-- THE TIED CARD OF 'sundialkeep.BytesOnce'. -/
def bytesOnceCard : Claim7 := { stood := { row := bytesOnceRow, standIns := [], harness := (true, "2034431077496f04ac0b68b5443db4d4d63d448778e72db6b15a5ae9d0c7924e"), looks := false }, kinds := [], alts := [], laidByText := true, laidKinds := [.data], laidTests := true, laidLooks := .later }
def BytesOnceCardSaid : Prop := Claim7.holds Tryd.pinned (.plain (OpenSpec.ofChange bytesOnceSpec)) bytesOnceCard

/-- THE SECOND FORM's CARD OF 'sundiallaw.CodeEncodes'. -/
def codeEncodesUptoCard : Claim7 := { stood := { row := codeEncodesUptoRow, standIns := [], harness := (true, "2034431077496f04ac0b68b5443db4d4d63d448778e72db6b15a5ae9d0c7924e"), looks := false }, kinds := [], alts := [], laidByText := true, laidKinds := [.data], laidTests := true, laidLooks := .later }
def CodeEncodesUptoCardSaid : Prop := Claim7.holds Tryd.pinned (.plain (OpenSpec.upto codeEncodesSpec)) codeEncodesUptoCard

/-- THE SECOND FORM's CARD OF 'sundiallaw.CodeDecodes'. -/
def codeDecodesUptoCard : Claim7 := { stood := { row := codeDecodesUptoRow, standIns := [], harness := (true, "2034431077496f04ac0b68b5443db4d4d63d448778e72db6b15a5ae9d0c7924e"), looks := false }, kinds := [], alts := [], laidByText := true, laidKinds := [.data], laidTests := true, laidLooks := .later }
def CodeDecodesUptoCardSaid : Prop := Claim7.holds Tryd.pinned (.plain (OpenSpec.upto codeDecodesSpec)) codeDecodesUptoCard

/-- THE SECOND FORM's CARD OF 'sundialkeep.BytesOnce'. -/
def bytesOnceUptoCard : Claim7 := { stood := { row := bytesOnceUptoRow, standIns := [], harness := (true, "2034431077496f04ac0b68b5443db4d4d63d448778e72db6b15a5ae9d0c7924e"), looks := false }, kinds := [], alts := [], laidByText := true, laidKinds := [.data], laidTests := true, laidLooks := .later }
def BytesOnceUptoCardSaid : Prop := Claim7.holds Tryd.pinned (.plain (OpenSpec.upto bytesOnceSpec)) bytesOnceUptoCard
end Rows
end Go.Proofs.YtddamfnoggjkfaaDoor
