/-
  DERIVED. GIVEN WITH THE SEED: THE CARDS: each row of YtcpmbjlhblkniaaDoorRows.lean that lists a variable, with what it lists TIED to the program's text (the seventh form; the later family's looks); each row that meets fmt, with fmt's text TOLD by the authors' own Lean function (tested against real Go, not proved from fmt's source: count such statements apart). THE CARD IS WHAT COUNTS. Prove the row's statement (the work); the ties are given (YtcpmbjlhblkniaaDoorTie.lean); close each card by the builder's one call (the guide's Derived/Test/ToyasCard.lean, 'card_holds'). Laid BY PROGRAM, IN A SANDBOX (cutbox-door.mjs). By AI agents, Wed Nov 11 2026. No macro, syntax, notation, axiom, sorry.
-/
import Derived.Test.YtcpmbjlhblkniaaDoorRows
import GoSem.ClaimSeven
namespace Go.Proofs.YtcpmbjlhblkniaaDoor
namespace Rows

/-- THE TIED CARD OF 'sundialkeep.ProgramsTell'. -/
def programsTellCard : Claim7 := { stood := { row := programsTellRow, standIns := [], harness := (true, "81ee9fb02817312db27ca9e2e70c0f3d91f69cf55ecf72708df148e775c1da2b"), looks := true }, kinds := [], alts := [], laidByText := true, laidKinds := [.data], laidTests := true, laidLooks := .later }
def ProgramsTellCardSaid : Prop := Claim7.holds Tryd.pinned (.plain (OpenSpec.ofChange programsTellSpec)) programsTellCard

/-- THE TIED CARD OF 'sundialkeep.TextsBack'. -/
def textsBackCard : Claim7 := { stood := { row := textsBackRow, standIns := [], harness := (true, "81ee9fb02817312db27ca9e2e70c0f3d91f69cf55ecf72708df148e775c1da2b"), looks := true }, kinds := [], alts := [], laidByText := true, laidKinds := [.data, .data, .data, .sentinel, .sentinel, .data], laidTests := true, laidLooks := .later }
def TextsBackCardSaid : Prop := Claim7.holds Tryd.pinned (.plain (OpenSpec.ofChange textsBackSpec)) textsBackCard

/-- THE SECOND FORM's CARD OF 'sundialkeep.ProgramsTell'. -/
def programsTellUptoCard : Claim7 := { stood := { row := programsTellUptoRow, standIns := [], harness := (true, "81ee9fb02817312db27ca9e2e70c0f3d91f69cf55ecf72708df148e775c1da2b"), looks := true }, kinds := [], alts := [], laidByText := true, laidKinds := [.data], laidTests := true, laidLooks := .later }
def ProgramsTellUptoCardSaid : Prop := Claim7.holds Tryd.pinned (.plain (OpenSpec.upto programsTellSpec)) programsTellUptoCard

/-- THE SECOND FORM's CARD OF 'sundialkeep.TextsBack'. -/
def textsBackUptoCard : Claim7 := { stood := { row := textsBackUptoRow, standIns := [], harness := (true, "81ee9fb02817312db27ca9e2e70c0f3d91f69cf55ecf72708df148e775c1da2b"), looks := true }, kinds := [], alts := [], laidByText := true, laidKinds := [.data, .data, .data, .sentinel, .sentinel, .data], laidTests := true, laidLooks := .later }
def TextsBackUptoCardSaid : Prop := Claim7.holds Tryd.pinned (.plain (OpenSpec.upto textsBackSpec)) textsBackUptoCard
end Rows
end Go.Proofs.YtcpmbjlhblkniaaDoor
