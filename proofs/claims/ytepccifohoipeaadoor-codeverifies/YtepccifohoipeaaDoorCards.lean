/-
  DERIVED. GIVEN WITH THE SEED: THE CARDS: each row of YtepccifohoipeaaDoorRows.lean that lists a variable, with what it lists TIED to the program's text (the seventh form; the later family's looks); each row that meets fmt, with fmt's text TOLD by the authors' own Lean function (tested against real Go, not proved from fmt's source: count such statements apart). THE CARD IS WHAT COUNTS. Prove the row's statement (the work); the ties are given (YtepccifohoipeaaDoorTie.lean); close each card by the builder's one call (the guide's Derived/Test/ToyasCard.lean, 'card_holds'). Laid BY PROGRAM, IN A SANDBOX (cutbox-door.mjs). By AI agents, Wed Nov 11 2026. No macro, syntax, notation, axiom, sorry.
-/
import Derived.Test.YtepccifohoipeaaDoorRows
import GoSem.ClaimSeven
namespace Go.Proofs.YtepccifohoipeaaDoor
namespace Rows

/-- THE TIED CARD OF 'sundiallaw.CodeVerifies'. -/
def codeVerifiesCard : Claim7 := { stood := { row := codeVerifiesRow, standIns := [], harness := (true, "56b9f94ecaccba7607634b4e96de70a0d1416f4c3a5c57726a40a415bbe6ba4a"), looks := false }, kinds := [], alts := [], laidByText := true, laidKinds := [.data], laidTests := true, laidLooks := .later }
def CodeVerifiesCardSaid : Prop := Claim7.holds Tryd.pinned (.plain (OpenSpec.ofChange codeVerifiesSpec)) codeVerifiesCard

/-- THE TIED CARD OF 'sundialkeep.CodeBad'. -/
def codeBadCard : Claim7 := { stood := { row := codeBadRow, standIns := [], harness := (true, "56b9f94ecaccba7607634b4e96de70a0d1416f4c3a5c57726a40a415bbe6ba4a"), looks := false }, kinds := [], alts := [], laidByText := true, laidKinds := [.data], laidTests := true, laidLooks := .later }
def CodeBadCardSaid : Prop := Claim7.holds Tryd.pinned (.plain (OpenSpec.ofChange codeBadSpec)) codeBadCard

/-- THE SECOND FORM's CARD OF 'sundiallaw.CodeVerifies'. -/
def codeVerifiesUptoCard : Claim7 := { stood := { row := codeVerifiesUptoRow, standIns := [], harness := (true, "56b9f94ecaccba7607634b4e96de70a0d1416f4c3a5c57726a40a415bbe6ba4a"), looks := false }, kinds := [], alts := [], laidByText := true, laidKinds := [.data], laidTests := true, laidLooks := .later }
def CodeVerifiesUptoCardSaid : Prop := Claim7.holds Tryd.pinned (.plain (OpenSpec.upto codeVerifiesSpec)) codeVerifiesUptoCard

/-- THE SECOND FORM's CARD OF 'sundialkeep.CodeBad'. -/
def codeBadUptoCard : Claim7 := { stood := { row := codeBadUptoRow, standIns := [], harness := (true, "56b9f94ecaccba7607634b4e96de70a0d1416f4c3a5c57726a40a415bbe6ba4a"), looks := false }, kinds := [], alts := [], laidByText := true, laidKinds := [.data], laidTests := true, laidLooks := .later }
def CodeBadUptoCardSaid : Prop := Claim7.holds Tryd.pinned (.plain (OpenSpec.upto codeBadSpec)) codeBadUptoCard
end Rows
end Go.Proofs.YtepccifohoipeaaDoor
