/-
  DERIVED. GIVEN WITH THE SEED: THE CARDS: each row of YtkdckclefegocaaGreatDoorRows.lean that lists a variable, with what it lists TIED to the program's text (the seventh form; the later family's looks); each row that meets fmt, with fmt's text TOLD by the authors' own Lean function (tested against real Go, not proved from fmt's source: count such statements apart). THE CARD IS WHAT COUNTS. Prove the row's statement (the work); the ties are given (YtkdckclefegocaaGreatDoorTie.lean); close each card by the builder's one call (the guide's Derived/Test/ToyasCard.lean, 'card_holds'). Laid BY PROGRAM, IN A SANDBOX (cutbox-door.mjs). By AI agents, Wed Nov 11 2026. No macro, syntax, notation, axiom, sorry.
-/
import Derived.Test.YtkdckclefegocaaGreatDoorRows
import GoSem.ClaimSeven
namespace Go.Proofs.YtkdckclefegocaaGreatDoor
namespace Rows

/-- THE TIED CARD OF 'flyballlaw06.SoftExact'. -/
def softExactCard : Claim7 := { stood := { row := softExactRow, standIns := [], harness := (true, "08d8ed15b145826ccff62a0470cbdef46c0346e26b0837978c57d554994ca39e"), looks := false }, kinds := [], alts := [], laidByText := true, laidKinds := [.data], laidTests := true, laidLooks := .later }
def SoftExactCardSaid : Prop := Claim7.holds Tryz.pinned (.plain (OpenSpec.ofChange softExactSpec)) softExactCard

/-- THE TIED CARD OF 'flyballlaw06.SoftSquares'. -/
def softSquaresCard : Claim7 := { stood := { row := softSquaresRow, standIns := [], harness := (true, "08d8ed15b145826ccff62a0470cbdef46c0346e26b0837978c57d554994ca39e"), looks := false }, kinds := [], alts := [], laidByText := true, laidKinds := [.data], laidTests := true, laidLooks := .later }
def SoftSquaresCardSaid : Prop := Claim7.holds Tryz.pinned (.plain (OpenSpec.ofChange softSquaresSpec)) softSquaresCard

/-- THE SECOND FORM's CARD OF 'flyballlaw06.SoftExact'. -/
def softExactUptoCard : Claim7 := { stood := { row := softExactUptoRow, standIns := [], harness := (true, "08d8ed15b145826ccff62a0470cbdef46c0346e26b0837978c57d554994ca39e"), looks := false }, kinds := [], alts := [], laidByText := true, laidKinds := [.data], laidTests := true, laidLooks := .later }
def SoftExactUptoCardSaid : Prop := Claim7.holds Tryz.pinned (.plain (OpenSpec.upto softExactSpec)) softExactUptoCard

/-- THE SECOND FORM's CARD OF 'flyballlaw06.SoftSquares'. -/
def softSquaresUptoCard : Claim7 := { stood := { row := softSquaresUptoRow, standIns := [], harness := (true, "08d8ed15b145826ccff62a0470cbdef46c0346e26b0837978c57d554994ca39e"), looks := false }, kinds := [], alts := [], laidByText := true, laidKinds := [.data], laidTests := true, laidLooks := .later }
def SoftSquaresUptoCardSaid : Prop := Claim7.holds Tryz.pinned (.plain (OpenSpec.upto softSquaresSpec)) softSquaresUptoCard
end Rows
end Go.Proofs.YtkdckclefegocaaGreatDoor
