/-
  DERIVED. GIVEN WITH THE SEED: THE CARDS: each row of YtnicecpmpnhmfabDoorRows.lean that lists a variable, with what it lists TIED to the program's text (the seventh form; the later family's looks); each row that meets fmt, with fmt's text TOLD by the authors' own Lean function (tested against real Go, not proved from fmt's source: count such statements apart). THE CARD IS WHAT COUNTS. Prove the row's statement (the work); the ties are given (YtnicecpmpnhmfabDoorTie.lean); close each card by the builder's one call (the guide's Derived/Test/ToyasCard.lean, 'card_holds'). Laid BY PROGRAM, IN A SANDBOX (cutbox-door.mjs). By AI agents, Wed Nov 11 2026. No macro, syntax, notation, axiom, sorry.
-/
import Derived.Test.YtnicecpmpnhmfabDoorRows
import GoSem.ClaimSeven
namespace Go.Proofs.YtnicecpmpnhmfabDoor
namespace Rows

/-- THE TIED CARD OF 'flyballlaw04.PatternMost'. -/
def patternMostCard : Claim7 := { stood := { row := patternMostRow, standIns := [], harness := (true, "9755799926c3240837cd5953916659887786636434ca2b8626bb90ad9a617403"), looks := false }, kinds := [], alts := [], laidByText := true, laidKinds := [.data], laidTests := true, laidLooks := .later }
def PatternMostCardSaid : Prop := Claim7.holds Tryd.pinned (.plain (OpenSpec.ofChange patternMostSpec)) patternMostCard

/-- THE SECOND FORM's CARD OF 'flyballlaw04.PatternMost'. -/
def patternMostUptoCard : Claim7 := { stood := { row := patternMostUptoRow, standIns := [], harness := (true, "9755799926c3240837cd5953916659887786636434ca2b8626bb90ad9a617403"), looks := false }, kinds := [], alts := [], laidByText := true, laidKinds := [.data], laidTests := true, laidLooks := .later }
def PatternMostUptoCardSaid : Prop := Claim7.holds Tryd.pinned (.plain (OpenSpec.upto patternMostSpec)) patternMostUptoCard
end Rows
end Go.Proofs.YtnicecpmpnhmfabDoor
