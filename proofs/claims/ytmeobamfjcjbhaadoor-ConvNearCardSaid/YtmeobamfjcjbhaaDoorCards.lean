/-
  DERIVED. GIVEN WITH THE SEED: THE CARDS: each row of YtmeobamfjcjbhaaDoorRows.lean that lists a variable, with what it lists TIED to the program's text (the seventh form; the later family's looks); each row that meets fmt, with fmt's text TOLD by the authors' own Lean function (tested against real Go, not proved from fmt's source: count such statements apart). THE CARD IS WHAT COUNTS. Prove the row's statement (the work); the ties are given (YtmeobamfjcjbhaaDoorTie.lean); close each card by the builder's one call (the guide's Derived/Test/ToyasCard.lean, 'card_holds'). Laid BY PROGRAM, IN A SANDBOX (cutbox-door.mjs). By AI agents, Wed Nov 11 2026. No macro, syntax, notation, axiom, sorry.
-/
import Derived.Test.YtmeobamfjcjbhaaDoorRows
import GoSem.ClaimSeven
namespace Go.Proofs.YtmeobamfjcjbhaaDoor
namespace Rows

/-- THE TIED CARD OF 'flyballlaw07.ConvNear'. -/
def convNearCard : Claim7 := { stood := { row := convNearRow, standIns := [], harness := (true, "fe2810be61626c23a772257cdb8a2433d302a823a580f869e790701971f6cf5c"), looks := false }, kinds := [], alts := [], laidByText := true, laidKinds := [.data], laidTests := true, laidLooks := .later }
def ConvNearCardSaid : Prop := Claim7.holds Tryd.pinned (.plain (OpenSpec.ofChange convNearSpec)) convNearCard

/-- THE SECOND FORM's CARD OF 'flyballlaw07.ConvNear'. -/
def convNearUptoCard : Claim7 := { stood := { row := convNearUptoRow, standIns := [], harness := (true, "fe2810be61626c23a772257cdb8a2433d302a823a580f869e790701971f6cf5c"), looks := false }, kinds := [], alts := [], laidByText := true, laidKinds := [.data], laidTests := true, laidLooks := .later }
def ConvNearUptoCardSaid : Prop := Claim7.holds Tryd.pinned (.plain (OpenSpec.upto convNearSpec)) convNearUptoCard
end Rows
end Go.Proofs.YtmeobamfjcjbhaaDoor
