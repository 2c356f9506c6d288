/-
  DERIVED. GIVEN WITH THE SEED: THE CARDS: each row of YthofjlgngandoaaGreatDoorRows.lean that lists a variable, with what it lists TIED to the program's text (the seventh form; the later family's looks); each row that meets fmt, with fmt's text TOLD by the authors' own Lean function (tested against real Go, not proved from fmt's source: count such statements apart). THE CARD IS WHAT COUNTS. Prove the row's statement (the work); the ties are given (YthofjlgngandoaaGreatDoorTie.lean); close each card by the builder's one call (the guide's Derived/Test/ToyasCard.lean, 'card_holds'). Laid BY PROGRAM, IN A SANDBOX (cutbox-door.mjs). By AI agents, Wed Nov 11 2026. No macro, syntax, notation, axiom, sorry.
-/
import Derived.Test.YthofjlgngandoaaGreatDoorRows
import GoSem.ClaimSeven
namespace Go.Proofs.YthofjlgngandoaaGreatDoor
namespace Rows

/-- THE TIED CARD OF 'flyballlaw08.DeciExact'. -/
def deciExactCard : Claim7 := { stood := { row := deciExactRow, standIns := [], harness := (true, "cbd9e2d8cf5dda397e775c8b0206bf58f605bb6046707b3a90d211ee44a9aedb"), looks := false }, kinds := [], alts := [], laidByText := true, laidKinds := [.data, .data, .data, .data, .pinned], laidTests := true, laidLooks := .later }
def DeciExactCardSaid : Prop := Claim7.holds Tryz.pinned (.plain (OpenSpec.ofChange deciExactSpec)) deciExactCard

/-- THE TIED CARD OF 'flyballlaw08.DeciPrints'. -/
def deciPrintsCard : Claim7 := { stood := { row := deciPrintsRow, standIns := [], harness := (true, "cbd9e2d8cf5dda397e775c8b0206bf58f605bb6046707b3a90d211ee44a9aedb"), looks := false }, kinds := [], alts := [], laidByText := true, laidKinds := [.data, .data, .data, .data, .pinned], laidTests := true, laidLooks := .later }
def DeciPrintsCardSaid : Prop := Claim7.holds Tryz.pinned (.plain (OpenSpec.ofChange deciPrintsSpec)) deciPrintsCard

/-- THE TIED CARD OF 'flyballlaw08.DeciBack'. -/
def deciBackCard : Claim7 := { stood := { row := deciBackRow, standIns := [], harness := (true, "cbd9e2d8cf5dda397e775c8b0206bf58f605bb6046707b3a90d211ee44a9aedb"), looks := false }, kinds := [], alts := [], laidByText := true, laidKinds := [.data, .data, .data, .data, .pinned], laidTests := true, laidLooks := .later }
def DeciBackCardSaid : Prop := Claim7.holds Tryz.pinned (.plain (OpenSpec.ofChange deciBackSpec)) deciBackCard

/-- THE SECOND FORM's CARD OF 'flyballlaw08.DeciExact'. -/
def deciExactUptoCard : Claim7 := { stood := { row := deciExactUptoRow, standIns := [], harness := (true, "cbd9e2d8cf5dda397e775c8b0206bf58f605bb6046707b3a90d211ee44a9aedb"), looks := false }, kinds := [], alts := [], laidByText := true, laidKinds := [.data, .data, .data, .data, .pinned], laidTests := true, laidLooks := .later }
def DeciExactUptoCardSaid : Prop := Claim7.holds Tryz.pinned (.plain (OpenSpec.upto deciExactSpec)) deciExactUptoCard

/-- THE SECOND FORM's CARD OF 'flyballlaw08.DeciPrints'. -/
def deciPrintsUptoCard : Claim7 := { stood := { row := deciPrintsUptoRow, standIns := [], harness := (true, "cbd9e2d8cf5dda397e775c8b0206bf58f605bb6046707b3a90d211ee44a9aedb"), looks := false }, kinds := [], alts := [], laidByText := true, laidKinds := [.data, .data, .data, .data, .pinned], laidTests := true, laidLooks := .later }
def DeciPrintsUptoCardSaid : Prop := Claim7.holds Tryz.pinned (.plain (OpenSpec.upto deciPrintsSpec)) deciPrintsUptoCard

/-- THE SECOND FORM's CARD OF 'flyballlaw08.DeciBack'. -/
def deciBackUptoCard : Claim7 := { stood := { row := deciBackUptoRow, standIns := [], harness := (true, "cbd9e2d8cf5dda397e775c8b0206bf58f605bb6046707b3a90d211ee44a9aedb"), looks := false }, kinds := [], alts := [], laidByText := true, laidKinds := [.data, .data, .data, .data, .pinned], laidTests := true, laidLooks := .later }
def DeciBackUptoCardSaid : Prop := Claim7.holds Tryz.pinned (.plain (OpenSpec.upto deciBackSpec)) deciBackUptoCard
end Rows
end Go.Proofs.YthofjlgngandoaaGreatDoor
