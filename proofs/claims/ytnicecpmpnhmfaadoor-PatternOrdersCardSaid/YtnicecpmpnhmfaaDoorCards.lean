/-
  DERIVED. GIVEN WITH THE SEED: THE CARDS: each row of YtnicecpmpnhmfaaDoorRows.lean that lists a variable, with what it lists TIED to the program's text (the seventh form; the later family's looks); each row that meets fmt, with fmt's text TOLD by the authors' own Lean function (tested against real Go, not proved from fmt's source: count such statements apart). THE CARD IS WHAT COUNTS. Prove the row's statement (the work); the ties are given (YtnicecpmpnhmfaaDoorTie.lean); close each card by the builder's one call (the guide's Derived/Test/ToyasCard.lean, 'card_holds'). Laid BY PROGRAM, IN A SANDBOX (cutbox-door.mjs). By AI agents, Wed Nov 11 2026. No macro, syntax, notation, axiom, sorry.
-/
import Derived.Test.YtnicecpmpnhmfaaDoorRows
import GoSem.ClaimSeven
namespace Go.Proofs.YtnicecpmpnhmfaaDoor
namespace Rows

/-- THE TIED CARD OF 'flyballlaw04.PatternParts'. -/
def patternPartsCard : Claim7 := { stood := { row := patternPartsRow, standIns := [], harness := (true, "0b579b940a80d8b7308fddac6971a10601162265a9cbe17908834a4ccd89a967"), looks := false }, kinds := [], alts := [], laidByText := true, laidKinds := [.data], laidTests := true, laidLooks := .later }
def PatternPartsCardSaid : Prop := Claim7.holds Tryd.pinned (.plain (OpenSpec.ofChange patternPartsSpec)) patternPartsCard

/-- THE TIED CARD OF 'flyballlaw04.PatternValues'. -/
def patternValuesCard : Claim7 := { stood := { row := patternValuesRow, standIns := [], harness := (true, "0b579b940a80d8b7308fddac6971a10601162265a9cbe17908834a4ccd89a967"), looks := false }, kinds := [], alts := [], laidByText := true, laidKinds := [.data], laidTests := true, laidLooks := .later }
def PatternValuesCardSaid : Prop := Claim7.holds Tryd.pinned (.plain (OpenSpec.ofChange patternValuesSpec)) patternValuesCard

/-- THE TIED CARD OF 'flyballlaw04.PatternOrders'. -/
def patternOrdersCard : Claim7 := { stood := { row := patternOrdersRow, standIns := [], harness := (true, "0b579b940a80d8b7308fddac6971a10601162265a9cbe17908834a4ccd89a967"), looks := false }, kinds := [], alts := [], laidByText := true, laidKinds := [.data], laidTests := true, laidLooks := .later }
def PatternOrdersCardSaid : Prop := Claim7.holds Tryd.pinned (.plain (OpenSpec.ofChange patternOrdersSpec)) patternOrdersCard

/-- THE TIED CARD OF 'flyballlaw04.PatternNeighbours'. -/
def patternNeighboursCard : Claim7 := { stood := { row := patternNeighboursRow, standIns := [], harness := (true, "0b579b940a80d8b7308fddac6971a10601162265a9cbe17908834a4ccd89a967"), looks := false }, kinds := [], alts := [], laidByText := true, laidKinds := [.data], laidTests := true, laidLooks := .later }
def PatternNeighboursCardSaid : Prop := Claim7.holds Tryd.pinned (.plain (OpenSpec.ofChange patternNeighboursSpec)) patternNeighboursCard

/-- THE TIED CARD OF 'flyballlaw04.PatternBetween'. -/
def patternBetweenCard : Claim7 := { stood := { row := patternBetweenRow, standIns := [], harness := (true, "0b579b940a80d8b7308fddac6971a10601162265a9cbe17908834a4ccd89a967"), looks := false }, kinds := [], alts := [], laidByText := true, laidKinds := [.data], laidTests := true, laidLooks := .later }
def PatternBetweenCardSaid : Prop := Claim7.holds Tryd.pinned (.plain (OpenSpec.ofChange patternBetweenSpec)) patternBetweenCard

/-- THE TIED CARD OF 'flyballlaw04.PatternSigns'. -/
def patternSignsCard : Claim7 := { stood := { row := patternSignsRow, standIns := [], harness := (true, "0b579b940a80d8b7308fddac6971a10601162265a9cbe17908834a4ccd89a967"), looks := false }, kinds := [], alts := [], laidByText := true, laidKinds := [.data], laidTests := true, laidLooks := .later }
def PatternSignsCardSaid : Prop := Claim7.holds Tryd.pinned (.plain (OpenSpec.ofChange patternSignsSpec)) patternSignsCard

/-- THE SECOND FORM's CARD OF 'flyballlaw04.PatternParts'. -/
def patternPartsUptoCard : Claim7 := { stood := { row := patternPartsUptoRow, standIns := [], harness := (true, "0b579b940a80d8b7308fddac6971a10601162265a9cbe17908834a4ccd89a967"), looks := false }, kinds := [], alts := [], laidByText := true, laidKinds := [.data], laidTests := true, laidLooks := .later }
def PatternPartsUptoCardSaid : Prop := Claim7.holds Tryd.pinned (.plain (OpenSpec.upto patternPartsSpec)) patternPartsUptoCard

/-- THE SECOND FORM's CARD OF 'flyballlaw04.PatternValues'. -/
def patternValuesUptoCard : Claim7 := { stood := { row := patternValuesUptoRow, standIns := [], harness := (true, "0b579b940a80d8b7308fddac6971a10601162265a9cbe17908834a4ccd89a967"), looks := false }, kinds := [], alts := [], laidByText := true, laidKinds := [.data], laidTests := true, laidLooks := .later }
def PatternValuesUptoCardSaid : Prop := Claim7.holds Tryd.pinned (.plain (OpenSpec.upto patternValuesSpec)) patternValuesUptoCard

/-- THE SECOND FORM's CARD OF 'flyballlaw04.PatternOrders'. -/
def patternOrdersUptoCard : Claim7 := { stood := { row := patternOrdersUptoRow, standIns := [], harness := (true, "0b579b940a80d8b7308fddac6971a10601162265a9cbe17908834a4ccd89a967"), looks := false }, kinds := [], alts := [], laidByText := true, laidKinds := [.data], laidTests := true, laidLooks := .later }
def PatternOrdersUptoCardSaid : Prop := Claim7.holds Tryd.pinned (.plain (OpenSpec.upto patternOrdersSpec)) patternOrdersUptoCard

/-- THE SECOND FORM's CARD OF 'flyballlaw04.PatternNeighbours'. -/
def patternNeighboursUptoCard : Claim7 := { stood := { row := patternNeighboursUptoRow, standIns := [], harness := (true, "0b579b940a80d8b7308fddac6971a10601162265a9cbe17908834a4ccd89a967"), looks := false }, kinds := [], alts := [], laidByText := true, laidKinds := [.data], laidTests := true, laidLooks := .later }
def PatternNeighboursUptoCardSaid : Prop := Claim7.holds Tryd.pinned (.plain (OpenSpec.upto patternNeighboursSpec)) patternNeighboursUptoCard

/-- THE SECOND FORM's CARD OF 'flyballlaw04.PatternBetween'. -/
def patternBetweenUptoCard : Claim7 := { stood := { row := patternBetweenUptoRow, standIns := [], harness := (true, "0b579b940a80d8b7308fddac6971a10601162265a9cbe17908834a4ccd89a967"), looks := false }, kinds := [], alts := [], laidByText := true, laidKinds := [.data], laidTests := true, laidLooks := .later }
def PatternBetweenUptoCardSaid : Prop := Claim7.holds Tryd.pinned (.plain (OpenSpec.upto patternBetweenSpec)) patternBetweenUptoCard

/-- THE SECOND FORM's CARD OF 'flyballlaw04.PatternSigns'. -/
def patternSignsUptoCard : Claim7 := { stood := { row := patternSignsUptoRow, standIns := [], harness := (true, "0b579b940a80d8b7308fddac6971a10601162265a9cbe17908834a4ccd89a967"), looks := false }, kinds := [], alts := [], laidByText := true, laidKinds := [.data], laidTests := true, laidLooks := .later }
def PatternSignsUptoCardSaid : Prop := Claim7.holds Tryd.pinned (.plain (OpenSpec.upto patternSignsSpec)) patternSignsUptoCard
end Rows
end Go.Proofs.YtnicecpmpnhmfaaDoor
