/-
  DERIVED. GIVEN WITH THE SEED: THE CARDS: each row of YtdjhpplcdkgfgaaDoorRows.lean that lists a variable, with what it lists TIED to the program's text (the seventh form; the later family's looks); each row that meets fmt, with fmt's text TOLD by the authors' own Lean function (tested against real Go, not proved from fmt's source: count such statements apart). THE CARD IS WHAT COUNTS. Prove the row's statement (the work); the ties are given (YtdjhpplcdkgfgaaDoorTie.lean); close each card by the builder's one call (the guide's Derived/Test/ToyasCard.lean, 'card_holds'). Laid BY PROGRAM, IN A SANDBOX (cutbox-door.mjs). By AI agents, Wed Nov 11 2026. No macro, syntax, notation, axiom, sorry.
-/
import Derived.Test.YtdjhpplcdkgfgaaDoorRows
import GoSem.ClaimSeven
namespace Go.Proofs.YtdjhpplcdkgfgaaDoor
namespace Rows

/-- THE TIED CARD OF 'flyballlaw05.RoundRounds'. -/
def roundRoundsCard : Claim7 := { stood := { row := roundRoundsRow, standIns := [], harness := (true, "499bb272fd6d7b524ff16b858b65e646172c7c65f12f90b20b6089b35f43421d"), looks := false }, kinds := [], alts := [], laidByText := true, laidKinds := [.data], laidTests := true, laidLooks := .later }
def RoundRoundsCardSaid : Prop := Claim7.holds Tryd.pinned (.plain (OpenSpec.ofChange roundRoundsSpec)) roundRoundsCard

/-- THE TIED CARD OF 'flyballlaw05.RoundExacts'. -/
def roundExactsCard : Claim7 := { stood := { row := roundExactsRow, standIns := [], harness := (true, "499bb272fd6d7b524ff16b858b65e646172c7c65f12f90b20b6089b35f43421d"), looks := false }, kinds := [], alts := [], laidByText := true, laidKinds := [.data], laidTests := true, laidLooks := .later }
def RoundExactsCardSaid : Prop := Claim7.holds Tryd.pinned (.plain (OpenSpec.ofChange roundExactsSpec)) roundExactsCard

/-- THE TIED CARD OF 'flyballlaw05.RoundHolds'. -/
def roundHoldsCard : Claim7 := { stood := { row := roundHoldsRow, standIns := [], harness := (true, "499bb272fd6d7b524ff16b858b65e646172c7c65f12f90b20b6089b35f43421d"), looks := false }, kinds := [], alts := [], laidByText := true, laidKinds := [.data], laidTests := true, laidLooks := .later }
def RoundHoldsCardSaid : Prop := Claim7.holds Tryd.pinned (.plain (OpenSpec.ofChange roundHoldsSpec)) roundHoldsCard

/-- THE TIED CARD OF 'flyballlaw05.RoundStays'. -/
def roundStaysCard : Claim7 := { stood := { row := roundStaysRow, standIns := [], harness := (true, "499bb272fd6d7b524ff16b858b65e646172c7c65f12f90b20b6089b35f43421d"), looks := false }, kinds := [], alts := [], laidByText := true, laidKinds := [.data], laidTests := true, laidLooks := .later }
def RoundStaysCardSaid : Prop := Claim7.holds Tryd.pinned (.plain (OpenSpec.ofChange roundStaysSpec)) roundStaysCard

/-- THE TIED CARD OF 'flyballlaw05.RoundRises'. -/
def roundRisesCard : Claim7 := { stood := { row := roundRisesRow, standIns := [], harness := (true, "499bb272fd6d7b524ff16b858b65e646172c7c65f12f90b20b6089b35f43421d"), looks := false }, kinds := [], alts := [], laidByText := true, laidKinds := [.data], laidTests := true, laidLooks := .later }
def RoundRisesCardSaid : Prop := Claim7.holds Tryd.pinned (.plain (OpenSpec.ofChange roundRisesSpec)) roundRisesCard

/-- THE TIED CARD OF 'flyballlaw05.RoundUlps'. -/
def roundUlpsCard : Claim7 := { stood := { row := roundUlpsRow, standIns := [], harness := (true, "499bb272fd6d7b524ff16b858b65e646172c7c65f12f90b20b6089b35f43421d"), looks := false }, kinds := [], alts := [], laidByText := true, laidKinds := [.data], laidTests := true, laidLooks := .later }
def RoundUlpsCardSaid : Prop := Claim7.holds Tryd.pinned (.plain (OpenSpec.ofChange roundUlpsSpec)) roundUlpsCard

/-- THE SECOND FORM's CARD OF 'flyballlaw05.RoundRounds'. -/
def roundRoundsUptoCard : Claim7 := { stood := { row := roundRoundsUptoRow, standIns := [], harness := (true, "499bb272fd6d7b524ff16b858b65e646172c7c65f12f90b20b6089b35f43421d"), looks := false }, kinds := [], alts := [], laidByText := true, laidKinds := [.data], laidTests := true, laidLooks := .later }
def RoundRoundsUptoCardSaid : Prop := Claim7.holds Tryd.pinned (.plain (OpenSpec.upto roundRoundsSpec)) roundRoundsUptoCard

/-- THE SECOND FORM's CARD OF 'flyballlaw05.RoundExacts'. -/
def roundExactsUptoCard : Claim7 := { stood := { row := roundExactsUptoRow, standIns := [], harness := (true, "499bb272fd6d7b524ff16b858b65e646172c7c65f12f90b20b6089b35f43421d"), looks := false }, kinds := [], alts := [], laidByText := true, laidKinds := [.data], laidTests := true, laidLooks := .later }
def RoundExactsUptoCardSaid : Prop := Claim7.holds Tryd.pinned (.plain (OpenSpec.upto roundExactsSpec)) roundExactsUptoCard

/-- THE SECOND FORM's CARD OF 'flyballlaw05.RoundHolds'. -/
def roundHoldsUptoCard : Claim7 := { stood := { row := roundHoldsUptoRow, standIns := [], harness := (true, "499bb272fd6d7b524ff16b858b65e646172c7c65f12f90b20b6089b35f43421d"), looks := false }, kinds := [], alts := [], laidByText := true, laidKinds := [.data], laidTests := true, laidLooks := .later }
def RoundHoldsUptoCardSaid : Prop := Claim7.holds Tryd.pinned (.plain (OpenSpec.upto roundHoldsSpec)) roundHoldsUptoCard

/-- THE SECOND FORM's CARD OF 'flyballlaw05.RoundStays'. -/
def roundStaysUptoCard : Claim7 := { stood := { row := roundStaysUptoRow, standIns := [], harness := (true, "499bb272fd6d7b524ff16b858b65e646172c7c65f12f90b20b6089b35f43421d"), looks := false }, kinds := [], alts := [], laidByText := true, laidKinds := [.data], laidTests := true, laidLooks := .later }
def RoundStaysUptoCardSaid : Prop := Claim7.holds Tryd.pinned (.plain (OpenSpec.upto roundStaysSpec)) roundStaysUptoCard

/-- THE SECOND FORM's CARD OF 'flyballlaw05.RoundRises'. -/
def roundRisesUptoCard : Claim7 := { stood := { row := roundRisesUptoRow, standIns := [], harness := (true, "499bb272fd6d7b524ff16b858b65e646172c7c65f12f90b20b6089b35f43421d"), looks := false }, kinds := [], alts := [], laidByText := true, laidKinds := [.data], laidTests := true, laidLooks := .later }
def RoundRisesUptoCardSaid : Prop := Claim7.holds Tryd.pinned (.plain (OpenSpec.upto roundRisesSpec)) roundRisesUptoCard

/-- THE SECOND FORM's CARD OF 'flyballlaw05.RoundUlps'. -/
def roundUlpsUptoCard : Claim7 := { stood := { row := roundUlpsUptoRow, standIns := [], harness := (true, "499bb272fd6d7b524ff16b858b65e646172c7c65f12f90b20b6089b35f43421d"), looks := false }, kinds := [], alts := [], laidByText := true, laidKinds := [.data], laidTests := true, laidLooks := .later }
def RoundUlpsUptoCardSaid : Prop := Claim7.holds Tryd.pinned (.plain (OpenSpec.upto roundUlpsSpec)) roundUlpsUptoCard
end Rows
end Go.Proofs.YtdjhpplcdkgfgaaDoor
