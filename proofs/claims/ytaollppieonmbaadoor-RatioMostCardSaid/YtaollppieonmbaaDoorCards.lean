/-
  DERIVED. GIVEN WITH THE SEED: THE CARDS: each row of YtaollppieonmbaaDoorRows.lean that lists a variable, with what it lists TIED to the program's text (the seventh form; the later family's looks); each row that meets fmt, with fmt's text TOLD by the authors' own Lean function (tested against real Go, not proved from fmt's source: count such statements apart). THE CARD IS WHAT COUNTS. Prove the row's statement (the work); the ties are given (YtaollppieonmbaaDoorTie.lean); close each card by the builder's one call (the guide's Derived/Test/ToyasCard.lean, 'card_holds'). Laid BY PROGRAM, IN A SANDBOX (cutbox-door.mjs). By AI agents, Wed Nov 11 2026. No macro, syntax, notation, axiom, sorry.
-/
import Derived.Test.YtaollppieonmbaaDoorRows
import GoSem.ClaimSeven
namespace Go.Proofs.YtaollppieonmbaaDoor
namespace Rows

/-- THE TIED CARD OF 'flyballlaw03.RatioAdds'. -/
def ratioAddsCard : Claim7 := { stood := { row := ratioAddsRow, standIns := [], harness := (true, "eaa57d990e55f0e821174425336e87a80b69a3a2d85d989db54ab90d8e496d8c"), looks := false }, kinds := [], alts := [], laidByText := true, laidKinds := [.data], laidTests := true, laidLooks := .later }
def RatioAddsCardSaid : Prop := Claim7.holds Tryd.pinned (.plain (OpenSpec.ofChange ratioAddsSpec)) ratioAddsCard

/-- THE TIED CARD OF 'flyballlaw03.RatioMuls'. -/
def ratioMulsCard : Claim7 := { stood := { row := ratioMulsRow, standIns := [], harness := (true, "eaa57d990e55f0e821174425336e87a80b69a3a2d85d989db54ab90d8e496d8c"), looks := false }, kinds := [], alts := [], laidByText := true, laidKinds := [.data], laidTests := true, laidLooks := .later }
def RatioMulsCardSaid : Prop := Claim7.holds Tryd.pinned (.plain (OpenSpec.ofChange ratioMulsSpec)) ratioMulsCard

/-- THE TIED CARD OF 'flyballlaw03.RatioOrders'. -/
def ratioOrdersCard : Claim7 := { stood := { row := ratioOrdersRow, standIns := [], harness := (true, "eaa57d990e55f0e821174425336e87a80b69a3a2d85d989db54ab90d8e496d8c"), looks := false }, kinds := [], alts := [], laidByText := true, laidKinds := [.data], laidTests := true, laidLooks := .later }
def RatioOrdersCardSaid : Prop := Claim7.holds Tryd.pinned (.plain (OpenSpec.ofChange ratioOrdersSpec)) ratioOrdersCard

/-- THE TIED CARD OF 'flyballlaw03.RatioMakes'. -/
def ratioMakesCard : Claim7 := { stood := { row := ratioMakesRow, standIns := [], harness := (true, "eaa57d990e55f0e821174425336e87a80b69a3a2d85d989db54ab90d8e496d8c"), looks := false }, kinds := [], alts := [], laidByText := true, laidKinds := [.data], laidTests := true, laidLooks := .later }
def RatioMakesCardSaid : Prop := Claim7.holds Tryd.pinned (.plain (OpenSpec.ofChange ratioMakesSpec)) ratioMakesCard

/-- THE TIED CARD OF 'flyballlaw03.RatioField'. -/
def ratioFieldCard : Claim7 := { stood := { row := ratioFieldRow, standIns := [], harness := (true, "eaa57d990e55f0e821174425336e87a80b69a3a2d85d989db54ab90d8e496d8c"), looks := false }, kinds := [], alts := [], laidByText := true, laidKinds := [.data], laidTests := true, laidLooks := .later }
def RatioFieldCardSaid : Prop := Claim7.holds Tryd.pinned (.plain (OpenSpec.ofChange ratioFieldSpec)) ratioFieldCard

/-- THE TIED CARD OF 'flyballlaw03.RatioMost'. -/
def ratioMostCard : Claim7 := { stood := { row := ratioMostRow, standIns := [], harness := (true, "eaa57d990e55f0e821174425336e87a80b69a3a2d85d989db54ab90d8e496d8c"), looks := false }, kinds := [], alts := [], laidByText := true, laidKinds := [.data], laidTests := true, laidLooks := .later }
def RatioMostCardSaid : Prop := Claim7.holds Tryd.pinned (.plain (OpenSpec.ofChange ratioMostSpec)) ratioMostCard

/-- THE SECOND FORM's CARD OF 'flyballlaw03.RatioAdds'. -/
def ratioAddsUptoCard : Claim7 := { stood := { row := ratioAddsUptoRow, standIns := [], harness := (true, "eaa57d990e55f0e821174425336e87a80b69a3a2d85d989db54ab90d8e496d8c"), looks := false }, kinds := [], alts := [], laidByText := true, laidKinds := [.data], laidTests := true, laidLooks := .later }
def RatioAddsUptoCardSaid : Prop := Claim7.holds Tryd.pinned (.plain (OpenSpec.upto ratioAddsSpec)) ratioAddsUptoCard

/-- THE SECOND FORM's CARD OF 'flyballlaw03.RatioMuls'. -/
def ratioMulsUptoCard : Claim7 := { stood := { row := ratioMulsUptoRow, standIns := [], harness := (true, "eaa57d990e55f0e821174425336e87a80b69a3a2d85d989db54ab90d8e496d8c"), looks := false }, kinds := [], alts := [], laidByText := true, laidKinds := [.data], laidTests := true, laidLooks := .later }
def RatioMulsUptoCardSaid : Prop := Claim7.holds Tryd.pinned (.plain (OpenSpec.upto ratioMulsSpec)) ratioMulsUptoCard

/-- THE SECOND FORM's CARD OF 'flyballlaw03.RatioOrders'. -/
def ratioOrdersUptoCard : Claim7 := { stood := { row := ratioOrdersUptoRow, standIns := [], harness := (true, "eaa57d990e55f0e821174425336e87a80b69a3a2d85d989db54ab90d8e496d8c"), looks := false }, kinds := [], alts := [], laidByText := true, laidKinds := [.data], laidTests := true, laidLooks := .later }
def RatioOrdersUptoCardSaid : Prop := Claim7.holds Tryd.pinned (.plain (OpenSpec.upto ratioOrdersSpec)) ratioOrdersUptoCard

/-- THE SECOND FORM's CARD OF 'flyballlaw03.RatioMakes'. -/
def ratioMakesUptoCard : Claim7 := { stood := { row := ratioMakesUptoRow, standIns := [], harness := (true, "eaa57d990e55f0e821174425336e87a80b69a3a2d85d989db54ab90d8e496d8c"), looks := false }, kinds := [], alts := [], laidByText := true, laidKinds := [.data], laidTests := true, laidLooks := .later }
def RatioMakesUptoCardSaid : Prop := Claim7.holds Tryd.pinned (.plain (OpenSpec.upto ratioMakesSpec)) ratioMakesUptoCard

/-- THE SECOND FORM's CARD OF 'flyballlaw03.RatioField'. -/
def ratioFieldUptoCard : Claim7 := { stood := { row := ratioFieldUptoRow, standIns := [], harness := (true, "eaa57d990e55f0e821174425336e87a80b69a3a2d85d989db54ab90d8e496d8c"), looks := false }, kinds := [], alts := [], laidByText := true, laidKinds := [.data], laidTests := true, laidLooks := .later }
def RatioFieldUptoCardSaid : Prop := Claim7.holds Tryd.pinned (.plain (OpenSpec.upto ratioFieldSpec)) ratioFieldUptoCard

/-- THE SECOND FORM's CARD OF 'flyballlaw03.RatioMost'. -/
def ratioMostUptoCard : Claim7 := { stood := { row := ratioMostUptoRow, standIns := [], harness := (true, "eaa57d990e55f0e821174425336e87a80b69a3a2d85d989db54ab90d8e496d8c"), looks := false }, kinds := [], alts := [], laidByText := true, laidKinds := [.data], laidTests := true, laidLooks := .later }
def RatioMostUptoCardSaid : Prop := Claim7.holds Tryd.pinned (.plain (OpenSpec.upto ratioMostSpec)) ratioMostUptoCard
end Rows
end Go.Proofs.YtaollppieonmbaaDoor
