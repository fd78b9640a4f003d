/-
  DERIVED. GIVEN WITH THE SEED: THE CARDS: each row of YtokifmeelgbkiaaDoorRows.lean that lists a variable, with what it lists TIED to the program's text (the seventh form; the later family's looks); each row that meets fmt, with fmt's text TOLD by the authors' own Lean function (tested against real Go, not proved from fmt's source: count such statements apart). THE CARD IS WHAT COUNTS. Prove the row's statement (the work); the ties are given (YtokifmeelgbkiaaDoorTie.lean); close each card by the builder's one call (the guide's Derived/Test/ToyasCard.lean, 'card_holds'). Laid BY PROGRAM, IN A SANDBOX (cutbox-door.mjs). By AI agents, Wed Nov 11 2026. No macro, syntax, notation, axiom, sorry.
-/
import Derived.Test.YtokifmeelgbkiaaDoorRows
import GoSem.ClaimSeven
namespace Go.Proofs.YtokifmeelgbkiaaDoor
namespace Rows

/-- THE TIED CARD OF 'scorebooklaw32.FlightRaises'. -/
def flightRaisesCard : Claim7 := { stood := { row := flightRaisesRow, standIns := [], harness := (true, "8b4ab918a7389fed1d8c5c4331ea826f31a2eefe7ada8380b6c0c5aa52c37b86"), looks := false }, kinds := [], alts := [], laidByText := true, laidKinds := [.data, .data], laidTests := true, laidLooks := .later }
def FlightRaisesCardSaid : Prop := Claim7.holds Tryd.pinned (.plain (OpenSpec.ofChange flightRaisesSpec)) flightRaisesCard

/-- THE TIED CARD OF 'scorebooklaw32.FlightFits'. -/
def flightFitsCard : Claim7 := { stood := { row := flightFitsRow, standIns := [], harness := (true, "8b4ab918a7389fed1d8c5c4331ea826f31a2eefe7ada8380b6c0c5aa52c37b86"), looks := false }, kinds := [], alts := [], laidByText := true, laidKinds := [.data, .data], laidTests := true, laidLooks := .later }
def FlightFitsCardSaid : Prop := Claim7.holds Tryd.pinned (.plain (OpenSpec.ofChange flightFitsSpec)) flightFitsCard

/-- THE TIED CARD OF 'scorebooklaw32.FlightBest'. -/
def flightBestCard : Claim7 := { stood := { row := flightBestRow, standIns := [], harness := (true, "8b4ab918a7389fed1d8c5c4331ea826f31a2eefe7ada8380b6c0c5aa52c37b86"), looks := false }, kinds := [], alts := [], laidByText := true, laidKinds := [.data, .data], laidTests := true, laidLooks := .later }
def FlightBestCardSaid : Prop := Claim7.holds Tryd.pinned (.plain (OpenSpec.ofChange flightBestSpec)) flightBestCard

/-- THE TIED CARD OF 'scorebooklaw32.FlightPlaces'. -/
def flightPlacesCard : Claim7 := { stood := { row := flightPlacesRow, standIns := [], harness := (true, "8b4ab918a7389fed1d8c5c4331ea826f31a2eefe7ada8380b6c0c5aa52c37b86"), looks := false }, kinds := [], alts := [], laidByText := true, laidKinds := [.data, .data], laidTests := true, laidLooks := .later }
def FlightPlacesCardSaid : Prop := Claim7.holds Tryd.pinned (.plain (OpenSpec.ofChange flightPlacesSpec)) flightPlacesCard

/-- THE TIED CARD OF 'scorebooklaw32.FlightDraws'. -/
def flightDrawsCard : Claim7 := { stood := { row := flightDrawsRow, standIns := [], harness := (true, "8b4ab918a7389fed1d8c5c4331ea826f31a2eefe7ada8380b6c0c5aa52c37b86"), looks := false }, kinds := [], alts := [], laidByText := true, laidKinds := [.data, .data], laidTests := true, laidLooks := .later }
def FlightDrawsCardSaid : Prop := Claim7.holds Tryd.pinned (.plain (OpenSpec.ofChange flightDrawsSpec)) flightDrawsCard

/-- THE TIED CARD OF 'scorebooklaw32.FlightDrawn'. -/
def flightDrawnCard : Claim7 := { stood := { row := flightDrawnRow, standIns := [], harness := (true, "8b4ab918a7389fed1d8c5c4331ea826f31a2eefe7ada8380b6c0c5aa52c37b86"), looks := false }, kinds := [], alts := [], laidByText := true, laidKinds := [.data, .data], laidTests := true, laidLooks := .later }
def FlightDrawnCardSaid : Prop := Claim7.holds Tryd.pinned (.plain (OpenSpec.ofChange flightDrawnSpec)) flightDrawnCard

/-- THE TIED CARD OF 'scorebooklaw32.FlightMirrors'. -/
def flightMirrorsCard : Claim7 := { stood := { row := flightMirrorsRow, standIns := [], harness := (true, "8b4ab918a7389fed1d8c5c4331ea826f31a2eefe7ada8380b6c0c5aa52c37b86"), looks := false }, kinds := [], alts := [], laidByText := true, laidKinds := [.data, .data], laidTests := true, laidLooks := .later }
def FlightMirrorsCardSaid : Prop := Claim7.holds Tryd.pinned (.plain (OpenSpec.ofChange flightMirrorsSpec)) flightMirrorsCard

/-- THE SECOND FORM's CARD OF 'scorebooklaw32.FlightRaises'. -/
def flightRaisesUptoCard : Claim7 := { stood := { row := flightRaisesUptoRow, standIns := [], harness := (true, "8b4ab918a7389fed1d8c5c4331ea826f31a2eefe7ada8380b6c0c5aa52c37b86"), looks := false }, kinds := [], alts := [], laidByText := true, laidKinds := [.data, .data], laidTests := true, laidLooks := .later }
def FlightRaisesUptoCardSaid : Prop := Claim7.holds Tryd.pinned (.plain (OpenSpec.upto flightRaisesSpec)) flightRaisesUptoCard

/-- THE SECOND FORM's CARD OF 'scorebooklaw32.FlightFits'. -/
def flightFitsUptoCard : Claim7 := { stood := { row := flightFitsUptoRow, standIns := [], harness := (true, "8b4ab918a7389fed1d8c5c4331ea826f31a2eefe7ada8380b6c0c5aa52c37b86"), looks := false }, kinds := [], alts := [], laidByText := true, laidKinds := [.data, .data], laidTests := true, laidLooks := .later }
def FlightFitsUptoCardSaid : Prop := Claim7.holds Tryd.pinned (.plain (OpenSpec.upto flightFitsSpec)) flightFitsUptoCard

/-- THE SECOND FORM's CARD OF 'scorebooklaw32.FlightBest'. -/
def flightBestUptoCard : Claim7 := { stood := { row := flightBestUptoRow, standIns := [], harness := (true, "8b4ab918a7389fed1d8c5c4331ea826f31a2eefe7ada8380b6c0c5aa52c37b86"), looks := false }, kinds := [], alts := [], laidByText := true, laidKinds := [.data, .data], laidTests := true, laidLooks := .later }
def FlightBestUptoCardSaid : Prop := Claim7.holds Tryd.pinned (.plain (OpenSpec.upto flightBestSpec)) flightBestUptoCard

/-- THE SECOND FORM's CARD OF 'scorebooklaw32.FlightPlaces'. -/
def flightPlacesUptoCard : Claim7 := { stood := { row := flightPlacesUptoRow, standIns := [], harness := (true, "8b4ab918a7389fed1d8c5c4331ea826f31a2eefe7ada8380b6c0c5aa52c37b86"), looks := false }, kinds := [], alts := [], laidByText := true, laidKinds := [.data, .data], laidTests := true, laidLooks := .later }
def FlightPlacesUptoCardSaid : Prop := Claim7.holds Tryd.pinned (.plain (OpenSpec.upto flightPlacesSpec)) flightPlacesUptoCard

/-- THE SECOND FORM's CARD OF 'scorebooklaw32.FlightDraws'. -/
def flightDrawsUptoCard : Claim7 := { stood := { row := flightDrawsUptoRow, standIns := [], harness := (true, "8b4ab918a7389fed1d8c5c4331ea826f31a2eefe7ada8380b6c0c5aa52c37b86"), looks := false }, kinds := [], alts := [], laidByText := true, laidKinds := [.data, .data], laidTests := true, laidLooks := .later }
def FlightDrawsUptoCardSaid : Prop := Claim7.holds Tryd.pinned (.plain (OpenSpec.upto flightDrawsSpec)) flightDrawsUptoCard

/-- THE SECOND FORM's CARD OF 'scorebooklaw32.FlightDrawn'. -/
def flightDrawnUptoCard : Claim7 := { stood := { row := flightDrawnUptoRow, standIns := [], harness := (true, "8b4ab918a7389fed1d8c5c4331ea826f31a2eefe7ada8380b6c0c5aa52c37b86"), looks := false }, kinds := [], alts := [], laidByText := true, laidKinds := [.data, .data], laidTests := true, laidLooks := .later }
def FlightDrawnUptoCardSaid : Prop := Claim7.holds Tryd.pinned (.plain (OpenSpec.upto flightDrawnSpec)) flightDrawnUptoCard

/-- THE SECOND FORM's CARD OF 'scorebooklaw32.FlightMirrors'. -/
def flightMirrorsUptoCard : Claim7 := { stood := { row := flightMirrorsUptoRow, standIns := [], harness := (true, "8b4ab918a7389fed1d8c5c4331ea826f31a2eefe7ada8380b6c0c5aa52c37b86"), looks := false }, kinds := [], alts := [], laidByText := true, laidKinds := [.data, .data], laidTests := true, laidLooks := .later }
def FlightMirrorsUptoCardSaid : Prop := Claim7.holds Tryd.pinned (.plain (OpenSpec.upto flightMirrorsSpec)) flightMirrorsUptoCard
end Rows
end Go.Proofs.YtokifmeelgbkiaaDoor
