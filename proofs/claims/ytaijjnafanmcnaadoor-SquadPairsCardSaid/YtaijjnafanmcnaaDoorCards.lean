/-
  DERIVED. GIVEN WITH THE SEED: THE CARDS: each row of YtaijjnafanmcnaaDoorRows.lean that lists a variable, with what it lists TIED to the program's text (the seventh form; the later family's looks); each row that meets fmt, with fmt's text TOLD by the authors' own Lean function (tested against real Go, not proved from fmt's source: count such statements apart). THE CARD IS WHAT COUNTS. Prove the row's statement (the work); the ties are given (YtaijjnafanmcnaaDoorTie.lean); close each card by the builder's one call (the guide's Derived/Test/ToyasCard.lean, 'card_holds'). Laid BY PROGRAM, IN A SANDBOX (cutbox-door.mjs). By AI agents, Wed Nov 11 2026. No macro, syntax, notation, axiom, sorry.
-/
import Derived.Test.YtaijjnafanmcnaaDoorRows
import GoSem.ClaimSeven
namespace Go.Proofs.YtaijjnafanmcnaaDoor
namespace Rows

/-- THE TIED CARD OF 'scorebooklaw06.SquadChecks'. -/
def squadChecksCard : Claim7 := { stood := { row := squadChecksRow, standIns := [], harness := (true, "b5c7da6ba3cf2ed4adc269429c20965dbf8096e4be2daae3601f64a6d11622bb"), looks := false }, kinds := [], alts := [], laidByText := true, laidKinds := [.data, .pinned], laidTests := true, laidLooks := .later }
def SquadChecksCardSaid : Prop := Claim7.holds Tryd.pinned (.plain (OpenSpec.ofChange squadChecksSpec)) squadChecksCard

/-- THE TIED CARD OF 'scorebooklaw06.SquadPairs'. -/
def squadPairsCard : Claim7 := { stood := { row := squadPairsRow, standIns := [], harness := (true, "b5c7da6ba3cf2ed4adc269429c20965dbf8096e4be2daae3601f64a6d11622bb"), looks := false }, kinds := [], alts := [], laidByText := true, laidKinds := [.data, .pinned], laidTests := true, laidLooks := .later }
def SquadPairsCardSaid : Prop := Claim7.holds Tryd.pinned (.plain (OpenSpec.ofChange squadPairsSpec)) squadPairsCard

/-- THE TIED CARD OF 'scorebooklaw06.SquadTexts'. -/
def squadTextsCard : Claim7 := { stood := { row := squadTextsRow, standIns := [], harness := (true, "b5c7da6ba3cf2ed4adc269429c20965dbf8096e4be2daae3601f64a6d11622bb"), looks := false }, kinds := [], alts := [], laidByText := true, laidKinds := [.data, .pinned], laidTests := true, laidLooks := .later }
def SquadTextsCardSaid : Prop := Claim7.holds Tryd.pinned (.plain (OpenSpec.ofChange squadTextsSpec)) squadTextsCard

/-- THE TIED CARD OF 'scorebooklaw06.SquadParses'. -/
def squadParsesCard : Claim7 := { stood := { row := squadParsesRow, standIns := [], harness := (true, "b5c7da6ba3cf2ed4adc269429c20965dbf8096e4be2daae3601f64a6d11622bb"), looks := false }, kinds := [], alts := [], laidByText := true, laidKinds := [.data, .pinned], laidTests := true, laidLooks := .later }
def SquadParsesCardSaid : Prop := Claim7.holds Tryd.pinned (.plain (OpenSpec.ofChange squadParsesSpec)) squadParsesCard

/-- THE TIED CARD OF 'scorebooklaw06.SquadBack'. -/
def squadBackCard : Claim7 := { stood := { row := squadBackRow, standIns := [], harness := (true, "b5c7da6ba3cf2ed4adc269429c20965dbf8096e4be2daae3601f64a6d11622bb"), looks := false }, kinds := [], alts := [], laidByText := true, laidKinds := [.data, .pinned], laidTests := true, laidLooks := .later }
def SquadBackCardSaid : Prop := Claim7.holds Tryd.pinned (.plain (OpenSpec.ofChange squadBackSpec)) squadBackCard

/-- THE TIED CARD OF 'scorebooklaw06.SquadAgain'. -/
def squadAgainCard : Claim7 := { stood := { row := squadAgainRow, standIns := [], harness := (true, "b5c7da6ba3cf2ed4adc269429c20965dbf8096e4be2daae3601f64a6d11622bb"), looks := false }, kinds := [], alts := [], laidByText := true, laidKinds := [.data, .pinned], laidTests := true, laidLooks := .later }
def SquadAgainCardSaid : Prop := Claim7.holds Tryd.pinned (.plain (OpenSpec.ofChange squadAgainSpec)) squadAgainCard

/-- THE TIED CARD OF 'scorebooklaw06.SquadFinds'. -/
def squadFindsCard : Claim7 := { stood := { row := squadFindsRow, standIns := [], harness := (true, "b5c7da6ba3cf2ed4adc269429c20965dbf8096e4be2daae3601f64a6d11622bb"), looks := false }, kinds := [], alts := [], laidByText := true, laidKinds := [.data, .pinned], laidTests := true, laidLooks := .later }
def SquadFindsCardSaid : Prop := Claim7.holds Tryd.pinned (.plain (OpenSpec.ofChange squadFindsSpec)) squadFindsCard

/-- THE SECOND FORM's CARD OF 'scorebooklaw06.SquadChecks'. -/
def squadChecksUptoCard : Claim7 := { stood := { row := squadChecksUptoRow, standIns := [], harness := (true, "b5c7da6ba3cf2ed4adc269429c20965dbf8096e4be2daae3601f64a6d11622bb"), looks := false }, kinds := [], alts := [], laidByText := true, laidKinds := [.data, .pinned], laidTests := true, laidLooks := .later }
def SquadChecksUptoCardSaid : Prop := Claim7.holds Tryd.pinned (.plain (OpenSpec.upto squadChecksSpec)) squadChecksUptoCard

/-- THE SECOND FORM's CARD OF 'scorebooklaw06.SquadPairs'. -/
def squadPairsUptoCard : Claim7 := { stood := { row := squadPairsUptoRow, standIns := [], harness := (true, "b5c7da6ba3cf2ed4adc269429c20965dbf8096e4be2daae3601f64a6d11622bb"), looks := false }, kinds := [], alts := [], laidByText := true, laidKinds := [.data, .pinned], laidTests := true, laidLooks := .later }
def SquadPairsUptoCardSaid : Prop := Claim7.holds Tryd.pinned (.plain (OpenSpec.upto squadPairsSpec)) squadPairsUptoCard

/-- THE SECOND FORM's CARD OF 'scorebooklaw06.SquadTexts'. -/
def squadTextsUptoCard : Claim7 := { stood := { row := squadTextsUptoRow, standIns := [], harness := (true, "b5c7da6ba3cf2ed4adc269429c20965dbf8096e4be2daae3601f64a6d11622bb"), looks := false }, kinds := [], alts := [], laidByText := true, laidKinds := [.data, .pinned], laidTests := true, laidLooks := .later }
def SquadTextsUptoCardSaid : Prop := Claim7.holds Tryd.pinned (.plain (OpenSpec.upto squadTextsSpec)) squadTextsUptoCard

/-- THE SECOND FORM's CARD OF 'scorebooklaw06.SquadParses'. -/
def squadParsesUptoCard : Claim7 := { stood := { row := squadParsesUptoRow, standIns := [], harness := (true, "b5c7da6ba3cf2ed4adc269429c20965dbf8096e4be2daae3601f64a6d11622bb"), looks := false }, kinds := [], alts := [], laidByText := true, laidKinds := [.data, .pinned], laidTests := true, laidLooks := .later }
def SquadParsesUptoCardSaid : Prop := Claim7.holds Tryd.pinned (.plain (OpenSpec.upto squadParsesSpec)) squadParsesUptoCard

/-- THE SECOND FORM's CARD OF 'scorebooklaw06.SquadBack'. -/
def squadBackUptoCard : Claim7 := { stood := { row := squadBackUptoRow, standIns := [], harness := (true, "b5c7da6ba3cf2ed4adc269429c20965dbf8096e4be2daae3601f64a6d11622bb"), looks := false }, kinds := [], alts := [], laidByText := true, laidKinds := [.data, .pinned], laidTests := true, laidLooks := .later }
def SquadBackUptoCardSaid : Prop := Claim7.holds Tryd.pinned (.plain (OpenSpec.upto squadBackSpec)) squadBackUptoCard

/-- THE SECOND FORM's CARD OF 'scorebooklaw06.SquadAgain'. -/
def squadAgainUptoCard : Claim7 := { stood := { row := squadAgainUptoRow, standIns := [], harness := (true, "b5c7da6ba3cf2ed4adc269429c20965dbf8096e4be2daae3601f64a6d11622bb"), looks := false }, kinds := [], alts := [], laidByText := true, laidKinds := [.data, .pinned], laidTests := true, laidLooks := .later }
def SquadAgainUptoCardSaid : Prop := Claim7.holds Tryd.pinned (.plain (OpenSpec.upto squadAgainSpec)) squadAgainUptoCard

/-- THE SECOND FORM's CARD OF 'scorebooklaw06.SquadFinds'. -/
def squadFindsUptoCard : Claim7 := { stood := { row := squadFindsUptoRow, standIns := [], harness := (true, "b5c7da6ba3cf2ed4adc269429c20965dbf8096e4be2daae3601f64a6d11622bb"), looks := false }, kinds := [], alts := [], laidByText := true, laidKinds := [.data, .pinned], laidTests := true, laidLooks := .later }
def SquadFindsUptoCardSaid : Prop := Claim7.holds Tryd.pinned (.plain (OpenSpec.upto squadFindsSpec)) squadFindsUptoCard
end Rows
end Go.Proofs.YtaijjnafanmcnaaDoor
