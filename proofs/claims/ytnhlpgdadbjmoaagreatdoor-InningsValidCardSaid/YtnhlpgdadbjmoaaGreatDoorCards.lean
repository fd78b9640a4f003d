/-
  DERIVED. GIVEN WITH THE SEED: THE CARDS: each row of YtnhlpgdadbjmoaaGreatDoorRows.lean that lists a variable, with what it lists TIED to the program's text (the seventh form; the later family's looks); each row that meets fmt, with fmt's text TOLD by the authors' own Lean function (tested against real Go, not proved from fmt's source: count such statements apart). THE CARD IS WHAT COUNTS. Prove the row's statement (the work); the ties are given (YtnhlpgdadbjmoaaGreatDoorTie.lean); close each card by the builder's one call (the guide's Derived/Test/ToyasCard.lean, 'card_holds'). Laid BY PROGRAM, IN A SANDBOX (cutbox-door.mjs). By AI agents, Wed Nov 11 2026. No macro, syntax, notation, axiom, sorry.
-/
import Derived.Test.YtnhlpgdadbjmoaaGreatDoorRows
import GoSem.ClaimSeven
namespace Go.Proofs.YtnhlpgdadbjmoaaGreatDoor
namespace Rows

/-- THE TIED CARD OF 'scorebooklaw14.InningsValid'. -/
def inningsValidCard : Claim7 := { stood := { row := inningsValidRow, standIns := [], harness := (true, "3411c0525104fbdc7e2c7eec78e2a1c8122fdb9c83758b6c77c7f0c06ed798a4"), looks := false }, kinds := [], alts := [], laidByText := true, laidKinds := [.data, .data], laidTests := true, laidLooks := .later }
def InningsValidCardSaid : Prop := Claim7.holds Tryz.pinned (.plain (OpenSpec.ofChange inningsValidSpec)) inningsValidCard

/-- THE TIED CARD OF 'scorebooklaw14.InningsBegins'. -/
def inningsBeginsCard : Claim7 := { stood := { row := inningsBeginsRow, standIns := [], harness := (true, "3411c0525104fbdc7e2c7eec78e2a1c8122fdb9c83758b6c77c7f0c06ed798a4"), looks := false }, kinds := [], alts := [], laidByText := true, laidKinds := [.data, .data], laidTests := true, laidLooks := .later }
def InningsBeginsCardSaid : Prop := Claim7.holds Tryz.pinned (.plain (OpenSpec.ofChange inningsBeginsSpec)) inningsBeginsCard

/-- THE TIED CARD OF 'scorebooklaw14.InningsSteps'. -/
def inningsStepsCard : Claim7 := { stood := { row := inningsStepsRow, standIns := [], harness := (true, "3411c0525104fbdc7e2c7eec78e2a1c8122fdb9c83758b6c77c7f0c06ed798a4"), looks := false }, kinds := [], alts := [], laidByText := true, laidKinds := [.data, .data], laidTests := true, laidLooks := .later }
def InningsStepsCardSaid : Prop := Claim7.holds Tryz.pinned (.plain (OpenSpec.ofChange inningsStepsSpec)) inningsStepsCard

/-- THE TIED CARD OF 'scorebooklaw14.InningsRefuses'. -/
def inningsRefusesCard : Claim7 := { stood := { row := inningsRefusesRow, standIns := [], harness := (true, "3411c0525104fbdc7e2c7eec78e2a1c8122fdb9c83758b6c77c7f0c06ed798a4"), looks := false }, kinds := [], alts := [], laidByText := true, laidKinds := [.data, .data], laidTests := true, laidLooks := .later }
def InningsRefusesCardSaid : Prop := Claim7.holds Tryz.pinned (.plain (OpenSpec.ofChange inningsRefusesSpec)) inningsRefusesCard

/-- THE TIED CARD OF 'scorebooklaw14.InningsScores'. -/
def inningsScoresCard : Claim7 := { stood := { row := inningsScoresRow, standIns := [], harness := (true, "3411c0525104fbdc7e2c7eec78e2a1c8122fdb9c83758b6c77c7f0c06ed798a4"), looks := false }, kinds := [], alts := [], laidByText := true, laidKinds := [.data, .data], laidTests := true, laidLooks := .later }
def InningsScoresCardSaid : Prop := Claim7.holds Tryz.pinned (.plain (OpenSpec.ofChange inningsScoresSpec)) inningsScoresCard

/-- THE TIED CARD OF 'scorebooklaw14.InningsEnds'. -/
def inningsEndsCard : Claim7 := { stood := { row := inningsEndsRow, standIns := [], harness := (true, "3411c0525104fbdc7e2c7eec78e2a1c8122fdb9c83758b6c77c7f0c06ed798a4"), looks := false }, kinds := [], alts := [], laidByText := true, laidKinds := [.data, .data], laidTests := true, laidLooks := .later }
def InningsEndsCardSaid : Prop := Claim7.holds Tryz.pinned (.plain (OpenSpec.ofChange inningsEndsSpec)) inningsEndsCard

/-- THE SECOND FORM's CARD OF 'scorebooklaw14.InningsValid'. -/
def inningsValidUptoCard : Claim7 := { stood := { row := inningsValidUptoRow, standIns := [], harness := (true, "3411c0525104fbdc7e2c7eec78e2a1c8122fdb9c83758b6c77c7f0c06ed798a4"), looks := false }, kinds := [], alts := [], laidByText := true, laidKinds := [.data, .data], laidTests := true, laidLooks := .later }
def InningsValidUptoCardSaid : Prop := Claim7.holds Tryz.pinned (.plain (OpenSpec.upto inningsValidSpec)) inningsValidUptoCard

/-- THE SECOND FORM's CARD OF 'scorebooklaw14.InningsBegins'. -/
def inningsBeginsUptoCard : Claim7 := { stood := { row := inningsBeginsUptoRow, standIns := [], harness := (true, "3411c0525104fbdc7e2c7eec78e2a1c8122fdb9c83758b6c77c7f0c06ed798a4"), looks := false }, kinds := [], alts := [], laidByText := true, laidKinds := [.data, .data], laidTests := true, laidLooks := .later }
def InningsBeginsUptoCardSaid : Prop := Claim7.holds Tryz.pinned (.plain (OpenSpec.upto inningsBeginsSpec)) inningsBeginsUptoCard

/-- THE SECOND FORM's CARD OF 'scorebooklaw14.InningsSteps'. -/
def inningsStepsUptoCard : Claim7 := { stood := { row := inningsStepsUptoRow, standIns := [], harness := (true, "3411c0525104fbdc7e2c7eec78e2a1c8122fdb9c83758b6c77c7f0c06ed798a4"), looks := false }, kinds := [], alts := [], laidByText := true, laidKinds := [.data, .data], laidTests := true, laidLooks := .later }
def InningsStepsUptoCardSaid : Prop := Claim7.holds Tryz.pinned (.plain (OpenSpec.upto inningsStepsSpec)) inningsStepsUptoCard

/-- THE SECOND FORM's CARD OF 'scorebooklaw14.InningsRefuses'. -/
def inningsRefusesUptoCard : Claim7 := { stood := { row := inningsRefusesUptoRow, standIns := [], harness := (true, "3411c0525104fbdc7e2c7eec78e2a1c8122fdb9c83758b6c77c7f0c06ed798a4"), looks := false }, kinds := [], alts := [], laidByText := true, laidKinds := [.data, .data], laidTests := true, laidLooks := .later }
def InningsRefusesUptoCardSaid : Prop := Claim7.holds Tryz.pinned (.plain (OpenSpec.upto inningsRefusesSpec)) inningsRefusesUptoCard

/-- THE SECOND FORM's CARD OF 'scorebooklaw14.InningsScores'. -/
def inningsScoresUptoCard : Claim7 := { stood := { row := inningsScoresUptoRow, standIns := [], harness := (true, "3411c0525104fbdc7e2c7eec78e2a1c8122fdb9c83758b6c77c7f0c06ed798a4"), looks := false }, kinds := [], alts := [], laidByText := true, laidKinds := [.data, .data], laidTests := true, laidLooks := .later }
def InningsScoresUptoCardSaid : Prop := Claim7.holds Tryz.pinned (.plain (OpenSpec.upto inningsScoresSpec)) inningsScoresUptoCard

/-- THE SECOND FORM's CARD OF 'scorebooklaw14.InningsEnds'. -/
def inningsEndsUptoCard : Claim7 := { stood := { row := inningsEndsUptoRow, standIns := [], harness := (true, "3411c0525104fbdc7e2c7eec78e2a1c8122fdb9c83758b6c77c7f0c06ed798a4"), looks := false }, kinds := [], alts := [], laidByText := true, laidKinds := [.data, .data], laidTests := true, laidLooks := .later }
def InningsEndsUptoCardSaid : Prop := Claim7.holds Tryz.pinned (.plain (OpenSpec.upto inningsEndsSpec)) inningsEndsUptoCard
end Rows
end Go.Proofs.YtnhlpgdadbjmoaaGreatDoor
