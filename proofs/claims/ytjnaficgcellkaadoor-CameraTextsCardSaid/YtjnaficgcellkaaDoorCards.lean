/-
  DERIVED. GIVEN WITH THE SEED: THE CARDS: each row of YtjnaficgcellkaaDoorRows.lean that lists a variable, with what it lists TIED to the program's text (the seventh form; the later family's looks); each row that meets fmt, with fmt's text TOLD by the authors' own Lean function (tested against real Go, not proved from fmt's source: count such statements apart). THE CARD IS WHAT COUNTS. Prove the row's statement (the work); the ties are given (YtjnaficgcellkaaDoorTie.lean); close each card by the builder's one call (the guide's Derived/Test/ToyasCard.lean, 'card_holds'). Laid BY PROGRAM, IN A SANDBOX (cutbox-door.mjs). By AI agents, Wed Nov 11 2026. No macro, syntax, notation, axiom, sorry.
-/
import Derived.Test.YtjnaficgcellkaaDoorRows
import GoSem.ClaimSeven
namespace Go.Proofs.YtjnaficgcellkaaDoor
namespace Rows

/-- THE TIED CARD OF 'scorebooklaw31.CameraChecks'. -/
def cameraChecksCard : Claim7 := { stood := { row := cameraChecksRow, standIns := [], harness := (true, "f4e4dd970eab8b8dceb4234e9bc235e74cb0c3801a3b919497d7ac95b18f783d"), looks := true }, kinds := [], alts := [], laidByText := true, laidKinds := [.data, .data, .data, .data, .data], laidTests := true, laidLooks := .later }
def CameraChecksCardSaid : Prop := Claim7.holds Tryd.pinned (.plain (OpenSpec.ofChange cameraChecksSpec)) cameraChecksCard

/-- THE TIED CARD OF 'scorebooklaw31.CameraBounces'. -/
def cameraBouncesCard : Claim7 := { stood := { row := cameraBouncesRow, standIns := [], harness := (true, "f4e4dd970eab8b8dceb4234e9bc235e74cb0c3801a3b919497d7ac95b18f783d"), looks := true }, kinds := [], alts := [], laidByText := true, laidKinds := [.data, .data, .data, .data, .data], laidTests := true, laidLooks := .later }
def CameraBouncesCardSaid : Prop := Claim7.holds Tryd.pinned (.plain (OpenSpec.ofChange cameraBouncesSpec)) cameraBouncesCard

/-- THE TIED CARD OF 'scorebooklaw31.CameraLowest'. -/
def cameraLowestCard : Claim7 := { stood := { row := cameraLowestRow, standIns := [], harness := (true, "f4e4dd970eab8b8dceb4234e9bc235e74cb0c3801a3b919497d7ac95b18f783d"), looks := true }, kinds := [], alts := [], laidByText := true, laidKinds := [.data, .data, .data, .data, .data], laidTests := true, laidLooks := .later }
def CameraLowestCardSaid : Prop := Claim7.holds Tryd.pinned (.plain (OpenSpec.ofChange cameraLowestSpec)) cameraLowestCard

/-- THE TIED CARD OF 'scorebooklaw31.CameraShifts'. -/
def cameraShiftsCard : Claim7 := { stood := { row := cameraShiftsRow, standIns := [], harness := (true, "f4e4dd970eab8b8dceb4234e9bc235e74cb0c3801a3b919497d7ac95b18f783d"), looks := true }, kinds := [], alts := [], laidByText := true, laidKinds := [.data, .data, .data, .data, .data], laidTests := true, laidLooks := .later }
def CameraShiftsCardSaid : Prop := Claim7.holds Tryd.pinned (.plain (OpenSpec.ofChange cameraShiftsSpec)) cameraShiftsCard

/-- THE TIED CARD OF 'scorebooklaw31.CameraMoves'. -/
def cameraMovesCard : Claim7 := { stood := { row := cameraMovesRow, standIns := [], harness := (true, "f4e4dd970eab8b8dceb4234e9bc235e74cb0c3801a3b919497d7ac95b18f783d"), looks := true }, kinds := [], alts := [], laidByText := true, laidKinds := [.data, .data, .data, .data, .data], laidTests := true, laidLooks := .later }
def CameraMovesCardSaid : Prop := Claim7.holds Tryd.pinned (.plain (OpenSpec.ofChange cameraMovesSpec)) cameraMovesCard

/-- THE TIED CARD OF 'scorebooklaw31.CameraTexts'. -/
def cameraTextsCard : Claim7 := { stood := { row := cameraTextsRow, standIns := [], harness := (true, "f4e4dd970eab8b8dceb4234e9bc235e74cb0c3801a3b919497d7ac95b18f783d"), looks := true }, kinds := [], alts := [], laidByText := true, laidKinds := [.data, .data, .data, .data, .sentinel, .sentinel, .data, .data, .pinned], laidTests := true, laidLooks := .later }
def CameraTextsCardSaid : Prop := Claim7.holds Tryd.pinned (.plain (OpenSpec.ofChange cameraTextsSpec)) cameraTextsCard

/-- THE TIED CARD OF 'scorebooklaw31.CameraParses'. -/
def cameraParsesCard : Claim7 := { stood := { row := cameraParsesRow, standIns := [], harness := (true, "f4e4dd970eab8b8dceb4234e9bc235e74cb0c3801a3b919497d7ac95b18f783d"), looks := true }, kinds := [], alts := [], laidByText := true, laidKinds := [.data, .data, .data, .data, .sentinel, .sentinel, .data, .data, .pinned], laidTests := true, laidLooks := .later }
def CameraParsesCardSaid : Prop := Claim7.holds Tryd.pinned (.plain (OpenSpec.ofChange cameraParsesSpec)) cameraParsesCard

/-- THE SECOND FORM's CARD OF 'scorebooklaw31.CameraChecks'. -/
def cameraChecksUptoCard : Claim7 := { stood := { row := cameraChecksUptoRow, standIns := [], harness := (true, "f4e4dd970eab8b8dceb4234e9bc235e74cb0c3801a3b919497d7ac95b18f783d"), looks := true }, kinds := [], alts := [], laidByText := true, laidKinds := [.data, .data, .data, .data, .data], laidTests := true, laidLooks := .later }
def CameraChecksUptoCardSaid : Prop := Claim7.holds Tryd.pinned (.plain (OpenSpec.upto cameraChecksSpec)) cameraChecksUptoCard

/-- THE SECOND FORM's CARD OF 'scorebooklaw31.CameraBounces'. -/
def cameraBouncesUptoCard : Claim7 := { stood := { row := cameraBouncesUptoRow, standIns := [], harness := (true, "f4e4dd970eab8b8dceb4234e9bc235e74cb0c3801a3b919497d7ac95b18f783d"), looks := true }, kinds := [], alts := [], laidByText := true, laidKinds := [.data, .data, .data, .data, .data], laidTests := true, laidLooks := .later }
def CameraBouncesUptoCardSaid : Prop := Claim7.holds Tryd.pinned (.plain (OpenSpec.upto cameraBouncesSpec)) cameraBouncesUptoCard

/-- THE SECOND FORM's CARD OF 'scorebooklaw31.CameraLowest'. -/
def cameraLowestUptoCard : Claim7 := { stood := { row := cameraLowestUptoRow, standIns := [], harness := (true, "f4e4dd970eab8b8dceb4234e9bc235e74cb0c3801a3b919497d7ac95b18f783d"), looks := true }, kinds := [], alts := [], laidByText := true, laidKinds := [.data, .data, .data, .data, .data], laidTests := true, laidLooks := .later }
def CameraLowestUptoCardSaid : Prop := Claim7.holds Tryd.pinned (.plain (OpenSpec.upto cameraLowestSpec)) cameraLowestUptoCard

/-- THE SECOND FORM's CARD OF 'scorebooklaw31.CameraShifts'. -/
def cameraShiftsUptoCard : Claim7 := { stood := { row := cameraShiftsUptoRow, standIns := [], harness := (true, "f4e4dd970eab8b8dceb4234e9bc235e74cb0c3801a3b919497d7ac95b18f783d"), looks := true }, kinds := [], alts := [], laidByText := true, laidKinds := [.data, .data, .data, .data, .data], laidTests := true, laidLooks := .later }
def CameraShiftsUptoCardSaid : Prop := Claim7.holds Tryd.pinned (.plain (OpenSpec.upto cameraShiftsSpec)) cameraShiftsUptoCard

/-- THE SECOND FORM's CARD OF 'scorebooklaw31.CameraMoves'. -/
def cameraMovesUptoCard : Claim7 := { stood := { row := cameraMovesUptoRow, standIns := [], harness := (true, "f4e4dd970eab8b8dceb4234e9bc235e74cb0c3801a3b919497d7ac95b18f783d"), looks := true }, kinds := [], alts := [], laidByText := true, laidKinds := [.data, .data, .data, .data, .data], laidTests := true, laidLooks := .later }
def CameraMovesUptoCardSaid : Prop := Claim7.holds Tryd.pinned (.plain (OpenSpec.upto cameraMovesSpec)) cameraMovesUptoCard

/-- THE SECOND FORM's CARD OF 'scorebooklaw31.CameraTexts'. -/
def cameraTextsUptoCard : Claim7 := { stood := { row := cameraTextsUptoRow, standIns := [], harness := (true, "f4e4dd970eab8b8dceb4234e9bc235e74cb0c3801a3b919497d7ac95b18f783d"), looks := true }, kinds := [], alts := [], laidByText := true, laidKinds := [.data, .data, .data, .data, .sentinel, .sentinel, .data, .data, .pinned], laidTests := true, laidLooks := .later }
def CameraTextsUptoCardSaid : Prop := Claim7.holds Tryd.pinned (.plain (OpenSpec.upto cameraTextsSpec)) cameraTextsUptoCard

/-- THE SECOND FORM's CARD OF 'scorebooklaw31.CameraParses'. -/
def cameraParsesUptoCard : Claim7 := { stood := { row := cameraParsesUptoRow, standIns := [], harness := (true, "f4e4dd970eab8b8dceb4234e9bc235e74cb0c3801a3b919497d7ac95b18f783d"), looks := true }, kinds := [], alts := [], laidByText := true, laidKinds := [.data, .data, .data, .data, .sentinel, .sentinel, .data, .data, .pinned], laidTests := true, laidLooks := .later }
def CameraParsesUptoCardSaid : Prop := Claim7.holds Tryd.pinned (.plain (OpenSpec.upto cameraParsesSpec)) cameraParsesUptoCard
end Rows
end Go.Proofs.YtjnaficgcellkaaDoor
