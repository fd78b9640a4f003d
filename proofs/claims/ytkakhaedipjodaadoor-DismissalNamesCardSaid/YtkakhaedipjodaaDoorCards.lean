/-
  DERIVED. GIVEN WITH THE SEED: THE CARDS: each row of YtkakhaedipjodaaDoorRows.lean that lists a variable, with what it lists TIED to the program's text (the seventh form; the later family's looks); each row that meets fmt, with fmt's text TOLD by the authors' own Lean function (tested against real Go, not proved from fmt's source: count such statements apart). THE CARD IS WHAT COUNTS. Prove the row's statement (the work); the ties are given (YtkakhaedipjodaaDoorTie.lean); close each card by the builder's one call (the guide's Derived/Test/ToyasCard.lean, 'card_holds'). Laid BY PROGRAM, IN A SANDBOX (cutbox-door.mjs). By AI agents, Wed Nov 11 2026. No macro, syntax, notation, axiom, sorry.
-/
import Derived.Test.YtkakhaedipjodaaDoorRows
import GoSem.ClaimSeven
namespace Go.Proofs.YtkakhaedipjodaaDoor
namespace Rows

/-- THE TIED CARD OF 'scorebooklaw10.DismissalPossible'. -/
def dismissalPossibleCard : Claim7 := { stood := { row := dismissalPossibleRow, standIns := [], harness := (true, "c601db2812c1d2c79bc64d16e289f7ecc4ab1dfe055a49f802a54f83224e41cb"), looks := false }, kinds := [], alts := [], laidByText := true, laidKinds := [.data], laidTests := true, laidLooks := .later }
def DismissalPossibleCardSaid : Prop := Claim7.holds Tryd.pinned (.plain (OpenSpec.ofChange dismissalPossibleSpec)) dismissalPossibleCard

/-- THE TIED CARD OF 'scorebooklaw10.DismissalWays'. -/
def dismissalWaysCard : Claim7 := { stood := { row := dismissalWaysRow, standIns := [], harness := (true, "c601db2812c1d2c79bc64d16e289f7ecc4ab1dfe055a49f802a54f83224e41cb"), looks := false }, kinds := [], alts := [], laidByText := true, laidKinds := [.data], laidTests := true, laidLooks := .later }
def DismissalWaysCardSaid : Prop := Claim7.holds Tryd.pinned (.plain (OpenSpec.ofChange dismissalWaysSpec)) dismissalWaysCard

/-- THE TIED CARD OF 'scorebooklaw10.DismissalNames'. -/
def dismissalNamesCard : Claim7 := { stood := { row := dismissalNamesRow, standIns := [], harness := (true, "c601db2812c1d2c79bc64d16e289f7ecc4ab1dfe055a49f802a54f83224e41cb"), looks := false }, kinds := [], alts := [], laidByText := true, laidKinds := [.data], laidTests := true, laidLooks := .later }
def DismissalNamesCardSaid : Prop := Claim7.holds Tryd.pinned (.plain (OpenSpec.ofChange dismissalNamesSpec)) dismissalNamesCard

/-- THE TIED CARD OF 'scorebooklaw10.DismissalFree'. -/
def dismissalFreeCard : Claim7 := { stood := { row := dismissalFreeRow, standIns := [], harness := (true, "c601db2812c1d2c79bc64d16e289f7ecc4ab1dfe055a49f802a54f83224e41cb"), looks := false }, kinds := [], alts := [], laidByText := true, laidKinds := [.data], laidTests := true, laidLooks := .later }
def DismissalFreeCardSaid : Prop := Claim7.holds Tryd.pinned (.plain (OpenSpec.ofChange dismissalFreeSpec)) dismissalFreeCard

/-- THE TIED CARD OF 'scorebooklaw10.DismissalListed'. -/
def dismissalListedCard : Claim7 := { stood := { row := dismissalListedRow, standIns := [], harness := (true, "c601db2812c1d2c79bc64d16e289f7ecc4ab1dfe055a49f802a54f83224e41cb"), looks := false }, kinds := [], alts := [], laidByText := true, laidKinds := [.data], laidTests := true, laidLooks := .later }
def DismissalListedCardSaid : Prop := Claim7.holds Tryd.pinned (.plain (OpenSpec.ofChange dismissalListedSpec)) dismissalListedCard

/-- THE TIED CARD OF 'scorebooklaw10.DismissalVictims'. -/
def dismissalVictimsCard : Claim7 := { stood := { row := dismissalVictimsRow, standIns := [], harness := (true, "c601db2812c1d2c79bc64d16e289f7ecc4ab1dfe055a49f802a54f83224e41cb"), looks := false }, kinds := [], alts := [], laidByText := true, laidKinds := [.data], laidTests := true, laidLooks := .later }
def DismissalVictimsCardSaid : Prop := Claim7.holds Tryd.pinned (.plain (OpenSpec.ofChange dismissalVictimsSpec)) dismissalVictimsCard

/-- THE SECOND FORM's CARD OF 'scorebooklaw10.DismissalPossible'. -/
def dismissalPossibleUptoCard : Claim7 := { stood := { row := dismissalPossibleUptoRow, standIns := [], harness := (true, "c601db2812c1d2c79bc64d16e289f7ecc4ab1dfe055a49f802a54f83224e41cb"), looks := false }, kinds := [], alts := [], laidByText := true, laidKinds := [.data], laidTests := true, laidLooks := .later }
def DismissalPossibleUptoCardSaid : Prop := Claim7.holds Tryd.pinned (.plain (OpenSpec.upto dismissalPossibleSpec)) dismissalPossibleUptoCard

/-- THE SECOND FORM's CARD OF 'scorebooklaw10.DismissalWays'. -/
def dismissalWaysUptoCard : Claim7 := { stood := { row := dismissalWaysUptoRow, standIns := [], harness := (true, "c601db2812c1d2c79bc64d16e289f7ecc4ab1dfe055a49f802a54f83224e41cb"), looks := false }, kinds := [], alts := [], laidByText := true, laidKinds := [.data], laidTests := true, laidLooks := .later }
def DismissalWaysUptoCardSaid : Prop := Claim7.holds Tryd.pinned (.plain (OpenSpec.upto dismissalWaysSpec)) dismissalWaysUptoCard

/-- THE SECOND FORM's CARD OF 'scorebooklaw10.DismissalNames'. -/
def dismissalNamesUptoCard : Claim7 := { stood := { row := dismissalNamesUptoRow, standIns := [], harness := (true, "c601db2812c1d2c79bc64d16e289f7ecc4ab1dfe055a49f802a54f83224e41cb"), looks := false }, kinds := [], alts := [], laidByText := true, laidKinds := [.data], laidTests := true, laidLooks := .later }
def DismissalNamesUptoCardSaid : Prop := Claim7.holds Tryd.pinned (.plain (OpenSpec.upto dismissalNamesSpec)) dismissalNamesUptoCard

/-- THE SECOND FORM's CARD OF 'scorebooklaw10.DismissalFree'. -/
def dismissalFreeUptoCard : Claim7 := { stood := { row := dismissalFreeUptoRow, standIns := [], harness := (true, "c601db2812c1d2c79bc64d16e289f7ecc4ab1dfe055a49f802a54f83224e41cb"), looks := false }, kinds := [], alts := [], laidByText := true, laidKinds := [.data], laidTests := true, laidLooks := .later }
def DismissalFreeUptoCardSaid : Prop := Claim7.holds Tryd.pinned (.plain (OpenSpec.upto dismissalFreeSpec)) dismissalFreeUptoCard

/-- THE SECOND FORM's CARD OF 'scorebooklaw10.DismissalListed'. -/
def dismissalListedUptoCard : Claim7 := { stood := { row := dismissalListedUptoRow, standIns := [], harness := (true, "c601db2812c1d2c79bc64d16e289f7ecc4ab1dfe055a49f802a54f83224e41cb"), looks := false }, kinds := [], alts := [], laidByText := true, laidKinds := [.data], laidTests := true, laidLooks := .later }
def DismissalListedUptoCardSaid : Prop := Claim7.holds Tryd.pinned (.plain (OpenSpec.upto dismissalListedSpec)) dismissalListedUptoCard

/-- THE SECOND FORM's CARD OF 'scorebooklaw10.DismissalVictims'. -/
def dismissalVictimsUptoCard : Claim7 := { stood := { row := dismissalVictimsUptoRow, standIns := [], harness := (true, "c601db2812c1d2c79bc64d16e289f7ecc4ab1dfe055a49f802a54f83224e41cb"), looks := false }, kinds := [], alts := [], laidByText := true, laidKinds := [.data], laidTests := true, laidLooks := .later }
def DismissalVictimsUptoCardSaid : Prop := Claim7.holds Tryd.pinned (.plain (OpenSpec.upto dismissalVictimsSpec)) dismissalVictimsUptoCard
end Rows
end Go.Proofs.YtkakhaedipjodaaDoor
