/-
  DERIVED. GIVEN WITH THE SEED: THE CARDS: each row of YtjdldofgkhibnaaDoorRows.lean that lists a variable, with what it lists TIED to the program's text (the seventh form; the later family's looks); each row that meets fmt, with fmt's text TOLD by the authors' own Lean function (tested against real Go, not proved from fmt's source: count such statements apart). THE CARD IS WHAT COUNTS. Prove the row's statement (the work); the ties are given (YtjdldofgkhibnaaDoorTie.lean); close each card by the builder's one call (the guide's Derived/Test/ToyasCard.lean, 'card_holds'). Laid BY PROGRAM, IN A SANDBOX (cutbox-door.mjs). By AI agents, Wed Nov 11 2026. No macro, syntax, notation, axiom, sorry.
-/
import Derived.Test.YtjdldofgkhibnaaDoorRows
import GoSem.ClaimSeven
namespace Go.Proofs.YtjdldofgkhibnaaDoor
namespace Rows

/-- THE TIED CARD OF 'scorebooklaw06.SquadTexts'. -/
def squadTextsCard : Claim7 := { stood := { row := squadTextsRow, standIns := [], harness := (true, "6b7f4b8b01740f327d169f83f3619e6dbd9ebc64da6ad85422f643f03a703575"), looks := false }, kinds := [], alts := [], laidByText := true, laidKinds := [.data, .pinned], laidTests := true, laidLooks := .later }
def SquadTextsCardSaid : Prop := Claim7.holds Tryd.pinned (.plain (OpenSpec.ofChange squadTextsSpec)) squadTextsCard

/-- THE SECOND FORM's CARD OF 'scorebooklaw06.SquadTexts'. -/
def squadTextsUptoCard : Claim7 := { stood := { row := squadTextsUptoRow, standIns := [], harness := (true, "6b7f4b8b01740f327d169f83f3619e6dbd9ebc64da6ad85422f643f03a703575"), looks := false }, kinds := [], alts := [], laidByText := true, laidKinds := [.data, .pinned], laidTests := true, laidLooks := .later }
def SquadTextsUptoCardSaid : Prop := Claim7.holds Tryd.pinned (.plain (OpenSpec.upto squadTextsSpec)) squadTextsUptoCard
end Rows
end Go.Proofs.YtjdldofgkhibnaaDoor
