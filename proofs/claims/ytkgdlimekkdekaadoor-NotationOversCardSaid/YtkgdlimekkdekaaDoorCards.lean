/-
  DERIVED. GIVEN WITH THE SEED: THE CARDS: each row of YtkgdlimekkdekaaDoorRows.lean that lists a variable, with what it lists TIED to the program's text (the seventh form; the later family's looks); each row that meets fmt, with fmt's text TOLD by the authors' own Lean function (tested against real Go, not proved from fmt's source: count such statements apart). THE CARD IS WHAT COUNTS. Prove the row's statement (the work); the ties are given (YtkgdlimekkdekaaDoorTie.lean); close each card by the builder's one call (the guide's Derived/Test/ToyasCard.lean, 'card_holds'). Laid BY PROGRAM, IN A SANDBOX (cutbox-door.mjs). By AI agents, Wed Nov 11 2026. No macro, syntax, notation, axiom, sorry.
-/
import Derived.Test.YtkgdlimekkdekaaDoorRows
import GoSem.ClaimSeven
namespace Go.Proofs.YtkgdlimekkdekaaDoor
namespace Rows

/-- THE TIED CARD OF 'scorebooklaw07.NotationOvers'. -/
def notationOversCard : Claim7 := { stood := { row := notationOversRow, standIns := [], harness := (true, "8a0750f48bea56111d42a52d12ec443e9798b1f9a3caa9cfee50a6cd67cc8c4a"), looks := false }, kinds := [], alts := [], laidByText := true, laidKinds := [.data, .data, .data, .data, .pinned], laidTests := true, laidLooks := .later }
def NotationOversCardSaid : Prop := Claim7.holds Tryd.pinned (.plain (OpenSpec.ofChange notationOversSpec)) notationOversCard

/-- THE TIED CARD OF 'scorebooklaw07.NotationJoins'. -/
def notationJoinsCard : Claim7 := { stood := { row := notationJoinsRow, standIns := [], harness := (true, "8a0750f48bea56111d42a52d12ec443e9798b1f9a3caa9cfee50a6cd67cc8c4a"), looks := false }, kinds := [], alts := [], laidByText := true, laidKinds := [.data, .data, .data, .data, .pinned], laidTests := true, laidLooks := .later }
def NotationJoinsCardSaid : Prop := Claim7.holds Tryd.pinned (.plain (OpenSpec.ofChange notationJoinsSpec)) notationJoinsCard

/-- THE TIED CARD OF 'scorebooktop.TopSymbols'. -/
def topSymbolsCard : Claim7 := { stood := { row := topSymbolsRow, standIns := [], harness := (true, "8a0750f48bea56111d42a52d12ec443e9798b1f9a3caa9cfee50a6cd67cc8c4a"), looks := false }, kinds := [], alts := [], laidByText := true, laidKinds := [.data, .data, .data, .data], laidTests := true, laidLooks := .later }
def TopSymbolsCardSaid : Prop := Claim7.holds Tryd.pinned (.plain (OpenSpec.ofChange topSymbolsSpec)) topSymbolsCard

/-- THE SECOND FORM's CARD OF 'scorebooklaw07.NotationOvers'. -/
def notationOversUptoCard : Claim7 := { stood := { row := notationOversUptoRow, standIns := [], harness := (true, "8a0750f48bea56111d42a52d12ec443e9798b1f9a3caa9cfee50a6cd67cc8c4a"), looks := false }, kinds := [], alts := [], laidByText := true, laidKinds := [.data, .data, .data, .data, .pinned], laidTests := true, laidLooks := .later }
def NotationOversUptoCardSaid : Prop := Claim7.holds Tryd.pinned (.plain (OpenSpec.upto notationOversSpec)) notationOversUptoCard

/-- THE SECOND FORM's CARD OF 'scorebooklaw07.NotationJoins'. -/
def notationJoinsUptoCard : Claim7 := { stood := { row := notationJoinsUptoRow, standIns := [], harness := (true, "8a0750f48bea56111d42a52d12ec443e9798b1f9a3caa9cfee50a6cd67cc8c4a"), looks := false }, kinds := [], alts := [], laidByText := true, laidKinds := [.data, .data, .data, .data, .pinned], laidTests := true, laidLooks := .later }
def NotationJoinsUptoCardSaid : Prop := Claim7.holds Tryd.pinned (.plain (OpenSpec.upto notationJoinsSpec)) notationJoinsUptoCard

/-- THE SECOND FORM's CARD OF 'scorebooktop.TopSymbols'. -/
def topSymbolsUptoCard : Claim7 := { stood := { row := topSymbolsUptoRow, standIns := [], harness := (true, "8a0750f48bea56111d42a52d12ec443e9798b1f9a3caa9cfee50a6cd67cc8c4a"), looks := false }, kinds := [], alts := [], laidByText := true, laidKinds := [.data, .data, .data, .data], laidTests := true, laidLooks := .later }
def TopSymbolsUptoCardSaid : Prop := Claim7.holds Tryd.pinned (.plain (OpenSpec.upto topSymbolsSpec)) topSymbolsUptoCard
end Rows
end Go.Proofs.YtkgdlimekkdekaaDoor
