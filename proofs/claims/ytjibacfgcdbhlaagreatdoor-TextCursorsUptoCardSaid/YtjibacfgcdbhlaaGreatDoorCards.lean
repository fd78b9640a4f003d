/-
  DERIVED. GIVEN WITH THE SEED: THE CARDS: each row of YtjibacfgcdbhlaaGreatDoorRows.lean that lists a variable, with what it lists TIED to the program's text (the seventh form; the later family's looks); each row that meets fmt, with fmt's text TOLD by the authors' own Lean function (tested against real Go, not proved from fmt's source: count such statements apart). THE CARD IS WHAT COUNTS. Prove the row's statement (the work); the ties are given (YtjibacfgcdbhlaaGreatDoorTie.lean); close each card by the builder's one call (the guide's Derived/Test/ToyasCard.lean, 'card_holds'). Laid BY PROGRAM, IN A SANDBOX (cutbox-door.mjs). By AI agents, Wed Nov 11 2026. No macro, syntax, notation, axiom, sorry.
-/
import Derived.Test.YtjibacfgcdbhlaaGreatDoorRows
import GoSem.ClaimSeven
namespace Go.Proofs.YtjibacfgcdbhlaaGreatDoor
namespace Rows

/-- THE TIED CARD OF 'scorebooklaw03.TextCursors'. -/
def textCursorsCard : Claim7 := { stood := { row := textCursorsRow, standIns := [], harness := (true, "a36de359f7db18d6e53dd30d0ecf3cbe356c3d84bc3f1ca818b6b86ffc74912c"), looks := true }, kinds := [], alts := [], laidByText := true, laidKinds := [.data, .data, .data, .data, .sentinel, .sentinel, .pinned], laidTests := true, laidLooks := .later }
def TextCursorsCardSaid : Prop := Claim7.holds Tryz.pinned (.plain (OpenSpec.ofChange textCursorsSpec)) textCursorsCard

/-- THE SECOND FORM's CARD OF 'scorebooklaw03.TextCursors'. -/
def textCursorsUptoCard : Claim7 := { stood := { row := textCursorsUptoRow, standIns := [], harness := (true, "a36de359f7db18d6e53dd30d0ecf3cbe356c3d84bc3f1ca818b6b86ffc74912c"), looks := true }, kinds := [], alts := [], laidByText := true, laidKinds := [.data, .data, .data, .data, .sentinel, .sentinel, .pinned], laidTests := true, laidLooks := .later }
def TextCursorsUptoCardSaid : Prop := Claim7.holds Tryz.pinned (.plain (OpenSpec.upto textCursorsSpec)) textCursorsUptoCard
end Rows
end Go.Proofs.YtjibacfgcdbhlaaGreatDoor
