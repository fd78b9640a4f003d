/-
  NARROWER THAN 'FOR EVERY INPUT', by the rows' own cells (each row's printed sentence says how): DismissalPossible: laid · DismissalWays: laid · DismissalNames: laid · DismissalFree: laid · DismissalListed: laid · DismissalVictims: laid.
  DERIVED. THE GIVEN ROWS OF THIS SEAT. 6 by the template 'for every input the law returns true; each argument reads behind the call as it read before'; 0 by the template 'total and deterministic' (their statements: YtkakhaedipjodaaDoorTotals.lean).
  GIVEN WITH THE SEED: the statements are not yours to turn. If you find one false, say at which input.
  Laid BY PROGRAM, IN A SANDBOX (cutbox-rows.mjs): the forced cells as the released guide's own fill.sh prints them over the translation c078cdb55fc1b393… (all of the seat's roots in one cut). By AI agents, Wed Nov 11 2026. No macro, syntax, notation, axiom, sorry.
-/
import Derived.Test.YtkakhaedipjodaaDoorChecked
import GoSem.Claim
import GoSem.ClaimJoined
import GoSem.ClaimMapViews
import Derived.JoinedTies
import Derived.KernelRfl
namespace Go.Proofs.YtkakhaedipjodaaDoor
/- THE CELL 'sum', in the pinned program and in every row, IS THE sha256 OF THE DUMP (.gsa) THAT YtkakhaedipjodaaDoorProg.lean LOADS. Nothing in Lean hashes anything: it is a label: what it is worth is what the hold of that sum in a sandbox is worth. -/
noncomputable def Tryd.pinned : Pinned := { name := "ytkakhaedipjodaadoor", sum := "c078cdb55fc1b393f1de950429b9f1a6e139e8dd92864d54080ada60fb55c2f5", checked := Tryd.checked }
namespace Rows
def none {H : Type} : Left H := { results := [], args := [] }

/- WHAT THE LISTED PACKAGE-LEVEL VARIABLES READ AS WHEN THE CALL BEGINS. Each datum BY PROGRAM (the guide's laid-datum.mjs) off the statement by which the dump's own 'gosem.cut.vars' lays the variable. In a bare row this is a premise. The card (YtkakhaedipjodaaDoorCards.lean) ties it to the program's text. -/
def laid_scorebook_dismissal_ways {H : Type} : DataW H := .agg [.agg [.lit (.string [78, 79, 84, 79, 85, 84]), .lit (.bool false), .lit (.bool false), .lit (.bool false), .lit (.bool false)], .agg [.lit (.string [66, 79, 87, 76, 69, 68]), .lit (.bool true), .lit (.bool false), .lit (.bool false), .lit (.bool false)], .agg [.lit (.string [67, 65, 85, 71, 72, 84]), .lit (.bool true), .lit (.bool false), .lit (.bool false), .lit (.bool true)], .agg [.lit (.string [76, 66, 87]), .lit (.bool true), .lit (.bool false), .lit (.bool false), .lit (.bool false)], .agg [.lit (.string [83, 84, 85, 77, 80, 69, 68]), .lit (.bool true), .lit (.bool true), .lit (.bool false), .lit (.bool true)], .agg [.lit (.string [72, 73, 84, 87, 73, 67, 75, 69, 84]), .lit (.bool true), .lit (.bool true), .lit (.bool false), .lit (.bool false)], .agg [.lit (.string [82, 85, 78, 79, 85, 84]), .lit (.bool true), .lit (.bool true), .lit (.bool true), .lit (.bool true)], .agg [.lit (.string [72, 73, 84, 84, 87, 73, 67, 69]), .lit (.bool true), .lit (.bool false), .lit (.bool true), .lit (.bool false)], .agg [.lit (.string [79, 66, 83, 84, 82, 85, 67, 84, 73, 78, 71]), .lit (.bool true), .lit (.bool true), .lit (.bool true), .lit (.bool false)], .agg [.lit (.string [84, 73, 77, 69, 68, 79, 85, 84]), .lit (.bool false), .lit (.bool false), .lit (.bool false), .lit (.bool false)], .agg [.lit (.string [82, 69, 84, 73, 82, 69, 68]), .lit (.bool false), .lit (.bool false), .lit (.bool false), .lit (.bool false)]]

/-- 'scorebooklaw10.DismissalPossible': WHATEVER THE INPUT: true; the input reads as it did. -/
def dismissalPossibleSpec : ChangeSpec := { name := "dismissalPossible", fn := fun _ => fun
  | [d1, d2] => { results := [.lit (.bool true)], args := [d1, d2] }
  | _ => none }
def dismissalPossibleRow : OpenClaim := { program := "ytkakhaedipjodaadoor", sum := "c078cdb55fc1b393f1de950429b9f1a6e139e8dd92864d54080ada60fb55c2f5", func := "scorebook/scorebooklaw10.DismissalPossible", spec := "dismissalPossible", unfollowed := true, recurses := true, named := ["scorebook/dismissal.ways"], apart := false, laid := [("scorebook/dismissal.ways", laid_scorebook_dismissal_ways)] }
def DismissalPossibleSaid : Prop := dismissalPossibleRow.holds Tryd.pinned (OpenSpec.ofChange dismissalPossibleSpec)

/-- ITS FALSE NEIGHBOUR: 'it returns false'. Refute it at one input. -/
def dismissalPossibleWrong : ChangeSpec := { name := "dismissalPossible", fn := fun _ => fun
  | [d1, d2] => { results := [.lit (.bool false)], args := [d1, d2] }
  | _ => none }
def DismissalPossibleWrongFalsely : Prop := dismissalPossibleRow.holds Tryd.pinned (OpenSpec.ofChange dismissalPossibleWrong)

/-- 'scorebooklaw10.DismissalWays': WHATEVER THE INPUT: true; the input reads as it did. -/
def dismissalWaysSpec : ChangeSpec := { name := "dismissalWays", fn := fun _ => fun
  | [d1, d2, d3] => { results := [.lit (.bool true)], args := [d1, d2, d3] }
  | _ => none }
def dismissalWaysRow : OpenClaim := { program := "ytkakhaedipjodaadoor", sum := "c078cdb55fc1b393f1de950429b9f1a6e139e8dd92864d54080ada60fb55c2f5", func := "scorebook/scorebooklaw10.DismissalWays", spec := "dismissalWays", unfollowed := true, recurses := true, named := ["scorebook/dismissal.ways"], apart := false, laid := [("scorebook/dismissal.ways", laid_scorebook_dismissal_ways)] }
def DismissalWaysSaid : Prop := dismissalWaysRow.holds Tryd.pinned (OpenSpec.ofChange dismissalWaysSpec)

/-- ITS FALSE NEIGHBOUR: 'it returns false'. Refute it at one input. -/
def dismissalWaysWrong : ChangeSpec := { name := "dismissalWays", fn := fun _ => fun
  | [d1, d2, d3] => { results := [.lit (.bool false)], args := [d1, d2, d3] }
  | _ => none }
def DismissalWaysWrongFalsely : Prop := dismissalWaysRow.holds Tryd.pinned (OpenSpec.ofChange dismissalWaysWrong)

/-- 'scorebooklaw10.DismissalNames': WHATEVER THE INPUT: true; the input reads as it did. -/
def dismissalNamesSpec : ChangeSpec := { name := "dismissalNames", fn := fun _ => fun
  | [d1, d2] => { results := [.lit (.bool true)], args := [d1, d2] }
  | _ => none }
def dismissalNamesRow : OpenClaim := { program := "ytkakhaedipjodaadoor", sum := "c078cdb55fc1b393f1de950429b9f1a6e139e8dd92864d54080ada60fb55c2f5", func := "scorebook/scorebooklaw10.DismissalNames", spec := "dismissalNames", unfollowed := true, recurses := true, named := ["scorebook/dismissal.ways"], apart := false, laid := [("scorebook/dismissal.ways", laid_scorebook_dismissal_ways)] }
def DismissalNamesSaid : Prop := dismissalNamesRow.holds Tryd.pinned (OpenSpec.ofChange dismissalNamesSpec)

/-- ITS FALSE NEIGHBOUR: 'it returns false'. Refute it at one input. -/
def dismissalNamesWrong : ChangeSpec := { name := "dismissalNames", fn := fun _ => fun
  | [d1, d2] => { results := [.lit (.bool false)], args := [d1, d2] }
  | _ => none }
def DismissalNamesWrongFalsely : Prop := dismissalNamesRow.holds Tryd.pinned (OpenSpec.ofChange dismissalNamesWrong)

/-- 'scorebooklaw10.DismissalFree': WHATEVER THE INPUT: true; the input reads as it did. -/
def dismissalFreeSpec : ChangeSpec := { name := "dismissalFree", fn := fun _ => fun
  | [d] => { results := [.lit (.bool true)], args := [d] }
  | _ => none }
def dismissalFreeRow : OpenClaim := { program := "ytkakhaedipjodaadoor", sum := "c078cdb55fc1b393f1de950429b9f1a6e139e8dd92864d54080ada60fb55c2f5", func := "scorebook/scorebooklaw10.DismissalFree", spec := "dismissalFree", unfollowed := true, recurses := true, named := ["scorebook/dismissal.ways"], apart := false, laid := [("scorebook/dismissal.ways", laid_scorebook_dismissal_ways)] }
def DismissalFreeSaid : Prop := dismissalFreeRow.holds Tryd.pinned (OpenSpec.ofChange dismissalFreeSpec)

/-- ITS FALSE NEIGHBOUR: 'it returns false'. Refute it at one input. -/
def dismissalFreeWrong : ChangeSpec := { name := "dismissalFree", fn := fun _ => fun
  | [d] => { results := [.lit (.bool false)], args := [d] }
  | _ => none }
def DismissalFreeWrongFalsely : Prop := dismissalFreeRow.holds Tryd.pinned (OpenSpec.ofChange dismissalFreeWrong)

/-- 'scorebooklaw10.DismissalListed': WHATEVER THE INPUT: true; the input reads as it did. -/
def dismissalListedSpec : ChangeSpec := { name := "dismissalListed", fn := fun _ => fun
  | [d1, d2] => { results := [.lit (.bool true)], args := [d1, d2] }
  | _ => none }
def dismissalListedRow : OpenClaim := { program := "ytkakhaedipjodaadoor", sum := "c078cdb55fc1b393f1de950429b9f1a6e139e8dd92864d54080ada60fb55c2f5", func := "scorebook/scorebooklaw10.DismissalListed", spec := "dismissalListed", unfollowed := true, recurses := true, named := ["scorebook/dismissal.ways"], apart := false, laid := [("scorebook/dismissal.ways", laid_scorebook_dismissal_ways)] }
def DismissalListedSaid : Prop := dismissalListedRow.holds Tryd.pinned (OpenSpec.ofChange dismissalListedSpec)

/-- ITS FALSE NEIGHBOUR: 'it returns false'. Refute it at one input. -/
def dismissalListedWrong : ChangeSpec := { name := "dismissalListed", fn := fun _ => fun
  | [d1, d2] => { results := [.lit (.bool false)], args := [d1, d2] }
  | _ => none }
def DismissalListedWrongFalsely : Prop := dismissalListedRow.holds Tryd.pinned (OpenSpec.ofChange dismissalListedWrong)

/-- 'scorebooklaw10.DismissalVictims': WHATEVER THE INPUT: true; the input reads as it did. -/
def dismissalVictimsSpec : ChangeSpec := { name := "dismissalVictims", fn := fun _ => fun
  | [d1, d2, d3] => { results := [.lit (.bool true)], args := [d1, d2, d3] }
  | _ => none }
def dismissalVictimsRow : OpenClaim := { program := "ytkakhaedipjodaadoor", sum := "c078cdb55fc1b393f1de950429b9f1a6e139e8dd92864d54080ada60fb55c2f5", func := "scorebook/scorebooklaw10.DismissalVictims", spec := "dismissalVictims", unfollowed := true, recurses := true, named := ["scorebook/dismissal.ways"], apart := false, laid := [("scorebook/dismissal.ways", laid_scorebook_dismissal_ways)] }
def DismissalVictimsSaid : Prop := dismissalVictimsRow.holds Tryd.pinned (OpenSpec.ofChange dismissalVictimsSpec)

/-- ITS FALSE NEIGHBOUR: 'it returns false'. Refute it at one input. -/
def dismissalVictimsWrong : ChangeSpec := { name := "dismissalVictims", fn := fun _ => fun
  | [d1, d2, d3] => { results := [.lit (.bool false)], args := [d1, d2, d3] }
  | _ => none }
def DismissalVictimsWrongFalsely : Prop := dismissalVictimsRow.holds Tryd.pinned (OpenSpec.ofChange dismissalVictimsWrong)

/- THE SECOND FORM. 'bulk': how many values and letters a reading holds, each counted each time it is reached (what is shared counts as often as it is met; a slice's spare places count too). A statement '..UptoSaid' is the law's where the arguments, and the package variables that the reading takes, are together of bulk at most 1048576: NARROWER than '..Said'. Prove '..Said' where nothing that the law and all that it calls make is longer than what came in: it says more and counts as full. Else prove '..UptoSaid'. A law counts once. -/
mutual
def uptoBulk {H : Type} : DataW H → Nat
  | .lit (.string bytes) => bytes.length + 1
  | .lit _ => 1
  | .nil => 1
  | .ptr d => uptoBulk d + 1
  | .slice elems spare => uptoBulkAll elems + uptoBulkAll spare + 1
  | .agg parts => uptoBulkAll parts + 1
  | .iface _ d => uptoBulk d + 1
  | .map entries => uptoBulkEntries entries + 1
  | .held _ => 1
def uptoBulkAll {H : Type} : List (DataW H) → Nat
  | [] => 0
  | d :: r => uptoBulk d + uptoBulkAll r
def uptoBulkEntries {H : Type} : List (Lit × DataW H) → Nat
  | [] => 0
  | x :: r => uptoBulkEntry x + uptoBulkEntries r
def uptoBulkEntry {H : Type} : Lit × DataW H → Nat
  | (.string bytes, d) => bytes.length + uptoBulk d + 1
  | (_, d) => uptoBulk d + 1
 end
def uptoSmall : (H : Type) → List (DataW H) → Bool := fun _ ds => decide (uptoBulkAll ds ≤ 1048576)
def OpenSpec.upto (s : _root_.Go.ChangeSpec) : _root_.Go.OpenSpec := { _root_.Go.OpenSpec.ofChange s with cond := some uptoSmall }

/-- 'scorebooklaw10.DismissalPossible', WHERE WHAT IT READS IS OF BULK AT MOST 1048576: true; the input reads as it did. -/
def dismissalPossibleUptoRow : OpenClaim := { program := "ytkakhaedipjodaadoor", sum := "c078cdb55fc1b393f1de950429b9f1a6e139e8dd92864d54080ada60fb55c2f5", func := "scorebook/scorebooklaw10.DismissalPossible", spec := "dismissalPossible", unfollowed := true, recurses := true, named := ["scorebook/dismissal.ways"], apart := false, laid := [("scorebook/dismissal.ways", laid_scorebook_dismissal_ways)], narrowed := true }
def DismissalPossibleUptoSaid : Prop := dismissalPossibleUptoRow.holds Tryd.pinned (OpenSpec.upto dismissalPossibleSpec)

/-- 'scorebooklaw10.DismissalWays', WHERE WHAT IT READS IS OF BULK AT MOST 1048576: true; the input reads as it did. -/
def dismissalWaysUptoRow : OpenClaim := { program := "ytkakhaedipjodaadoor", sum := "c078cdb55fc1b393f1de950429b9f1a6e139e8dd92864d54080ada60fb55c2f5", func := "scorebook/scorebooklaw10.DismissalWays", spec := "dismissalWays", unfollowed := true, recurses := true, named := ["scorebook/dismissal.ways"], apart := false, laid := [("scorebook/dismissal.ways", laid_scorebook_dismissal_ways)], narrowed := true }
def DismissalWaysUptoSaid : Prop := dismissalWaysUptoRow.holds Tryd.pinned (OpenSpec.upto dismissalWaysSpec)

/-- 'scorebooklaw10.DismissalNames', WHERE WHAT IT READS IS OF BULK AT MOST 1048576: true; the input reads as it did. -/
def dismissalNamesUptoRow : OpenClaim := { program := "ytkakhaedipjodaadoor", sum := "c078cdb55fc1b393f1de950429b9f1a6e139e8dd92864d54080ada60fb55c2f5", func := "scorebook/scorebooklaw10.DismissalNames", spec := "dismissalNames", unfollowed := true, recurses := true, named := ["scorebook/dismissal.ways"], apart := false, laid := [("scorebook/dismissal.ways", laid_scorebook_dismissal_ways)], narrowed := true }
def DismissalNamesUptoSaid : Prop := dismissalNamesUptoRow.holds Tryd.pinned (OpenSpec.upto dismissalNamesSpec)

/-- 'scorebooklaw10.DismissalFree', WHERE WHAT IT READS IS OF BULK AT MOST 1048576: true; the input reads as it did. -/
def dismissalFreeUptoRow : OpenClaim := { program := "ytkakhaedipjodaadoor", sum := "c078cdb55fc1b393f1de950429b9f1a6e139e8dd92864d54080ada60fb55c2f5", func := "scorebook/scorebooklaw10.DismissalFree", spec := "dismissalFree", unfollowed := true, recurses := true, named := ["scorebook/dismissal.ways"], apart := false, laid := [("scorebook/dismissal.ways", laid_scorebook_dismissal_ways)], narrowed := true }
def DismissalFreeUptoSaid : Prop := dismissalFreeUptoRow.holds Tryd.pinned (OpenSpec.upto dismissalFreeSpec)

/-- 'scorebooklaw10.DismissalListed', WHERE WHAT IT READS IS OF BULK AT MOST 1048576: true; the input reads as it did. -/
def dismissalListedUptoRow : OpenClaim := { program := "ytkakhaedipjodaadoor", sum := "c078cdb55fc1b393f1de950429b9f1a6e139e8dd92864d54080ada60fb55c2f5", func := "scorebook/scorebooklaw10.DismissalListed", spec := "dismissalListed", unfollowed := true, recurses := true, named := ["scorebook/dismissal.ways"], apart := false, laid := [("scorebook/dismissal.ways", laid_scorebook_dismissal_ways)], narrowed := true }
def DismissalListedUptoSaid : Prop := dismissalListedUptoRow.holds Tryd.pinned (OpenSpec.upto dismissalListedSpec)

/-- 'scorebooklaw10.DismissalVictims', WHERE WHAT IT READS IS OF BULK AT MOST 1048576: true; the input reads as it did. -/
def dismissalVictimsUptoRow : OpenClaim := { program := "ytkakhaedipjodaadoor", sum := "c078cdb55fc1b393f1de950429b9f1a6e139e8dd92864d54080ada60fb55c2f5", func := "scorebook/scorebooklaw10.DismissalVictims", spec := "dismissalVictims", unfollowed := true, recurses := true, named := ["scorebook/dismissal.ways"], apart := false, laid := [("scorebook/dismissal.ways", laid_scorebook_dismissal_ways)], narrowed := true }
def DismissalVictimsUptoSaid : Prop := dismissalVictimsUptoRow.holds Tryd.pinned (OpenSpec.upto dismissalVictimsSpec)

end Rows
end Go.Proofs.YtkakhaedipjodaaDoor
