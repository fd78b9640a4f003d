/-
  NARROWER THAN 'FOR EVERY INPUT', by the rows' own cells (each row's printed sentence says how): InningsValid: laid · InningsBegins: laid · InningsSteps: laid · InningsRefuses: laid · InningsScores: laid · InningsEnds: laid.
  DERIVED. THE GIVEN ROWS OF THIS SEAT. 6 by the template 'for every input the law returns true; each argument reads behind the call as it read before'; 0 by the template 'total and deterministic' (their statements: YtnhlpgdadbjmoaaGreatDoorTotals.lean).
  GIVEN WITH THE SEED: the statements are not yours to turn. If you find one false, say at which input.
  Laid BY PROGRAM, IN A SANDBOX (cutbox-rows.mjs): the forced cells as the released guide's own fill.sh prints them over the translation ed6d11ad9b743e64… (all of the seat's roots in one cut). By AI agents, Wed Nov 11 2026. No macro, syntax, notation, axiom, sorry.
-/
import Derived.Test.YtnhlpgdadbjmoaaGreatDoorChecked
import GoSem.Claim
import GoSem.ClaimJoined
import GoSem.ClaimMapViews
import Derived.JoinedTies
import Derived.KernelRfl
namespace Go.Proofs.YtnhlpgdadbjmoaaGreatDoor
/- THE CELL 'sum', in the pinned program and in every row, IS THE sha256 OF THE DUMP (.gsa) THAT YtnhlpgdadbjmoaaGreatDoorProg.lean LOADS. Nothing in Lean hashes anything: it is a label: what it is worth is what the hold of that sum in a sandbox is worth. -/
noncomputable def Tryz.pinned : Pinned := { name := "ytnhlpgdadbjmoaagreatdoor", sum := "ed6d11ad9b743e640cd9d56809ae91dc060c1a9740284c076a37cc0d420439fd", checked := Tryz.checked }
namespace Rows
def none {H : Type} : Left H := { results := [], args := [] }

/- WHAT THE LISTED PACKAGE-LEVEL VARIABLES READ AS WHEN THE CALL BEGINS. Each datum BY PROGRAM (the guide's laid-datum.mjs) off the statement by which the dump's own 'gosem.cut.vars' lays the variable. In a bare row this is a premise. The card (YtnhlpgdadbjmoaaGreatDoorCards.lean) ties it to the program's text. -/
def laid_scorebook_dismissal_ways {H : Type} : DataW H := .agg [.agg [.lit (.string [78, 79, 84, 79, 85, 84]), .lit (.bool false), .lit (.bool false), .lit (.bool false), .lit (.bool false)], .agg [.lit (.string [66, 79, 87, 76, 69, 68]), .lit (.bool true), .lit (.bool false), .lit (.bool false), .lit (.bool false)], .agg [.lit (.string [67, 65, 85, 71, 72, 84]), .lit (.bool true), .lit (.bool false), .lit (.bool false), .lit (.bool true)], .agg [.lit (.string [76, 66, 87]), .lit (.bool true), .lit (.bool false), .lit (.bool false), .lit (.bool false)], .agg [.lit (.string [83, 84, 85, 77, 80, 69, 68]), .lit (.bool true), .lit (.bool true), .lit (.bool false), .lit (.bool true)], .agg [.lit (.string [72, 73, 84, 87, 73, 67, 75, 69, 84]), .lit (.bool true), .lit (.bool true), .lit (.bool false), .lit (.bool false)], .agg [.lit (.string [82, 85, 78, 79, 85, 84]), .lit (.bool true), .lit (.bool true), .lit (.bool true), .lit (.bool true)], .agg [.lit (.string [72, 73, 84, 84, 87, 73, 67, 69]), .lit (.bool true), .lit (.bool false), .lit (.bool true), .lit (.bool false)], .agg [.lit (.string [79, 66, 83, 84, 82, 85, 67, 84, 73, 78, 71]), .lit (.bool true), .lit (.bool true), .lit (.bool true), .lit (.bool false)], .agg [.lit (.string [84, 73, 77, 69, 68, 79, 85, 84]), .lit (.bool false), .lit (.bool false), .lit (.bool false), .lit (.bool false)], .agg [.lit (.string [82, 69, 84, 73, 82, 69, 68]), .lit (.bool false), .lit (.bool false), .lit (.bool false), .lit (.bool false)]]
def laid_scorebook_event_forms {H : Type} : DataW H := .agg [.agg [.lit (.int .u8 1), .lit (.bool true), .lit (.string [84, 79, 83, 83]), .lit (.string [66, 65, 84])], .agg [.lit (.int .u8 1), .lit (.bool false), .lit (.string [84, 79, 83, 83]), .lit (.string [70, 73, 69, 76, 68])], .agg [.lit (.int .u8 2), .lit (.bool false), .lit (.string [79, 80, 69, 78]), .lit (.string [])], .agg [.lit (.int .u8 3), .lit (.bool false), .lit (.string [66, 79, 87, 76]), .lit (.string [])], .agg [.lit (.int .u8 4), .lit (.bool false), .lit (.string [66, 65, 76, 76]), .lit (.string [])], .agg [.lit (.int .u8 5), .lit (.bool false), .lit (.string [69, 78, 84, 69, 82]), .lit (.string [])], .agg [.lit (.int .u8 5), .lit (.bool true), .lit (.string [84, 73, 77, 69, 79, 85, 84]), .lit (.string [])], .agg [.lit (.int .u8 6), .lit (.bool true), .lit (.string [82, 69, 84, 73, 82, 69]), .lit (.string [72, 85, 82, 84])], .agg [.lit (.int .u8 6), .lit (.bool false), .lit (.string [82, 69, 84, 73, 82, 69]), .lit (.string [79, 85, 84])], .agg [.lit (.int .u8 7), .lit (.bool false), .lit (.string [70, 73, 69, 76, 68]), .lit (.string [])], .agg [.lit (.int .u8 8), .lit (.bool false), .lit (.string [75, 69, 69, 80, 69, 82]), .lit (.string [])], .agg [.lit (.int .u8 9), .lit (.bool true), .lit (.string [83, 85, 66]), .lit (.string [79, 78])], .agg [.lit (.int .u8 9), .lit (.bool false), .lit (.string [83, 85, 66]), .lit (.string [79, 70, 70])], .agg [.lit (.int .u8 10), .lit (.bool false), .lit (.string [78, 69, 87, 66, 65, 76, 76]), .lit (.string [])], .agg [.lit (.int .u8 11), .lit (.bool false), .lit (.string [68, 69, 67, 76, 65, 82, 69]), .lit (.string [])], .agg [.lit (.int .u8 12), .lit (.bool true), .lit (.string [70, 79, 76, 76, 79, 87]), .lit (.string [89, 69, 83])], .agg [.lit (.int .u8 12), .lit (.bool false), .lit (.string [70, 79, 76, 76, 79, 87]), .lit (.string [78, 79])], .agg [.lit (.int .u8 13), .lit (.bool false), .lit (.string [80, 69, 78, 65, 76, 84, 89]), .lit (.string [])], .agg [.lit (.int .u8 14), .lit (.bool true), .lit (.string [82, 69, 86, 73, 69, 87]), .lit (.string [75, 69, 80, 84])], .agg [.lit (.int .u8 14), .lit (.bool false), .lit (.string [82, 69, 86, 73, 69, 87]), .lit (.string [76, 79, 83, 84])], .agg [.lit (.int .u8 15), .lit (.bool false), .lit (.string [82, 69, 86, 73, 83, 69]), .lit (.string [])], .agg [.lit (.int .u8 16), .lit (.bool false), .lit (.string [83, 84, 79, 80]), .lit (.string [])]]

/-- 'scorebooklaw14.InningsValid': WHATEVER THE INPUT: true; the input reads as it did. -/
def inningsValidSpec : ChangeSpec := { name := "inningsValid", fn := fun _ => fun
  | [d1, d2] => { results := [.lit (.bool true)], args := [d1, d2] }
  | _ => none }
def inningsValidRow : OpenClaim := { program := "ytnhlpgdadbjmoaagreatdoor", sum := "ed6d11ad9b743e640cd9d56809ae91dc060c1a9740284c076a37cc0d420439fd", func := "scorebook/scorebooklaw14.InningsValid", spec := "inningsValid", unfollowed := true, recurses := true, named := ["scorebook/event.forms", "scorebook/dismissal.ways"], apart := false, laid := [("scorebook/dismissal.ways", laid_scorebook_dismissal_ways), ("scorebook/event.forms", laid_scorebook_event_forms)] }
def InningsValidSaid : Prop := inningsValidRow.holds Tryz.pinned (OpenSpec.ofChange inningsValidSpec)

/-- ITS FALSE NEIGHBOUR: 'it returns false'. Refute it at one input. -/
def inningsValidWrong : ChangeSpec := { name := "inningsValid", fn := fun _ => fun
  | [d1, d2] => { results := [.lit (.bool false)], args := [d1, d2] }
  | _ => none }
def InningsValidWrongFalsely : Prop := inningsValidRow.holds Tryz.pinned (OpenSpec.ofChange inningsValidWrong)

/-- 'scorebooklaw14.InningsBegins': WHATEVER THE INPUT: true; the input reads as it did. -/
def inningsBeginsSpec : ChangeSpec := { name := "inningsBegins", fn := fun _ => fun
  | [d1, d2, d3] => { results := [.lit (.bool true)], args := [d1, d2, d3] }
  | _ => none }
def inningsBeginsRow : OpenClaim := { program := "ytnhlpgdadbjmoaagreatdoor", sum := "ed6d11ad9b743e640cd9d56809ae91dc060c1a9740284c076a37cc0d420439fd", func := "scorebook/scorebooklaw14.InningsBegins", spec := "inningsBegins", unfollowed := true, recurses := true, named := ["scorebook/event.forms", "scorebook/dismissal.ways"], apart := false, laid := [("scorebook/dismissal.ways", laid_scorebook_dismissal_ways), ("scorebook/event.forms", laid_scorebook_event_forms)] }
def InningsBeginsSaid : Prop := inningsBeginsRow.holds Tryz.pinned (OpenSpec.ofChange inningsBeginsSpec)

/-- ITS FALSE NEIGHBOUR: 'it returns false'. Refute it at one input. -/
def inningsBeginsWrong : ChangeSpec := { name := "inningsBegins", fn := fun _ => fun
  | [d1, d2, d3] => { results := [.lit (.bool false)], args := [d1, d2, d3] }
  | _ => none }
def InningsBeginsWrongFalsely : Prop := inningsBeginsRow.holds Tryz.pinned (OpenSpec.ofChange inningsBeginsWrong)

/-- 'scorebooklaw14.InningsSteps': WHATEVER THE INPUT: true; the input reads as it did. -/
def inningsStepsSpec : ChangeSpec := { name := "inningsSteps", fn := fun _ => fun
  | [d1, d2, d3] => { results := [.lit (.bool true)], args := [d1, d2, d3] }
  | _ => none }
def inningsStepsRow : OpenClaim := { program := "ytnhlpgdadbjmoaagreatdoor", sum := "ed6d11ad9b743e640cd9d56809ae91dc060c1a9740284c076a37cc0d420439fd", func := "scorebook/scorebooklaw14.InningsSteps", spec := "inningsSteps", unfollowed := true, recurses := true, named := ["scorebook/event.forms", "scorebook/dismissal.ways"], apart := false, laid := [("scorebook/dismissal.ways", laid_scorebook_dismissal_ways), ("scorebook/event.forms", laid_scorebook_event_forms)] }
def InningsStepsSaid : Prop := inningsStepsRow.holds Tryz.pinned (OpenSpec.ofChange inningsStepsSpec)

/-- ITS FALSE NEIGHBOUR: 'it returns false'. Refute it at one input. -/
def inningsStepsWrong : ChangeSpec := { name := "inningsSteps", fn := fun _ => fun
  | [d1, d2, d3] => { results := [.lit (.bool false)], args := [d1, d2, d3] }
  | _ => none }
def InningsStepsWrongFalsely : Prop := inningsStepsRow.holds Tryz.pinned (OpenSpec.ofChange inningsStepsWrong)

/-- 'scorebooklaw14.InningsRefuses': WHATEVER THE INPUT: true; the input reads as it did. -/
def inningsRefusesSpec : ChangeSpec := { name := "inningsRefuses", fn := fun _ => fun
  | [d1, d2, d3] => { results := [.lit (.bool true)], args := [d1, d2, d3] }
  | _ => none }
def inningsRefusesRow : OpenClaim := { program := "ytnhlpgdadbjmoaagreatdoor", sum := "ed6d11ad9b743e640cd9d56809ae91dc060c1a9740284c076a37cc0d420439fd", func := "scorebook/scorebooklaw14.InningsRefuses", spec := "inningsRefuses", unfollowed := true, recurses := true, named := ["scorebook/event.forms", "scorebook/dismissal.ways"], apart := false, laid := [("scorebook/dismissal.ways", laid_scorebook_dismissal_ways), ("scorebook/event.forms", laid_scorebook_event_forms)] }
def InningsRefusesSaid : Prop := inningsRefusesRow.holds Tryz.pinned (OpenSpec.ofChange inningsRefusesSpec)

/-- ITS FALSE NEIGHBOUR: 'it returns false'. Refute it at one input. -/
def inningsRefusesWrong : ChangeSpec := { name := "inningsRefuses", fn := fun _ => fun
  | [d1, d2, d3] => { results := [.lit (.bool false)], args := [d1, d2, d3] }
  | _ => none }
def InningsRefusesWrongFalsely : Prop := inningsRefusesRow.holds Tryz.pinned (OpenSpec.ofChange inningsRefusesWrong)

/-- 'scorebooklaw14.InningsScores': WHATEVER THE INPUT: true; the input reads as it did. -/
def inningsScoresSpec : ChangeSpec := { name := "inningsScores", fn := fun _ => fun
  | [d1, d2, d3] => { results := [.lit (.bool true)], args := [d1, d2, d3] }
  | _ => none }
def inningsScoresRow : OpenClaim := { program := "ytnhlpgdadbjmoaagreatdoor", sum := "ed6d11ad9b743e640cd9d56809ae91dc060c1a9740284c076a37cc0d420439fd", func := "scorebook/scorebooklaw14.InningsScores", spec := "inningsScores", unfollowed := true, recurses := true, named := ["scorebook/event.forms", "scorebook/dismissal.ways"], apart := false, laid := [("scorebook/dismissal.ways", laid_scorebook_dismissal_ways), ("scorebook/event.forms", laid_scorebook_event_forms)] }
def InningsScoresSaid : Prop := inningsScoresRow.holds Tryz.pinned (OpenSpec.ofChange inningsScoresSpec)

/-- ITS FALSE NEIGHBOUR: 'it returns false'. Refute it at one input. -/
def inningsScoresWrong : ChangeSpec := { name := "inningsScores", fn := fun _ => fun
  | [d1, d2, d3] => { results := [.lit (.bool false)], args := [d1, d2, d3] }
  | _ => none }
def InningsScoresWrongFalsely : Prop := inningsScoresRow.holds Tryz.pinned (OpenSpec.ofChange inningsScoresWrong)

/-- 'scorebooklaw14.InningsEnds': WHATEVER THE INPUT: true; the input reads as it did. -/
def inningsEndsSpec : ChangeSpec := { name := "inningsEnds", fn := fun _ => fun
  | [d1, d2, d3] => { results := [.lit (.bool true)], args := [d1, d2, d3] }
  | _ => none }
def inningsEndsRow : OpenClaim := { program := "ytnhlpgdadbjmoaagreatdoor", sum := "ed6d11ad9b743e640cd9d56809ae91dc060c1a9740284c076a37cc0d420439fd", func := "scorebook/scorebooklaw14.InningsEnds", spec := "inningsEnds", unfollowed := true, recurses := true, named := ["scorebook/event.forms", "scorebook/dismissal.ways"], apart := false, laid := [("scorebook/dismissal.ways", laid_scorebook_dismissal_ways), ("scorebook/event.forms", laid_scorebook_event_forms)] }
def InningsEndsSaid : Prop := inningsEndsRow.holds Tryz.pinned (OpenSpec.ofChange inningsEndsSpec)

/-- ITS FALSE NEIGHBOUR: 'it returns false'. Refute it at one input. -/
def inningsEndsWrong : ChangeSpec := { name := "inningsEnds", fn := fun _ => fun
  | [d1, d2, d3] => { results := [.lit (.bool false)], args := [d1, d2, d3] }
  | _ => none }
def InningsEndsWrongFalsely : Prop := inningsEndsRow.holds Tryz.pinned (OpenSpec.ofChange inningsEndsWrong)

/- THE SECOND FORM. 'bulk': how many values and letters a reading holds, each counted each time it is reached (what is shared counts as often as it is met; a slice's spare places count too). A statement '..UptoSaid' is the law's where the arguments, and the package variables that the reading takes, are together of bulk at most 1048576: NARROWER than '..Said'. Prove '..Said' where nothing that the law and all that it calls make is longer than what came in: it says more and counts as full. Else prove '..UptoSaid'. A law counts once. -/
mutual
def uptoBulk {H : Type} : DataW H → Nat
  | .lit (.string bytes) => bytes.length + 1
  | .lit _ => 1
  | .nil => 1
  | .ptr d => uptoBulk d + 1
  | .slice elems spare => uptoBulkAll elems + uptoBulkAll spare + 1
  | .agg parts => uptoBulkAll parts + 1
  | .iface _ d => uptoBulk d + 1
  | .map entries => uptoBulkEntries entries + 1
  | .held _ => 1
def uptoBulkAll {H : Type} : List (DataW H) → Nat
  | [] => 0
  | d :: r => uptoBulk d + uptoBulkAll r
def uptoBulkEntries {H : Type} : List (Lit × DataW H) → Nat
  | [] => 0
  | x :: r => uptoBulkEntry x + uptoBulkEntries r
def uptoBulkEntry {H : Type} : Lit × DataW H → Nat
  | (.string bytes, d) => bytes.length + uptoBulk d + 1
  | (_, d) => uptoBulk d + 1
 end
def uptoSmall : (H : Type) → List (DataW H) → Bool := fun _ ds => decide (uptoBulkAll ds ≤ 1048576)
def OpenSpec.upto (s : _root_.Go.ChangeSpec) : _root_.Go.OpenSpec := { _root_.Go.OpenSpec.ofChange s with cond := some uptoSmall }

/-- 'scorebooklaw14.InningsValid', WHERE WHAT IT READS IS OF BULK AT MOST 1048576: true; the input reads as it did. -/
def inningsValidUptoRow : OpenClaim := { program := "ytnhlpgdadbjmoaagreatdoor", sum := "ed6d11ad9b743e640cd9d56809ae91dc060c1a9740284c076a37cc0d420439fd", func := "scorebook/scorebooklaw14.InningsValid", spec := "inningsValid", unfollowed := true, recurses := true, named := ["scorebook/event.forms", "scorebook/dismissal.ways"], apart := false, laid := [("scorebook/dismissal.ways", laid_scorebook_dismissal_ways), ("scorebook/event.forms", laid_scorebook_event_forms)], narrowed := true }
def InningsValidUptoSaid : Prop := inningsValidUptoRow.holds Tryz.pinned (OpenSpec.upto inningsValidSpec)

/-- 'scorebooklaw14.InningsBegins', WHERE WHAT IT READS IS OF BULK AT MOST 1048576: true; the input reads as it did. -/
def inningsBeginsUptoRow : OpenClaim := { program := "ytnhlpgdadbjmoaagreatdoor", sum := "ed6d11ad9b743e640cd9d56809ae91dc060c1a9740284c076a37cc0d420439fd", func := "scorebook/scorebooklaw14.InningsBegins", spec := "inningsBegins", unfollowed := true, recurses := true, named := ["scorebook/event.forms", "scorebook/dismissal.ways"], apart := false, laid := [("scorebook/dismissal.ways", laid_scorebook_dismissal_ways), ("scorebook/event.forms", laid_scorebook_event_forms)], narrowed := true }
def InningsBeginsUptoSaid : Prop := inningsBeginsUptoRow.holds Tryz.pinned (OpenSpec.upto inningsBeginsSpec)

/-- 'scorebooklaw14.InningsSteps', WHERE WHAT IT READS IS OF BULK AT MOST 1048576: true; the input reads as it did. -/
def inningsStepsUptoRow : OpenClaim := { program := "ytnhlpgdadbjmoaagreatdoor", sum := "ed6d11ad9b743e640cd9d56809ae91dc060c1a9740284c076a37cc0d420439fd", func := "scorebook/scorebooklaw14.InningsSteps", spec := "inningsSteps", unfollowed := true, recurses := true, named := ["scorebook/event.forms", "scorebook/dismissal.ways"], apart := false, laid := [("scorebook/dismissal.ways", laid_scorebook_dismissal_ways), ("scorebook/event.forms", laid_scorebook_event_forms)], narrowed := true }
def InningsStepsUptoSaid : Prop := inningsStepsUptoRow.holds Tryz.pinned (OpenSpec.upto inningsStepsSpec)

/-- 'scorebooklaw14.InningsRefuses', WHERE WHAT IT READS IS OF BULK AT MOST 1048576: true; the input reads as it did. -/
def inningsRefusesUptoRow : OpenClaim := { program := "ytnhlpgdadbjmoaagreatdoor", sum := "ed6d11ad9b743e640cd9d56809ae91dc060c1a9740284c076a37cc0d420439fd", func := "scorebook/scorebooklaw14.InningsRefuses", spec := "inningsRefuses", unfollowed := true, recurses := true, named := ["scorebook/event.forms", "scorebook/dismissal.ways"], apart := false, laid := [("scorebook/dismissal.ways", laid_scorebook_dismissal_ways), ("scorebook/event.forms", laid_scorebook_event_forms)], narrowed := true }
def InningsRefusesUptoSaid : Prop := inningsRefusesUptoRow.holds Tryz.pinned (OpenSpec.upto inningsRefusesSpec)

/-- 'scorebooklaw14.InningsScores', WHERE WHAT IT READS IS OF BULK AT MOST 1048576: true; the input reads as it did. -/
def inningsScoresUptoRow : OpenClaim := { program := "ytnhlpgdadbjmoaagreatdoor", sum := "ed6d11ad9b743e640cd9d56809ae91dc060c1a9740284c076a37cc0d420439fd", func := "scorebook/scorebooklaw14.InningsScores", spec := "inningsScores", unfollowed := true, recurses := true, named := ["scorebook/event.forms", "scorebook/dismissal.ways"], apart := false, laid := [("scorebook/dismissal.ways", laid_scorebook_dismissal_ways), ("scorebook/event.forms", laid_scorebook_event_forms)], narrowed := true }
def InningsScoresUptoSaid : Prop := inningsScoresUptoRow.holds Tryz.pinned (OpenSpec.upto inningsScoresSpec)

/-- 'scorebooklaw14.InningsEnds', WHERE WHAT IT READS IS OF BULK AT MOST 1048576: true; the input reads as it did. -/
def inningsEndsUptoRow : OpenClaim := { program := "ytnhlpgdadbjmoaagreatdoor", sum := "ed6d11ad9b743e640cd9d56809ae91dc060c1a9740284c076a37cc0d420439fd", func := "scorebook/scorebooklaw14.InningsEnds", spec := "inningsEnds", unfollowed := true, recurses := true, named := ["scorebook/event.forms", "scorebook/dismissal.ways"], apart := false, laid := [("scorebook/dismissal.ways", laid_scorebook_dismissal_ways), ("scorebook/event.forms", laid_scorebook_event_forms)], narrowed := true }
def InningsEndsUptoSaid : Prop := inningsEndsUptoRow.holds Tryz.pinned (OpenSpec.upto inningsEndsSpec)

end Rows
end Go.Proofs.YtnhlpgdadbjmoaaGreatDoor
