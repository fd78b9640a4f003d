/-
  NARROWER THAN 'FOR EVERY INPUT', by the rows' own cells (each row's printed sentence says how): SquadChecks: laid · SquadPairs: laid · SquadTexts: laid · SquadParses: laid · SquadBack: laid · SquadAgain: laid · SquadFinds: laid.
  DERIVED. THE GIVEN ROWS OF THIS SEAT. 7 by the template 'for every input the law returns true; each argument reads behind the call as it read before'; 0 by the template 'total and deterministic' (their statements: YtaijjnafanmcnaaDoorTotals.lean).
  GIVEN WITH THE SEED: the statements are not yours to turn. If you find one false, say at which input.
  Laid BY PROGRAM, IN A SANDBOX (cutbox-rows.mjs): the forced cells as the released guide's own fill.sh prints them over the translation 3133aa9997079580… (all of the seat's roots in one cut). By AI agents, Wed Nov 11 2026. No macro, syntax, notation, axiom, sorry.
-/
import Derived.Test.YtaijjnafanmcnaaDoorChecked
import GoSem.PinnedTables
import GoSem.Claim
import GoSem.ClaimJoined
import GoSem.ClaimMapViews
import Derived.JoinedTies
import Derived.KernelRfl
namespace Go.Proofs.YtaijjnafanmcnaaDoor
/- THE CELL 'sum', in the pinned program and in every row, IS THE sha256 OF THE DUMP (.gsa) THAT YtaijjnafanmcnaaDoorProg.lean LOADS. Nothing in Lean hashes anything: it is a label: what it is worth is what the hold of that sum in a sandbox is worth. -/
noncomputable def Tryd.pinned : Pinned := { name := "ytaijjnafanmcnaadoor", sum := "3133aa999707958082bf95491af77024ffb02da90c87f191ae91700c7df48b54", checked := Tryd.checked }
namespace Rows
def none {H : Type} : Left H := { results := [], args := [] }

/- WHAT THE LISTED PACKAGE-LEVEL VARIABLES READ AS WHEN THE CALL BEGINS. Each datum BY PROGRAM (the guide's laid-datum.mjs) off the statement by which the dump's own 'gosem.cut.vars' lays the variable. In a bare row this is a premise. The card (YtaijjnafanmcnaaDoorCards.lean) ties it to the program's text. -/
def laid_unicode_utf8_acceptRanges {H : Type} : DataW H := .agg [.agg [.lit (.int .u8 128), .lit (.int .u8 191)], .agg [.lit (.int .u8 160), .lit (.int .u8 191)], .agg [.lit (.int .u8 128), .lit (.int .u8 159)], .agg [.lit (.int .u8 144), .lit (.int .u8 191)], .agg [.lit (.int .u8 128), .lit (.int .u8 143)], .agg [.lit (.int .u8 0), .lit (.int .u8 0)], .agg [.lit (.int .u8 0), .lit (.int .u8 0)], .agg [.lit (.int .u8 0), .lit (.int .u8 0)], .agg [.lit (.int .u8 0), .lit (.int .u8 0)], .agg [.lit (.int .u8 0), .lit (.int .u8 0)], .agg [.lit (.int .u8 0), .lit (.int .u8 0)], .agg [.lit (.int .u8 0), .lit (.int .u8 0)], .agg [.lit (.int .u8 0), .lit (.int .u8 0)], .agg [.lit (.int .u8 0), .lit (.int .u8 0)], .agg [.lit (.int .u8 0), .lit (.int .u8 0)], .agg [.lit (.int .u8 0), .lit (.int .u8 0)]]
/-- One of Go's own tables, pinned by name: the form's constant. -/
def laid_unicode_utf8_first : DataW Unit := Go.Pinned.utf8First

/-- 'scorebooklaw06.SquadChecks': WHATEVER THE INPUT: true; the input reads as it did. -/
def squadChecksSpec : ChangeSpec := { name := "squadChecks", fn := fun _ => fun
  | [d1, d2, d3] => { results := [.lit (.bool true)], args := [d1, d2, d3] }
  | _ => none }
def squadChecksRow : OpenClaim := { program := "ytaijjnafanmcnaadoor", sum := "3133aa999707958082bf95491af77024ffb02da90c87f191ae91700c7df48b54", func := "scorebook/scorebooklaw06.SquadChecks", spec := "squadChecks", inPlace := ["internal/abi.NoEscape", "internal/bytealg.CountString", "internal/bytealg.IndexByteString", "internal/bytealg.IndexString", "internal/bytealg.MakeNoZero"], named := ["internal/bytealg.MaxLen", "unicode/utf8.first", "unicode/utf8.acceptRanges"], apart := false, laid := [("unicode/utf8.acceptRanges", laid_unicode_utf8_acceptRanges), ("unicode/utf8.first", laid_unicode_utf8_first)] }
def SquadChecksSaid : Prop := squadChecksRow.holds Tryd.pinned (OpenSpec.ofChange squadChecksSpec)

/-- ITS FALSE NEIGHBOUR: 'it returns false'. Refute it at one input. -/
def squadChecksWrong : ChangeSpec := { name := "squadChecks", fn := fun _ => fun
  | [d1, d2, d3] => { results := [.lit (.bool false)], args := [d1, d2, d3] }
  | _ => none }
def SquadChecksWrongFalsely : Prop := squadChecksRow.holds Tryd.pinned (OpenSpec.ofChange squadChecksWrong)

/-- 'scorebooklaw06.SquadPairs': WHATEVER THE INPUT: true; the input reads as it did. -/
def squadPairsSpec : ChangeSpec := { name := "squadPairs", fn := fun _ => fun
  | [d1, d2, d3] => { results := [.lit (.bool true)], args := [d1, d2, d3] }
  | _ => none }
def squadPairsRow : OpenClaim := { program := "ytaijjnafanmcnaadoor", sum := "3133aa999707958082bf95491af77024ffb02da90c87f191ae91700c7df48b54", func := "scorebook/scorebooklaw06.SquadPairs", spec := "squadPairs", inPlace := ["internal/abi.NoEscape", "internal/bytealg.CountString", "internal/bytealg.IndexByteString", "internal/bytealg.IndexString", "internal/bytealg.MakeNoZero"], unfollowed := true, recurses := true, named := ["internal/bytealg.MaxLen", "unicode/utf8.first", "unicode/utf8.acceptRanges"], apart := false, laid := [("unicode/utf8.acceptRanges", laid_unicode_utf8_acceptRanges), ("unicode/utf8.first", laid_unicode_utf8_first)] }
def SquadPairsSaid : Prop := squadPairsRow.holds Tryd.pinned (OpenSpec.ofChange squadPairsSpec)

/-- ITS FALSE NEIGHBOUR: 'it returns false'. Refute it at one input. -/
def squadPairsWrong : ChangeSpec := { name := "squadPairs", fn := fun _ => fun
  | [d1, d2, d3] => { results := [.lit (.bool false)], args := [d1, d2, d3] }
  | _ => none }
def SquadPairsWrongFalsely : Prop := squadPairsRow.holds Tryd.pinned (OpenSpec.ofChange squadPairsWrong)

/-- 'scorebooklaw06.SquadTexts': WHATEVER THE INPUT: true; the input reads as it did. -/
def squadTextsSpec : ChangeSpec := { name := "squadTexts", fn := fun _ => fun
  | [d] => { results := [.lit (.bool true)], args := [d] }
  | _ => none }
def squadTextsRow : OpenClaim := { program := "ytaijjnafanmcnaadoor", sum := "3133aa999707958082bf95491af77024ffb02da90c87f191ae91700c7df48b54", func := "scorebook/scorebooklaw06.SquadTexts", spec := "squadTexts", inPlace := ["internal/abi.NoEscape", "internal/bytealg.CountString", "internal/bytealg.IndexByteString", "internal/bytealg.IndexString", "internal/bytealg.MakeNoZero"], named := ["internal/bytealg.MaxLen", "unicode/utf8.first", "unicode/utf8.acceptRanges"], apart := false, laid := [("unicode/utf8.acceptRanges", laid_unicode_utf8_acceptRanges), ("unicode/utf8.first", laid_unicode_utf8_first)] }
def SquadTextsSaid : Prop := squadTextsRow.holds Tryd.pinned (OpenSpec.ofChange squadTextsSpec)

/-- ITS FALSE NEIGHBOUR: 'it returns false'. Refute it at one input. -/
def squadTextsWrong : ChangeSpec := { name := "squadTexts", fn := fun _ => fun
  | [d] => { results := [.lit (.bool false)], args := [d] }
  | _ => none }
def SquadTextsWrongFalsely : Prop := squadTextsRow.holds Tryd.pinned (OpenSpec.ofChange squadTextsWrong)

/-- 'scorebooklaw06.SquadParses': WHATEVER THE INPUT: true; the input reads as it did. -/
def squadParsesSpec : ChangeSpec := { name := "squadParses", fn := fun _ => fun
  | [d] => { results := [.lit (.bool true)], args := [d] }
  | _ => none }
def squadParsesRow : OpenClaim := { program := "ytaijjnafanmcnaadoor", sum := "3133aa999707958082bf95491af77024ffb02da90c87f191ae91700c7df48b54", func := "scorebook/scorebooklaw06.SquadParses", spec := "squadParses", inPlace := ["internal/abi.NoEscape", "internal/bytealg.CountString", "internal/bytealg.IndexByteString", "internal/bytealg.IndexString", "internal/bytealg.MakeNoZero"], named := ["internal/bytealg.MaxLen", "unicode/utf8.first", "unicode/utf8.acceptRanges"], apart := false, laid := [("unicode/utf8.acceptRanges", laid_unicode_utf8_acceptRanges), ("unicode/utf8.first", laid_unicode_utf8_first)] }
def SquadParsesSaid : Prop := squadParsesRow.holds Tryd.pinned (OpenSpec.ofChange squadParsesSpec)

/-- ITS FALSE NEIGHBOUR: 'it returns false'. Refute it at one input. -/
def squadParsesWrong : ChangeSpec := { name := "squadParses", fn := fun _ => fun
  | [d] => { results := [.lit (.bool false)], args := [d] }
  | _ => none }
def SquadParsesWrongFalsely : Prop := squadParsesRow.holds Tryd.pinned (OpenSpec.ofChange squadParsesWrong)

/-- 'scorebooklaw06.SquadBack': WHATEVER THE INPUT: true; the input reads as it did. -/
def squadBackSpec : ChangeSpec := { name := "squadBack", fn := fun _ => fun
  | [d] => { results := [.lit (.bool true)], args := [d] }
  | _ => none }
def squadBackRow : OpenClaim := { program := "ytaijjnafanmcnaadoor", sum := "3133aa999707958082bf95491af77024ffb02da90c87f191ae91700c7df48b54", func := "scorebook/scorebooklaw06.SquadBack", spec := "squadBack", inPlace := ["internal/abi.NoEscape", "internal/bytealg.CountString", "internal/bytealg.IndexByteString", "internal/bytealg.IndexString", "internal/bytealg.MakeNoZero"], named := ["internal/bytealg.MaxLen", "unicode/utf8.first", "unicode/utf8.acceptRanges"], apart := false, laid := [("unicode/utf8.acceptRanges", laid_unicode_utf8_acceptRanges), ("unicode/utf8.first", laid_unicode_utf8_first)] }
def SquadBackSaid : Prop := squadBackRow.holds Tryd.pinned (OpenSpec.ofChange squadBackSpec)

/-- ITS FALSE NEIGHBOUR: 'it returns false'. Refute it at one input. -/
def squadBackWrong : ChangeSpec := { name := "squadBack", fn := fun _ => fun
  | [d] => { results := [.lit (.bool false)], args := [d] }
  | _ => none }
def SquadBackWrongFalsely : Prop := squadBackRow.holds Tryd.pinned (OpenSpec.ofChange squadBackWrong)

/-- 'scorebooklaw06.SquadAgain': WHATEVER THE INPUT: true; the input reads as it did. -/
def squadAgainSpec : ChangeSpec := { name := "squadAgain", fn := fun _ => fun
  | [d] => { results := [.lit (.bool true)], args := [d] }
  | _ => none }
def squadAgainRow : OpenClaim := { program := "ytaijjnafanmcnaadoor", sum := "3133aa999707958082bf95491af77024ffb02da90c87f191ae91700c7df48b54", func := "scorebook/scorebooklaw06.SquadAgain", spec := "squadAgain", inPlace := ["internal/abi.NoEscape", "internal/bytealg.CountString", "internal/bytealg.IndexByteString", "internal/bytealg.IndexString", "internal/bytealg.MakeNoZero"], named := ["internal/bytealg.MaxLen", "unicode/utf8.first", "unicode/utf8.acceptRanges"], apart := false, laid := [("unicode/utf8.acceptRanges", laid_unicode_utf8_acceptRanges), ("unicode/utf8.first", laid_unicode_utf8_first)] }
def SquadAgainSaid : Prop := squadAgainRow.holds Tryd.pinned (OpenSpec.ofChange squadAgainSpec)

/-- ITS FALSE NEIGHBOUR: 'it returns false'. Refute it at one input. -/
def squadAgainWrong : ChangeSpec := { name := "squadAgain", fn := fun _ => fun
  | [d] => { results := [.lit (.bool false)], args := [d] }
  | _ => none }
def SquadAgainWrongFalsely : Prop := squadAgainRow.holds Tryd.pinned (OpenSpec.ofChange squadAgainWrong)

/-- 'scorebooklaw06.SquadFinds': WHATEVER THE INPUT: true; the input reads as it did. -/
def squadFindsSpec : ChangeSpec := { name := "squadFinds", fn := fun _ => fun
  | [d1, d2] => { results := [.lit (.bool true)], args := [d1, d2] }
  | _ => none }
def squadFindsRow : OpenClaim := { program := "ytaijjnafanmcnaadoor", sum := "3133aa999707958082bf95491af77024ffb02da90c87f191ae91700c7df48b54", func := "scorebook/scorebooklaw06.SquadFinds", spec := "squadFinds", inPlace := ["internal/abi.NoEscape", "internal/bytealg.CountString", "internal/bytealg.IndexByteString", "internal/bytealg.IndexString", "internal/bytealg.MakeNoZero"], named := ["internal/bytealg.MaxLen", "unicode/utf8.first", "unicode/utf8.acceptRanges"], apart := false, laid := [("unicode/utf8.acceptRanges", laid_unicode_utf8_acceptRanges), ("unicode/utf8.first", laid_unicode_utf8_first)] }
def SquadFindsSaid : Prop := squadFindsRow.holds Tryd.pinned (OpenSpec.ofChange squadFindsSpec)

/-- ITS FALSE NEIGHBOUR: 'it returns false'. Refute it at one input. -/
def squadFindsWrong : ChangeSpec := { name := "squadFinds", fn := fun _ => fun
  | [d1, d2] => { results := [.lit (.bool false)], args := [d1, d2] }
  | _ => none }
def SquadFindsWrongFalsely : Prop := squadFindsRow.holds Tryd.pinned (OpenSpec.ofChange squadFindsWrong)

/- THE SECOND FORM. 'bulk': how many values and letters a reading holds, each counted each time it is reached (what is shared counts as often as it is met; a slice's spare places count too). A statement '..UptoSaid' is the law's where the arguments, and the package variables that the reading takes, are together of bulk at most 1048576: NARROWER than '..Said'. Prove '..Said' where nothing that the law and all that it calls make is longer than what came in: it says more and counts as full. Else prove '..UptoSaid'. A law counts once. -/
mutual
def uptoBulk {H : Type} : DataW H → Nat
  | .lit (.string bytes) => bytes.length + 1
  | .lit _ => 1
  | .nil => 1
  | .ptr d => uptoBulk d + 1
  | .slice elems spare => uptoBulkAll elems + uptoBulkAll spare + 1
  | .agg parts => uptoBulkAll parts + 1
  | .iface _ d => uptoBulk d + 1
  | .map entries => uptoBulkEntries entries + 1
  | .held _ => 1
def uptoBulkAll {H : Type} : List (DataW H) → Nat
  | [] => 0
  | d :: r => uptoBulk d + uptoBulkAll r
def uptoBulkEntries {H : Type} : List (Lit × DataW H) → Nat
  | [] => 0
  | x :: r => uptoBulkEntry x + uptoBulkEntries r
def uptoBulkEntry {H : Type} : Lit × DataW H → Nat
  | (.string bytes, d) => bytes.length + uptoBulk d + 1
  | (_, d) => uptoBulk d + 1
 end
def uptoSmall : (H : Type) → List (DataW H) → Bool := fun _ ds => decide (uptoBulkAll ds ≤ 1048576)
def OpenSpec.upto (s : _root_.Go.ChangeSpec) : _root_.Go.OpenSpec := { _root_.Go.OpenSpec.ofChange s with cond := some uptoSmall }

/-- 'scorebooklaw06.SquadChecks', WHERE WHAT IT READS IS OF BULK AT MOST 1048576: true; the input reads as it did. -/
def squadChecksUptoRow : OpenClaim := { program := "ytaijjnafanmcnaadoor", sum := "3133aa999707958082bf95491af77024ffb02da90c87f191ae91700c7df48b54", func := "scorebook/scorebooklaw06.SquadChecks", spec := "squadChecks", inPlace := ["internal/abi.NoEscape", "internal/bytealg.CountString", "internal/bytealg.IndexByteString", "internal/bytealg.IndexString", "internal/bytealg.MakeNoZero"], named := ["internal/bytealg.MaxLen", "unicode/utf8.first", "unicode/utf8.acceptRanges"], apart := false, laid := [("unicode/utf8.acceptRanges", laid_unicode_utf8_acceptRanges), ("unicode/utf8.first", laid_unicode_utf8_first)], narrowed := true }
def SquadChecksUptoSaid : Prop := squadChecksUptoRow.holds Tryd.pinned (OpenSpec.upto squadChecksSpec)

/-- 'scorebooklaw06.SquadPairs', WHERE WHAT IT READS IS OF BULK AT MOST 1048576: true; the input reads as it did. -/
def squadPairsUptoRow : OpenClaim := { program := "ytaijjnafanmcnaadoor", sum := "3133aa999707958082bf95491af77024ffb02da90c87f191ae91700c7df48b54", func := "scorebook/scorebooklaw06.SquadPairs", spec := "squadPairs", inPlace := ["internal/abi.NoEscape", "internal/bytealg.CountString", "internal/bytealg.IndexByteString", "internal/bytealg.IndexString", "internal/bytealg.MakeNoZero"], unfollowed := true, recurses := true, named := ["internal/bytealg.MaxLen", "unicode/utf8.first", "unicode/utf8.acceptRanges"], apart := false, laid := [("unicode/utf8.acceptRanges", laid_unicode_utf8_acceptRanges), ("unicode/utf8.first", laid_unicode_utf8_first)], narrowed := true }
def SquadPairsUptoSaid : Prop := squadPairsUptoRow.holds Tryd.pinned (OpenSpec.upto squadPairsSpec)

/-- 'scorebooklaw06.SquadTexts', WHERE WHAT IT READS IS OF BULK AT MOST 1048576: true; the input reads as it did. -/
def squadTextsUptoRow : OpenClaim := { program := "ytaijjnafanmcnaadoor", sum := "3133aa999707958082bf95491af77024ffb02da90c87f191ae91700c7df48b54", func := "scorebook/scorebooklaw06.SquadTexts", spec := "squadTexts", inPlace := ["internal/abi.NoEscape", "internal/bytealg.CountString", "internal/bytealg.IndexByteString", "internal/bytealg.IndexString", "internal/bytealg.MakeNoZero"], named := ["internal/bytealg.MaxLen", "unicode/utf8.first", "unicode/utf8.acceptRanges"], apart := false, laid := [("unicode/utf8.acceptRanges", laid_unicode_utf8_acceptRanges), ("unicode/utf8.first", laid_unicode_utf8_first)], narrowed := true }
def SquadTextsUptoSaid : Prop := squadTextsUptoRow.holds Tryd.pinned (OpenSpec.upto squadTextsSpec)

/-- 'scorebooklaw06.SquadParses', WHERE WHAT IT READS IS OF BULK AT MOST 1048576: true; the input reads as it did. -/
def squadParsesUptoRow : OpenClaim := { program := "ytaijjnafanmcnaadoor", sum := "3133aa999707958082bf95491af77024ffb02da90c87f191ae91700c7df48b54", func := "scorebook/scorebooklaw06.SquadParses", spec := "squadParses", inPlace := ["internal/abi.NoEscape", "internal/bytealg.CountString", "internal/bytealg.IndexByteString", "internal/bytealg.IndexString", "internal/bytealg.MakeNoZero"], named := ["internal/bytealg.MaxLen", "unicode/utf8.first", "unicode/utf8.acceptRanges"], apart := false, laid := [("unicode/utf8.acceptRanges", laid_unicode_utf8_acceptRanges), ("unicode/utf8.first", laid_unicode_utf8_first)], narrowed := true }
def SquadParsesUptoSaid : Prop := squadParsesUptoRow.holds Tryd.pinned (OpenSpec.upto squadParsesSpec)

/-- 'scorebooklaw06.SquadBack', WHERE WHAT IT READS IS OF BULK AT MOST 1048576: true; the input reads as it did. -/
def squadBackUptoRow : OpenClaim := { program := "ytaijjnafanmcnaadoor", sum := "3133aa999707958082bf95491af77024ffb02da90c87f191ae91700c7df48b54", func := "scorebook/scorebooklaw06.SquadBack", spec := "squadBack", inPlace := ["internal/abi.NoEscape", "internal/bytealg.CountString", "internal/bytealg.IndexByteString", "internal/bytealg.IndexString", "internal/bytealg.MakeNoZero"], named := ["internal/bytealg.MaxLen", "unicode/utf8.first", "unicode/utf8.acceptRanges"], apart := false, laid := [("unicode/utf8.acceptRanges", laid_unicode_utf8_acceptRanges), ("unicode/utf8.first", laid_unicode_utf8_first)], narrowed := true }
def SquadBackUptoSaid : Prop := squadBackUptoRow.holds Tryd.pinned (OpenSpec.upto squadBackSpec)

/-- 'scorebooklaw06.SquadAgain', WHERE WHAT IT READS IS OF BULK AT MOST 1048576: true; the input reads as it did. -/
def squadAgainUptoRow : OpenClaim := { program := "ytaijjnafanmcnaadoor", sum := "3133aa999707958082bf95491af77024ffb02da90c87f191ae91700c7df48b54", func := "scorebook/scorebooklaw06.SquadAgain", spec := "squadAgain", inPlace := ["internal/abi.NoEscape", "internal/bytealg.CountString", "internal/bytealg.IndexByteString", "internal/bytealg.IndexString", "internal/bytealg.MakeNoZero"], named := ["internal/bytealg.MaxLen", "unicode/utf8.first", "unicode/utf8.acceptRanges"], apart := false, laid := [("unicode/utf8.acceptRanges", laid_unicode_utf8_acceptRanges), ("unicode/utf8.first", laid_unicode_utf8_first)], narrowed := true }
def SquadAgainUptoSaid : Prop := squadAgainUptoRow.holds Tryd.pinned (OpenSpec.upto squadAgainSpec)

/-- 'scorebooklaw06.SquadFinds', WHERE WHAT IT READS IS OF BULK AT MOST 1048576: true; the input reads as it did. -/
def squadFindsUptoRow : OpenClaim := { program := "ytaijjnafanmcnaadoor", sum := "3133aa999707958082bf95491af77024ffb02da90c87f191ae91700c7df48b54", func := "scorebook/scorebooklaw06.SquadFinds", spec := "squadFinds", inPlace := ["internal/abi.NoEscape", "internal/bytealg.CountString", "internal/bytealg.IndexByteString", "internal/bytealg.IndexString", "internal/bytealg.MakeNoZero"], named := ["internal/bytealg.MaxLen", "unicode/utf8.first", "unicode/utf8.acceptRanges"], apart := false, laid := [("unicode/utf8.acceptRanges", laid_unicode_utf8_acceptRanges), ("unicode/utf8.first", laid_unicode_utf8_first)], narrowed := true }
def SquadFindsUptoSaid : Prop := squadFindsUptoRow.holds Tryd.pinned (OpenSpec.upto squadFindsSpec)

end Rows
end Go.Proofs.YtaijjnafanmcnaaDoor
