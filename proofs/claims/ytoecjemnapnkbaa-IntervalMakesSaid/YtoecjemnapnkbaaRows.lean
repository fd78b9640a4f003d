/-
  No cell of these rows narrows 'for every input' (looked for: loops, veiled, ifaces, maps, wideKeys, modest, calm, conditions, laid).
  DERIVED. THE GIVEN ROWS OF THIS SEAT. 12 by the template 'for every input the law returns true; each argument reads behind the call as it read before'; 0 by the template 'total and deterministic' (their statements: YtoecjemnapnkbaaTotals.lean).
  GIVEN WITH THE SEED: the statements are not yours to turn. If you find one false, say at which input.
  Laid BY PROGRAM, IN A SANDBOX (cutbox-rows.mjs): the forced cells as the released guide's own fill.sh prints them over the translation a75afa8a3be5865d… (all of the seat's roots in one cut). By AI agents, Wed Nov 11 2026. No macro, syntax, notation, axiom, sorry.
-/
import Derived.Test.YtoecjemnapnkbaaChecked
import GoSem.Claim
import GoSem.ClaimJoined
import GoSem.ClaimMapViews
import Derived.JoinedTies
import Derived.KernelRfl
namespace Go.Proofs.Ytoecjemnapnkbaa
/- THE CELL 'sum', in the pinned program and in every row, IS THE sha256 OF THE DUMP (.gsa) THAT YtoecjemnapnkbaaProg.lean LOADS. Nothing in Lean hashes anything: it is a label: what it is worth is what the hold of that sum in a sandbox is worth. -/
noncomputable def Try.pinned : Pinned := { name := "ytoecjemnapnkbaa", sum := "a75afa8a3be5865dc1f9505aa4e01fd941d43df8f359cf6d7a5c8912e6ad5c38", checked := Try.checked }
namespace Rows
def none {H : Type} : Left H := { results := [], args := [] }

/-- 'scorebooklaw29.IntervalMakes': WHATEVER THE INPUT: true; the input reads as it did. -/
def intervalMakesSpec : ChangeSpec := { name := "intervalMakes", fn := fun _ => fun
  | [d1, d2] => { results := [.lit (.bool true)], args := [d1, d2] }
  | _ => none }
def intervalMakesRow : OpenClaim := { program := "ytoecjemnapnkbaa", sum := "a75afa8a3be5865dc1f9505aa4e01fd941d43df8f359cf6d7a5c8912e6ad5c38", func := "scorebook/scorebooklaw29.IntervalMakes", spec := "intervalMakes", inPlace := ["math/bits.Add64"], apart := false }
def IntervalMakesSaid : Prop := intervalMakesRow.holds Try.pinned (OpenSpec.ofChange intervalMakesSpec)

/-- ITS FALSE NEIGHBOUR: 'it returns false'. Refute it at one input. -/
def intervalMakesWrong : ChangeSpec := { name := "intervalMakes", fn := fun _ => fun
  | [d1, d2] => { results := [.lit (.bool false)], args := [d1, d2] }
  | _ => none }
def IntervalMakesWrongFalsely : Prop := intervalMakesRow.holds Try.pinned (OpenSpec.ofChange intervalMakesWrong)

/-- 'scorebooklaw29.IntervalSums': WHATEVER THE INPUT: true; the input reads as it did. -/
def intervalSumsSpec : ChangeSpec := { name := "intervalSums", fn := fun _ => fun
  | [d1, d2] => { results := [.lit (.bool true)], args := [d1, d2] }
  | _ => none }
def intervalSumsRow : OpenClaim := { program := "ytoecjemnapnkbaa", sum := "a75afa8a3be5865dc1f9505aa4e01fd941d43df8f359cf6d7a5c8912e6ad5c38", func := "scorebook/scorebooklaw29.IntervalSums", spec := "intervalSums", inPlace := ["math/bits.Add64"], apart := false }
def IntervalSumsSaid : Prop := intervalSumsRow.holds Try.pinned (OpenSpec.ofChange intervalSumsSpec)

/-- ITS FALSE NEIGHBOUR: 'it returns false'. Refute it at one input. -/
def intervalSumsWrong : ChangeSpec := { name := "intervalSums", fn := fun _ => fun
  | [d1, d2] => { results := [.lit (.bool false)], args := [d1, d2] }
  | _ => none }
def IntervalSumsWrongFalsely : Prop := intervalSumsRow.holds Try.pinned (OpenSpec.ofChange intervalSumsWrong)

/-- 'scorebooklaw29.IntervalScales': WHATEVER THE INPUT: true; the input reads as it did. -/
def intervalScalesSpec : ChangeSpec := { name := "intervalScales", fn := fun _ => fun
  | [d1, d2] => { results := [.lit (.bool true)], args := [d1, d2] }
  | _ => none }
def intervalScalesRow : OpenClaim := { program := "ytoecjemnapnkbaa", sum := "a75afa8a3be5865dc1f9505aa4e01fd941d43df8f359cf6d7a5c8912e6ad5c38", func := "scorebook/scorebooklaw29.IntervalScales", spec := "intervalScales", inPlace := ["math/bits.Add64", "math/bits.Sub64"], apart := false }
def IntervalScalesSaid : Prop := intervalScalesRow.holds Try.pinned (OpenSpec.ofChange intervalScalesSpec)

/-- ITS FALSE NEIGHBOUR: 'it returns false'. Refute it at one input. -/
def intervalScalesWrong : ChangeSpec := { name := "intervalScales", fn := fun _ => fun
  | [d1, d2] => { results := [.lit (.bool false)], args := [d1, d2] }
  | _ => none }
def IntervalScalesWrongFalsely : Prop := intervalScalesRow.holds Try.pinned (OpenSpec.ofChange intervalScalesWrong)

/-- 'scorebooklaw29.IntervalEncloses': WHATEVER THE INPUT: true; the input reads as it did. -/
def intervalEnclosesSpec : ChangeSpec := { name := "intervalEncloses", fn := fun _ => fun
  | [d1, d2, d3] => { results := [.lit (.bool true)], args := [d1, d2, d3] }
  | _ => none }
def intervalEnclosesRow : OpenClaim := { program := "ytoecjemnapnkbaa", sum := "a75afa8a3be5865dc1f9505aa4e01fd941d43df8f359cf6d7a5c8912e6ad5c38", func := "scorebook/scorebooklaw29.IntervalEncloses", spec := "intervalEncloses", inPlace := ["math/bits.Add64", "math/bits.Sub64"], apart := false }
def IntervalEnclosesSaid : Prop := intervalEnclosesRow.holds Try.pinned (OpenSpec.ofChange intervalEnclosesSpec)

/-- ITS FALSE NEIGHBOUR: 'it returns false'. Refute it at one input. -/
def intervalEnclosesWrong : ChangeSpec := { name := "intervalEncloses", fn := fun _ => fun
  | [d1, d2, d3] => { results := [.lit (.bool false)], args := [d1, d2, d3] }
  | _ => none }
def IntervalEnclosesWrongFalsely : Prop := intervalEnclosesRow.holds Try.pinned (OpenSpec.ofChange intervalEnclosesWrong)

/-- 'scorebooklaw29.IntervalTight': WHATEVER THE INPUT: true; the input reads as it did. -/
def intervalTightSpec : ChangeSpec := { name := "intervalTight", fn := fun _ => fun
  | [d1, d2] => { results := [.lit (.bool true)], args := [d1, d2] }
  | _ => none }
def intervalTightRow : OpenClaim := { program := "ytoecjemnapnkbaa", sum := "a75afa8a3be5865dc1f9505aa4e01fd941d43df8f359cf6d7a5c8912e6ad5c38", func := "scorebook/scorebooklaw29.IntervalTight", spec := "intervalTight", inPlace := ["math/bits.Add64"], apart := false }
def IntervalTightSaid : Prop := intervalTightRow.holds Try.pinned (OpenSpec.ofChange intervalTightSpec)

/-- ITS FALSE NEIGHBOUR: 'it returns false'. Refute it at one input. -/
def intervalTightWrong : ChangeSpec := { name := "intervalTight", fn := fun _ => fun
  | [d1, d2] => { results := [.lit (.bool false)], args := [d1, d2] }
  | _ => none }
def IntervalTightWrongFalsely : Prop := intervalTightRow.holds Try.pinned (OpenSpec.ofChange intervalTightWrong)

/-- 'scorebooklaw29.IntervalSets': WHATEVER THE INPUT: true; the input reads as it did. -/
def intervalSetsSpec : ChangeSpec := { name := "intervalSets", fn := fun _ => fun
  | [d1, d2, d3] => { results := [.lit (.bool true)], args := [d1, d2, d3] }
  | _ => none }
def intervalSetsRow : OpenClaim := { program := "ytoecjemnapnkbaa", sum := "a75afa8a3be5865dc1f9505aa4e01fd941d43df8f359cf6d7a5c8912e6ad5c38", func := "scorebook/scorebooklaw29.IntervalSets", spec := "intervalSets", inPlace := ["math/bits.Add64"], apart := false }
def IntervalSetsSaid : Prop := intervalSetsRow.holds Try.pinned (OpenSpec.ofChange intervalSetsSpec)

/-- ITS FALSE NEIGHBOUR: 'it returns false'. Refute it at one input. -/
def intervalSetsWrong : ChangeSpec := { name := "intervalSets", fn := fun _ => fun
  | [d1, d2, d3] => { results := [.lit (.bool false)], args := [d1, d2, d3] }
  | _ => none }
def IntervalSetsWrongFalsely : Prop := intervalSetsRow.holds Try.pinned (OpenSpec.ofChange intervalSetsWrong)

/-- 'scorebooklaw29.IntervalMembers': WHATEVER THE INPUT: true; the input reads as it did. -/
def intervalMembersSpec : ChangeSpec := { name := "intervalMembers", fn := fun _ => fun
  | [d1, d2, d3] => { results := [.lit (.bool true)], args := [d1, d2, d3] }
  | _ => none }
def intervalMembersRow : OpenClaim := { program := "ytoecjemnapnkbaa", sum := "a75afa8a3be5865dc1f9505aa4e01fd941d43df8f359cf6d7a5c8912e6ad5c38", func := "scorebook/scorebooklaw29.IntervalMembers", spec := "intervalMembers", inPlace := ["math/bits.Add64"], apart := false }
def IntervalMembersSaid : Prop := intervalMembersRow.holds Try.pinned (OpenSpec.ofChange intervalMembersSpec)

/-- ITS FALSE NEIGHBOUR: 'it returns false'. Refute it at one input. -/
def intervalMembersWrong : ChangeSpec := { name := "intervalMembers", fn := fun _ => fun
  | [d1, d2, d3] => { results := [.lit (.bool false)], args := [d1, d2, d3] }
  | _ => none }
def IntervalMembersWrongFalsely : Prop := intervalMembersRow.holds Try.pinned (OpenSpec.ofChange intervalMembersWrong)

/-- 'scorebooklaw30.LsqSolves': WHATEVER THE INPUT: true; the input reads as it did. -/
def lsqSolvesSpec : ChangeSpec := { name := "lsqSolves", fn := fun _ => fun
  | [d1, d2] => { results := [.lit (.bool true)], args := [d1, d2] }
  | _ => none }
def lsqSolvesRow : OpenClaim := { program := "ytoecjemnapnkbaa", sum := "a75afa8a3be5865dc1f9505aa4e01fd941d43df8f359cf6d7a5c8912e6ad5c38", func := "scorebook/scorebooklaw30.LsqSolves", spec := "lsqSolves", apart := false }
def LsqSolvesSaid : Prop := lsqSolvesRow.holds Try.pinned (OpenSpec.ofChange lsqSolvesSpec)

/-- ITS FALSE NEIGHBOUR: 'it returns false'. Refute it at one input. -/
def lsqSolvesWrong : ChangeSpec := { name := "lsqSolves", fn := fun _ => fun
  | [d1, d2] => { results := [.lit (.bool false)], args := [d1, d2] }
  | _ => none }
def LsqSolvesWrongFalsely : Prop := lsqSolvesRow.holds Try.pinned (OpenSpec.ofChange lsqSolvesWrong)

/-- 'scorebooklaw30.LsqSatisfies': WHATEVER THE INPUT: true; the input reads as it did. -/
def lsqSatisfiesSpec : ChangeSpec := { name := "lsqSatisfies", fn := fun _ => fun
  | [d1, d2] => { results := [.lit (.bool true)], args := [d1, d2] }
  | _ => none }
def lsqSatisfiesRow : OpenClaim := { program := "ytoecjemnapnkbaa", sum := "a75afa8a3be5865dc1f9505aa4e01fd941d43df8f359cf6d7a5c8912e6ad5c38", func := "scorebook/scorebooklaw30.LsqSatisfies", spec := "lsqSatisfies", inPlace := ["math/bits.Sub64", "math/bits.Add64"], apart := false }
def LsqSatisfiesSaid : Prop := lsqSatisfiesRow.holds Try.pinned (OpenSpec.ofChange lsqSatisfiesSpec)

/-- ITS FALSE NEIGHBOUR: 'it returns false'. Refute it at one input. -/
def lsqSatisfiesWrong : ChangeSpec := { name := "lsqSatisfies", fn := fun _ => fun
  | [d1, d2] => { results := [.lit (.bool false)], args := [d1, d2] }
  | _ => none }
def LsqSatisfiesWrongFalsely : Prop := lsqSatisfiesRow.holds Try.pinned (OpenSpec.ofChange lsqSatisfiesWrong)

/-- 'scorebooklaw30.LsqLines': WHATEVER THE INPUT: true; the input reads as it did. -/
def lsqLinesSpec : ChangeSpec := { name := "lsqLines", fn := fun _ => fun
  | [d] => { results := [.lit (.bool true)], args := [d] }
  | _ => none }
def lsqLinesRow : OpenClaim := { program := "ytoecjemnapnkbaa", sum := "a75afa8a3be5865dc1f9505aa4e01fd941d43df8f359cf6d7a5c8912e6ad5c38", func := "scorebook/scorebooklaw30.LsqLines", spec := "lsqLines", apart := false }
def LsqLinesSaid : Prop := lsqLinesRow.holds Try.pinned (OpenSpec.ofChange lsqLinesSpec)

/-- ITS FALSE NEIGHBOUR: 'it returns false'. Refute it at one input. -/
def lsqLinesWrong : ChangeSpec := { name := "lsqLines", fn := fun _ => fun
  | [d] => { results := [.lit (.bool false)], args := [d] }
  | _ => none }
def LsqLinesWrongFalsely : Prop := lsqLinesRow.holds Try.pinned (OpenSpec.ofChange lsqLinesWrong)

/-- 'scorebooklaw30.LsqValues': WHATEVER THE INPUT: true; the input reads as it did. -/
def lsqValuesSpec : ChangeSpec := { name := "lsqValues", fn := fun _ => fun
  | [d1, d2] => { results := [.lit (.bool true)], args := [d1, d2] }
  | _ => none }
def lsqValuesRow : OpenClaim := { program := "ytoecjemnapnkbaa", sum := "a75afa8a3be5865dc1f9505aa4e01fd941d43df8f359cf6d7a5c8912e6ad5c38", func := "scorebook/scorebooklaw30.LsqValues", spec := "lsqValues", apart := false }
def LsqValuesSaid : Prop := lsqValuesRow.holds Try.pinned (OpenSpec.ofChange lsqValuesSpec)

/-- ITS FALSE NEIGHBOUR: 'it returns false'. Refute it at one input. -/
def lsqValuesWrong : ChangeSpec := { name := "lsqValues", fn := fun _ => fun
  | [d1, d2] => { results := [.lit (.bool false)], args := [d1, d2] }
  | _ => none }
def LsqValuesWrongFalsely : Prop := lsqValuesRow.holds Try.pinned (OpenSpec.ofChange lsqValuesWrong)

/-- 'scorebooklaw30.LsqResiduals': WHATEVER THE INPUT: true; the input reads as it did. -/
def lsqResidualsSpec : ChangeSpec := { name := "lsqResiduals", fn := fun _ => fun
  | [d1, d2] => { results := [.lit (.bool true)], args := [d1, d2] }
  | _ => none }
def lsqResidualsRow : OpenClaim := { program := "ytoecjemnapnkbaa", sum := "a75afa8a3be5865dc1f9505aa4e01fd941d43df8f359cf6d7a5c8912e6ad5c38", func := "scorebook/scorebooklaw30.LsqResiduals", spec := "lsqResiduals", inPlace := ["math/bits.Sub64", "math/bits.Add64"], apart := false }
def LsqResidualsSaid : Prop := lsqResidualsRow.holds Try.pinned (OpenSpec.ofChange lsqResidualsSpec)

/-- ITS FALSE NEIGHBOUR: 'it returns false'. Refute it at one input. -/
def lsqResidualsWrong : ChangeSpec := { name := "lsqResiduals", fn := fun _ => fun
  | [d1, d2] => { results := [.lit (.bool false)], args := [d1, d2] }
  | _ => none }
def LsqResidualsWrongFalsely : Prop := lsqResidualsRow.holds Try.pinned (OpenSpec.ofChange lsqResidualsWrong)

/- THE SECOND FORM. 'bulk': how many values and letters a reading holds, each counted each time it is reached (what is shared counts as often as it is met; a slice's spare places count too). A statement '..UptoSaid' is the law's where the arguments, and the package variables that the reading takes, are together of bulk at most 1048576: NARROWER than '..Said'. Prove '..Said' where nothing that the law and all that it calls make is longer than what came in: it says more and counts as full. Else prove '..UptoSaid'. A law counts once. -/
mutual
def uptoBulk {H : Type} : DataW H → Nat
  | .lit (.string bytes) => bytes.length + 1
  | .lit _ => 1
  | .nil => 1
  | .ptr d => uptoBulk d + 1
  | .slice elems spare => uptoBulkAll elems + uptoBulkAll spare + 1
  | .agg parts => uptoBulkAll parts + 1
  | .iface _ d => uptoBulk d + 1
  | .map entries => uptoBulkEntries entries + 1
  | .held _ => 1
def uptoBulkAll {H : Type} : List (DataW H) → Nat
  | [] => 0
  | d :: r => uptoBulk d + uptoBulkAll r
def uptoBulkEntries {H : Type} : List (Lit × DataW H) → Nat
  | [] => 0
  | x :: r => uptoBulkEntry x + uptoBulkEntries r
def uptoBulkEntry {H : Type} : Lit × DataW H → Nat
  | (.string bytes, d) => bytes.length + uptoBulk d + 1
  | (_, d) => uptoBulk d + 1
 end
def uptoSmall : (H : Type) → List (DataW H) → Bool := fun _ ds => decide (uptoBulkAll ds ≤ 1048576)
def OpenSpec.upto (s : _root_.Go.ChangeSpec) : _root_.Go.OpenSpec := { _root_.Go.OpenSpec.ofChange s with cond := some uptoSmall }

/-- 'scorebooklaw29.IntervalMakes', WHERE WHAT IT READS IS OF BULK AT MOST 1048576: true; the input reads as it did. -/
def intervalMakesUptoRow : OpenClaim := { program := "ytoecjemnapnkbaa", sum := "a75afa8a3be5865dc1f9505aa4e01fd941d43df8f359cf6d7a5c8912e6ad5c38", func := "scorebook/scorebooklaw29.IntervalMakes", spec := "intervalMakes", inPlace := ["math/bits.Add64"], apart := false, narrowed := true }
def IntervalMakesUptoSaid : Prop := intervalMakesUptoRow.holds Try.pinned (OpenSpec.upto intervalMakesSpec)

/-- 'scorebooklaw29.IntervalSums', WHERE WHAT IT READS IS OF BULK AT MOST 1048576: true; the input reads as it did. -/
def intervalSumsUptoRow : OpenClaim := { program := "ytoecjemnapnkbaa", sum := "a75afa8a3be5865dc1f9505aa4e01fd941d43df8f359cf6d7a5c8912e6ad5c38", func := "scorebook/scorebooklaw29.IntervalSums", spec := "intervalSums", inPlace := ["math/bits.Add64"], apart := false, narrowed := true }
def IntervalSumsUptoSaid : Prop := intervalSumsUptoRow.holds Try.pinned (OpenSpec.upto intervalSumsSpec)

/-- 'scorebooklaw29.IntervalScales', WHERE WHAT IT READS IS OF BULK AT MOST 1048576: true; the input reads as it did. -/
def intervalScalesUptoRow : OpenClaim := { program := "ytoecjemnapnkbaa", sum := "a75afa8a3be5865dc1f9505aa4e01fd941d43df8f359cf6d7a5c8912e6ad5c38", func := "scorebook/scorebooklaw29.IntervalScales", spec := "intervalScales", inPlace := ["math/bits.Add64", "math/bits.Sub64"], apart := false, narrowed := true }
def IntervalScalesUptoSaid : Prop := intervalScalesUptoRow.holds Try.pinned (OpenSpec.upto intervalScalesSpec)

/-- 'scorebooklaw29.IntervalEncloses', WHERE WHAT IT READS IS OF BULK AT MOST 1048576: true; the input reads as it did. -/
def intervalEnclosesUptoRow : OpenClaim := { program := "ytoecjemnapnkbaa", sum := "a75afa8a3be5865dc1f9505aa4e01fd941d43df8f359cf6d7a5c8912e6ad5c38", func := "scorebook/scorebooklaw29.IntervalEncloses", spec := "intervalEncloses", inPlace := ["math/bits.Add64", "math/bits.Sub64"], apart := false, narrowed := true }
def IntervalEnclosesUptoSaid : Prop := intervalEnclosesUptoRow.holds Try.pinned (OpenSpec.upto intervalEnclosesSpec)

/-- 'scorebooklaw29.IntervalTight', WHERE WHAT IT READS IS OF BULK AT MOST 1048576: true; the input reads as it did. -/
def intervalTightUptoRow : OpenClaim := { program := "ytoecjemnapnkbaa", sum := "a75afa8a3be5865dc1f9505aa4e01fd941d43df8f359cf6d7a5c8912e6ad5c38", func := "scorebook/scorebooklaw29.IntervalTight", spec := "intervalTight", inPlace := ["math/bits.Add64"], apart := false, narrowed := true }
def IntervalTightUptoSaid : Prop := intervalTightUptoRow.holds Try.pinned (OpenSpec.upto intervalTightSpec)

/-- 'scorebooklaw29.IntervalSets', WHERE WHAT IT READS IS OF BULK AT MOST 1048576: true; the input reads as it did. -/
def intervalSetsUptoRow : OpenClaim := { program := "ytoecjemnapnkbaa", sum := "a75afa8a3be5865dc1f9505aa4e01fd941d43df8f359cf6d7a5c8912e6ad5c38", func := "scorebook/scorebooklaw29.IntervalSets", spec := "intervalSets", inPlace := ["math/bits.Add64"], apart := false, narrowed := true }
def IntervalSetsUptoSaid : Prop := intervalSetsUptoRow.holds Try.pinned (OpenSpec.upto intervalSetsSpec)

/-- 'scorebooklaw29.IntervalMembers', WHERE WHAT IT READS IS OF BULK AT MOST 1048576: true; the input reads as it did. -/
def intervalMembersUptoRow : OpenClaim := { program := "ytoecjemnapnkbaa", sum := "a75afa8a3be5865dc1f9505aa4e01fd941d43df8f359cf6d7a5c8912e6ad5c38", func := "scorebook/scorebooklaw29.IntervalMembers", spec := "intervalMembers", inPlace := ["math/bits.Add64"], apart := false, narrowed := true }
def IntervalMembersUptoSaid : Prop := intervalMembersUptoRow.holds Try.pinned (OpenSpec.upto intervalMembersSpec)

/-- 'scorebooklaw30.LsqSolves', WHERE WHAT IT READS IS OF BULK AT MOST 1048576: true; the input reads as it did. -/
def lsqSolvesUptoRow : OpenClaim := { program := "ytoecjemnapnkbaa", sum := "a75afa8a3be5865dc1f9505aa4e01fd941d43df8f359cf6d7a5c8912e6ad5c38", func := "scorebook/scorebooklaw30.LsqSolves", spec := "lsqSolves", apart := false, narrowed := true }
def LsqSolvesUptoSaid : Prop := lsqSolvesUptoRow.holds Try.pinned (OpenSpec.upto lsqSolvesSpec)

/-- 'scorebooklaw30.LsqSatisfies', WHERE WHAT IT READS IS OF BULK AT MOST 1048576: true; the input reads as it did. -/
def lsqSatisfiesUptoRow : OpenClaim := { program := "ytoecjemnapnkbaa", sum := "a75afa8a3be5865dc1f9505aa4e01fd941d43df8f359cf6d7a5c8912e6ad5c38", func := "scorebook/scorebooklaw30.LsqSatisfies", spec := "lsqSatisfies", inPlace := ["math/bits.Sub64", "math/bits.Add64"], apart := false, narrowed := true }
def LsqSatisfiesUptoSaid : Prop := lsqSatisfiesUptoRow.holds Try.pinned (OpenSpec.upto lsqSatisfiesSpec)

/-- 'scorebooklaw30.LsqLines', WHERE WHAT IT READS IS OF BULK AT MOST 1048576: true; the input reads as it did. -/
def lsqLinesUptoRow : OpenClaim := { program := "ytoecjemnapnkbaa", sum := "a75afa8a3be5865dc1f9505aa4e01fd941d43df8f359cf6d7a5c8912e6ad5c38", func := "scorebook/scorebooklaw30.LsqLines", spec := "lsqLines", apart := false, narrowed := true }
def LsqLinesUptoSaid : Prop := lsqLinesUptoRow.holds Try.pinned (OpenSpec.upto lsqLinesSpec)

/-- 'scorebooklaw30.LsqValues', WHERE WHAT IT READS IS OF BULK AT MOST 1048576: true; the input reads as it did. -/
def lsqValuesUptoRow : OpenClaim := { program := "ytoecjemnapnkbaa", sum := "a75afa8a3be5865dc1f9505aa4e01fd941d43df8f359cf6d7a5c8912e6ad5c38", func := "scorebook/scorebooklaw30.LsqValues", spec := "lsqValues", apart := false, narrowed := true }
def LsqValuesUptoSaid : Prop := lsqValuesUptoRow.holds Try.pinned (OpenSpec.upto lsqValuesSpec)

/-- 'scorebooklaw30.LsqResiduals', WHERE WHAT IT READS IS OF BULK AT MOST 1048576: true; the input reads as it did. -/
def lsqResidualsUptoRow : OpenClaim := { program := "ytoecjemnapnkbaa", sum := "a75afa8a3be5865dc1f9505aa4e01fd941d43df8f359cf6d7a5c8912e6ad5c38", func := "scorebook/scorebooklaw30.LsqResiduals", spec := "lsqResiduals", inPlace := ["math/bits.Sub64", "math/bits.Add64"], apart := false, narrowed := true }
def LsqResidualsUptoSaid : Prop := lsqResidualsUptoRow.holds Try.pinned (OpenSpec.upto lsqResidualsSpec)

end Rows
end Go.Proofs.Ytoecjemnapnkbaa
