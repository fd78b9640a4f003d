/-
  No cell of these rows narrows 'for every input' (looked for: loops, veiled, ifaces, maps, wideKeys, modest, calm, conditions, laid).
  DERIVED. THE GIVEN ROWS OF THIS SEAT. 7 by the template 'for every input the law returns true; each argument reads behind the call as it read before'; 0 by the template 'total and deterministic' (their statements: YtjmfhcloicembaaTotals.lean).
  GIVEN WITH THE SEED: the statements are not yours to turn. If you find one false, say at which input.
  Laid BY PROGRAM, IN A SANDBOX (cutbox-rows.mjs): the forced cells as the released guide's own fill.sh prints them over the translation cb4da1122c8eed7b… (all of the seat's roots in one cut). By AI agents, Wed Nov 11 2026. No macro, syntax, notation, axiom, sorry.
-/
import Derived.Test.YtjmfhcloicembaaChecked
import GoSem.Claim
import GoSem.ClaimJoined
import GoSem.ClaimMapViews
import Derived.JoinedTies
import Derived.KernelRfl
namespace Go.Proofs.Ytjmfhcloicembaa
/- THE CELL 'sum', in the pinned program and in every row, IS THE sha256 OF THE DUMP (.gsa) THAT YtjmfhcloicembaaProg.lean LOADS. Nothing in Lean hashes anything: it is a label: what it is worth is what the hold of that sum in a sandbox is worth. -/
noncomputable def Try.pinned : Pinned := { name := "ytjmfhcloicembaa", sum := "cb4da1122c8eed7b257fa713fadee485d5b249df8301232fba7c463794ecbeeb", checked := Try.checked }
namespace Rows
def none {H : Type} : Left H := { results := [], args := [] }

/-- 'scorebooklaw30.LsqSolves': WHATEVER THE INPUT: true; the input reads as it did. -/
def lsqSolvesSpec : ChangeSpec := { name := "lsqSolves", fn := fun _ => fun
  | [d1, d2] => { results := [.lit (.bool true)], args := [d1, d2] }
  | _ => none }
def lsqSolvesRow : OpenClaim := { program := "ytjmfhcloicembaa", sum := "cb4da1122c8eed7b257fa713fadee485d5b249df8301232fba7c463794ecbeeb", func := "scorebook/scorebooklaw30.LsqSolves", spec := "lsqSolves", apart := false }
def LsqSolvesSaid : Prop := lsqSolvesRow.holds Try.pinned (OpenSpec.ofChange lsqSolvesSpec)

/-- ITS FALSE NEIGHBOUR: 'it returns false'. Refute it at one input. -/
def lsqSolvesWrong : ChangeSpec := { name := "lsqSolves", fn := fun _ => fun
  | [d1, d2] => { results := [.lit (.bool false)], args := [d1, d2] }
  | _ => none }
def LsqSolvesWrongFalsely : Prop := lsqSolvesRow.holds Try.pinned (OpenSpec.ofChange lsqSolvesWrong)

/-- 'scorebooklaw30.LsqSatisfies': WHATEVER THE INPUT: true; the input reads as it did. -/
def lsqSatisfiesSpec : ChangeSpec := { name := "lsqSatisfies", fn := fun _ => fun
  | [d1, d2] => { results := [.lit (.bool true)], args := [d1, d2] }
  | _ => none }
def lsqSatisfiesRow : OpenClaim := { program := "ytjmfhcloicembaa", sum := "cb4da1122c8eed7b257fa713fadee485d5b249df8301232fba7c463794ecbeeb", func := "scorebook/scorebooklaw30.LsqSatisfies", spec := "lsqSatisfies", inPlace := ["math/bits.Sub64", "math/bits.Add64"], apart := false }
def LsqSatisfiesSaid : Prop := lsqSatisfiesRow.holds Try.pinned (OpenSpec.ofChange lsqSatisfiesSpec)

/-- ITS FALSE NEIGHBOUR: 'it returns false'. Refute it at one input. -/
def lsqSatisfiesWrong : ChangeSpec := { name := "lsqSatisfies", fn := fun _ => fun
  | [d1, d2] => { results := [.lit (.bool false)], args := [d1, d2] }
  | _ => none }
def LsqSatisfiesWrongFalsely : Prop := lsqSatisfiesRow.holds Try.pinned (OpenSpec.ofChange lsqSatisfiesWrong)

/-- 'scorebooklaw30.LsqLines': WHATEVER THE INPUT: true; the input reads as it did. -/
def lsqLinesSpec : ChangeSpec := { name := "lsqLines", fn := fun _ => fun
  | [d] => { results := [.lit (.bool true)], args := [d] }
  | _ => none }
def lsqLinesRow : OpenClaim := { program := "ytjmfhcloicembaa", sum := "cb4da1122c8eed7b257fa713fadee485d5b249df8301232fba7c463794ecbeeb", func := "scorebook/scorebooklaw30.LsqLines", spec := "lsqLines", apart := false }
def LsqLinesSaid : Prop := lsqLinesRow.holds Try.pinned (OpenSpec.ofChange lsqLinesSpec)

/-- ITS FALSE NEIGHBOUR: 'it returns false'. Refute it at one input. -/
def lsqLinesWrong : ChangeSpec := { name := "lsqLines", fn := fun _ => fun
  | [d] => { results := [.lit (.bool false)], args := [d] }
  | _ => none }
def LsqLinesWrongFalsely : Prop := lsqLinesRow.holds Try.pinned (OpenSpec.ofChange lsqLinesWrong)

/-- 'scorebooklaw30.LsqValues': WHATEVER THE INPUT: true; the input reads as it did. -/
def lsqValuesSpec : ChangeSpec := { name := "lsqValues", fn := fun _ => fun
  | [d1, d2] => { results := [.lit (.bool true)], args := [d1, d2] }
  | _ => none }
def lsqValuesRow : OpenClaim := { program := "ytjmfhcloicembaa", sum := "cb4da1122c8eed7b257fa713fadee485d5b249df8301232fba7c463794ecbeeb", func := "scorebook/scorebooklaw30.LsqValues", spec := "lsqValues", apart := false }
def LsqValuesSaid : Prop := lsqValuesRow.holds Try.pinned (OpenSpec.ofChange lsqValuesSpec)

/-- ITS FALSE NEIGHBOUR: 'it returns false'. Refute it at one input. -/
def lsqValuesWrong : ChangeSpec := { name := "lsqValues", fn := fun _ => fun
  | [d1, d2] => { results := [.lit (.bool false)], args := [d1, d2] }
  | _ => none }
def LsqValuesWrongFalsely : Prop := lsqValuesRow.holds Try.pinned (OpenSpec.ofChange lsqValuesWrong)

/-- 'scorebooklaw30.LsqResiduals': WHATEVER THE INPUT: true; the input reads as it did. -/
def lsqResidualsSpec : ChangeSpec := { name := "lsqResiduals", fn := fun _ => fun
  | [d1, d2] => { results := [.lit (.bool true)], args := [d1, d2] }
  | _ => none }
def lsqResidualsRow : OpenClaim := { program := "ytjmfhcloicembaa", sum := "cb4da1122c8eed7b257fa713fadee485d5b249df8301232fba7c463794ecbeeb", func := "scorebook/scorebooklaw30.LsqResiduals", spec := "lsqResiduals", inPlace := ["math/bits.Sub64", "math/bits.Add64"], apart := false }
def LsqResidualsSaid : Prop := lsqResidualsRow.holds Try.pinned (OpenSpec.ofChange lsqResidualsSpec)

/-- ITS FALSE NEIGHBOUR: 'it returns false'. Refute it at one input. -/
def lsqResidualsWrong : ChangeSpec := { name := "lsqResiduals", fn := fun _ => fun
  | [d1, d2] => { results := [.lit (.bool false)], args := [d1, d2] }
  | _ => none }
def LsqResidualsWrongFalsely : Prop := lsqResidualsRow.holds Try.pinned (OpenSpec.ofChange lsqResidualsWrong)

/-- 'scorebooklaw30.LsqAccepts': WHATEVER THE INPUT: true; the input reads as it did. -/
def lsqAcceptsSpec : ChangeSpec := { name := "lsqAccepts", fn := fun _ => fun
  | [d] => { results := [.lit (.bool true)], args := [d] }
  | _ => none }
def lsqAcceptsRow : OpenClaim := { program := "ytjmfhcloicembaa", sum := "cb4da1122c8eed7b257fa713fadee485d5b249df8301232fba7c463794ecbeeb", func := "scorebook/scorebooklaw30.LsqAccepts", spec := "lsqAccepts", inPlace := ["math/bits.Add64", "math/bits.Sub64"], apart := false }
def LsqAcceptsSaid : Prop := lsqAcceptsRow.holds Try.pinned (OpenSpec.ofChange lsqAcceptsSpec)

/-- ITS FALSE NEIGHBOUR: 'it returns false'. Refute it at one input. -/
def lsqAcceptsWrong : ChangeSpec := { name := "lsqAccepts", fn := fun _ => fun
  | [d] => { results := [.lit (.bool false)], args := [d] }
  | _ => none }
def LsqAcceptsWrongFalsely : Prop := lsqAcceptsRow.holds Try.pinned (OpenSpec.ofChange lsqAcceptsWrong)

/-- 'scorebooklaw30.LsqLeast': WHATEVER THE INPUT: true; the input reads as it did. -/
def lsqLeastSpec : ChangeSpec := { name := "lsqLeast", fn := fun _ => fun
  | [d1, d2] => { results := [.lit (.bool true)], args := [d1, d2] }
  | _ => none }
def lsqLeastRow : OpenClaim := { program := "ytjmfhcloicembaa", sum := "cb4da1122c8eed7b257fa713fadee485d5b249df8301232fba7c463794ecbeeb", func := "scorebook/scorebooklaw30.LsqLeast", spec := "lsqLeast", inPlace := ["math/bits.Sub64", "math/bits.Add64"], apart := false }
def LsqLeastSaid : Prop := lsqLeastRow.holds Try.pinned (OpenSpec.ofChange lsqLeastSpec)

/-- ITS FALSE NEIGHBOUR: 'it returns false'. Refute it at one input. -/
def lsqLeastWrong : ChangeSpec := { name := "lsqLeast", fn := fun _ => fun
  | [d1, d2] => { results := [.lit (.bool false)], args := [d1, d2] }
  | _ => none }
def LsqLeastWrongFalsely : Prop := lsqLeastRow.holds Try.pinned (OpenSpec.ofChange lsqLeastWrong)

/- THE SECOND FORM. 'bulk': how many values and letters a reading holds, each counted each time it is reached (what is shared counts as often as it is met; a slice's spare places count too). A statement '..UptoSaid' is the law's where the arguments, and the package variables that the reading takes, are together of bulk at most 1048576: NARROWER than '..Said'. Prove '..Said' where nothing that the law and all that it calls make is longer than what came in: it says more and counts as full. Else prove '..UptoSaid'. A law counts once. -/
mutual
def uptoBulk {H : Type} : DataW H → Nat
  | .lit (.string bytes) => bytes.length + 1
  | .lit _ => 1
  | .nil => 1
  | .ptr d => uptoBulk d + 1
  | .slice elems spare => uptoBulkAll elems + uptoBulkAll spare + 1
  | .agg parts => uptoBulkAll parts + 1
  | .iface _ d => uptoBulk d + 1
  | .map entries => uptoBulkEntries entries + 1
  | .held _ => 1
def uptoBulkAll {H : Type} : List (DataW H) → Nat
  | [] => 0
  | d :: r => uptoBulk d + uptoBulkAll r
def uptoBulkEntries {H : Type} : List (Lit × DataW H) → Nat
  | [] => 0
  | x :: r => uptoBulkEntry x + uptoBulkEntries r
def uptoBulkEntry {H : Type} : Lit × DataW H → Nat
  | (.string bytes, d) => bytes.length + uptoBulk d + 1
  | (_, d) => uptoBulk d + 1
 end
def uptoSmall : (H : Type) → List (DataW H) → Bool := fun _ ds => decide (uptoBulkAll ds ≤ 1048576)
def OpenSpec.upto (s : _root_.Go.ChangeSpec) : _root_.Go.OpenSpec := { _root_.Go.OpenSpec.ofChange s with cond := some uptoSmall }

/-- 'scorebooklaw30.LsqSolves', WHERE WHAT IT READS IS OF BULK AT MOST 1048576: true; the input reads as it did. -/
def lsqSolvesUptoRow : OpenClaim := { program := "ytjmfhcloicembaa", sum := "cb4da1122c8eed7b257fa713fadee485d5b249df8301232fba7c463794ecbeeb", func := "scorebook/scorebooklaw30.LsqSolves", spec := "lsqSolves", apart := false, narrowed := true }
def LsqSolvesUptoSaid : Prop := lsqSolvesUptoRow.holds Try.pinned (OpenSpec.upto lsqSolvesSpec)

/-- 'scorebooklaw30.LsqSatisfies', WHERE WHAT IT READS IS OF BULK AT MOST 1048576: true; the input reads as it did. -/
def lsqSatisfiesUptoRow : OpenClaim := { program := "ytjmfhcloicembaa", sum := "cb4da1122c8eed7b257fa713fadee485d5b249df8301232fba7c463794ecbeeb", func := "scorebook/scorebooklaw30.LsqSatisfies", spec := "lsqSatisfies", inPlace := ["math/bits.Sub64", "math/bits.Add64"], apart := false, narrowed := true }
def LsqSatisfiesUptoSaid : Prop := lsqSatisfiesUptoRow.holds Try.pinned (OpenSpec.upto lsqSatisfiesSpec)

/-- 'scorebooklaw30.LsqLines', WHERE WHAT IT READS IS OF BULK AT MOST 1048576: true; the input reads as it did. -/
def lsqLinesUptoRow : OpenClaim := { program := "ytjmfhcloicembaa", sum := "cb4da1122c8eed7b257fa713fadee485d5b249df8301232fba7c463794ecbeeb", func := "scorebook/scorebooklaw30.LsqLines", spec := "lsqLines", apart := false, narrowed := true }
def LsqLinesUptoSaid : Prop := lsqLinesUptoRow.holds Try.pinned (OpenSpec.upto lsqLinesSpec)

/-- 'scorebooklaw30.LsqValues', WHERE WHAT IT READS IS OF BULK AT MOST 1048576: true; the input reads as it did. -/
def lsqValuesUptoRow : OpenClaim := { program := "ytjmfhcloicembaa", sum := "cb4da1122c8eed7b257fa713fadee485d5b249df8301232fba7c463794ecbeeb", func := "scorebook/scorebooklaw30.LsqValues", spec := "lsqValues", apart := false, narrowed := true }
def LsqValuesUptoSaid : Prop := lsqValuesUptoRow.holds Try.pinned (OpenSpec.upto lsqValuesSpec)

/-- 'scorebooklaw30.LsqResiduals', WHERE WHAT IT READS IS OF BULK AT MOST 1048576: true; the input reads as it did. -/
def lsqResidualsUptoRow : OpenClaim := { program := "ytjmfhcloicembaa", sum := "cb4da1122c8eed7b257fa713fadee485d5b249df8301232fba7c463794ecbeeb", func := "scorebook/scorebooklaw30.LsqResiduals", spec := "lsqResiduals", inPlace := ["math/bits.Sub64", "math/bits.Add64"], apart := false, narrowed := true }
def LsqResidualsUptoSaid : Prop := lsqResidualsUptoRow.holds Try.pinned (OpenSpec.upto lsqResidualsSpec)

/-- 'scorebooklaw30.LsqAccepts', WHERE WHAT IT READS IS OF BULK AT MOST 1048576: true; the input reads as it did. -/
def lsqAcceptsUptoRow : OpenClaim := { program := "ytjmfhcloicembaa", sum := "cb4da1122c8eed7b257fa713fadee485d5b249df8301232fba7c463794ecbeeb", func := "scorebook/scorebooklaw30.LsqAccepts", spec := "lsqAccepts", inPlace := ["math/bits.Add64", "math/bits.Sub64"], apart := false, narrowed := true }
def LsqAcceptsUptoSaid : Prop := lsqAcceptsUptoRow.holds Try.pinned (OpenSpec.upto lsqAcceptsSpec)

/-- 'scorebooklaw30.LsqLeast', WHERE WHAT IT READS IS OF BULK AT MOST 1048576: true; the input reads as it did. -/
def lsqLeastUptoRow : OpenClaim := { program := "ytjmfhcloicembaa", sum := "cb4da1122c8eed7b257fa713fadee485d5b249df8301232fba7c463794ecbeeb", func := "scorebook/scorebooklaw30.LsqLeast", spec := "lsqLeast", inPlace := ["math/bits.Sub64", "math/bits.Add64"], apart := false, narrowed := true }
def LsqLeastUptoSaid : Prop := lsqLeastUptoRow.holds Try.pinned (OpenSpec.upto lsqLeastSpec)

end Rows
end Go.Proofs.Ytjmfhcloicembaa
