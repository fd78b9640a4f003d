/-
  NARROWER THAN 'FOR EVERY INPUT', by the rows' own cells (each row's printed sentence says how): CameraChecks: laid · CameraBounces: laid · CameraLowest: laid · CameraShifts: laid · CameraMoves: laid · CameraTexts: laid · CameraParses: laid.
  DERIVED. THE GIVEN ROWS OF THIS SEAT. 7 by the template 'for every input the law returns true; each argument reads behind the call as it read before'; 0 by the template 'total and deterministic' (their statements: YtjnaficgcellkaaDoorTotals.lean).
  GIVEN WITH THE SEED: the statements are not yours to turn. If you find one false, say at which input.
  Laid BY PROGRAM, IN A SANDBOX (cutbox-rows.mjs): the forced cells as the released guide's own fill.sh prints them over the translation d90f2008e554d957… (all of the seat's roots in one cut). By AI agents, Wed Nov 11 2026. No macro, syntax, notation, axiom, sorry.
-/
import Derived.Test.YtjnaficgcellkaaDoorChecked
import GoSem.PinnedTables
import GoSem.Claim
import GoSem.ClaimJoined
import GoSem.ClaimMapViews
import Derived.JoinedTies
import Derived.KernelRfl
namespace Go.Proofs.YtjnaficgcellkaaDoor
/- THE CELL 'sum', in the pinned program and in every row, IS THE sha256 OF THE DUMP (.gsa) THAT YtjnaficgcellkaaDoorProg.lean LOADS. Nothing in Lean hashes anything: it is a label: what it is worth is what the hold of that sum in a sandbox is worth. -/
noncomputable def Tryd.pinned : Pinned := { name := "ytjnaficgcellkaadoor", sum := "d90f2008e554d957ae9b458fefa0b8de61b636607042e3c9fcd5c5288018c975", checked := Tryd.checked }
namespace Rows
def none {H : Type} : Left H := { results := [], args := [] }

/- WHAT THE LISTED PACKAGE-LEVEL VARIABLES READ AS WHEN THE CALL BEGINS. Each datum BY PROGRAM (the guide's laid-datum.mjs) off the statement by which the dump's own 'gosem.cut.vars' lays the variable. In a bare row this is a premise. The card (YtjnaficgcellkaaDoorCards.lean) ties it to the program's text. -/
def laid_math_bits_deBruijn32tab {H : Type} : DataW H := .agg [.lit (.int .u8 0), .lit (.int .u8 1), .lit (.int .u8 28), .lit (.int .u8 2), .lit (.int .u8 29), .lit (.int .u8 14), .lit (.int .u8 24), .lit (.int .u8 3), .lit (.int .u8 30), .lit (.int .u8 22), .lit (.int .u8 20), .lit (.int .u8 15), .lit (.int .u8 25), .lit (.int .u8 17), .lit (.int .u8 4), .lit (.int .u8 8), .lit (.int .u8 31), .lit (.int .u8 27), .lit (.int .u8 13), .lit (.int .u8 23), .lit (.int .u8 21), .lit (.int .u8 19), .lit (.int .u8 16), .lit (.int .u8 7), .lit (.int .u8 26), .lit (.int .u8 12), .lit (.int .u8 18), .lit (.int .u8 6), .lit (.int .u8 11), .lit (.int .u8 5), .lit (.int .u8 10), .lit (.int .u8 9)]
def laid_math_bits_deBruijn64tab {H : Type} : DataW H := .agg [.lit (.int .u8 0), .lit (.int .u8 1), .lit (.int .u8 56), .lit (.int .u8 2), .lit (.int .u8 57), .lit (.int .u8 49), .lit (.int .u8 28), .lit (.int .u8 3), .lit (.int .u8 61), .lit (.int .u8 58), .lit (.int .u8 42), .lit (.int .u8 50), .lit (.int .u8 38), .lit (.int .u8 29), .lit (.int .u8 17), .lit (.int .u8 4), .lit (.int .u8 62), .lit (.int .u8 47), .lit (.int .u8 59), .lit (.int .u8 36), .lit (.int .u8 45), .lit (.int .u8 43), .lit (.int .u8 51), .lit (.int .u8 22), .lit (.int .u8 53), .lit (.int .u8 39), .lit (.int .u8 33), .lit (.int .u8 30), .lit (.int .u8 24), .lit (.int .u8 18), .lit (.int .u8 12), .lit (.int .u8 5), .lit (.int .u8 63), .lit (.int .u8 55), .lit (.int .u8 48), .lit (.int .u8 27), .lit (.int .u8 60), .lit (.int .u8 41), .lit (.int .u8 37), .lit (.int .u8 16), .lit (.int .u8 46), .lit (.int .u8 35), .lit (.int .u8 44), .lit (.int .u8 21), .lit (.int .u8 52), .lit (.int .u8 32), .lit (.int .u8 23), .lit (.int .u8 11), .lit (.int .u8 54), .lit (.int .u8 26), .lit (.int .u8 40), .lit (.int .u8 15), .lit (.int .u8 34), .lit (.int .u8 20), .lit (.int .u8 31), .lit (.int .u8 10), .lit (.int .u8 25), .lit (.int .u8 14), .lit (.int .u8 19), .lit (.int .u8 9), .lit (.int .u8 13), .lit (.int .u8 8), .lit (.int .u8 7), .lit (.int .u8 6)]
def laid_internal_strconv_uint64pow10 {H : Type} : DataW H := .agg [.lit (.int .u64 1), .lit (.int .u64 10), .lit (.int .u64 100), .lit (.int .u64 1000), .lit (.int .u64 10000), .lit (.int .u64 100000), .lit (.int .u64 1000000), .lit (.int .u64 10000000), .lit (.int .u64 100000000), .lit (.int .u64 1000000000), .lit (.int .u64 10000000000), .lit (.int .u64 100000000000), .lit (.int .u64 1000000000000), .lit (.int .u64 10000000000000), .lit (.int .u64 100000000000000), .lit (.int .u64 1000000000000000), .lit (.int .u64 10000000000000000), .lit (.int .u64 100000000000000000), .lit (.int .u64 1000000000000000000), .lit (.int .u64 10000000000000000000)]
def laid_scorebook_camera_least {H : Type} : DataW H := .agg [.lit (.int .i64 0), .lit (.int .i64 (-300000)), .lit (.int .i64 (-50000)), .lit (.int .i64 0), .lit (.int .i64 1)]
def laid_scorebook_camera_most {H : Type} : DataW H := .agg [.lit (.int .i64 4000), .lit (.int .i64 300000), .lit (.int .i64 50000), .lit (.int .i64 50000), .lit (.int .i64 1000)]
def laid_unicode_utf8_acceptRanges {H : Type} : DataW H := .agg [.agg [.lit (.int .u8 128), .lit (.int .u8 191)], .agg [.lit (.int .u8 160), .lit (.int .u8 191)], .agg [.lit (.int .u8 128), .lit (.int .u8 159)], .agg [.lit (.int .u8 144), .lit (.int .u8 191)], .agg [.lit (.int .u8 128), .lit (.int .u8 143)], .agg [.lit (.int .u8 0), .lit (.int .u8 0)], .agg [.lit (.int .u8 0), .lit (.int .u8 0)], .agg [.lit (.int .u8 0), .lit (.int .u8 0)], .agg [.lit (.int .u8 0), .lit (.int .u8 0)], .agg [.lit (.int .u8 0), .lit (.int .u8 0)], .agg [.lit (.int .u8 0), .lit (.int .u8 0)], .agg [.lit (.int .u8 0), .lit (.int .u8 0)], .agg [.lit (.int .u8 0), .lit (.int .u8 0)], .agg [.lit (.int .u8 0), .lit (.int .u8 0)], .agg [.lit (.int .u8 0), .lit (.int .u8 0)], .agg [.lit (.int .u8 0), .lit (.int .u8 0)]]
def laid_strconv_ErrRange {H : Type} : DataW H := .iface "*errors.errorString" (.ptr (.agg [.lit (.string [118, 97, 108, 117, 101, 32, 111, 117, 116, 32, 111, 102, 32, 114, 97, 110, 103, 101])]))
def laid_strconv_ErrSyntax {H : Type} : DataW H := .iface "*errors.errorString" (.ptr (.agg [.lit (.string [105, 110, 118, 97, 108, 105, 100, 32, 115, 121, 110, 116, 97, 120])]))
/-- One of Go's own tables, pinned by name: the form's constant. -/
def laid_unicode_utf8_first : DataW Unit := Go.Pinned.utf8First

/-- 'scorebooklaw31.CameraChecks': WHATEVER THE INPUT: true; the input reads as it did. -/
def cameraChecksSpec : ChangeSpec := { name := "cameraChecks", fn := fun _ => fun
  | [d] => { results := [.lit (.bool true)], args := [d] }
  | _ => none }
def cameraChecksRow : OpenClaim := { program := "ytjnaficgcellkaadoor", sum := "d90f2008e554d957ae9b458fefa0b8de61b636607042e3c9fcd5c5288018c975", func := "scorebook/scorebooklaw31.CameraChecks", spec := "cameraChecks", inPlace := ["internal/abi.NoEscape", "internal/bytealg.MakeNoZero"], named := ["scorebook/camera.least", "scorebook/camera.most", "internal/strconv.uint64pow10", "math/bits.deBruijn32tab", "math/bits.deBruijn64tab"], apart := false, laid := [("math/bits.deBruijn32tab", laid_math_bits_deBruijn32tab), ("math/bits.deBruijn64tab", laid_math_bits_deBruijn64tab), ("internal/strconv.uint64pow10", laid_internal_strconv_uint64pow10), ("scorebook/camera.least", laid_scorebook_camera_least), ("scorebook/camera.most", laid_scorebook_camera_most)] }
def CameraChecksSaid : Prop := cameraChecksRow.holds Tryd.pinned (OpenSpec.ofChange cameraChecksSpec)

/-- ITS FALSE NEIGHBOUR: 'it returns false'. Refute it at one input. -/
def cameraChecksWrong : ChangeSpec := { name := "cameraChecks", fn := fun _ => fun
  | [d] => { results := [.lit (.bool false)], args := [d] }
  | _ => none }
def CameraChecksWrongFalsely : Prop := cameraChecksRow.holds Tryd.pinned (OpenSpec.ofChange cameraChecksWrong)

/-- 'scorebooklaw31.CameraBounces': WHATEVER THE INPUT: true; the input reads as it did. -/
def cameraBouncesSpec : ChangeSpec := { name := "cameraBounces", fn := fun _ => fun
  | [d] => { results := [.lit (.bool true)], args := [d] }
  | _ => none }
def cameraBouncesRow : OpenClaim := { program := "ytjnaficgcellkaadoor", sum := "d90f2008e554d957ae9b458fefa0b8de61b636607042e3c9fcd5c5288018c975", func := "scorebook/scorebooklaw31.CameraBounces", spec := "cameraBounces", inPlace := ["internal/abi.NoEscape", "internal/bytealg.MakeNoZero"], named := ["scorebook/camera.least", "scorebook/camera.most", "internal/strconv.uint64pow10", "math/bits.deBruijn32tab", "math/bits.deBruijn64tab"], apart := false, laid := [("math/bits.deBruijn32tab", laid_math_bits_deBruijn32tab), ("math/bits.deBruijn64tab", laid_math_bits_deBruijn64tab), ("internal/strconv.uint64pow10", laid_internal_strconv_uint64pow10), ("scorebook/camera.least", laid_scorebook_camera_least), ("scorebook/camera.most", laid_scorebook_camera_most)] }
def CameraBouncesSaid : Prop := cameraBouncesRow.holds Tryd.pinned (OpenSpec.ofChange cameraBouncesSpec)

/-- ITS FALSE NEIGHBOUR: 'it returns false'. Refute it at one input. -/
def cameraBouncesWrong : ChangeSpec := { name := "cameraBounces", fn := fun _ => fun
  | [d] => { results := [.lit (.bool false)], args := [d] }
  | _ => none }
def CameraBouncesWrongFalsely : Prop := cameraBouncesRow.holds Tryd.pinned (OpenSpec.ofChange cameraBouncesWrong)

/-- 'scorebooklaw31.CameraLowest': WHATEVER THE INPUT: true; the input reads as it did. -/
def cameraLowestSpec : ChangeSpec := { name := "cameraLowest", fn := fun _ => fun
  | [d] => { results := [.lit (.bool true)], args := [d] }
  | _ => none }
def cameraLowestRow : OpenClaim := { program := "ytjnaficgcellkaadoor", sum := "d90f2008e554d957ae9b458fefa0b8de61b636607042e3c9fcd5c5288018c975", func := "scorebook/scorebooklaw31.CameraLowest", spec := "cameraLowest", inPlace := ["internal/abi.NoEscape", "internal/bytealg.MakeNoZero"], named := ["scorebook/camera.least", "scorebook/camera.most", "internal/strconv.uint64pow10", "math/bits.deBruijn32tab", "math/bits.deBruijn64tab"], apart := false, laid := [("math/bits.deBruijn32tab", laid_math_bits_deBruijn32tab), ("math/bits.deBruijn64tab", laid_math_bits_deBruijn64tab), ("internal/strconv.uint64pow10", laid_internal_strconv_uint64pow10), ("scorebook/camera.least", laid_scorebook_camera_least), ("scorebook/camera.most", laid_scorebook_camera_most)] }
def CameraLowestSaid : Prop := cameraLowestRow.holds Tryd.pinned (OpenSpec.ofChange cameraLowestSpec)

/-- ITS FALSE NEIGHBOUR: 'it returns false'. Refute it at one input. -/
def cameraLowestWrong : ChangeSpec := { name := "cameraLowest", fn := fun _ => fun
  | [d] => { results := [.lit (.bool false)], args := [d] }
  | _ => none }
def CameraLowestWrongFalsely : Prop := cameraLowestRow.holds Tryd.pinned (OpenSpec.ofChange cameraLowestWrong)

/-- 'scorebooklaw31.CameraShifts': WHATEVER THE INPUT: true; the input reads as it did. -/
def cameraShiftsSpec : ChangeSpec := { name := "cameraShifts", fn := fun _ => fun
  | [d1, d2] => { results := [.lit (.bool true)], args := [d1, d2] }
  | _ => none }
def cameraShiftsRow : OpenClaim := { program := "ytjnaficgcellkaadoor", sum := "d90f2008e554d957ae9b458fefa0b8de61b636607042e3c9fcd5c5288018c975", func := "scorebook/scorebooklaw31.CameraShifts", spec := "cameraShifts", inPlace := ["internal/abi.NoEscape", "internal/bytealg.MakeNoZero"], named := ["scorebook/camera.least", "scorebook/camera.most", "internal/strconv.uint64pow10", "math/bits.deBruijn32tab", "math/bits.deBruijn64tab"], apart := false, laid := [("math/bits.deBruijn32tab", laid_math_bits_deBruijn32tab), ("math/bits.deBruijn64tab", laid_math_bits_deBruijn64tab), ("internal/strconv.uint64pow10", laid_internal_strconv_uint64pow10), ("scorebook/camera.least", laid_scorebook_camera_least), ("scorebook/camera.most", laid_scorebook_camera_most)] }
def CameraShiftsSaid : Prop := cameraShiftsRow.holds Tryd.pinned (OpenSpec.ofChange cameraShiftsSpec)

/-- ITS FALSE NEIGHBOUR: 'it returns false'. Refute it at one input. -/
def cameraShiftsWrong : ChangeSpec := { name := "cameraShifts", fn := fun _ => fun
  | [d1, d2] => { results := [.lit (.bool false)], args := [d1, d2] }
  | _ => none }
def CameraShiftsWrongFalsely : Prop := cameraShiftsRow.holds Tryd.pinned (OpenSpec.ofChange cameraShiftsWrong)

/-- 'scorebooklaw31.CameraMoves': WHATEVER THE INPUT: true; the input reads as it did. -/
def cameraMovesSpec : ChangeSpec := { name := "cameraMoves", fn := fun _ => fun
  | [d1, d2] => { results := [.lit (.bool true)], args := [d1, d2] }
  | _ => none }
def cameraMovesRow : OpenClaim := { program := "ytjnaficgcellkaadoor", sum := "d90f2008e554d957ae9b458fefa0b8de61b636607042e3c9fcd5c5288018c975", func := "scorebook/scorebooklaw31.CameraMoves", spec := "cameraMoves", inPlace := ["internal/abi.NoEscape", "internal/bytealg.MakeNoZero"], named := ["scorebook/camera.least", "scorebook/camera.most", "internal/strconv.uint64pow10", "math/bits.deBruijn32tab", "math/bits.deBruijn64tab"], apart := false, laid := [("math/bits.deBruijn32tab", laid_math_bits_deBruijn32tab), ("math/bits.deBruijn64tab", laid_math_bits_deBruijn64tab), ("internal/strconv.uint64pow10", laid_internal_strconv_uint64pow10), ("scorebook/camera.least", laid_scorebook_camera_least), ("scorebook/camera.most", laid_scorebook_camera_most)] }
def CameraMovesSaid : Prop := cameraMovesRow.holds Tryd.pinned (OpenSpec.ofChange cameraMovesSpec)

/-- ITS FALSE NEIGHBOUR: 'it returns false'. Refute it at one input. -/
def cameraMovesWrong : ChangeSpec := { name := "cameraMoves", fn := fun _ => fun
  | [d1, d2] => { results := [.lit (.bool false)], args := [d1, d2] }
  | _ => none }
def CameraMovesWrongFalsely : Prop := cameraMovesRow.holds Tryd.pinned (OpenSpec.ofChange cameraMovesWrong)

/-- 'scorebooklaw31.CameraTexts': WHATEVER THE INPUT: true; the input reads as it did. -/
def cameraTextsSpec : ChangeSpec := { name := "cameraTexts", fn := fun _ => fun
  | [d] => { results := [.lit (.bool true)], args := [d] }
  | _ => none }
def cameraTextsRow : OpenClaim := { program := "ytjnaficgcellkaadoor", sum := "d90f2008e554d957ae9b458fefa0b8de61b636607042e3c9fcd5c5288018c975", func := "scorebook/scorebooklaw31.CameraTexts", spec := "cameraTexts", inPlace := ["internal/abi.NoEscape", "internal/bytealg.MakeNoZero", "internal/bytealg.IndexByteString", "internal/bytealg.IndexString", "internal/bytealg.CountString"], recurses := true, named := ["scorebook/camera.least", "scorebook/camera.most", "internal/strconv.uint64pow10", "math/bits.deBruijn32tab", "math/bits.deBruijn64tab", "internal/bytealg.MaxLen", "unicode/utf8.first", "unicode/utf8.acceptRanges", "strconv.ErrSyntax", "strconv.ErrRange"], apart := false, laid := [("math/bits.deBruijn32tab", laid_math_bits_deBruijn32tab), ("math/bits.deBruijn64tab", laid_math_bits_deBruijn64tab), ("internal/strconv.uint64pow10", laid_internal_strconv_uint64pow10), ("unicode/utf8.acceptRanges", laid_unicode_utf8_acceptRanges), ("strconv.ErrRange", laid_strconv_ErrRange), ("strconv.ErrSyntax", laid_strconv_ErrSyntax), ("scorebook/camera.least", laid_scorebook_camera_least), ("scorebook/camera.most", laid_scorebook_camera_most), ("unicode/utf8.first", laid_unicode_utf8_first)] }
def CameraTextsSaid : Prop := cameraTextsRow.holds Tryd.pinned (OpenSpec.ofChange cameraTextsSpec)

/-- ITS FALSE NEIGHBOUR: 'it returns false'. Refute it at one input. -/
def cameraTextsWrong : ChangeSpec := { name := "cameraTexts", fn := fun _ => fun
  | [d] => { results := [.lit (.bool false)], args := [d] }
  | _ => none }
def CameraTextsWrongFalsely : Prop := cameraTextsRow.holds Tryd.pinned (OpenSpec.ofChange cameraTextsWrong)

/-- 'scorebooklaw31.CameraParses': WHATEVER THE INPUT: true; the input reads as it did. -/
def cameraParsesSpec : ChangeSpec := { name := "cameraParses", fn := fun _ => fun
  | [d] => { results := [.lit (.bool true)], args := [d] }
  | _ => none }
def cameraParsesRow : OpenClaim := { program := "ytjnaficgcellkaadoor", sum := "d90f2008e554d957ae9b458fefa0b8de61b636607042e3c9fcd5c5288018c975", func := "scorebook/scorebooklaw31.CameraParses", spec := "cameraParses", inPlace := ["internal/abi.NoEscape", "internal/bytealg.MakeNoZero", "internal/bytealg.IndexByteString", "internal/bytealg.IndexString", "internal/bytealg.CountString"], recurses := true, named := ["scorebook/camera.least", "scorebook/camera.most", "internal/strconv.uint64pow10", "math/bits.deBruijn32tab", "math/bits.deBruijn64tab", "internal/bytealg.MaxLen", "unicode/utf8.first", "unicode/utf8.acceptRanges", "strconv.ErrSyntax", "strconv.ErrRange"], apart := false, laid := [("math/bits.deBruijn32tab", laid_math_bits_deBruijn32tab), ("math/bits.deBruijn64tab", laid_math_bits_deBruijn64tab), ("internal/strconv.uint64pow10", laid_internal_strconv_uint64pow10), ("unicode/utf8.acceptRanges", laid_unicode_utf8_acceptRanges), ("strconv.ErrRange", laid_strconv_ErrRange), ("strconv.ErrSyntax", laid_strconv_ErrSyntax), ("scorebook/camera.least", laid_scorebook_camera_least), ("scorebook/camera.most", laid_scorebook_camera_most), ("unicode/utf8.first", laid_unicode_utf8_first)] }
def CameraParsesSaid : Prop := cameraParsesRow.holds Tryd.pinned (OpenSpec.ofChange cameraParsesSpec)

/-- ITS FALSE NEIGHBOUR: 'it returns false'. Refute it at one input. -/
def cameraParsesWrong : ChangeSpec := { name := "cameraParses", fn := fun _ => fun
  | [d] => { results := [.lit (.bool false)], args := [d] }
  | _ => none }
def CameraParsesWrongFalsely : Prop := cameraParsesRow.holds Tryd.pinned (OpenSpec.ofChange cameraParsesWrong)

/- THE SECOND FORM. 'bulk': how many values and letters a reading holds, each counted each time it is reached (what is shared counts as often as it is met; a slice's spare places count too). A statement '..UptoSaid' is the law's where the arguments, and the package variables that the reading takes, are together of bulk at most 1048576: NARROWER than '..Said'. Prove '..Said' where nothing that the law and all that it calls make is longer than what came in: it says more and counts as full. Else prove '..UptoSaid'. A law counts once. -/
mutual
def uptoBulk {H : Type} : DataW H → Nat
  | .lit (.string bytes) => bytes.length + 1
  | .lit _ => 1
  | .nil => 1
  | .ptr d => uptoBulk d + 1
  | .slice elems spare => uptoBulkAll elems + uptoBulkAll spare + 1
  | .agg parts => uptoBulkAll parts + 1
  | .iface _ d => uptoBulk d + 1
  | .map entries => uptoBulkEntries entries + 1
  | .held _ => 1
def uptoBulkAll {H : Type} : List (DataW H) → Nat
  | [] => 0
  | d :: r => uptoBulk d + uptoBulkAll r
def uptoBulkEntries {H : Type} : List (Lit × DataW H) → Nat
  | [] => 0
  | x :: r => uptoBulkEntry x + uptoBulkEntries r
def uptoBulkEntry {H : Type} : Lit × DataW H → Nat
  | (.string bytes, d) => bytes.length + uptoBulk d + 1
  | (_, d) => uptoBulk d + 1
 end
def uptoSmall : (H : Type) → List (DataW H) → Bool := fun _ ds => decide (uptoBulkAll ds ≤ 1048576)
def OpenSpec.upto (s : _root_.Go.ChangeSpec) : _root_.Go.OpenSpec := { _root_.Go.OpenSpec.ofChange s with cond := some uptoSmall }

/-- 'scorebooklaw31.CameraChecks', WHERE WHAT IT READS IS OF BULK AT MOST 1048576: true; the input reads as it did. -/
def cameraChecksUptoRow : OpenClaim := { program := "ytjnaficgcellkaadoor", sum := "d90f2008e554d957ae9b458fefa0b8de61b636607042e3c9fcd5c5288018c975", func := "scorebook/scorebooklaw31.CameraChecks", spec := "cameraChecks", inPlace := ["internal/abi.NoEscape", "internal/bytealg.MakeNoZero"], named := ["scorebook/camera.least", "scorebook/camera.most", "internal/strconv.uint64pow10", "math/bits.deBruijn32tab", "math/bits.deBruijn64tab"], apart := false, laid := [("math/bits.deBruijn32tab", laid_math_bits_deBruijn32tab), ("math/bits.deBruijn64tab", laid_math_bits_deBruijn64tab), ("internal/strconv.uint64pow10", laid_internal_strconv_uint64pow10), ("scorebook/camera.least", laid_scorebook_camera_least), ("scorebook/camera.most", laid_scorebook_camera_most)], narrowed := true }
def CameraChecksUptoSaid : Prop := cameraChecksUptoRow.holds Tryd.pinned (OpenSpec.upto cameraChecksSpec)

/-- 'scorebooklaw31.CameraBounces', WHERE WHAT IT READS IS OF BULK AT MOST 1048576: true; the input reads as it did. -/
def cameraBouncesUptoRow : OpenClaim := { program := "ytjnaficgcellkaadoor", sum := "d90f2008e554d957ae9b458fefa0b8de61b636607042e3c9fcd5c5288018c975", func := "scorebook/scorebooklaw31.CameraBounces", spec := "cameraBounces", inPlace := ["internal/abi.NoEscape", "internal/bytealg.MakeNoZero"], named := ["scorebook/camera.least", "scorebook/camera.most", "internal/strconv.uint64pow10", "math/bits.deBruijn32tab", "math/bits.deBruijn64tab"], apart := false, laid := [("math/bits.deBruijn32tab", laid_math_bits_deBruijn32tab), ("math/bits.deBruijn64tab", laid_math_bits_deBruijn64tab), ("internal/strconv.uint64pow10", laid_internal_strconv_uint64pow10), ("scorebook/camera.least", laid_scorebook_camera_least), ("scorebook/camera.most", laid_scorebook_camera_most)], narrowed := true }
def CameraBouncesUptoSaid : Prop := cameraBouncesUptoRow.holds Tryd.pinned (OpenSpec.upto cameraBouncesSpec)

/-- 'scorebooklaw31.CameraLowest', WHERE WHAT IT READS IS OF BULK AT MOST 1048576: true; the input reads as it did. -/
def cameraLowestUptoRow : OpenClaim := { program := "ytjnaficgcellkaadoor", sum := "d90f2008e554d957ae9b458fefa0b8de61b636607042e3c9fcd5c5288018c975", func := "scorebook/scorebooklaw31.CameraLowest", spec := "cameraLowest", inPlace := ["internal/abi.NoEscape", "internal/bytealg.MakeNoZero"], named := ["scorebook/camera.least", "scorebook/camera.most", "internal/strconv.uint64pow10", "math/bits.deBruijn32tab", "math/bits.deBruijn64tab"], apart := false, laid := [("math/bits.deBruijn32tab", laid_math_bits_deBruijn32tab), ("math/bits.deBruijn64tab", laid_math_bits_deBruijn64tab), ("internal/strconv.uint64pow10", laid_internal_strconv_uint64pow10), ("scorebook/camera.least", laid_scorebook_camera_least), ("scorebook/camera.most", laid_scorebook_camera_most)], narrowed := true }
def CameraLowestUptoSaid : Prop := cameraLowestUptoRow.holds Tryd.pinned (OpenSpec.upto cameraLowestSpec)

/-- 'scorebooklaw31.CameraShifts', WHERE WHAT IT READS IS OF BULK AT MOST 1048576: true; the input reads as it did. -/
def cameraShiftsUptoRow : OpenClaim := { program := "ytjnaficgcellkaadoor", sum := "d90f2008e554d957ae9b458fefa0b8de61b636607042e3c9fcd5c5288018c975", func := "scorebook/scorebooklaw31.CameraShifts", spec := "cameraShifts", inPlace := ["internal/abi.NoEscape", "internal/bytealg.MakeNoZero"], named := ["scorebook/camera.least", "scorebook/camera.most", "internal/strconv.uint64pow10", "math/bits.deBruijn32tab", "math/bits.deBruijn64tab"], apart := false, laid := [("math/bits.deBruijn32tab", laid_math_bits_deBruijn32tab), ("math/bits.deBruijn64tab", laid_math_bits_deBruijn64tab), ("internal/strconv.uint64pow10", laid_internal_strconv_uint64pow10), ("scorebook/camera.least", laid_scorebook_camera_least), ("scorebook/camera.most", laid_scorebook_camera_most)], narrowed := true }
def CameraShiftsUptoSaid : Prop := cameraShiftsUptoRow.holds Tryd.pinned (OpenSpec.upto cameraShiftsSpec)

/-- 'scorebooklaw31.CameraMoves', WHERE WHAT IT READS IS OF BULK AT MOST 1048576: true; the input reads as it did. -/
def cameraMovesUptoRow : OpenClaim := { program := "ytjnaficgcellkaadoor", sum := "d90f2008e554d957ae9b458fefa0b8de61b636607042e3c9fcd5c5288018c975", func := "scorebook/scorebooklaw31.CameraMoves", spec := "cameraMoves", inPlace := ["internal/abi.NoEscape", "internal/bytealg.MakeNoZero"], named := ["scorebook/camera.least", "scorebook/camera.most", "internal/strconv.uint64pow10", "math/bits.deBruijn32tab", "math/bits.deBruijn64tab"], apart := false, laid := [("math/bits.deBruijn32tab", laid_math_bits_deBruijn32tab), ("math/bits.deBruijn64tab", laid_math_bits_deBruijn64tab), ("internal/strconv.uint64pow10", laid_internal_strconv_uint64pow10), ("scorebook/camera.least", laid_scorebook_camera_least), ("scorebook/camera.most", laid_scorebook_camera_most)], narrowed := true }
def CameraMovesUptoSaid : Prop := cameraMovesUptoRow.holds Tryd.pinned (OpenSpec.upto cameraMovesSpec)

/-- 'scorebooklaw31.CameraTexts', WHERE WHAT IT READS IS OF BULK AT MOST 1048576: true; the input reads as it did. -/
def cameraTextsUptoRow : OpenClaim := { program := "ytjnaficgcellkaadoor", sum := "d90f2008e554d957ae9b458fefa0b8de61b636607042e3c9fcd5c5288018c975", func := "scorebook/scorebooklaw31.CameraTexts", spec := "cameraTexts", inPlace := ["internal/abi.NoEscape", "internal/bytealg.MakeNoZero", "internal/bytealg.IndexByteString", "internal/bytealg.IndexString", "internal/bytealg.CountString"], recurses := true, named := ["scorebook/camera.least", "scorebook/camera.most", "internal/strconv.uint64pow10", "math/bits.deBruijn32tab", "math/bits.deBruijn64tab", "internal/bytealg.MaxLen", "unicode/utf8.first", "unicode/utf8.acceptRanges", "strconv.ErrSyntax", "strconv.ErrRange"], apart := false, laid := [("math/bits.deBruijn32tab", laid_math_bits_deBruijn32tab), ("math/bits.deBruijn64tab", laid_math_bits_deBruijn64tab), ("internal/strconv.uint64pow10", laid_internal_strconv_uint64pow10), ("unicode/utf8.acceptRanges", laid_unicode_utf8_acceptRanges), ("strconv.ErrRange", laid_strconv_ErrRange), ("strconv.ErrSyntax", laid_strconv_ErrSyntax), ("scorebook/camera.least", laid_scorebook_camera_least), ("scorebook/camera.most", laid_scorebook_camera_most), ("unicode/utf8.first", laid_unicode_utf8_first)], narrowed := true }
def CameraTextsUptoSaid : Prop := cameraTextsUptoRow.holds Tryd.pinned (OpenSpec.upto cameraTextsSpec)

/-- 'scorebooklaw31.CameraParses', WHERE WHAT IT READS IS OF BULK AT MOST 1048576: true; the input reads as it did. -/
def cameraParsesUptoRow : OpenClaim := { program := "ytjnaficgcellkaadoor", sum := "d90f2008e554d957ae9b458fefa0b8de61b636607042e3c9fcd5c5288018c975", func := "scorebook/scorebooklaw31.CameraParses", spec := "cameraParses", inPlace := ["internal/abi.NoEscape", "internal/bytealg.MakeNoZero", "internal/bytealg.IndexByteString", "internal/bytealg.IndexString", "internal/bytealg.CountString"], recurses := true, named := ["scorebook/camera.least", "scorebook/camera.most", "internal/strconv.uint64pow10", "math/bits.deBruijn32tab", "math/bits.deBruijn64tab", "internal/bytealg.MaxLen", "unicode/utf8.first", "unicode/utf8.acceptRanges", "strconv.ErrSyntax", "strconv.ErrRange"], apart := false, laid := [("math/bits.deBruijn32tab", laid_math_bits_deBruijn32tab), ("math/bits.deBruijn64tab", laid_math_bits_deBruijn64tab), ("internal/strconv.uint64pow10", laid_internal_strconv_uint64pow10), ("unicode/utf8.acceptRanges", laid_unicode_utf8_acceptRanges), ("strconv.ErrRange", laid_strconv_ErrRange), ("strconv.ErrSyntax", laid_strconv_ErrSyntax), ("scorebook/camera.least", laid_scorebook_camera_least), ("scorebook/camera.most", laid_scorebook_camera_most), ("unicode/utf8.first", laid_unicode_utf8_first)], narrowed := true }
def CameraParsesUptoSaid : Prop := cameraParsesUptoRow.holds Tryd.pinned (OpenSpec.upto cameraParsesSpec)

end Rows
end Go.Proofs.YtjnaficgcellkaaDoor
