/-
  NARROWER THAN 'FOR EVERY INPUT', by the rows' own cells (each row's printed sentence says how): FlightRaises: laid · FlightFits: laid · FlightBest: laid · FlightPlaces: laid · FlightDraws: laid · FlightDrawn: laid · FlightMirrors: laid.
  DERIVED. THE GIVEN ROWS OF THIS SEAT. 7 by the template 'for every input the law returns true; each argument reads behind the call as it read before'; 0 by the template 'total and deterministic' (their statements: YtokifmeelgbkiaaDoorTotals.lean).
  GIVEN WITH THE SEED: the statements are not yours to turn. If you find one false, say at which input.
  Laid BY PROGRAM, IN A SANDBOX (cutbox-rows.mjs): the forced cells as the released guide's own fill.sh prints them over the translation ec6212b70059cb75… (all of the seat's roots in one cut). By AI agents, Wed Nov 11 2026. No macro, syntax, notation, axiom, sorry.
-/
import Derived.Test.YtokifmeelgbkiaaDoorChecked
import GoSem.Claim
import GoSem.ClaimJoined
import GoSem.ClaimMapViews
import Derived.JoinedTies
import Derived.KernelRfl
namespace Go.Proofs.YtokifmeelgbkiaaDoor
/- THE CELL 'sum', in the pinned program and in every row, IS THE sha256 OF THE DUMP (.gsa) THAT YtokifmeelgbkiaaDoorProg.lean LOADS. Nothing in Lean hashes anything: it is a label: what it is worth is what the hold of that sum in a sandbox is worth. -/
noncomputable def Tryd.pinned : Pinned := { name := "ytokifmeelgbkiaadoor", sum := "ec6212b70059cb75ecea9836d7b78edb294167976544495ca03d240b3478d2b3", checked := Tryd.checked }
namespace Rows
def none {H : Type} : Left H := { results := [], args := [] }

/- WHAT THE LISTED PACKAGE-LEVEL VARIABLES READ AS WHEN THE CALL BEGINS. Each datum BY PROGRAM (the guide's laid-datum.mjs) off the statement by which the dump's own 'gosem.cut.vars' lays the variable. In a bare row this is a premise. The card (YtokifmeelgbkiaaDoorCards.lean) ties it to the program's text. -/
def laid_scorebook_camera_least {H : Type} : DataW H := .agg [.lit (.int .i64 0), .lit (.int .i64 (-300000)), .lit (.int .i64 (-50000)), .lit (.int .i64 0), .lit (.int .i64 1)]
def laid_scorebook_camera_most {H : Type} : DataW H := .agg [.lit (.int .i64 4000), .lit (.int .i64 300000), .lit (.int .i64 50000), .lit (.int .i64 50000), .lit (.int .i64 1000)]

/-- 'scorebooklaw32.FlightRaises': WHATEVER THE INPUT: true; the input reads as it did. -/
def flightRaisesSpec : ChangeSpec := { name := "flightRaises", fn := fun _ => fun
  | [d1, d2] => { results := [.lit (.bool true)], args := [d1, d2] }
  | _ => none }
def flightRaisesRow : OpenClaim := { program := "ytokifmeelgbkiaadoor", sum := "ec6212b70059cb75ecea9836d7b78edb294167976544495ca03d240b3478d2b3", func := "scorebook/scorebooklaw32.FlightRaises", spec := "flightRaises", unfollowed := true, recurses := true, named := ["scorebook/camera.least", "scorebook/camera.most"], apart := false, laid := [("scorebook/camera.least", laid_scorebook_camera_least), ("scorebook/camera.most", laid_scorebook_camera_most)] }
def FlightRaisesSaid : Prop := flightRaisesRow.holds Tryd.pinned (OpenSpec.ofChange flightRaisesSpec)

/-- ITS FALSE NEIGHBOUR: 'it returns false'. Refute it at one input. -/
def flightRaisesWrong : ChangeSpec := { name := "flightRaises", fn := fun _ => fun
  | [d1, d2] => { results := [.lit (.bool false)], args := [d1, d2] }
  | _ => none }
def FlightRaisesWrongFalsely : Prop := flightRaisesRow.holds Tryd.pinned (OpenSpec.ofChange flightRaisesWrong)

/-- 'scorebooklaw32.FlightFits': WHATEVER THE INPUT: true; the input reads as it did. -/
def flightFitsSpec : ChangeSpec := { name := "flightFits", fn := fun _ => fun
  | [d] => { results := [.lit (.bool true)], args := [d] }
  | _ => none }
def flightFitsRow : OpenClaim := { program := "ytokifmeelgbkiaadoor", sum := "ec6212b70059cb75ecea9836d7b78edb294167976544495ca03d240b3478d2b3", func := "scorebook/scorebooklaw32.FlightFits", spec := "flightFits", unfollowed := true, recurses := true, named := ["scorebook/camera.least", "scorebook/camera.most"], apart := false, laid := [("scorebook/camera.least", laid_scorebook_camera_least), ("scorebook/camera.most", laid_scorebook_camera_most)] }
def FlightFitsSaid : Prop := flightFitsRow.holds Tryd.pinned (OpenSpec.ofChange flightFitsSpec)

/-- ITS FALSE NEIGHBOUR: 'it returns false'. Refute it at one input. -/
def flightFitsWrong : ChangeSpec := { name := "flightFits", fn := fun _ => fun
  | [d] => { results := [.lit (.bool false)], args := [d] }
  | _ => none }
def FlightFitsWrongFalsely : Prop := flightFitsRow.holds Tryd.pinned (OpenSpec.ofChange flightFitsWrong)

/-- 'scorebooklaw32.FlightBest': WHATEVER THE INPUT: true; the input reads as it did. -/
def flightBestSpec : ChangeSpec := { name := "flightBest", fn := fun _ => fun
  | [d] => { results := [.lit (.bool true)], args := [d] }
  | _ => none }
def flightBestRow : OpenClaim := { program := "ytokifmeelgbkiaadoor", sum := "ec6212b70059cb75ecea9836d7b78edb294167976544495ca03d240b3478d2b3", func := "scorebook/scorebooklaw32.FlightBest", spec := "flightBest", inPlace := ["math/bits.Add64", "math/bits.Sub64"], unfollowed := true, recurses := true, named := ["scorebook/camera.least", "scorebook/camera.most"], apart := false, laid := [("scorebook/camera.least", laid_scorebook_camera_least), ("scorebook/camera.most", laid_scorebook_camera_most)] }
def FlightBestSaid : Prop := flightBestRow.holds Tryd.pinned (OpenSpec.ofChange flightBestSpec)

/-- ITS FALSE NEIGHBOUR: 'it returns false'. Refute it at one input. -/
def flightBestWrong : ChangeSpec := { name := "flightBest", fn := fun _ => fun
  | [d] => { results := [.lit (.bool false)], args := [d] }
  | _ => none }
def FlightBestWrongFalsely : Prop := flightBestRow.holds Tryd.pinned (OpenSpec.ofChange flightBestWrong)

/-- 'scorebooklaw32.FlightPlaces': WHATEVER THE INPUT: true; the input reads as it did. -/
def flightPlacesSpec : ChangeSpec := { name := "flightPlaces", fn := fun _ => fun
  | [d1, d2] => { results := [.lit (.bool true)], args := [d1, d2] }
  | _ => none }
def flightPlacesRow : OpenClaim := { program := "ytokifmeelgbkiaadoor", sum := "ec6212b70059cb75ecea9836d7b78edb294167976544495ca03d240b3478d2b3", func := "scorebook/scorebooklaw32.FlightPlaces", spec := "flightPlaces", unfollowed := true, recurses := true, named := ["scorebook/camera.least", "scorebook/camera.most"], apart := false, laid := [("scorebook/camera.least", laid_scorebook_camera_least), ("scorebook/camera.most", laid_scorebook_camera_most)] }
def FlightPlacesSaid : Prop := flightPlacesRow.holds Tryd.pinned (OpenSpec.ofChange flightPlacesSpec)

/-- ITS FALSE NEIGHBOUR: 'it returns false'. Refute it at one input. -/
def flightPlacesWrong : ChangeSpec := { name := "flightPlaces", fn := fun _ => fun
  | [d1, d2] => { results := [.lit (.bool false)], args := [d1, d2] }
  | _ => none }
def FlightPlacesWrongFalsely : Prop := flightPlacesRow.holds Tryd.pinned (OpenSpec.ofChange flightPlacesWrong)

/-- 'scorebooklaw32.FlightDraws': WHATEVER THE INPUT: true; the input reads as it did. -/
def flightDrawsSpec : ChangeSpec := { name := "flightDraws", fn := fun _ => fun
  | [d1, d2] => { results := [.lit (.bool true)], args := [d1, d2] }
  | _ => none }
def flightDrawsRow : OpenClaim := { program := "ytokifmeelgbkiaadoor", sum := "ec6212b70059cb75ecea9836d7b78edb294167976544495ca03d240b3478d2b3", func := "scorebook/scorebooklaw32.FlightDraws", spec := "flightDraws", unfollowed := true, recurses := true, named := ["scorebook/camera.least", "scorebook/camera.most"], apart := false, laid := [("scorebook/camera.least", laid_scorebook_camera_least), ("scorebook/camera.most", laid_scorebook_camera_most)] }
def FlightDrawsSaid : Prop := flightDrawsRow.holds Tryd.pinned (OpenSpec.ofChange flightDrawsSpec)

/-- ITS FALSE NEIGHBOUR: 'it returns false'. Refute it at one input. -/
def flightDrawsWrong : ChangeSpec := { name := "flightDraws", fn := fun _ => fun
  | [d1, d2] => { results := [.lit (.bool false)], args := [d1, d2] }
  | _ => none }
def FlightDrawsWrongFalsely : Prop := flightDrawsRow.holds Tryd.pinned (OpenSpec.ofChange flightDrawsWrong)

/-- 'scorebooklaw32.FlightDrawn': WHATEVER THE INPUT: true; the input reads as it did. -/
def flightDrawnSpec : ChangeSpec := { name := "flightDrawn", fn := fun _ => fun
  | [d1, d2] => { results := [.lit (.bool true)], args := [d1, d2] }
  | _ => none }
def flightDrawnRow : OpenClaim := { program := "ytokifmeelgbkiaadoor", sum := "ec6212b70059cb75ecea9836d7b78edb294167976544495ca03d240b3478d2b3", func := "scorebook/scorebooklaw32.FlightDrawn", spec := "flightDrawn", unfollowed := true, recurses := true, named := ["scorebook/camera.least", "scorebook/camera.most"], apart := false, laid := [("scorebook/camera.least", laid_scorebook_camera_least), ("scorebook/camera.most", laid_scorebook_camera_most)] }
def FlightDrawnSaid : Prop := flightDrawnRow.holds Tryd.pinned (OpenSpec.ofChange flightDrawnSpec)

/-- ITS FALSE NEIGHBOUR: 'it returns false'. Refute it at one input. -/
def flightDrawnWrong : ChangeSpec := { name := "flightDrawn", fn := fun _ => fun
  | [d1, d2] => { results := [.lit (.bool false)], args := [d1, d2] }
  | _ => none }
def FlightDrawnWrongFalsely : Prop := flightDrawnRow.holds Tryd.pinned (OpenSpec.ofChange flightDrawnWrong)

/-- 'scorebooklaw32.FlightMirrors': WHATEVER THE INPUT: true; the input reads as it did. -/
def flightMirrorsSpec : ChangeSpec := { name := "flightMirrors", fn := fun _ => fun
  | [d] => { results := [.lit (.bool true)], args := [d] }
  | _ => none }
def flightMirrorsRow : OpenClaim := { program := "ytokifmeelgbkiaadoor", sum := "ec6212b70059cb75ecea9836d7b78edb294167976544495ca03d240b3478d2b3", func := "scorebook/scorebooklaw32.FlightMirrors", spec := "flightMirrors", unfollowed := true, recurses := true, named := ["scorebook/camera.least", "scorebook/camera.most"], apart := false, laid := [("scorebook/camera.least", laid_scorebook_camera_least), ("scorebook/camera.most", laid_scorebook_camera_most)] }
def FlightMirrorsSaid : Prop := flightMirrorsRow.holds Tryd.pinned (OpenSpec.ofChange flightMirrorsSpec)

/-- ITS FALSE NEIGHBOUR: 'it returns false'. Refute it at one input. -/
def flightMirrorsWrong : ChangeSpec := { name := "flightMirrors", fn := fun _ => fun
  | [d] => { results := [.lit (.bool false)], args := [d] }
  | _ => none }
def FlightMirrorsWrongFalsely : Prop := flightMirrorsRow.holds Tryd.pinned (OpenSpec.ofChange flightMirrorsWrong)

/- THE SECOND FORM. 'bulk': how many values and letters a reading holds, each counted each time it is reached (what is shared counts as often as it is met; a slice's spare places count too). A statement '..UptoSaid' is the law's where the arguments, and the package variables that the reading takes, are together of bulk at most 1048576: NARROWER than '..Said'. Prove '..Said' where nothing that the law and all that it calls make is longer than what came in: it says more and counts as full. Else prove '..UptoSaid'. A law counts once. -/
mutual
def uptoBulk {H : Type} : DataW H → Nat
  | .lit (.string bytes) => bytes.length + 1
  | .lit _ => 1
  | .nil => 1
  | .ptr d => uptoBulk d + 1
  | .slice elems spare => uptoBulkAll elems + uptoBulkAll spare + 1
  | .agg parts => uptoBulkAll parts + 1
  | .iface _ d => uptoBulk d + 1
  | .map entries => uptoBulkEntries entries + 1
  | .held _ => 1
def uptoBulkAll {H : Type} : List (DataW H) → Nat
  | [] => 0
  | d :: r => uptoBulk d + uptoBulkAll r
def uptoBulkEntries {H : Type} : List (Lit × DataW H) → Nat
  | [] => 0
  | x :: r => uptoBulkEntry x + uptoBulkEntries r
def uptoBulkEntry {H : Type} : Lit × DataW H → Nat
  | (.string bytes, d) => bytes.length + uptoBulk d + 1
  | (_, d) => uptoBulk d + 1
 end
def uptoSmall : (H : Type) → List (DataW H) → Bool := fun _ ds => decide (uptoBulkAll ds ≤ 1048576)
def OpenSpec.upto (s : _root_.Go.ChangeSpec) : _root_.Go.OpenSpec := { _root_.Go.OpenSpec.ofChange s with cond := some uptoSmall }

/-- 'scorebooklaw32.FlightRaises', WHERE WHAT IT READS IS OF BULK AT MOST 1048576: true; the input reads as it did. -/
def flightRaisesUptoRow : OpenClaim := { program := "ytokifmeelgbkiaadoor", sum := "ec6212b70059cb75ecea9836d7b78edb294167976544495ca03d240b3478d2b3", func := "scorebook/scorebooklaw32.FlightRaises", spec := "flightRaises", unfollowed := true, recurses := true, named := ["scorebook/camera.least", "scorebook/camera.most"], apart := false, laid := [("scorebook/camera.least", laid_scorebook_camera_least), ("scorebook/camera.most", laid_scorebook_camera_most)], narrowed := true }
def FlightRaisesUptoSaid : Prop := flightRaisesUptoRow.holds Tryd.pinned (OpenSpec.upto flightRaisesSpec)

/-- 'scorebooklaw32.FlightFits', WHERE WHAT IT READS IS OF BULK AT MOST 1048576: true; the input reads as it did. -/
def flightFitsUptoRow : OpenClaim := { program := "ytokifmeelgbkiaadoor", sum := "ec6212b70059cb75ecea9836d7b78edb294167976544495ca03d240b3478d2b3", func := "scorebook/scorebooklaw32.FlightFits", spec := "flightFits", unfollowed := true, recurses := true, named := ["scorebook/camera.least", "scorebook/camera.most"], apart := false, laid := [("scorebook/camera.least", laid_scorebook_camera_least), ("scorebook/camera.most", laid_scorebook_camera_most)], narrowed := true }
def FlightFitsUptoSaid : Prop := flightFitsUptoRow.holds Tryd.pinned (OpenSpec.upto flightFitsSpec)

/-- 'scorebooklaw32.FlightBest', WHERE WHAT IT READS IS OF BULK AT MOST 1048576: true; the input reads as it did. -/
def flightBestUptoRow : OpenClaim := { program := "ytokifmeelgbkiaadoor", sum := "ec6212b70059cb75ecea9836d7b78edb294167976544495ca03d240b3478d2b3", func := "scorebook/scorebooklaw32.FlightBest", spec := "flightBest", inPlace := ["math/bits.Add64", "math/bits.Sub64"], unfollowed := true, recurses := true, named := ["scorebook/camera.least", "scorebook/camera.most"], apart := false, laid := [("scorebook/camera.least", laid_scorebook_camera_least), ("scorebook/camera.most", laid_scorebook_camera_most)], narrowed := true }
def FlightBestUptoSaid : Prop := flightBestUptoRow.holds Tryd.pinned (OpenSpec.upto flightBestSpec)

/-- 'scorebooklaw32.FlightPlaces', WHERE WHAT IT READS IS OF BULK AT MOST 1048576: true; the input reads as it did. -/
def flightPlacesUptoRow : OpenClaim := { program := "ytokifmeelgbkiaadoor", sum := "ec6212b70059cb75ecea9836d7b78edb294167976544495ca03d240b3478d2b3", func := "scorebook/scorebooklaw32.FlightPlaces", spec := "flightPlaces", unfollowed := true, recurses := true, named := ["scorebook/camera.least", "scorebook/camera.most"], apart := false, laid := [("scorebook/camera.least", laid_scorebook_camera_least), ("scorebook/camera.most", laid_scorebook_camera_most)], narrowed := true }
def FlightPlacesUptoSaid : Prop := flightPlacesUptoRow.holds Tryd.pinned (OpenSpec.upto flightPlacesSpec)

/-- 'scorebooklaw32.FlightDraws', WHERE WHAT IT READS IS OF BULK AT MOST 1048576: true; the input reads as it did. -/
def flightDrawsUptoRow : OpenClaim := { program := "ytokifmeelgbkiaadoor", sum := "ec6212b70059cb75ecea9836d7b78edb294167976544495ca03d240b3478d2b3", func := "scorebook/scorebooklaw32.FlightDraws", spec := "flightDraws", unfollowed := true, recurses := true, named := ["scorebook/camera.least", "scorebook/camera.most"], apart := false, laid := [("scorebook/camera.least", laid_scorebook_camera_least), ("scorebook/camera.most", laid_scorebook_camera_most)], narrowed := true }
def FlightDrawsUptoSaid : Prop := flightDrawsUptoRow.holds Tryd.pinned (OpenSpec.upto flightDrawsSpec)

/-- 'scorebooklaw32.FlightDrawn', WHERE WHAT IT READS IS OF BULK AT MOST 1048576: true; the input reads as it did. -/
def flightDrawnUptoRow : OpenClaim := { program := "ytokifmeelgbkiaadoor", sum := "ec6212b70059cb75ecea9836d7b78edb294167976544495ca03d240b3478d2b3", func := "scorebook/scorebooklaw32.FlightDrawn", spec := "flightDrawn", unfollowed := true, recurses := true, named := ["scorebook/camera.least", "scorebook/camera.most"], apart := false, laid := [("scorebook/camera.least", laid_scorebook_camera_least), ("scorebook/camera.most", laid_scorebook_camera_most)], narrowed := true }
def FlightDrawnUptoSaid : Prop := flightDrawnUptoRow.holds Tryd.pinned (OpenSpec.upto flightDrawnSpec)

/-- 'scorebooklaw32.FlightMirrors', WHERE WHAT IT READS IS OF BULK AT MOST 1048576: true; the input reads as it did. -/
def flightMirrorsUptoRow : OpenClaim := { program := "ytokifmeelgbkiaadoor", sum := "ec6212b70059cb75ecea9836d7b78edb294167976544495ca03d240b3478d2b3", func := "scorebook/scorebooklaw32.FlightMirrors", spec := "flightMirrors", unfollowed := true, recurses := true, named := ["scorebook/camera.least", "scorebook/camera.most"], apart := false, laid := [("scorebook/camera.least", laid_scorebook_camera_least), ("scorebook/camera.most", laid_scorebook_camera_most)], narrowed := true }
def FlightMirrorsUptoSaid : Prop := flightMirrorsUptoRow.holds Tryd.pinned (OpenSpec.upto flightMirrorsSpec)

end Rows
end Go.Proofs.YtokifmeelgbkiaaDoor
