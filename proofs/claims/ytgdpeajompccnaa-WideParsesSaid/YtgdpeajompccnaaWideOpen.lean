/- Arguments opened: an int64 is a number within its bounds, a wide number is (wh v, wl v) of a v within 128 bits. And the step from a walk to the row. -/
import Derived.Test.YtgdpeajompccnaaRows
import Derived.Test.YtgdpeajompccnaaWideE
import Derived.Test.YtgdpeajompccnaaFrame
import Derived.Lib.SmallJoins
set_option linter.unusedSimpArgs false
set_option linter.unusedVariables false
namespace Go.Proofs.Ytgdpeajompccnaa
open Go.ChangeShapes Go.WideShapes Go.ChangeAt Go.RowKit Go.Joins

theorem own : ownKnob Try.prog.godebug = none := by kernel_rfl
theorem laidOut : laidOutB Try.prog = true := by kernel_rfl
theorem cells24 : Try.prog.cellsOf 24 = 2 := by kernel_rfl

section
variable {H : Type} {enc : TypeId × Value → H} {w : World} {base b0 : Nat} {spare : Nat → Bool} {held : Bool} {r : Reach}
theorem open_i64 {v : Value} {d : DataW H} {p : List MemPlace} (hv : Value.okWide Try.prog w r b0 2 v) (h : DataW.Trod enc Try.prog w base spare held 2 v d p) : ∃ n, v = .int .i64 n ∧ I64 n := by
  obtain ⟨n, rfl, _, _, hw⟩ := open_int Try.underlying2 hv h
  refine ⟨n, rfl, ?_⟩
  simp [Lit.wf, IntKind.min, IntKind.max, IntKind.signed, IntKind.bits] at hw
  unfold I64; omega

theorem open_wide {v : Value} {d : DataW H} {p : List MemPlace} (hv : Value.okWide Try.prog w r b0 24 v) (h : DataW.Trod enc Try.prog w base spare held 24 v d p) : ∃ a, v = W a ∧ fits a := by
  obtain ⟨c0, c1, y0, y1, m, rfl, _, _, hy0, hy1⟩ := open_agg2 Try.underlying24 (by kernel_rfl) cells24 hv h
  obtain ⟨hi, e0, _, h0⟩ := DataW.trod_int Try.underlying2 hy0
  obtain ⟨lo, e1, _, h1⟩ := DataW.trod_int Try.underlying22 hy1
  simp only [List.cons.injEq, and_true] at e0 e1
  subst e0 e1
  simp [Lit.wf, IntKind.min, IntKind.max, IntKind.signed, IntKind.bits] at h0 h1
  refine ⟨hi * 18446744073709551616 + lo, ?_, by unfold fits lo127 hi127; omega⟩
  have e0 : wh (hi * 18446744073709551616 + lo) = hi := by unfold wh; omega
  have e1 : wl (hi * 18446744073709551616 + lo) = lo := by unfold wl; omega
  unfold W
  rw [e0, e1]
end
end Go.Proofs.Ytgdpeajompccnaa
