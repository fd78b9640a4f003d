/- Contracts of the reference's Scale and Mul. -/
import Derived.Test.YtokifmeelgbkiaaDoorWideP
set_option linter.unusedSimpArgs false
set_option linter.unusedVariables false
namespace Go.Proofs.YtokifmeelgbkiaaDoor
open Go.RowKit

theorem fits_i64 {d : Int} (h : I64 d) : fits d := by unfold I64 at h; unfold fits lo127 hi127; omega
theorem if_sgn (m : Int) (n : Bool) : (if n then -m else m) = sgn m n := rfl

end Go.Proofs.YtokifmeelgbkiaaDoor
