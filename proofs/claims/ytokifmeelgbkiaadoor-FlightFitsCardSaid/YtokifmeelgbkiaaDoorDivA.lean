/- The contract of bits.Div64: the quotient and the rest of hi * 2^64 + lo by y, for hi below y. -/
import Derived.Test.YtokifmeelgbkiaaDoorWideW
import Derived.Test.YtokifmeelgbkiaaDoorShelf
import Derived.Test.YtokifmeelgbkiaaDoorDivMath
set_option linter.unusedSimpArgs false
set_option linter.unusedVariables false
namespace Go.Proofs.YtokifmeelgbkiaaDoor
open Go.RowKit

end Go.Proofs.YtokifmeelgbkiaaDoor
