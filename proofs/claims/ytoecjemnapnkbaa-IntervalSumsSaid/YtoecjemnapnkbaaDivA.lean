/- The contract of bits.Div64: the quotient and the rest of hi * 2^64 + lo by y, for hi below y. -/
import Derived.Test.YtoecjemnapnkbaaWideW
import Derived.Test.YtoecjemnapnkbaaShelf
import Derived.Test.YtoecjemnapnkbaaDivMath
set_option linter.unusedSimpArgs false
set_option linter.unusedVariables false
namespace Go.Proofs.Ytoecjemnapnkbaa
open Go.RowKit

end Go.Proofs.Ytoecjemnapnkbaa
