/- The contract of bits.Div64: the quotient and the rest of hi * 2^64 + lo by y, for hi below y. -/
import Derived.Test.YtjmfhcloicembaaWideW
import Derived.Test.YtjmfhcloicembaaShelf
import Derived.Test.YtjmfhcloicembaaDivMath
set_option linter.unusedSimpArgs false
set_option linter.unusedVariables false
namespace Go.Proofs.Ytjmfhcloicembaa
open Go.RowKit

end Go.Proofs.Ytjmfhcloicembaa
