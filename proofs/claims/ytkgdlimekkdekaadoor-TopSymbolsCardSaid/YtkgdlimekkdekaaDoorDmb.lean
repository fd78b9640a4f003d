/- Contracts of layer 10 (dismissal): Ways on no-balls and on what is no type. -/
import Derived.Test.YtkgdlimekkdekaaDoorVz
import Derived.KernelRfl
import Derived.Test.YtkgdlimekkdekaaDoorProg
import Derived.Test.YtkgdlimekkdekaaDoorDma
set_option linter.unusedSimpArgs false
set_option linter.unusedVariables false
set_option maxRecDepth 100000
namespace Go.Proofs.YtkgdlimekkdekaaDoor
open Go.RowKit

def ways_30_l : List Value := [.int .u8 6, .int .u8 7, .int .u8 8]
def ways_31_l : List Value := [.int .u8 6, .int .u8 7, .int .u8 8]
def ways_00_l : List Value := []
def ways_01_l : List Value := []
end Go.Proofs.YtkgdlimekkdekaaDoor
