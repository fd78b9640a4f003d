/- Plain words for memory: a block known whole, rows of the call's own that stay. (The part of XMem that names no type of the texts.) -/
import Derived.Test.YtdgmogmldfhgcaaGreatDoorMem
set_option linter.unusedSimpArgs false
set_option linter.unusedVariables false
namespace Go.Proofs.YtdgmogmldfhgcaaGreatDoor


end Go.Proofs.YtdgmogmldfhgcaaGreatDoor
