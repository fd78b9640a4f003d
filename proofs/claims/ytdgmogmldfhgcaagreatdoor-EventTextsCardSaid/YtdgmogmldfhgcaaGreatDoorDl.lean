/- A delivery, plain. -/
import Derived.Test.YtdgmogmldfhgcaaGreatDoorProg
set_option linter.unusedSimpArgs false
set_option linter.unusedVariables false
namespace Go.Proofs.YtdgmogmldfhgcaaGreatDoor

/-- A delivery, plain. -/
structure Dl where
  t : Int
  s : Int
  r : Int
  sh : Int
  b : Int
  x : Bool
  h : Int
  v : Int
  f : Int
  g : Int
  u : Bool
  z : Int
deriving DecidableEq
end Go.Proofs.YtdgmogmldfhgcaaGreatDoor
