/- Layer 8 (event): words. -/
import Derived.Test.YtdgmogmldfhgcaaGreatDoorVz
import Derived.KernelRfl
import Derived.Test.YtdgmogmldfhgcaaGreatDoorProg
import Derived.Test.YtdgmogmldfhgcaaGreatDoorDma
import Derived.Test.YtdgmogmldfhgcaaGreatDoorEvn
set_option linter.unusedSimpArgs false
set_option linter.unusedVariables false
set_option maxRecDepth 100000
namespace Go.Proofs.YtdgmogmldfhgcaaGreatDoor
open Go.RowKit


structure Ev where
  sd : Int
  pl : Int
  ot : Int
  ys : Bool
  rn : Int
  ov : Int
def evV (k : Int) (e : Ev) (d : Dl) : Value := .agg #[.int .u8 k, .int .i64 e.sd, .int .i64 e.pl, .int .i64 e.ot, .bool e.ys, .int .i64 e.rn, .int .i64 e.ov, .int .u8 d.t, .int .u8 d.s, .int .i64 d.r, .int .i64 d.sh, .int .i64 d.b, .bool d.x, .int .u8 d.h, .int .i64 d.v, .int .i64 d.f, .int .i64 d.g, .bool d.u, .int .i64 d.z]
def dlZ (d : Dl) : Bool := decide (d.t = 0 ∧ d.s = 0 ∧ d.r = 0 ∧ d.sh = 0 ∧ d.b = 0 ∧ d.x = false ∧ d.h = 0 ∧ d.v = 0 ∧ d.f = 0 ∧ d.g = 0 ∧ d.u = false ∧ d.z = 0)
/-- All that the kind does not use is zero. -/
def evU (k : Int) (e : Ev) (d : Dl) : Bool := decide ((k = 1 ∨ k = 11 ∨ k = 12 ∨ k = 13 ∨ k = 14 ∨ e.sd = 0) ∧ (k = 2 ∨ k = 3 ∨ k = 5 ∨ k = 6 ∨ k = 8 ∨ k = 9 ∨ e.pl = 0) ∧ (k = 2 ∨ e.ot = 0) ∧ (k = 1 ∨ k = 5 ∨ k = 6 ∨ k = 9 ∨ k = 12 ∨ k = 14 ∨ e.ys = false) ∧ (k = 7 ∨ k = 13 ∨ k = 15 ∨ e.rn = 0) ∧ (k = 15 ∨ e.ov = 0) ∧ (k = 4 ∨ dlZ d = true))
/-- What the kind uses is in its range. -/
def evR (k : Int) (e : Ev) : Bool := decide ((k = 1 ∨ k = 11 ∨ k = 12 ∨ k = 13 ∨ k = 14 → 1 ≤ e.sd ∧ e.sd ≤ 2) ∧ (k = 2 ∨ k = 3 ∨ k = 5 ∨ k = 6 ∨ k = 8 ∨ k = 9 → 1 ≤ e.pl ∧ e.pl ≤ 11) ∧ (k = 2 → 1 ≤ e.ot ∧ e.ot ≤ 11) ∧ (k = 7 → 0 ≤ e.rn ∧ e.rn ≤ 11) ∧ (k = 13 → 1 ≤ e.rn ∧ e.rn ≤ 99) ∧ (k = 15 → 0 ≤ e.rn ∧ e.rn ≤ 100000 ∧ 0 ≤ e.ov ∧ e.ov ≤ 90))
/-- The error of an event by itself. -/
def evC (k : Int) (e : Ev) (d : Dl) : Int := if k < 1 ∨ 16 < k then 3 else if evU k e d = false then 1 else if evR k e = false then 2 else if k = 4 then ntC d else 0

end Go.Proofs.YtdgmogmldfhgcaaGreatDoor
