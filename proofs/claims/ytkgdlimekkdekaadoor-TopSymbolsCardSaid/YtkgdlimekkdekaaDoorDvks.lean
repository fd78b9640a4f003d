/- Layer 9 (delivery): Credit of both, part by part; Check of a delivery by notation. -/
import Derived.Test.YtkgdlimekkdekaaDoorVz
import Derived.KernelRfl
import Derived.Test.YtkgdlimekkdekaaDoorProg
import Derived.Test.YtkgdlimekkdekaaDoorDvb
import Derived.Test.YtkgdlimekkdekaaDoorRda
set_option linter.unusedSimpArgs false
set_option linter.unusedVariables false
set_option maxRecDepth 100000
namespace Go.Proofs.YtkgdlimekkdekaaDoor
open Go.RowKit


def gc0 (d : Dl) : Int := if lg d = 0 then (if d.s = 1 then crn d else 0) else 0
def gc1 (wd : Int) (d : Dl) : Int := if lg d = 0 then (if d.t = 2 then IntKind.i64.wrap (wd + crn d) else 0) else 0
def gc2 (nb : Int) (d : Dl) : Int := if lg d = 0 then (if d.t = 3 then nb else 0) else 0
def gc3 (d : Dl) : Int := if lg d = 0 then (if d.s = 2 then crn d else 0) else 0
def gc4 (d : Dl) : Int := if lg d = 0 then (if d.s = 3 then crn d else 0) else 0
def gc5 (wd nb : Int) (d : Dl) : Int := if lg d = 0 then crb wd nb d else 0
def gc6 (d : Dl) : Bool := if lg d = 0 then d.t == 1 else false
def gc7 (d : Dl) : Bool := if lg d = 0 then d.t != 2 else false
def gc8 (d : Dl) : Bool := if lg d = 0 then crd d.h else false
def gc9 (d : Dl) : Bool := if lg d = 0 then (d.r.tmod 2 == 1) != d.x else false
theorem gcV_eq (wd nb : Int) (d : Dl) : crV wd nb d = .agg #[.int .i64 (gc0 d), .int .i64 (gc1 wd d), .int .i64 (gc2 nb d), .int .i64 (gc3 d), .int .i64 (gc4 d), .int .i64 (gc5 wd nb d), .bool (gc6 d), .bool (gc7 d), .bool (gc8 d), .bool (gc9 d)] := by
  unfold crV gc0 gc1 gc2 gc3 gc4 gc5 gc6 gc7 gc8 gc9
  split <;> rfl
def dlV (d : Dl) : Value := .agg #[.int .u8 d.t, .int .u8 d.s, .int .i64 d.r, .int .i64 d.sh, .int .i64 d.b, .bool d.x, .int .u8 d.h, .int .i64 d.v, .int .i64 d.f, .int .i64 d.g, .bool d.u, .int .i64 d.z]
def cdV (r : Rul) (d : Dl) : Value := .agg #[.int .i64 (gc0 d), .int .i64 (gc1 r.q6 d), .int .i64 (gc2 r.q7 d), .int .i64 (gc3 d), .int .i64 (gc4 d), .int .i64 (gc5 r.q6 r.q7 d), .bool (gc6 d), .bool (gc7 d), .bool (gc8 d), .bool (gc9 d)]
/-- What a delivery makes of the check of its numbers. -/
def ntC (d : Dl) : Int := if d.t < 1 ∨ d.t > 3 ∨ d.s > 3 ∨ d.h > 10 then 3 else if (d.r < 0 ∨ d.r > 7) ∨ (d.sh < 0 ∨ d.sh > d.r) ∨ (d.b ≠ 0 ∧ d.b ≠ 4 ∧ d.b ≠ 6) ∨ (d.v < 0 ∨ d.v > 2) ∨ (d.f < 0 ∨ d.f > 11) ∨ (d.g < 0 ∨ d.g > 11) ∨ (d.z < 0 ∨ d.z > 8) then 2 else 0

theorem rb3 (a b c : Bool) : (bif a then b || c else c) = (a && b || c) := by cases a <;> cases b <;> cases c <;> rfl
-- ntp not walked
theorem gcr_sp (r : Rul) (B : RAd) (d : Dl) : SpecP Tryd.prog 18 #[ruV r B, dlV d] (cdV r d) := by
  have h := credit_sp r.nm r.q1 r.q2 r.q3 r.q4 r.q5 r.q6 r.q7 r.fh r.q8 r.q9 r.qa r.qo B.a r.pw.length B.c d.t d.s d.r d.sh d.b d.x d.h d.v d.f d.g d.u d.z
  rw [gcV_eq] at h
  exact h

end Go.Proofs.YtkgdlimekkdekaaDoor
