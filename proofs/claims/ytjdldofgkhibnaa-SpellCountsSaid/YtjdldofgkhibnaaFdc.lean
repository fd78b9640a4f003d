/- Layer 11 (field): parts and functions of both, that change a state. -/
import Derived.Test.YtjdldofgkhibnaaVz
import Derived.KernelRfl
import Derived.Test.YtjdldofgkhibnaaProg
import Derived.Test.YtjdldofgkhibnaaFda
import Derived.Test.YtjdldofgkhibnaaFdb
set_option linter.unusedSimpArgs false
set_option linter.unusedVariables false
set_option maxRecDepth 100000
namespace Go.Proofs.Ytjdldofgkhibnaa
open Go.RowKit


def plr (s : Inn) (p : Int) : Bool := decide (1 ≤ p ∧ p ≤ s.sbs.length)
def rpl (s : Inn) (p : Int) : Bool := s.sbs.getD (p - 1).toNat false
def kpL (s : Inn) (p : Int) : Int := if plr s p = false then 3 else if rpl s p = true then 18 else if p = s.bw ∨ p = s.kp then 17 else 0
def sbL (s : Inn) (p : Int) (on : Bool) : Int := if plr s p = false then 3 else if rpl s p = on then 18 else 0
def ouL (s : Inn) (n : Int) : Int := if n < 0 ∨ n > s.sbs.length - 2 then 16 else 0
def kpS (s : Inn) (p : Int) : Inn := { s with kp := if kpL s p = 0 then p else s.kp }
def sbS (s : Inn) (p : Int) (on : Bool) : Inn := { s with sbs := if sbL s p on = 0 then s.sbs.set (p - 1).toNat on else s.sbs, kp := if sbL s p on = 0 ∧ on = true ∧ s.kp = p then 0 else s.kp, bw := if sbL s p on = 0 ∧ on = true ∧ s.bw = p then 0 else s.bw }
def ouS (s : Inn) (n : Int) : Inn := { s with ou := if ouL s n = 0 then n else s.ou }
theorem plr_in {s : Inn} {p : Int} (h : plr s p = true) : 1 ≤ p ∧ p ≤ s.sbs.length := by simpa [plr] using h
theorem wr1 {p : Int} {n : Nat} (h : 1 ≤ p ∧ p ≤ n) (hn : n ≤ 1000000) : IntKind.i64.wrap (p - 1) = p - 1 := IntWalk.i64_in _ (by omega)
theorem boolI {a b : Bool} (h : a = true ↔ b = true) : Value.bool a = Value.bool b := by rw [Bool.eq_iff_iff.2 h]
theorem intI {k : IntKind} {a b : Int} (h : a = b) : Value.int k a = Value.int k b := by rw [h]

end Go.Proofs.Ytjdldofgkhibnaa
