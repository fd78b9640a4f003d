/- Plain arithmetic of reduced ratios. -/
import Derived.Test.YtaabebmaobdofaaDoorRatD
set_option linter.unusedSimpArgs false
set_option linter.unusedVariables false
namespace Go.Proofs.YtaabebmaobdofaaDoor
open Go.RowKit

def flip (n d : Int) : Int := if d < 0 then -n else n
def redN (n d : Int) : Int := (flip n d).tdiv (gcdI n d)
def redD (n d : Int) : Int := (absI d).tdiv (gcdI n d)
def makeE (n d : Int) : Int := if d = 0 then 1 else if n = least ∨ d = least then 2 else if boundB (redN n d) (redD n d) then 0 else 2
def makeN (n d : Int) : Int := if makeE n d = 0 then redN n d else 0
def makeD (n d : Int) : Int := if makeE n d = 0 then redD n d else 0

theorem natAbs_flip (n d : Int) : (flip n d).natAbs = n.natAbs := by unfold flip; split <;> omega
theorem natAbs_absI (d : Int) : (absI d).natAbs = d.natAbs := by unfold absI; split <;> omega
theorem absI_0 (d : Int) : 0 ≤ absI d := by unfold absI; split <;> omega
theorem gcdI_nat {n d : Int} (hn : n ≠ least) (hd : d ≠ least) : gcdI n d = (Nat.gcd n.natAbs d.natAbs : Int) := by simp [gcdI, hn, hd]
theorem gcdI_1 {n d : Int} (hn : n ≠ least) (hd : d ≠ least) (h0 : d ≠ 0) : 1 ≤ gcdI n d := by
  rw [gcdI_nat hn hd]
  have : 0 < Nat.gcd n.natAbs d.natAbs := Nat.gcd_pos_of_pos_right _ (by omega)
  omega
theorem tdiv_small (x g : Int) (hg : 1 ≤ g) (hx : x.natAbs ≤ 9223372036854775807) : -9223372036854775807 ≤ x.tdiv g ∧ x.tdiv g ≤ 9223372036854775807 := by
  have := Int.natAbs_tdiv_le_natAbs x g
  omega
theorem gcd_red {n d : Int} (hn : n ≠ least) (hd : d ≠ least) (h0 : d ≠ 0) (bn : n.natAbs ≤ 9223372036854775807) (bd : d.natAbs ≤ 9223372036854775807) : gcdI (redN n d) (redD n d) = 1 := by
  have g1 := gcdI_1 hn hd h0
  have hg := gcdI_nat hn hd
  have a1 := tdiv_small (flip n d) (gcdI n d) g1 (by rw [natAbs_flip]; exact bn)
  have a2 := tdiv_small (absI d) (gcdI n d) g1 (by rw [natAbs_absI]; exact bd)
  have e1 : redN n d ≠ least := by unfold redN least; omega
  have e2 : redD n d ≠ least := by unfold redD least; omega
  rw [gcdI_nat e1 e2]
  unfold redN redD
  rw [Int.natAbs_tdiv, Int.natAbs_tdiv, natAbs_flip, natAbs_absI, hg, Int.natAbs_natCast]
  have := Nat.gcd_div_gcd_div_gcd_of_pos_right (n := n.natAbs) (m := d.natAbs) (by omega)
  exact congrArg Int.ofNat this
theorem valid_red {n d : Int} (hn : n ≠ least) (hd : d ≠ least) (h0 : d ≠ 0) (bn : n.natAbs ≤ 9223372036854775807) (bd : d.natAbs ≤ 9223372036854775807) : validB (redN n d) (redD n d) = boundB (redN n d) (redD n d) := by
  unfold validB; rw [gcd_red hn hd h0 bn bd]; simp
end Go.Proofs.YtaabebmaobdofaaDoor
