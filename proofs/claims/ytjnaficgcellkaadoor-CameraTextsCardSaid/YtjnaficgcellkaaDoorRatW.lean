/- Plain words for ratios with parts of 64 bits. -/
import Derived.Test.YtjnaficgcellkaaDoorRows
import Derived.WalkKit
import Derived.WalkSpells
import Derived.WalkLawsBesides
import Derived.StillTactics
import Derived.Laws.Pointers
import Derived.Laws.Externs
import Derived.Laws.BitsAllLaws
import Derived.Deep.RegionHeld3
import Derived.BigQuiet
import Derived.Deep.QuietTactic
import Derived.Outline
import Derived.Handy
import Derived.Lib.Hide
set_option linter.unusedSimpArgs false
set_option linter.unusedVariables false
namespace Go.Proofs.YtjnaficgcellkaaDoor
open Go.RowKit

abbrev R2 (n d : Int) : Value := .agg #[.int .i64 n, .int .i64 d]
def I64 (n : Int) : Prop := -9223372036854775808 ≤ n ∧ n ≤ 9223372036854775807
def least : Int := -9223372036854775808
def absI (n : Int) : Int := if n < 0 then -n else n
def gcdI (a b : Int) : Int := if a = least ∨ b = least then 0 else (Nat.gcd a.natAbs b.natAbs : Int)
def boundB (n d : Int) : Bool := decide (1 ≤ d) && (decide (d ≤ 2147483648) && (decide (-2147483648 ≤ n) && decide (n ≤ 2147483648)))
def validB (n d : Int) : Bool := boundB n d && (gcdI n d == 1)

/-- Behind a callee that leaves old memory alone. -/
theorem below_step {B : Nat} {W W1 w1 : World} (h : Below B W W1) (hB : B ≤ W1.heap.size) (hb : Below W1.heap.size W1 w1) : Below B W w1 := h.trans (hb.mono hB)
theorem belowN {B : Nat} {a w : World} (h : Below B a w) (n : Nat) : Below B a (w.drewN n) := ⟨h.os, h.tape, h.output, h.size, h.block⟩
theorem size_drewN' (w : World) (n : Nat) : (w.drewN n).heap.size = w.heap.size := rfl

theorem drewN_two (w : World) (k n : Nat) : (w.drewN k).drewN n = w.drewN (k + n) := by simp
theorem gcd_next (x y : Nat) : Nat.gcd x y = Nat.gcd y (x % y) := by rw [Nat.gcd_comm x y, Nat.gcd_rec y x, Nat.gcd_comm]
theorem gcdI_0 (a b : Int) : 0 ≤ gcdI a b := by unfold gcdI; split <;> omega
theorem gcdI_le (a b : Int) (ha : I64 a) (hb : I64 b) : gcdI a b ≤ 9223372036854775807 := by
  unfold I64 at *
  unfold gcdI least
  split
  · omega
  · rcases Nat.eq_zero_or_pos a.natAbs with h | h
    · rw [h, Nat.gcd_zero_left]; omega
    · have := Nat.gcd_le_left b.natAbs h; omega
end Go.Proofs.YtjnaficgcellkaaDoor
