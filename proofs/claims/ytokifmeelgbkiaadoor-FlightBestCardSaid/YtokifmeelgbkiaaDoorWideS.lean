/- Contracts of the reference's absolute values in four parts of 32 bits: size, of. -/
import Derived.Test.YtokifmeelgbkiaaDoorWideR
import Derived.Laws.BitsAllLaws
set_option linter.unusedSimpArgs false
set_option linter.unusedVariables false
namespace Go.Proofs.YtokifmeelgbkiaaDoor
open Go.RowKit

def l0 (x : Int) : Int := x % 4294967296
def l1 (x : Int) : Int := x / 4294967296 % 4294967296
def l2 (x : Int) : Int := x / 18446744073709551616 % 4294967296
def l3 (x : Int) : Int := x / 79228162514264337593543950336 % 4294967296
/-- An absolute value below 2^128 in four parts, the lowest first. -/
abbrev P4 (x : Int) : Value := .agg #[.int .u64 (l0 x), .int .u64 (l1 x), .int .u64 (l2 x), .int .u64 (l3 x)]

theorem not64 (x : Int) (h0 : 0 ≤ x) (h1 : x < 18446744073709551616) : bits .xor .u64 IntKind.u64.max x = 18446744073709551615 - x := by
  obtain ⟨x, rfl⟩ := Int.eq_ofNat_of_zero_le h0
  have h1 : x < 18446744073709551616 := by omega
  have h2 : IntKind.u64.max = ((18446744073709551615 : Nat) : Int) := by decide
  rw [h2, u64_xor_nat _ _ (by decide) h1]
  have h3 : 18446744073709551615 ^^^ x = 18446744073709551615 - x := by
    have : (BitVec.allOnes 64 ^^^ BitVec.ofNat 64 x).toNat = 18446744073709551615 - x := by
      rw [BitVec.allOnes_xor, BitVec.toNat_not, BitVec.toNat_ofNat, Nat.mod_eq_of_lt (by simpa using h1)]
    rw [BitVec.toNat_xor, BitVec.toNat_allOnes, BitVec.toNat_ofNat, Nat.mod_eq_of_lt (by simpa using h1)] at this
    simpa using this
  rw [h3]; omega
theorem and32 (x : Int) (h0 : 0 ≤ x) (h1 : x < 18446744073709551616) : bits .and .u64 x 4294967295 = x % 4294967296 := by
  rw [u64_and x _ h0 h1 (by decide) (by decide)]
  have : (4294967295 : Int).toNat = 4294967295 := rfl
  rw [this, nat_mask32]
  omega
theorem or32 (x y : Int) (h0 : 0 ≤ x) (h1 : x < 4294967296) (h2 : 0 ≤ y) (h3 : y < 4294967296) : bits .or .u64 (x * 4294967296) y = x * 4294967296 + y := by
  rw [u64_or _ y (by omega) (by omega) h2 (by omega), nat_join 32 _ _ (by omega) (by omega)]
  omega
theorem P4_size_lo (a : Int) (h : 0 ≤ a) (h2 : a < 340282366920938463463374607431768211456) : bits .and .u64 (wl a) 4294967295 = l0 a ∧ wl a / 4294967296 = l1 a ∧ bits .and .u64 (wh a) 4294967295 = l2 a ∧ wh a / 4294967296 = l3 a := by
  rw [and32 _ (by unfold wl; omega) (by unfold wl; omega), and32 _ (by unfold wh; omega) (by unfold wh; omega)]
  unfold wl wh l0 l1 l2 l3
  omega

end Go.Proofs.YtokifmeelgbkiaaDoor
