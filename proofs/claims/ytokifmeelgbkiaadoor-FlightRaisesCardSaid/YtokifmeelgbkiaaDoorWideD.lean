/- Contracts of package wide's sizes: plus, over, times: each returns what its value says, old memory unchanged. -/
import Derived.Test.YtokifmeelgbkiaaDoorWideC
set_option linter.unusedSimpArgs false
set_option linter.unusedVariables false
namespace Go.Proofs.YtokifmeelgbkiaaDoor
open Go.RowKit

def U128 (m : Int) : Prop := 0 ≤ m ∧ m < 340282366920938463463374607431768211456
def u128 (m : Int) : Int := m % 340282366920938463463374607431768211456
def ltB (m : Int) : Bool := decide (m < 340282366920938463463374607431768211456)

theorem over_words (m n : Int) (h0 : 1 ≤ n) : wh m / n = wh (m / n) ∧ (wh m % n * 18446744073709551616 + wl m) / n = wl (m / n) ∧ (wh m % n * 18446744073709551616 + wl m) % n = m % n := by
  have e1 : wh m / n = wh (m / n) := by
    unfold wh
    rw [Int.ediv_ediv_of_nonneg (by omega), Int.ediv_ediv_of_nonneg (by omega), Int.mul_comm]
  have e0 : m = wh m * 18446744073709551616 + wl m := by unfold wh wl; omega
  have e2 := Int.mul_ediv_add_emod (wh m) n
  have e3 : m = (wh m % n * 18446744073709551616 + wl m) + n * (wh m / n * 18446744073709551616) := by
    have : wh m * 18446744073709551616 = (n * (wh m / n) + wh m % n) * 18446744073709551616 := by rw [e2]
    grind
  have r0 := Int.emod_nonneg (wh m) (show n ≠ 0 by omega)
  have r1 := Int.emod_lt_of_pos (wh m) (show 0 < n by omega)
  have l0 := wl_0 m
  have l1 := wl_1 m
  generalize hA : wh m % n * 18446744073709551616 + wl m = A at *
  have hA0 : 0 ≤ A := by omega
  have q0 : 0 ≤ A / n := Int.ediv_nonneg hA0 (by omega)
  have q1 : A / n < 18446744073709551616 := by
    apply Int.ediv_lt_of_lt_mul (by omega)
    have : (wh m % n + 1) * 18446744073709551616 ≤ n * 18446744073709551616 := mul_le (by omega) (by omega)
    rw [Int.mul_comm]
    omega
  have e4 : m / n = A / n + wh m / n * 18446744073709551616 := by
    conv => lhs; rw [e3]
    rw [Int.add_mul_ediv_left _ _ (show n ≠ 0 by omega)]
  refine ⟨e1, ?_, ?_⟩
  · rw [e4]; unfold wl; omega
  · conv => rhs; rw [e3]
    rw [Int.add_mul_emod_self_left]

theorem mul64 (x y : Int) (hx : 0 ≤ x) (hx' : x < 18446744073709551616) (hy : 0 ≤ y) (hy' : y < 18446744073709551616) (w : World) :
    Calls Tryd.prog 55 #[.int .u64 x, .int .u64 y] w fun e w' => e = .returned (.tuple #[.int .u64 (wh (x * y)), .int .u64 (wl (x * y))]) ∧ w = w' := by
  obtain ⟨x, rfl⟩ := Int.eq_ofNat_of_zero_le hx
  obtain ⟨y, rfl⟩ := Int.eq_ofNat_of_zero_le hy
  refine (Tryd.bits_Mul64 x y (by omega) (by omega) w).mono fun e w' ⟨he, hw⟩ => ⟨?_, hw.symm⟩
  rw [he]
  have e1 : ((x * y / 18446744073709551616 : Nat) : Int) = wh ((x : Int) * y) := by unfold wh; rw [← Int.natCast_mul]; omega
  have e2 : ((x * y % 18446744073709551616 : Nat) : Int) = wl ((x : Int) * y) := by unfold wl; rw [← Int.natCast_mul]; omega
  rw [e1, e2]

theorem times_words (m n : Int) (hm : U128 m) (h0 : 0 ≤ n) (h1 : n < 18446744073709551616) :
    wl (wl m * n) = wl (u128 (m * n)) ∧ wl (wl (wh m * n) + wh (wl m * n)) = wh (u128 (m * n)) ∧ ((wh (wh m * n) == 0) && (wh (wl (wh m * n) + wh (wl m * n)) == 0)) = ltB (m * n) ∧ 0 ≤ wl (wh m * n) ∧ 0 ≤ wh (wl m * n) := by
  have e0 : m = wh m * 18446744073709551616 + wl m := by unfold wh wl; omega
  have e1 : m * n = wh m * n * 18446744073709551616 + wl m * n := by
    conv => lhs; rw [e0]
    grind
  obtain ⟨b0, b1⟩ := wh_u m hm.1 hm.2
  have l0 := wl_0 m
  have l1 := wl_1 m
  have p0 : 0 ≤ wh m * n := mul_0 b0 h0
  have p1 : 0 ≤ wl m * n := mul_0 l0 h0
  have p2 : wl m * n ≤ 18446744073709551615 * n := mul_le (by omega) h0
  have p3 : wh m * n ≤ 18446744073709551615 * n := mul_le (by omega) h0
  rw [e1]
  generalize wh m * n = A at *
  generalize wl m * n = C at *
  refine ⟨by unfold wl u128; omega, by unfold wl wh u128; omega, ?_, wl_0 _, by unfold wh; omega⟩
  unfold ltB
  rw [Bool.eq_iff_iff]
  simp only [Bool.and_eq_true, beq_iff_eq, decide_eq_true_eq]
  unfold wl wh
  omega

end Go.Proofs.YtokifmeelgbkiaaDoor
