/- Contracts of package wide: Scale, Mul, Div, Fits: each returns what its value says, old memory unchanged. -/
import Derived.Test.YtokifmeelgbkiaaDoorWideD
set_option linter.unusedSimpArgs false
set_option linter.unusedVariables false
namespace Go.Proofs.YtokifmeelgbkiaaDoor
open Go.RowKit

def I64 (n : Int) : Prop := -9223372036854775808 ≤ n ∧ n ≤ 9223372036854775807
theorem size_u64 (n : Int) (h : I64 n) : 0 ≤ size n ∧ size n < 18446744073709551616 := by unfold I64 at h; unfold size; split <;> omega
theorem size_u128 (a : Int) (h : fits a) : U128 (size a) := by unfold fits lo127 hi127 at h; unfold U128 size; split <;> omega
theorem u128_U (m : Int) : U128 (u128 m) := by unfold U128 u128; omega
theorem sgn_size (a n : Int) : sgn (size a * size n) (decide (a < 0) != decide (n < 0)) = a * n := by
  unfold sgn size
  by_cases h1 : a < 0 <;> by_cases h2 : n < 0 <;> simp [h1, h2, Int.neg_mul, Int.mul_neg]
theorem ltB_yes {m : Int} (h : m < 340282366920938463463374607431768211456) : ltB m = true := by simp [ltB, h]
theorem ltB_no {m : Int} (h : ¬ m < 340282366920938463463374607431768211456) : ltB m = false := by simp [ltB, h]
theorem u128_id {m : Int} (h0 : 0 ≤ m) (h : m < 340282366920938463463374607431768211456) : u128 m = m := by unfold u128; omega
theorem fits_size {a n : Int} (h : ¬ size a * size n < 340282366920938463463374607431768211456) : ¬ fits (a * n) := by
  rw [← sgn_size a n]
  unfold fits lo127 hi127 sgn
  generalize size a * size n = m at *
  split <;> omega

theorem fits_mul (a b : Int) (ha : I64 a) (hb : I64 b) : fits (a * b) ∧ U128 (size a * size b) := by
  unfold I64 at ha hb
  have h1 : 0 ≤ size a ∧ size a ≤ 9223372036854775808 := by unfold size; split <;> omega
  have h2 : 0 ≤ size b ∧ size b ≤ 9223372036854775808 := by unfold size; split <;> omega
  have p0 : 0 ≤ size a * size b := mul_0 h1.1 h2.1
  have p1 : size a * size b ≤ 9223372036854775808 * size b := mul_le h1.2 h2.1
  have e := sgn_size a b
  unfold sgn at e
  refine ⟨?_, by omega, by omega⟩
  unfold fits lo127 hi127
  split at e <;> omega

theorem mul_any (a b : Int) (w : World) (ha : I64 a) (hb : I64 b) :
    Calls Tryd.prog 40 #[.int .i64 a, .int .i64 b] w fun e w' => e = .returned (W (a * b)) ∧ Below w.heap.size w w' := by
  obtain ⟨a0, a1⟩ := size_u64 a ha
  obtain ⟨b0, b1⟩ := size_u64 b hb
  obtain ⟨hf, hU⟩ := fits_mul a b ha hb
  have HC : Hid (∀ w, Calls Tryd.prog 57 #[M (size a * size b), .bool (decide (a < 0) != decide (b < 0))] w fun e w' => e = .returned (.tuple #[W (a * b), .bool true]) ∧ Below w.heap.size w w') := Lib.hid (by
    intro w
    have := signed_any (size a * size b) (decide (a < 0) != decide (b < 0)) w hU.1 hU.2
    rw [sgn_size, clip_yes hf, fit_yes hf] at this
    exact this)
  go_enter Tryd.func40, Tryd.ntmps40
  go_wp2_with (first | (go_at_call 56; refine (size64_any _ _ (by first | exact ha.1 | exact hb.1) (by first | exact ha.2 | exact hb.2)).mono ?_; rintro e w' ⟨rfl, rfl⟩) | (go_at_call 55; refine (mul64 _ _ a0 a1 b0 b1 _).mono ?_; rintro e w' ⟨rfl, rfl⟩) | (go_at_call 57; refine (HC.out _).mono ?_; rintro e w1 ⟨rfl, hb1⟩; have hz1 := hb1.size; (try simp only [World.size_alloc, World.size_setCell, World.size_drew, size_drewN'] at hz1); have : w.heap.size < w1.heap.size := (by omega); have := hb1.cell (p := ⟨w.heap.size, 0, none⟩) (by go_size); simp [go_sem, *] at this; have := hb1.frozen (p := ⟨w.heap.size, 0, none⟩) (by go_size); simp [go_sem, *] at this; have := hb1.cell (p := ⟨w.heap.size, 1, none⟩) (by go_size); simp [go_sem, *] at this; have := hb1.frozen (p := ⟨w.heap.size, 1, none⟩) (by go_size); simp [go_sem, *] at this))
  refine bodyPost_ret (v := W (a * b)) (by simp [results, Tryd.results40, go_sem, *]) rfl ?_
  exact ⟨rfl, by (repeat' (first | (with_reducible exact Below.refl _ _) | (with_reducible refine Below.setCell ?_ ?_ _) | (with_reducible refine Below.alloc ?_ ?_ _) | (with_reducible refine Below.drew ?_) | (with_reducible refine belowN ?_ _) | (with_reducible refine below_step ?_ ?_ (by with_reducible assumption)) | go_size))⟩
end Go.Proofs.YtokifmeelgbkiaaDoor
