/- Division bit by bit of a number of four parts of 32 bits: what each round keeps. -/
import Derived.Test.YtgdpeajompccnaaTimesMath
set_option linter.unusedSimpArgs false
set_option linter.unusedVariables false
namespace Go.Proofs.Ytgdpeajompccnaa
open Go.RowKit

def V4s (q : Nat → Int) : Int := q 0 + q 1 * 4294967296 + q 2 * 18446744073709551616 + q 3 * 79228162514264337593543950336
def DInv (X d : Int) (k : Nat) (rest : Int) (q : Nat → Int) : Prop :=
  rest = X / 2 ^ k % d ∧ V4s q = X / 2 ^ k / d * 2 ^ k ∧ (∀ j, j < 4 → U32 (q j)) ∧ (∀ j, j < 4 → 32 * (j + 1) ≤ k → q j = 0) ∧ (∀ j, j < 4 → 32 * j ≤ k → k < 32 * (j + 1) → q j % 2 ^ (k - 32 * j) = 0)

theorem dinv_start (X d : Int) (h0 : 0 ≤ X) (h1 : X < 340282366920938463463374607431768211456) : DInv X d 128 0 (fun _ => 0) := by
  have e : X / (2 : Int) ^ 128 = 0 := Int.ediv_eq_zero_of_lt h0 h1
  refine ⟨by rw [e, Int.zero_emod], by rw [e, Int.zero_ediv, Int.zero_mul]; rfl, fun j _ => by simp [U32], fun j _ _ => rfl, fun j _ _ _ => by simp⟩
theorem pow_1 (n : Nat) : 1 ≤ (2 : Int) ^ n := by have : 0 < (2 : Int) ^ n := Int.pow_pos (by decide); omega
theorem half (X : Int) (i : Nat) : X / 2 ^ (i + 1) = X / 2 ^ i / 2 := by
  rw [Int.pow_succ, Int.ediv_ediv_of_nonneg (by have := pow_1 i; omega)]
theorem pow_split (r : Nat) (h : r ≤ 31) : ∃ T : Int, 1 ≤ T ∧ (2 : Int) ^ r * T = 2147483648 := by
  refine ⟨2 ^ (31 - r), pow_1 _, ?_⟩
  rw [← Int.pow_add, show r + (31 - r) = 31 by omega]; rfl
/-- The bit of the whole is that of the part. -/
theorem bit_part (Y : Int) (r : Nat) (h : r ≤ 31) : Y / 2 ^ r % 2 = Y % 4294967296 / 2 ^ r % 2 := by
  obtain ⟨T, hT, hP⟩ := pow_split r h
  have h1 := pow_1 r
  generalize (2 : Int) ^ r = P at *
  have e : Y = Y % 4294967296 + P * (2 * (T * (Y / 4294967296))) := by
    have := Int.emod_add_mul_ediv Y 4294967296
    have e2 : P * (2 * (T * (Y / 4294967296))) = 2 * (P * T) * (Y / 4294967296) := by grind
    rw [e2, hP]; omega
  have e3 : Y / P = Y % 4294967296 / P + 2 * (T * (Y / 4294967296)) := by
    conv => lhs; rw [e]
    rw [Int.add_mul_ediv_left _ _ (by omega)]
  rw [e3]; omega
theorem pow_part (X : Int) (j r : Nat) : X / 2 ^ (32 * j + r) = X / 2 ^ (32 * j) / 2 ^ r := by
  rw [Int.pow_add, Int.ediv_ediv_of_nonneg (by have := pow_1 (32 * j); omega)]
theorem V4s_upd (q : Nat → Int) (j r : Nat) (hj : j < 4) : V4s (upd q j (q j + 2 ^ r)) = V4s q + 2 ^ (32 * j + r) := by
  rw [Int.pow_add]
  generalize (2 : Int) ^ r = P
  rcases (show j = 0 ∨ j = 1 ∨ j = 2 ∨ j = 3 by omega) with rfl | rfl | rfl | rfl <;> simp [V4s, upd] <;> omega
/-- One step of a long division: the quotient and the rest of 2 H + b. -/
theorem long_step (H d b e : Int) (hd : 1 ≤ d) (hb : b = 0 ∨ b = 1) (he : (e = 1 ∧ d ≤ 2 * (H % d) + b) ∨ (e = 0 ∧ 2 * (H % d) + b < d)) :
    (2 * H + b) / d = 2 * (H / d) + e ∧ (2 * H + b) % d = 2 * (H % d) + b - e * d := by
  have h1 := Int.emod_add_mul_ediv H d
  have h2 := Int.emod_nonneg H (show d ≠ 0 by omega)
  have h3 := Int.emod_lt_of_pos H (show 0 < d by omega)
  rw [Int.ediv_emod_unique (by omega)]
  generalize H % d = R at *
  generalize H / d = Q at *
  refine ⟨?_, ?_, ?_⟩
  · have : d * (2 * Q + e) = 2 * (d * Q) + e * d := by grind
    rw [this]; omega
  · rcases he with ⟨rfl, h⟩ | ⟨rfl, h⟩ <;> omega
  · rcases he with ⟨rfl, h⟩ | ⟨rfl, h⟩ <;> omega
theorem two_add (X : Int) (i : Nat) : X / 2 ^ i = 2 * (X / 2 ^ (i + 1)) + X / 2 ^ i % 2 := by
  rw [half]; omega

theorem dinv_no {X d : Int} {j r : Nat} {rest b : Int} {q : Nat → Int} (h : DInv X d (32 * j + r + 1) rest q) (hd : 1 ≤ d) (hj : j < 4) (hr : r ≤ 31) (hb : b = X / 2 ^ (32 * j + r) % 2) (hlt : 2 * rest + b < d) :
    DInv X d (32 * j + r) (2 * rest + b) q := by
  obtain ⟨h1, h2, h3, h4, h5⟩ := h
  obtain ⟨s1, s2⟩ := long_step (X / 2 ^ (32 * j + r + 1)) d b 0 hd (by omega) (Or.inr ⟨rfl, by rw [← h1]; exact hlt⟩)
  rw [hb, ← two_add] at s1 s2
  rw [← hb] at s2
  refine ⟨by rw [s2, ← h1]; omega, ?_, h3, fun i hi hk => h4 i hi (by omega), fun i hi hk hk2 => ?_⟩
  · rw [h2, s1, Int.pow_succ]; grind
  · have : i = j := by omega
    subst this
    by_cases h31 : r = 31
    · rw [h4 i hi (by omega)]; simp
    · have := h5 i hi (by omega) (by omega)
      rw [show 32 * i + r + 1 - 32 * i = r + 1 by omega, Int.pow_succ] at this
      rw [show 32 * i + r - 32 * i = r by omega]
      have d1 : (2 : Int) ^ r * 2 ∣ q i := Int.dvd_of_emod_eq_zero this
      exact Int.emod_eq_zero_of_dvd (Int.dvd_trans (Int.dvd_mul_right _ _) d1)
theorem dinv_bound {X d : Int} {j r : Nat} {rest : Int} {q : Nat → Int} (h : DInv X d (32 * j + r + 1) rest q) (hj : j < 4) (hr : r ≤ 31) : ∃ m : Int, q j = 2 ^ r * 2 * m ∧ 0 ≤ q j ∧ q j + 2 ^ r < 4294967296 := by
  obtain ⟨h1, h2, h3, h4, h5⟩ := h
  have hu := h3 j hj
  unfold U32 at hu
  obtain ⟨T, hT, hP⟩ := pow_split r hr
  have hp1 := pow_1 r
  by_cases h31 : r = 31
  · subst h31
    rw [h4 j hj (by omega)]
    exact ⟨0, by simp, by omega, by decide⟩
  · have := h5 j hj (by omega) (by omega)
    rw [show 32 * j + r + 1 - 32 * j = r + 1 by omega, Int.pow_succ] at this
    obtain ⟨m, hm⟩ := Int.dvd_of_emod_eq_zero this
    refine ⟨m, hm, hu.1, ?_⟩
    rw [hm] at hu ⊢
    generalize (2 : Int) ^ r = P at *
    have hmT : m < T := by
      apply Int.not_le.1
      intro hle
      have : P * 2 * T ≤ P * 2 * m := Int.mul_le_mul_of_nonneg_left hle (by omega)
      have e : P * 2 * T = 2 * (P * T) := by grind
      omega
    have h7 : P * 2 * m ≤ P * 2 * (T - 1) := Int.mul_le_mul_of_nonneg_left (by omega) (by omega)
    have e : P * 2 * (T - 1) = 2 * (P * T) - 2 * P := by grind
    omega
theorem dinv_yes {X d : Int} {j r : Nat} {rest b : Int} {q : Nat → Int} (h : DInv X d (32 * j + r + 1) rest q) (hd : 1 ≤ d) (hj : j < 4) (hr : r ≤ 31) (hb : b = X / 2 ^ (32 * j + r) % 2) (hge : d ≤ 2 * rest + b) :
    DInv X d (32 * j + r) (2 * rest + b - d) (upd q j (q j + 2 ^ r)) := by
  obtain ⟨m, hm, hq0, hq1⟩ := dinv_bound h hj hr
  have hp1 := pow_1 r
  obtain ⟨h1, h2, h3, h4, h5⟩ := h
  obtain ⟨s1, s2⟩ := long_step (X / 2 ^ (32 * j + r + 1)) d b 1 hd (by omega) (Or.inl ⟨rfl, by rw [← h1]; exact hge⟩)
  rw [hb, ← two_add] at s1 s2
  rw [← hb] at s2
  refine ⟨by rw [s2, ← h1]; omega, ?_, fun i hi => ?_, fun i hi hk => ?_, fun i hi hk hk2 => ?_⟩
  · rw [V4s_upd _ _ _ hj, h2, s1, Int.pow_succ]; grind
  · unfold upd; split
    · unfold U32; omega
    · exact h3 i hi
  · unfold upd; rw [if_neg (by omega)]; exact h4 i hi (by omega)
  · have : i = j := by omega
    subst this
    unfold upd; rw [if_pos rfl, show 32 * i + r - 32 * i = r by omega, hm]
    apply Int.emod_eq_zero_of_dvd
    exact ⟨2 * m + 1, by grind⟩
theorem dinv_end {X d : Int} {rest : Int} {q : Nat → Int} (h : DInv X d 0 rest q) : rest = X % d ∧ q 0 = l0 (X / d) ∧ q 1 = l1 (X / d) ∧ q 2 = l2 (X / d) ∧ q 3 = l3 (X / d) := by
  obtain ⟨h1, h2, h3, _, _⟩ := h
  simp only [Int.pow_zero, Int.ediv_one, Int.mul_one] at h1 h2
  have e0 := h3 0 (by omega); have e1 := h3 1 (by omega); have e2 := h3 2 (by omega); have e3 := h3 3 (by omega)
  clear h3
  unfold U32 at *
  unfold V4s at h2
  generalize q 0 = q0 at *; generalize q 1 = q1 at *; generalize q 2 = q2 at *; generalize q 3 = q3 at *
  generalize X / d = Y at *
  unfold l0 l1 l2 l3
  exact ⟨h1, by omega, by omega, by omega, by omega⟩
end Go.Proofs.Ytgdpeajompccnaa
