/- Plain arithmetic of decimals: the digits before and behind the point. -/
import Derived.Test.YtaabebmaobdofaaDoorRatN
set_option linter.unusedSimpArgs false
set_option linter.unusedVariables false
namespace Go.Proofs.YtaabebmaobdofaaDoor
open Go.RowKit

/-- The digits of a number with zeros ahead, at least k of them. -/
def full (R k : Nat) : List UInt8 := List.replicate (k - (Lib.decDigits R).length) 48 ++ Lib.decDigits R
/-- The last p digits. -/
def tailD : Nat → Nat → List UInt8
  | 0, _ => []
  | p + 1, R => tailD p (R / 10) ++ [UInt8.ofNat (48 + R % 10)]
theorem tailD_len (p : Nat) : ∀ R, (tailD p R).length = p := by
  induction p with
  | zero => intro R; rfl
  | succ p ih => intro R; simp [tailD, ih]
theorem dec_pos (R : Nat) : 1 ≤ (Lib.decDigits R).length := by rw [Lib.decDigits_length]; exact Lib.nDigits_pos R
theorem full_one (R : Nat) : full R 1 = Lib.decDigits R := by
  have := dec_pos R
  unfold full
  rw [show 1 - (Lib.decDigits R).length = 0 by omega]; rfl
theorem full_step (R k : Nat) (hk : 1 ≤ k) : full R (k + 1) = full (R / 10) k ++ [UInt8.ofNat (48 + R % 10)] := by
  by_cases h : R < 10
  · have e1 : Lib.decDigits R = [UInt8.ofNat (48 + R % 10)] := by rw [Lib.decDigits_one h, Nat.mod_eq_of_lt h]
    have e2 : R / 10 = 0 := by omega
    have e3 : Lib.decDigits 0 = [48] := by rw [Lib.decDigits_one (by omega)]; rfl
    unfold full
    rw [e1, e2, e3]
    have : k + 1 - 1 = (k - 1) + 1 := by omega
    simp only [List.length_cons, List.length_nil, Nat.zero_add]
    rw [this, List.replicate_succ']
  · have e1 : Lib.decDigits R = Lib.decDigits (R / 10) ++ [UInt8.ofNat (48 + R % 10)] := by rw [Lib.decDigits, dif_neg h]
    unfold full
    rw [e1, List.length_append]
    simp only [List.length_cons, List.length_nil, Nat.zero_add]
    rw [show k + 1 - ((Lib.decDigits (R / 10)).length + 1) = k - (Lib.decDigits (R / 10)).length by omega, List.append_assoc]
theorem full_parts (p : Nat) : ∀ R, full R (p + 1) = Lib.decDigits (R / 10 ^ p) ++ tailD p R := by
  induction p with
  | zero => intro R; rw [full_one]; simp [tailD]
  | succ p ih =>
    intro R
    rw [full_step R (p + 1) (by omega), ih (R / 10), Nat.div_div_eq_div_mul, Nat.pow_succ, Nat.mul_comm 10]
    simp [tailD]
theorem full_tail (p : Nat) : ∀ R, full (R % 10 ^ (p + 1)) (p + 1) = tailD (p + 1) R := by
  induction p with
  | zero =>
    intro R
    rw [full_one]
    have h : R % 10 ^ (0 + 1) < 10 := Nat.mod_lt _ (by decide)
    rw [Lib.decDigits_one h]
    simp [tailD]
  | succ p ih =>
    intro R
    rw [full_step _ (p + 1) (by omega)]
    have hp : 10 ^ (p + 1 + 1) = 10 * 10 ^ (p + 1) := by rw [Nat.pow_succ, Nat.mul_comm]
    have e1 : R % 10 ^ (p + 1 + 1) / 10 = R / 10 % 10 ^ (p + 1) := by
      rw [hp, Nat.mod_mul_right_div_self]
    have e2 : R % 10 ^ (p + 1 + 1) % 10 = R % 10 := by
      rw [hp]; exact Nat.mod_mul_right_mod R 10 _
    rw [e1, e2, ih (R / 10)]
    rfl
theorem ptL_parts (R p : Nat) (hp : 1 ≤ p) : ptL (Lib.decDigits R) p = Lib.decDigits (R / 10 ^ p) ++ 46 :: full (R % 10 ^ p) p := by
  obtain ⟨k, rfl⟩ : ∃ k, p = k + 1 := ⟨p - 1, by omega⟩
  have hf := full_parts (k + 1) R
  unfold full at hf
  unfold ptL
  rw [if_neg (by omega)]
  simp only []
  rw [hf, full_tail]
  have hl : (Lib.decDigits (R / 10 ^ (k + 1)) ++ tailD (k + 1) R).length - (k + 1) = (Lib.decDigits (R / 10 ^ (k + 1))).length := by
    rw [List.length_append, tailD_len]; omega
  rw [hl, List.take_left, List.drop_left]
end Go.Proofs.YtaabebmaobdofaaDoor
