/- Plain arithmetic of valid ratios: sums and products do not overflow, and a ratio is found again. -/
import Derived.Test.YtaabebmaobdofaaDoorRatH
set_option linter.unusedSimpArgs false
set_option linter.unusedVariables false
namespace Go.Proofs.YtaabebmaobdofaaDoor
open Go.RowKit

theorem abs_mul {a b : Int} {A B : Nat} (ha : a.natAbs ≤ A) (hb : b.natAbs ≤ B) : (a * b).natAbs ≤ A * B := by
  rw [Int.natAbs_mul]; exact Nat.mul_le_mul ha hb
theorem not_both {p q : Int} (h : validB p q = true) : p.natAbs ≤ 2147483647 ∨ q.natAbs ≤ 2147483647 := by
  obtain ⟨a, b, c, e⟩ := valid_bound h
  have g := valid_gcd h
  by_cases h1 : p.natAbs ≤ 2147483647
  · left; exact h1
  · right
    by_cases h2 : q.natAbs ≤ 2147483647
    · exact h2
    · exfalso
      have e1 : p.natAbs = 2147483648 := by omega
      have e2 : q.natAbs = 2147483648 := by omega
      rw [e1, e2, Nat.gcd_self] at g
      omega
/-- A sum of products of valid ratios has 64 bits, and is not the least number. -/
theorem sum_bd {p q r t : Int} (ha : validB p q = true) (hb : validB r t = true) : (p * t).natAbs ≤ 4611686018427387904 ∧ (r * q).natAbs ≤ 4611686018427387904 ∧ (p * t + r * q).natAbs ≤ 9223372036854775807 := by
  obtain ⟨a1, a2, a3, a4⟩ := valid_bound ha
  obtain ⟨b1, b2, b3, b4⟩ := valid_bound hb
  have m1 := abs_mul (a := p) (b := t) (A := 2147483648) (B := 2147483648) (by omega) (by omega)
  have m2 := abs_mul (a := r) (b := q) (A := 2147483648) (B := 2147483648) (by omega) (by omega)
  refine ⟨m1, m2, ?_⟩
  rcases not_both ha with h | h
  · have m3 := abs_mul (a := p) (b := t) (A := 2147483647) (B := 2147483648) h (by omega)
    generalize p * t = x at *
    generalize r * q = y at *
    omega
  · have m3 := abs_mul (a := r) (b := q) (A := 2147483648) (B := 2147483647) (by omega) h
    generalize p * t = x at *
    generalize r * q = y at *
    omega
theorem w64_abs {x : Int} (h : x.natAbs ≤ 9223372036854775807) : wrap64 x = x := w64_id (by omega) (by omega)
theorem sumI_eq {p q r t : Int} (ha : validB p q = true) (hb : validB r t = true) : sumI p q r t = p * t + r * q := by
  obtain ⟨h1, h2, h3⟩ := sum_bd ha hb
  unfold sumI
  rw [w64_abs (x := p * t) (by omega), w64_abs (x := r * q) (by omega), w64_abs h3]
theorem prod_abs {p t : Int} (h1 : p.natAbs ≤ 2147483648) (h2 : t.natAbs ≤ 2147483648) : (p * t).natAbs ≤ 4611686018427387904 := abs_mul h1 h2
theorem prod_eq {p t : Int} (h1 : p.natAbs ≤ 2147483648) (h2 : t.natAbs ≤ 2147483648) : wrap64 (p * t) = p * t := w64_abs (by have := prod_abs h1 h2; omega)

/-- A ratio that is equal to a valid one is reduced to it. -/
theorem make_back {p q X Y : Int} (h : validB p q = true) (hY : Y ≠ 0) (he : X * q = p * Y) (bX : X.natAbs ≤ 9223372036854775807) (bY : Y.natAbs ≤ 9223372036854775807) :
    makeE X Y = 0 ∧ makeN X Y = p ∧ makeD X Y = q := by
  obtain ⟨a, b, c, e⟩ := valid_bound h
  have g := valid_gcd h
  have hl : ¬ (X = least ∨ Y = least) := by unfold least; omega
  -- q divides |Y|
  have hd : q.natAbs ∣ Y.natAbs := by
    have h1 : q.natAbs ∣ p.natAbs * Y.natAbs := ⟨X.natAbs, by rw [← Int.natAbs_mul, ← he, Int.natAbs_mul, Nat.mul_comm]⟩
    exact Nat.Coprime.dvd_of_dvd_mul_left (by rw [Nat.Coprime, Nat.gcd_comm]; exact g) h1
  obtain ⟨m, hm⟩ := hd
  have hq : q.natAbs ≠ 0 := by omega
  have hm0 : 0 < m := by
    rcases Nat.eq_zero_or_pos m with h0 | h0
    · rw [h0] at hm; omega
    · exact h0
  have hX : X.natAbs = p.natAbs * m := by
    have h1 : X.natAbs * q.natAbs = p.natAbs * Y.natAbs := by rw [← Int.natAbs_mul, he, Int.natAbs_mul]
    rw [hm] at h1
    have h2 : X.natAbs * q.natAbs = (p.natAbs * m) * q.natAbs := by rw [h1, Nat.mul_assoc, Nat.mul_comm m]
    exact Nat.eq_of_mul_eq_mul_right (by omega) h2
  have hg : gcdI X Y = (m : Int) := by
    rw [gcdI_nat (fun h => hl (Or.inl h)) (fun h => hl (Or.inr h)), hX, hm, Nat.gcd_mul_right, g, Nat.one_mul]
  have eX : flip X Y = p * (m : Int) := by
    have h2 : q = (q.natAbs : Int) := by omega
    unfold flip
    by_cases hs : Y < 0
    · rw [if_pos hs]
      have hYe : Y = -(q * (m : Int)) := by
        have : (Y.natAbs : Int) = q * (m : Int) := by rw [hm, h2]; simp
        omega
      have h3 : (-X) * q = (p * (m : Int)) * q := by rw [hYe] at he; grind
      exact Int.eq_of_mul_eq_mul_right (by omega) h3
    · rw [if_neg hs]
      have hYe : Y = q * (m : Int) := by
        have : (Y.natAbs : Int) = q * (m : Int) := by rw [hm, h2]; simp
        omega
      have h3 : X * q = (p * (m : Int)) * q := by rw [hYe] at he; grind
      exact Int.eq_of_mul_eq_mul_right (by omega) h3
  have eY : absI Y = q * (m : Int) := by
    have h2 : q = (q.natAbs : Int) := by omega
    have : (Y.natAbs : Int) = q * (m : Int) := by rw [hm, h2]; simp
    unfold absI; split <;> omega
  have hmz : (m : Int) ≠ 0 := by omega
  have e1 : redN X Y = p := by unfold redN; rw [eX, hg]; exact Int.mul_tdiv_cancel p hmz
  have e2 : redD X Y = q := by unfold redD; rw [eY, hg]; exact Int.mul_tdiv_cancel q hmz
  have hb : boundB (redN X Y) (redD X Y) = true := by rw [e1, e2]; simp [boundB]; omega
  have h0 := make_0 hY hl hb
  rw [e1, e2] at h0
  exact h0
/-- What Make gives where there is no error: the reduced parts, times the divisor. -/
theorem make_parts {X Y : Int} (hY : Y ≠ 0) (bX : X.natAbs ≤ 9223372036854775807) (bY : Y.natAbs ≤ 9223372036854775807) (h : makeE X Y = 0) :
    ∃ g : Int, 0 < g ∧ makeN X Y * g = flip X Y ∧ makeD X Y * g = absI Y ∧ validB (makeN X Y) (makeD X Y) = true := by
  have hl : ¬ (X = least ∨ Y = least) := by unfold least; omega
  have hn : X ≠ least := fun h => hl (Or.inl h)
  have hd : Y ≠ least := fun h => hl (Or.inr h)
  have hb : boundB (redN X Y) (redD X Y) = true := by
    cases hb : boundB (redN X Y) (redD X Y)
    · have := (make_3 hY hl hb).1; omega
    · rfl
  obtain ⟨_, e1, e2⟩ := make_0 hY hl hb
  refine ⟨gcdI X Y, by have := gcdI_1 hn hd hY; omega, ?_, ?_, ?_⟩
  · rw [e1]; unfold redN
    refine Int.tdiv_mul_cancel ?_
    rw [gcdI_nat hn hd, ← Int.dvd_natAbs, natAbs_flip]
    exact Int.natCast_dvd_natCast.2 (Nat.gcd_dvd_left _ _)
  · rw [e2]; unfold redD
    refine Int.tdiv_mul_cancel ?_
    rw [gcdI_nat hn hd, ← Int.dvd_natAbs, natAbs_absI]
    exact Int.natCast_dvd_natCast.2 (Nat.gcd_dvd_right _ _)
  · rw [e1, e2, valid_red hn hd hY bX bY]; exact hb
end Go.Proofs.YtaabebmaobdofaaDoor
