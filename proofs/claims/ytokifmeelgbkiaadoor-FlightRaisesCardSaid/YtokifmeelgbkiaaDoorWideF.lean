/- Contracts of package wide: Fits, Div: each returns what its value says, old memory unchanged. -/
import Derived.Test.YtokifmeelgbkiaaDoorWideE
set_option linter.unusedSimpArgs false
set_option linter.unusedVariables false
namespace Go.Proofs.YtokifmeelgbkiaaDoor
open Go.RowKit

def in64 (a : Int) : Bool := decide (-9223372036854775808 ≤ a) && decide (a ≤ 9223372036854775807)
def clip64 (a : Int) : Int := if in64 a = true then a else 0
theorem in64_yes {a : Int} (h : I64 a) : in64 a = true ∧ clip64 a = a := by
  unfold I64 at h
  have : in64 a = true := by simp [in64, h.1, h.2]
  exact ⟨this, by simp [clip64, this]⟩
theorem in64_no {a : Int} (h : ¬ I64 a) : in64 a = false ∧ clip64 a = 0 := by
  unfold I64 at h
  have : in64 a = false := by
    unfold in64
    by_cases h1 : -9223372036854775808 ≤ a <;> by_cases h2 : a ≤ 9223372036854775807 <;> simp_all
  exact ⟨this, by simp [clip64, this]⟩
/-- The low word, read with a sign. -/
def s64 (a : Int) : Int := (wl a + 9223372036854775808) % 18446744073709551616 - 9223372036854775808

/-- The quotient and the rest out of the sizes. -/
theorem euclid (a d : Int) (hd : d ≠ 0) :
    (¬ (a < 0 ∧ size a % size d ≠ 0) → sgn (size a / size d) (decide (a < 0) != decide (d < 0)) = a / d ∧ size a % size d = a % d) ∧
    (a < 0 → size a % size d ≠ 0 → sgn (size a / size d + 1) (decide (a < 0) != decide (d < 0)) = a / d ∧ size d - size a % size d = a % d) := by
  -- at a positive divisor
  have pos : ∀ D : Int, 0 < D → (¬ (a < 0 ∧ size a % D ≠ 0) → sgn (size a / D) (decide (a < 0)) = a / D ∧ size a % D = a % D) ∧
      (a < 0 → size a % D ≠ 0 → sgn (size a / D + 1) (decide (a < 0)) = a / D ∧ D - size a % D = a % D) := by
    intro D hD
    have e1 := Int.mul_ediv_add_emod (size a) D
    have m0 := Int.emod_nonneg (size a) (show D ≠ 0 by omega)
    have m1 := Int.emod_lt_of_pos (size a) hD
    have e2 := Int.mul_ediv_add_emod a D
    have n0 := Int.emod_nonneg a (show D ≠ 0 by omega)
    have n1 := Int.emod_lt_of_pos a hD
    by_cases ha : a < 0
    · have es : size a = -a := by simp [size, ha]
      rw [es] at e1 m0 m1 ⊢
      generalize hq : -a / D = q at *
      generalize hr : -a % D = r at *
      generalize hq' : a / D = q' at *
      generalize hr' : a % D = r' at *
      have key : D * (q + q') + (r + r') = 0 := by grind
      refine ⟨fun h => ?_, fun _ h => ?_⟩
      · have hr0 : r = 0 := by
          rcases Int.lt_or_le 0 r with h1 | h1
          · exact absurd ⟨ha, by omega⟩ h
          · omega
        subst hr0
        have : q + q' = 0 := by
          rcases Int.lt_trichotomy (q + q') 0 with h1 | h1 | h1
          · have : D * (q + q') ≤ D * (-1) := Int.mul_le_mul_of_nonneg_left (by omega) (by omega)
            omega
          · exact h1
          · have : D * 1 ≤ D * (q + q') := Int.mul_le_mul_of_nonneg_left (by omega) (by omega)
            omega
        rw [this] at key
        refine ⟨by simp [sgn, ha]; omega, by omega⟩
      · have : q + q' = -1 := by
          rcases Int.lt_trichotomy (q + q') (-1) with h1 | h1 | h1
          · have : D * (q + q') ≤ D * (-2) := Int.mul_le_mul_of_nonneg_left (by omega) (by omega)
            omega
          · exact h1
          · have : D * 0 ≤ D * (q + q') := Int.mul_le_mul_of_nonneg_left (by omega) (by omega)
            omega
        rw [this] at key
        refine ⟨by simp [sgn, ha]; omega, by omega⟩
    · have es : size a = a := by simp [size, ha]
      rw [es]
      refine ⟨fun _ => ⟨by simp [sgn, ha], rfl⟩, fun h => absurd h ha⟩
  by_cases h : d < 0
  · have es : size d = -d := by simp [size, h]
    have p := pos (-d) (by omega)
    rw [es]
    have sg : ∀ m : Int, sgn m (decide (a < 0) != decide (d < 0)) = -sgn m (decide (a < 0)) := by
      intro m
      by_cases ha : a < 0 <;> simp [sgn, h, ha]
    rw [sg, sg]
    have q1 : a / -d = -(a / d) := Int.ediv_neg a d
    have q2 : a % -d = a % d := Int.emod_neg a d
    rw [q1, q2] at p
    refine ⟨fun c => ?_, fun c1 c2 => ?_⟩
    · have := p.1 c; omega
    · have := p.2 c1 c2; omega
  · have es : size d = d := by simp [size, h]
    have p := pos d (by omega)
    rw [es]
    have sg : ∀ m : Int, sgn m (decide (a < 0) != decide (d < 0)) = sgn m (decide (a < 0)) := by
      intro m
      by_cases ha : a < 0 <;> simp [sgn, h, ha]
    rw [sg, sg]
    exact p

/-- Two cells written twice. -/
theorem two_sets (w : World) (b : Nat) (x y x' y' : Value) {u0 u1 : Value} (h0 : w.cell? ⟨b, 0, none⟩ = some u0) (h1 : w.cell? ⟨b, 1, none⟩ = some u1) :
    ((((w.setCell ⟨b, 0, none⟩ x).setCell ⟨b, 1, none⟩ y).setCell ⟨b, 0, none⟩ x').setCell ⟨b, 1, none⟩ y').cell? ⟨b, 0, none⟩ = some x' ∧
    ((((w.setCell ⟨b, 0, none⟩ x).setCell ⟨b, 1, none⟩ y).setCell ⟨b, 0, none⟩ x').setCell ⟨b, 1, none⟩ y').cell? ⟨b, 1, none⟩ = some y' := by
  have a0 : (w.setCell ⟨b, 0, none⟩ x).cell? ⟨b, 0, none⟩ = some x := by simp [go_sem, h0]
  have a1 : (w.setCell ⟨b, 0, none⟩ x).cell? ⟨b, 1, none⟩ = some u1 := by simp [go_sem, h1]
  generalize w.setCell ⟨b, 0, none⟩ x = w1 at *
  have b0 : (w1.setCell ⟨b, 1, none⟩ y).cell? ⟨b, 0, none⟩ = some x := by simp [go_sem, a0]
  have b1 : (w1.setCell ⟨b, 1, none⟩ y).cell? ⟨b, 1, none⟩ = some y := by simp [go_sem, a1]
  generalize w1.setCell ⟨b, 1, none⟩ y = w2 at *
  have c0 : (w2.setCell ⟨b, 0, none⟩ x').cell? ⟨b, 0, none⟩ = some x' := by simp [go_sem, b0]
  have c1 : (w2.setCell ⟨b, 0, none⟩ x').cell? ⟨b, 1, none⟩ = some y := by simp [go_sem, b1]
  generalize w2.setCell ⟨b, 0, none⟩ x' = w3 at *
  exact ⟨by simp [go_sem, c0], by simp [go_sem, c1]⟩

/-- What Div gives. -/
def divQ (a d : Int) : Int := if d = 0 then 0 else clip (a / d)
def divR (a d : Int) : Int := if d = 0 then 0 else if fitB (a / d) = true then a % d else 0
def divB (a d : Int) : Bool := if d = 0 then false else fitB (a / d)
end Go.Proofs.YtokifmeelgbkiaaDoor
