/- A sum less an addend, and a product over a factor, is the other one; a sum compares with an addend as the other one does with 0. -/
import Derived.Test.YtaabebmaobdofaaDoorRatFm
set_option linter.unusedSimpArgs false
set_option linter.unusedVariables false
namespace Go.Proofs.YtaabebmaobdofaaDoor
open Go.RowKit

theorem flip_pos {X Y : Int} (h : 0 < Y) : flip X Y = X := by unfold flip; rw [if_neg (by omega)]
theorem absI_pos {Y : Int} (h : 0 < Y) : absI Y = Y := by unfold absI; rw [if_neg (by omega)]
theorem cancel {g a b : Int} (hg : 0 < g) (h : g * a = g * b) : a = b := Int.eq_of_mul_eq_mul_left (by omega) h
theorem cmpO_scale {g a b c d : Int} (hg : 0 < g) (h : g * (a - b) = c - d) : cmpO a b = cmpO c d := by
  have h1 : a < b ↔ c < d := by
    constructor
    · intro hlt
      have : g * (a - b) < 0 := by
        have := Int.mul_lt_mul_of_pos_left (show a - b < 0 by omega) hg
        rw [Int.mul_zero] at this; exact this
      omega
    · intro hlt
      rcases Int.lt_trichotomy a b with h' | h' | h'
      · exact h'
      · rw [h', Int.sub_self, Int.mul_zero] at h; omega
      · have := Int.mul_pos hg (show 0 < a - b by omega); omega
  have h2 : b < a ↔ d < c := by
    constructor
    · intro hlt
      have := Int.mul_pos hg (show 0 < a - b by omega); omega
    · intro hlt
      rcases Int.lt_trichotomy a b with h' | h' | h'
      · have := Int.mul_lt_mul_of_pos_left (show a - b < 0 by omega) hg
        rw [Int.mul_zero] at this; omega
      · rw [h', Int.sub_self, Int.mul_zero] at h; omega
      · exact h'
  unfold cmpO
  by_cases x1 : a < b
  · rw [if_pos x1, if_pos (h1.1 x1)]
  · rw [if_neg x1, if_neg (fun h => x1 (h1.2 h))]
    by_cases x2 : b < a
    · rw [if_pos x2, if_pos (h2.1 x2)]
    · rw [if_neg x2, if_neg (fun h => x2 (h2.2 h))]
theorem valid_0 : validB 0 1 = true := by decide

/-- The sum, its difference and its comparison. -/
theorem field_sum {p q r t : Int} (ha : validB p q = true) (hb : validB r t = true) (h : makeE (sumI p q r t) (wrap64 (q * t)) = 0) :
    let sn := makeN (sumI p q r t) (wrap64 (q * t)); let sd := makeD (sumI p q r t) (wrap64 (q * t))
    validB sn sd = true ∧ makeE (sumI sn sd (-r) t) (wrap64 (sd * t)) = 0 ∧ makeN (sumI sn sd (-r) t) (wrap64 (sd * t)) = p ∧ makeD (sumI sn sd (-r) t) (wrap64 (sd * t)) = q ∧
    cmpO (wrap64 (sn * q)) (wrap64 (p * sd)) = cmpO (wrap64 (r * 1)) (wrap64 (0 * t)) := by
  intro sn sd
  obtain ⟨a1, a2, a3, a4⟩ := valid_bound ha
  obtain ⟨b1, b2, b3, b4⟩ := valid_bound hb
  obtain ⟨s1, s2, s3⟩ := sum_bd ha hb
  have eS := sumI_eq ha hb
  have eP : wrap64 (q * t) = q * t := prod_eq (by omega) (by omega)
  have bP := prod_abs (p := q) (t := t) (by omega) (by omega)
  have pos : 0 < q * t := Int.mul_pos (by omega) (by omega)
  obtain ⟨g, hg, g1, g2, hv⟩ := make_parts (X := sumI p q r t) (Y := wrap64 (q * t)) (by rw [eP]; omega) (by rw [eS]; exact s3) (by rw [eP]; omega) h
  have hv : validB sn sd = true := hv
  have g1 : sn * g = p * t + r * q := by rw [eP, flip_pos pos, eS] at g1; rw [← g1]; show makeN _ _ * g = _; rw [eP, eS]
  have g2 : sd * g = q * t := by rw [eP, absI_pos pos] at g2; rw [← g2]; show makeD _ _ * g = _; rw [eP]
  obtain ⟨c1, c2, c3, c4⟩ := valid_bound hv
  have hnb : validB (-r) t = true := by rw [valid_neg]; exact hb
  obtain ⟨u1, u2, u3⟩ := sum_bd hv hnb
  have eS2 := sumI_eq hv hnb
  have eP2 : wrap64 (sd * t) = sd * t := prod_eq (by omega) (by omega)
  have bP2 := prod_abs (p := sd) (t := t) (by omega) (by omega)
  have pos2 : 0 < sd * t := Int.mul_pos (by omega) (by omega)
  clear_value sn sd
  refine ⟨hv, ?_⟩
  have hk : (sn * t + -r * sd) * q = p * (sd * t) := by
    apply cancel hg
    have x1 : g * ((sn * t + -r * sd) * q) = ((sn * g) * t - r * (sd * g)) * q := by grind
    have x2 : g * (p * (sd * t)) = p * ((sd * g) * t) := by grind
    rw [x1, x2, g1, g2]; grind
  have hm := make_back (p := p) (q := q) (X := sumI sn sd (-r) t) (Y := wrap64 (sd * t)) ha (by rw [eP2]; omega) (by rw [eS2, eP2]; exact hk) (by rw [eS2]; exact u3) (by rw [eP2]; omega)
  refine ⟨hm.1, hm.2.1, hm.2.2, ?_⟩
  rw [prod_eq (p := sn) (t := q) (by omega) (by omega), prod_eq (p := p) (t := sd) (by omega) (by omega), Int.mul_one, Int.zero_mul, w64_id (x := r) (by omega) (by omega), w64_id (x := 0) (by omega) (by omega)]
  have hq2 : 0 < q * q := Int.mul_pos (by omega) (by omega)
  have hz : g * (sn * q - p * sd) = (q * q) * r - (q * q) * 0 := by
    have x1 : g * (sn * q - p * sd) = (sn * g) * q - p * (sd * g) := by grind
    rw [x1, g1, g2]; grind
  have hz2 : (q * q) * (r - 0) = (q * q) * r - (q * q) * 0 := by grind
  rw [cmpO_scale hg hz, cmpO_scale hq2 hz2]

/-- The product and its quotient. -/
theorem field_mul {p q r t : Int} (ha : validB p q = true) (hb : validB r t = true) (hr : r ≠ 0) (h : makeE (wrap64 (p * r)) (wrap64 (q * t)) = 0) :
    let mn := makeN (wrap64 (p * r)) (wrap64 (q * t)); let md := makeD (wrap64 (p * r)) (wrap64 (q * t))
    validB mn md = true ∧ makeE (wrap64 (mn * t)) (wrap64 (md * r)) = 0 ∧ makeN (wrap64 (mn * t)) (wrap64 (md * r)) = p ∧ makeD (wrap64 (mn * t)) (wrap64 (md * r)) = q := by
  intro mn md
  obtain ⟨a1, a2, a3, a4⟩ := valid_bound ha
  obtain ⟨b1, b2, b3, b4⟩ := valid_bound hb
  have eX : wrap64 (p * r) = p * r := prod_eq (by omega) (by omega)
  have bX := prod_abs (p := p) (t := r) (by omega) (by omega)
  have eP : wrap64 (q * t) = q * t := prod_eq (by omega) (by omega)
  have bP := prod_abs (p := q) (t := t) (by omega) (by omega)
  have pos : 0 < q * t := Int.mul_pos (by omega) (by omega)
  obtain ⟨g, hg, g1, g2, hv⟩ := make_parts (X := wrap64 (p * r)) (Y := wrap64 (q * t)) (by rw [eP]; omega) (by rw [eX]; omega) (by rw [eP]; omega) h
  have hv : validB mn md = true := hv
  have g1 : mn * g = p * r := by rw [eP, flip_pos pos, eX] at g1; rw [← g1]; show makeN _ _ * g = _; rw [eP, eX]
  have g2 : md * g = q * t := by rw [eP, absI_pos pos] at g2; rw [← g2]; show makeD _ _ * g = _; rw [eP]
  obtain ⟨c1, c2, c3, c4⟩ := valid_bound hv
  have eX2 : wrap64 (mn * t) = mn * t := prod_eq (by omega) (by omega)
  have bX2 := prod_abs (p := mn) (t := t) (by omega) (by omega)
  have eP2 : wrap64 (md * r) = md * r := prod_eq (by omega) (by omega)
  have bP2 := prod_abs (p := md) (t := r) (by omega) (by omega)
  have hne : md * r ≠ 0 := fun h => by
    rcases Int.mul_eq_zero.1 h with h | h
    · omega
    · exact hr h
  clear_value mn md
  refine ⟨hv, ?_⟩
  have hk : (mn * t) * q = p * (md * r) := by
    apply cancel hg
    have x1 : g * ((mn * t) * q) = (mn * g) * t * q := by grind
    have x2 : g * (p * (md * r)) = p * ((md * g) * r) := by grind
    rw [x1, x2, g1, g2]; grind
  exact make_back (p := p) (q := q) ha (by rw [eP2]; exact hne) (by rw [eX2, eP2]; exact hk) (by rw [eX2]; omega) (by rw [eP2]; omega)
theorem cmpO_neg (x y : Int) : cmpO x y = -cmpO y x := by
  unfold cmpO
  by_cases h1 : x < y
  · rw [if_pos h1, if_neg (by omega), if_pos h1]
  · rw [if_neg h1]
    by_cases h2 : y < x
    · rw [if_pos h2, if_pos h2]; rfl
    · rw [if_neg h2, if_neg h2, if_neg h1]; rfl
theorem cmpR_neg (a b c d : Int) : cmpR a b c d = -cmpR c d a b := by
  unfold cmpR
  rw [Bool.and_comm]
  split
  · exact cmpO_neg _ _
  · rfl
end Go.Proofs.YtaabebmaobdofaaDoor
