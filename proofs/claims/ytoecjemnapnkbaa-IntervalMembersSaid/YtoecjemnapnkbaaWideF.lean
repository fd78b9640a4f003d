/- Contracts of package wide: Fits, Div: each returns what its value says, old memory unchanged. -/
import Derived.Test.YtoecjemnapnkbaaWideE
set_option linter.unusedSimpArgs false
set_option linter.unusedVariables false
namespace Go.Proofs.Ytoecjemnapnkbaa
open Go.RowKit

def in64 (a : Int) : Bool := decide (-9223372036854775808 ≤ a) && decide (a ≤ 9223372036854775807)
def clip64 (a : Int) : Int := if in64 a = true then a else 0
theorem in64_yes {a : Int} (h : I64 a) : in64 a = true ∧ clip64 a = a := by
  unfold I64 at h
  have : in64 a = true := by simp [in64, h.1, h.2]
  exact ⟨this, by simp [clip64, this]⟩
theorem in64_no {a : Int} (h : ¬ I64 a) : in64 a = false ∧ clip64 a = 0 := by
  unfold I64 at h
  have : in64 a = false := by
    unfold in64
    by_cases h1 : -9223372036854775808 ≤ a <;> by_cases h2 : a ≤ 9223372036854775807 <;> simp_all
  exact ⟨this, by simp [clip64, this]⟩
/-- The low word, read with a sign. -/
def s64 (a : Int) : Int := (wl a + 9223372036854775808) % 18446744073709551616 - 9223372036854775808

theorem fits_any (a : Int) (w : World) (ha : fits a) :
    Calls Try.prog 93 #[W a] w fun e w' => e = .returned (.tuple #[.int .i64 (clip64 a), .bool (in64 a)]) ∧ Below w.heap.size w w' := by
  have e1 : IntKind.i64.wrap (wl a) = s64 a := by rw [IntKind.wrap_i64]; rfl
  have s0 : -9223372036854775808 ≤ s64 a := by unfold s64; omega
  have s1 : s64 a ≤ 9223372036854775807 := by unfold s64; omega
  by_cases h : I64 a
  · rw [(in64_yes h).1, (in64_yes h).2]
    have e2 : s64 a = a := by unfold I64 at h; unfold s64 wl; omega
    rw [e2] at e1 s0 s1
    have hU : U128 0 := by unfold U128; omega
    go_enter Try.func93, Try.ntmps93
    go_wp2_with fail
    go_region_held3 (fun w' => w'.cell? ⟨w.heap.size, 0, none⟩ = some (.int .i64 (wh a)) ∧ w'.cell? ⟨w.heap.size, 1, none⟩ = some (.int .u64 (wl a))) (simp [go_sem, *]) (first | (go_at_call 47; ((with_reducible refine (of_any _ _ s0 s1).mono ?_); rintro e w1 ⟨rfl, hb1⟩); have hz1 := hb1.size; (try simp only [World.size_alloc, World.size_setCell, World.size_drew, size_drewN'] at hz1); have : w.heap.size < w1.heap.size := (by omega); have := hb1.cell (p := ⟨w.heap.size, 0, none⟩) (by go_size); simp [go_sem, *] at this; have := hb1.frozen (p := ⟨w.heap.size, 0, none⟩) (by go_size); simp [go_sem, *] at this; have := hb1.cell (p := ⟨w.heap.size, 1, none⟩) (by go_size); simp [go_sem, *] at this; have := hb1.frozen (p := ⟨w.heap.size, 1, none⟩) (by go_size); simp [go_sem, *] at this))
    go_wp2
    go_ret2
    exact ⟨rfl, by (repeat' (first | (with_reducible exact Below.refl _ _) | (with_reducible refine Below.setCell ?_ ?_ _) | (with_reducible refine Below.alloc ?_ ?_ _) | (with_reducible refine Below.drew ?_) | (with_reducible refine belowN ?_ _) | (with_reducible refine below_step ?_ ?_ (by with_reducible assumption)) | go_size))⟩
  · rw [(in64_no h).1, (in64_no h).2]
    have e2 : (wh (s64 a) == wh a) = false := by rw [beq_eq_false_iff_ne]; unfold I64 at h; unfold fits lo127 hi127 at ha; unfold s64 wl wh; omega
    go_enter Try.func93, Try.ntmps93
    go_wp2_with fail
    go_region_held3 (fun w' => w'.cell? ⟨w.heap.size, 0, none⟩ = some (.int .i64 (wh a)) ∧ w'.cell? ⟨w.heap.size, 1, none⟩ = some (.int .u64 (wl a))) (simp [go_sem, *]) (first | (go_at_call 47; ((with_reducible refine (of_any _ _ s0 s1).mono ?_); rintro e w1 ⟨rfl, hb1⟩); have hz1 := hb1.size; (try simp only [World.size_alloc, World.size_setCell, World.size_drew, size_drewN'] at hz1); have : w.heap.size < w1.heap.size := (by omega); have := hb1.cell (p := ⟨w.heap.size, 0, none⟩) (by go_size); simp [go_sem, *] at this; have := hb1.frozen (p := ⟨w.heap.size, 0, none⟩) (by go_size); simp [go_sem, *] at this; have := hb1.cell (p := ⟨w.heap.size, 1, none⟩) (by go_size); simp [go_sem, *] at this; have := hb1.frozen (p := ⟨w.heap.size, 1, none⟩) (by go_size); simp [go_sem, *] at this))
    go_wp2
    go_ret2
    exact ⟨rfl, by (repeat' (first | (with_reducible exact Below.refl _ _) | (with_reducible refine Below.setCell ?_ ?_ _) | (with_reducible refine Below.alloc ?_ ?_ _) | (with_reducible refine Below.drew ?_) | (with_reducible refine belowN ?_ _) | (with_reducible refine below_step ?_ ?_ (by with_reducible assumption)) | go_size))⟩

/-- The quotient and the rest out of the sizes. -/
theorem euclid (a d : Int) (hd : d ≠ 0) :
    (¬ (a < 0 ∧ size a % size d ≠ 0) → sgn (size a / size d) (decide (a < 0) != decide (d < 0)) = a / d ∧ size a % size d = a % d) ∧
    (a < 0 → size a % size d ≠ 0 → sgn (size a / size d + 1) (decide (a < 0) != decide (d < 0)) = a / d ∧ size d - size a % size d = a % d) := by
  -- at a positive divisor
  have pos : ∀ D : Int, 0 < D → (¬ (a < 0 ∧ size a % D ≠ 0) → sgn (size a / D) (decide (a < 0)) = a / D ∧ size a % D = a % D) ∧
      (a < 0 → size a % D ≠ 0 → sgn (size a / D + 1) (decide (a < 0)) = a / D ∧ D - size a % D = a % D) := by
    intro D hD
    have e1 := Int.mul_ediv_add_emod (size a) D
    have m0 := Int.emod_nonneg (size a) (show D ≠ 0 by omega)
    have m1 := Int.emod_lt_of_pos (size a) hD
    have e2 := Int.mul_ediv_add_emod a D
    have n0 := Int.emod_nonneg a (show D ≠ 0 by omega)
    have n1 := Int.emod_lt_of_pos a hD
    by_cases ha : a < 0
    · have es : size a = -a := by simp [size, ha]
      rw [es] at e1 m0 m1 ⊢
      generalize hq : -a / D = q at *
      generalize hr : -a % D = r at *
      generalize hq' : a / D = q' at *
      generalize hr' : a % D = r' at *
      have key : D * (q + q') + (r + r') = 0 := by grind
      refine ⟨fun h => ?_, fun _ h => ?_⟩
      · have hr0 : r = 0 := by
          rcases Int.lt_or_le 0 r with h1 | h1
          · exact absurd ⟨ha, by omega⟩ h
          · omega
        subst hr0
        have : q + q' = 0 := by
          rcases Int.lt_trichotomy (q + q') 0 with h1 | h1 | h1
          · have : D * (q + q') ≤ D * (-1) := Int.mul_le_mul_of_nonneg_left (by omega) (by omega)
            omega
          · exact h1
          · have : D * 1 ≤ D * (q + q') := Int.mul_le_mul_of_nonneg_left (by omega) (by omega)
            omega
        rw [this] at key
        refine ⟨by simp [sgn, ha]; omega, by omega⟩
      · have : q + q' = -1 := by
          rcases Int.lt_trichotomy (q + q') (-1) with h1 | h1 | h1
          · have : D * (q + q') ≤ D * (-2) := Int.mul_le_mul_of_nonneg_left (by omega) (by omega)
            omega
          · exact h1
          · have : D * 0 ≤ D * (q + q') := Int.mul_le_mul_of_nonneg_left (by omega) (by omega)
            omega
        rw [this] at key
        refine ⟨by simp [sgn, ha]; omega, by omega⟩
    · have es : size a = a := by simp [size, ha]
      rw [es]
      refine ⟨fun _ => ⟨by simp [sgn, ha], rfl⟩, fun h => absurd h ha⟩
  by_cases h : d < 0
  · have es : size d = -d := by simp [size, h]
    have p := pos (-d) (by omega)
    rw [es]
    have sg : ∀ m : Int, sgn m (decide (a < 0) != decide (d < 0)) = -sgn m (decide (a < 0)) := by
      intro m
      by_cases ha : a < 0 <;> simp [sgn, h, ha]
    rw [sg, sg]
    have q1 : a / -d = -(a / d) := Int.ediv_neg a d
    have q2 : a % -d = a % d := Int.emod_neg a d
    rw [q1, q2] at p
    refine ⟨fun c => ?_, fun c1 c2 => ?_⟩
    · have := p.1 c; omega
    · have := p.2 c1 c2; omega
  · have es : size d = d := by simp [size, h]
    have p := pos d (by omega)
    rw [es]
    have sg : ∀ m : Int, sgn m (decide (a < 0) != decide (d < 0)) = sgn m (decide (a < 0)) := by
      intro m
      by_cases ha : a < 0 <;> simp [sgn, h, ha]
    rw [sg, sg]
    exact p

/-- Two cells written twice. -/
theorem two_sets (w : World) (b : Nat) (x y x' y' : Value) {u0 u1 : Value} (h0 : w.cell? ⟨b, 0, none⟩ = some u0) (h1 : w.cell? ⟨b, 1, none⟩ = some u1) :
    ((((w.setCell ⟨b, 0, none⟩ x).setCell ⟨b, 1, none⟩ y).setCell ⟨b, 0, none⟩ x').setCell ⟨b, 1, none⟩ y').cell? ⟨b, 0, none⟩ = some x' ∧
    ((((w.setCell ⟨b, 0, none⟩ x).setCell ⟨b, 1, none⟩ y).setCell ⟨b, 0, none⟩ x').setCell ⟨b, 1, none⟩ y').cell? ⟨b, 1, none⟩ = some y' := by
  have a0 : (w.setCell ⟨b, 0, none⟩ x).cell? ⟨b, 0, none⟩ = some x := by simp [go_sem, h0]
  have a1 : (w.setCell ⟨b, 0, none⟩ x).cell? ⟨b, 1, none⟩ = some u1 := by simp [go_sem, h1]
  generalize w.setCell ⟨b, 0, none⟩ x = w1 at *
  have b0 : (w1.setCell ⟨b, 1, none⟩ y).cell? ⟨b, 0, none⟩ = some x := by simp [go_sem, a0]
  have b1 : (w1.setCell ⟨b, 1, none⟩ y).cell? ⟨b, 1, none⟩ = some y := by simp [go_sem, a1]
  generalize w1.setCell ⟨b, 1, none⟩ y = w2 at *
  have c0 : (w2.setCell ⟨b, 0, none⟩ x').cell? ⟨b, 0, none⟩ = some x' := by simp [go_sem, b0]
  have c1 : (w2.setCell ⟨b, 0, none⟩ x').cell? ⟨b, 1, none⟩ = some y := by simp [go_sem, b1]
  generalize w2.setCell ⟨b, 0, none⟩ x' = w3 at *
  exact ⟨by simp [go_sem, c0], by simp [go_sem, c1]⟩

/-- What Div gives. -/
def divQ (a d : Int) : Int := if d = 0 then 0 else clip (a / d)
def divR (a d : Int) : Int := if d = 0 then 0 else if fitB (a / d) = true then a % d else 0
def divB (a d : Int) : Bool := if d = 0 then false else fitB (a / d)
end Go.Proofs.Ytoecjemnapnkbaa
