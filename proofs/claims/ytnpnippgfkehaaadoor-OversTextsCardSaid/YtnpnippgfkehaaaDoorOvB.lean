/- Contracts of Rate, Compare and Needed of package overs and its reference. -/
import Derived.Test.YtnpnippgfkehaaaDoorOvA
set_option linter.unusedSimpArgs false
set_option linter.unusedVariables false
namespace Go.Proofs.YtnpnippgfkehaaaDoor
open Go.RowKit

def rtN (r b p : Int) : Int := if rateB r b && perB p then makeN (r * p) b else 0
def rtD (r b p : Int) : Int := if rateB r b && perB p then makeD (r * p) b else 0
def rtE (r b p : Int) : Int := if rateB r b && perB p then makeE (r * p) b else 2
def cmpO (x y : Int) : Int := if x < y then -1 else if y < x then 1 else 0
def coV (r b s c : Int) : Int := if rateB r b && rateB s c then cmpO (r * c) (s * b) else 0
def coE (r b s c : Int) : Int := if rateB r b && rateB s c then 0 else 2
def ndV (r b p : Int) : Int := if rateB r b && perB p then (r * p + b - 1) / b else 0
def ndE (r b p : Int) : Int := if rateB r b && perB p then 0 else 2
theorem two_cases (A B : Bool) : (A = false ∧ (A && B) = false) ∨ (A = true ∧ B = false ∧ (A && B) = false) ∨ (A = true ∧ B = true ∧ (A && B) = true) := by
  cases A <;> cases B <;> simp
/-- Rounding up is dividing one less than a divisor more. -/
theorem ceil_up (x b : Int) (hx : 0 ≤ x) (hb : 1 ≤ b) : ceilI x b = (x + b - 1) / b := by
  have hq : quoE x b = 0 := by unfold quoE; rw [if_neg (by omega), if_neg (by omega)]
  unfold ceilI
  rw [if_pos hq]
  have ht : x.tmod b = x % b := Int.tmod_eq_emod_of_nonneg hx
  have hf : x.fdiv b = x / b := Int.fdiv_eq_ediv_of_nonneg x (by omega)
  rw [ht, hf]
  have h1 := Int.mul_ediv_add_emod x b
  have h2 := Int.emod_nonneg x (show b ≠ 0 by omega)
  have h3 := Int.emod_lt_of_pos x (show 0 < b by omega)
  by_cases h : x % b = 0
  · rw [if_pos h]
    symm
    rw [Int.ediv_eq_iff_of_pos (by omega)]
    rw [h] at h1
    rw [Int.mul_comm] at h1
    omega
  · rw [if_neg h]
    symm
    rw [Int.ediv_eq_iff_of_pos (by omega)]
    rw [Int.add_mul, Int.mul_comm (x / b) b]
    omega

theorem rate_any (r b p : Int) (w : World) : Calls Tryd.prog 19 #[.int .i64 r, .int .i64 b, .int .i64 p] w fun e w' => e = .returned (.tuple #[R2 (rtN r b p) (rtD r b p), .int .i64 (rtE r b p)]) ∧ Below w.heap.size w w' := by
  have HR : Hid (∀ w, Calls Tryd.prog 34 #[.int .i64 r, .int .i64 b] w fun e w' => e = .returned (.bool (rateB r b)) ∧ w = w') := Lib.hid (isRate_any r b)
  have HP : Hid (∀ w, Calls Tryd.prog 27 #[.int .i64 p] w fun e w' => e = .returned (.bool (perB p)) ∧ w = w') := Lib.hid (isPer_any p)
  rcases two_cases (rateB r b) (perB p) with ⟨h1, e⟩ | ⟨h1, h2, e⟩ | ⟨h1, h2, e⟩
  · have e1 : rtN r b p = 0 := by unfold rtN; rw [e]; rfl
    have e2 : rtD r b p = 0 := by unfold rtD; rw [e]; rfl
    have e3 : rtE r b p = 2 := by unfold rtE; rw [e]; rfl
    rw [e1, e2, e3]
    rw [h1] at HR
    clear h1 e e1 e2 e3
    go_enter Tryd.func19, Tryd.ntmps19
    go_wp2_with (go_at_call 34; ((with_reducible refine (HR.out _).mono ?_); rintro e w' ⟨rfl, rfl⟩))
    refine bodyPost_ret (v := .tuple #[R2 0 0, .int .i64 2]) (by simp [results, Tryd.results19, go_sem, *]) rfl ?_
    exact ⟨rfl, by (repeat' (first | (with_reducible exact Below.refl _ _) | (with_reducible refine Below.setCell ?_ ?_ _) | (with_reducible refine Below.alloc ?_ ?_ _) | (with_reducible refine Below.drew ?_) | (with_reducible refine belowN ?_ _) | (with_reducible refine below_step ?_ ?_ (by with_reducible assumption)) | go_size))⟩
  · have e1 : rtN r b p = 0 := by unfold rtN; rw [e]; rfl
    have e2 : rtD r b p = 0 := by unfold rtD; rw [e]; rfl
    have e3 : rtE r b p = 2 := by unfold rtE; rw [e]; rfl
    rw [e1, e2, e3]
    rw [h1] at HR
    rw [h2] at HP
    clear h1 h2 e e1 e2 e3
    go_enter Tryd.func19, Tryd.ntmps19
    go_wp2_with (first | (go_at_call 34; ((with_reducible refine (HR.out _).mono ?_); rintro e w' ⟨rfl, rfl⟩)) | (go_at_call 27; ((with_reducible refine (HP.out _).mono ?_); rintro e w' ⟨rfl, rfl⟩)))
    refine bodyPost_ret (v := .tuple #[R2 0 0, .int .i64 2]) (by simp [results, Tryd.results19, go_sem, *]) rfl ?_
    exact ⟨rfl, by (repeat' (first | (with_reducible exact Below.refl _ _) | (with_reducible refine Below.setCell ?_ ?_ _) | (with_reducible refine Below.alloc ?_ ?_ _) | (with_reducible refine Below.drew ?_) | (with_reducible refine belowN ?_ _) | (with_reducible refine below_step ?_ ?_ (by with_reducible assumption)) | go_size))⟩
  · have e1 : rtN r b p = makeN (r * p) b := by unfold rtN; rw [e]; rfl
    have e2 : rtD r b p = makeD (r * p) b := by unfold rtD; rw [e]; rfl
    have e3 : rtE r b p = makeE (r * p) b := by unfold rtE; rw [e]; rfl
    rw [e1, e2, e3]
    obtain ⟨p1, p2⟩ := perB_1 h2
    obtain ⟨r1, r2, b1, b2⟩ := rateB_1 h1
    obtain ⟨m1, m2⟩ := mul_bd (a := r) (b := p) r1 r2 (by omega) p2
    have HM : Hid (∀ w, Calls Tryd.prog 35 #[.int .i64 (r * p), .int .i64 b] w fun e w' => e = .returned (.tuple #[R2 (makeN (r * p) b) (makeD (r * p) b), .int .i64 (makeE (r * p) b)]) ∧ Below w.heap.size w w') := Lib.hid (fun w => make_any _ _ w (by unfold I64; omega) (by unfold I64; omega))
    rw [h1] at HR
    rw [h2] at HP
    clear h1 h2 e e1 e2 e3
    generalize makeN (r * p) b = X at *
    generalize makeD (r * p) b = Y at *
    generalize makeE (r * p) b = Z at *
    go_enter Tryd.func19, Tryd.ntmps19
    go_wp2_with (first | (go_at_call 34; ((with_reducible refine (HR.out _).mono ?_); rintro e w' ⟨rfl, rfl⟩)) | (go_at_call 27; ((with_reducible refine (HP.out _).mono ?_); rintro e w' ⟨rfl, rfl⟩)) | (go_at_call 35; ((with_reducible refine (HM.out _).mono ?_); rintro e w1 ⟨rfl, hb1⟩); have hz1 := hb1.size; (try simp only [World.size_alloc, World.size_setCell, World.size_drew, size_drewN'] at hz1); have : w.heap.size < w1.heap.size := (by omega); have := hb1.cell (p := ⟨w.heap.size, 0, none⟩) (by go_size); simp [go_sem, *] at this; have := hb1.frozen (p := ⟨w.heap.size, 0, none⟩) (by go_size); simp [go_sem, *] at this; have := hb1.cell (p := ⟨w.heap.size, 1, none⟩) (by go_size); simp [go_sem, *] at this; have := hb1.frozen (p := ⟨w.heap.size, 1, none⟩) (by go_size); simp [go_sem, *] at this))
    refine bodyPost_ret (v := .tuple #[R2 X Y, .int .i64 Z]) (by simp [results, Tryd.results19, go_sem, *]) rfl ?_
    exact ⟨rfl, by (repeat' (first | (with_reducible exact Below.refl _ _) | (with_reducible refine Below.setCell ?_ ?_ _) | (with_reducible refine Below.alloc ?_ ?_ _) | (with_reducible refine Below.drew ?_) | (with_reducible refine belowN ?_ _) | (with_reducible refine below_step ?_ ?_ (by with_reducible assumption)) | go_size))⟩

theorem rrate_any (r b p : Int) (w : World) : Calls Tryd.prog 20 #[.int .i64 r, .int .i64 b, .int .i64 p] w fun e w' => e = .returned (.tuple #[R2 (rtN r b p) (rtD r b p), .int .i64 (rtE r b p)]) ∧ Below w.heap.size w w' := by
  have HR : Hid (∀ w, Calls Tryd.prog 36 #[.int .i64 r, .int .i64 b] w fun e w' => e = .returned (.bool (rateB r b)) ∧ w = w') := Lib.hid (rated_any r b)
  have HP : Hid (∀ w, Calls Tryd.prog 28 #[.int .i64 p] w fun e w' => e = .returned (.bool (perB p)) ∧ w = w') := Lib.hid (rper_any p)
  rcases two_cases (rateB r b) (perB p) with ⟨h1, e⟩ | ⟨h1, h2, e⟩ | ⟨h1, h2, e⟩
  · have e1 : rtN r b p = 0 := by unfold rtN; rw [e]; rfl
    have e2 : rtD r b p = 0 := by unfold rtD; rw [e]; rfl
    have e3 : rtE r b p = 2 := by unfold rtE; rw [e]; rfl
    rw [e1, e2, e3]
    rw [h1] at HR
    clear h1 e e1 e2 e3
    go_enter Tryd.func20, Tryd.ntmps20
    go_wp2_with (go_at_call 36; ((with_reducible refine (HR.out _).mono ?_); rintro e w' ⟨rfl, rfl⟩))
    refine bodyPost_ret (v := .tuple #[R2 0 0, .int .i64 2]) (by simp [results, Tryd.results20, go_sem, *]) rfl ?_
    exact ⟨rfl, by (repeat' (first | (with_reducible exact Below.refl _ _) | (with_reducible refine Below.setCell ?_ ?_ _) | (with_reducible refine Below.alloc ?_ ?_ _) | (with_reducible refine Below.drew ?_) | (with_reducible refine belowN ?_ _) | (with_reducible refine below_step ?_ ?_ (by with_reducible assumption)) | go_size))⟩
  · have e1 : rtN r b p = 0 := by unfold rtN; rw [e]; rfl
    have e2 : rtD r b p = 0 := by unfold rtD; rw [e]; rfl
    have e3 : rtE r b p = 2 := by unfold rtE; rw [e]; rfl
    rw [e1, e2, e3]
    rw [h1] at HR
    rw [h2] at HP
    clear h1 h2 e e1 e2 e3
    go_enter Tryd.func20, Tryd.ntmps20
    go_wp2_with (first | (go_at_call 36; ((with_reducible refine (HR.out _).mono ?_); rintro e w' ⟨rfl, rfl⟩)) | (go_at_call 28; ((with_reducible refine (HP.out _).mono ?_); rintro e w' ⟨rfl, rfl⟩)))
    refine bodyPost_ret (v := .tuple #[R2 0 0, .int .i64 2]) (by simp [results, Tryd.results20, go_sem, *]) rfl ?_
    exact ⟨rfl, by (repeat' (first | (with_reducible exact Below.refl _ _) | (with_reducible refine Below.setCell ?_ ?_ _) | (with_reducible refine Below.alloc ?_ ?_ _) | (with_reducible refine Below.drew ?_) | (with_reducible refine belowN ?_ _) | (with_reducible refine below_step ?_ ?_ (by with_reducible assumption)) | go_size))⟩
  · have e1 : rtN r b p = makeN (r * p) b := by unfold rtN; rw [e]; rfl
    have e2 : rtD r b p = makeD (r * p) b := by unfold rtD; rw [e]; rfl
    have e3 : rtE r b p = makeE (r * p) b := by unfold rtE; rw [e]; rfl
    rw [e1, e2, e3]
    obtain ⟨p1, p2⟩ := perB_1 h2
    obtain ⟨r1, r2, b1, b2⟩ := rateB_1 h1
    obtain ⟨m1, m2⟩ := mul_bd (a := r) (b := p) r1 r2 (by omega) p2
    have HM : Hid (∀ w, Calls Tryd.prog 37 #[.int .i64 (r * p), .int .i64 b] w fun e w' => e = .returned (.tuple #[R2 (makeN (r * p) b) (makeD (r * p) b), .int .i64 (makeE (r * p) b)]) ∧ Below w.heap.size w w') := Lib.hid (fun w => rmake_any _ _ w (by unfold I64; omega) (by unfold I64; omega))
    rw [h1] at HR
    rw [h2] at HP
    clear h1 h2 e e1 e2 e3
    generalize makeN (r * p) b = X at *
    generalize makeD (r * p) b = Y at *
    generalize makeE (r * p) b = Z at *
    go_enter Tryd.func20, Tryd.ntmps20
    go_wp2_with (first | (go_at_call 36; ((with_reducible refine (HR.out _).mono ?_); rintro e w' ⟨rfl, rfl⟩)) | (go_at_call 28; ((with_reducible refine (HP.out _).mono ?_); rintro e w' ⟨rfl, rfl⟩)) | (go_at_call 37; ((with_reducible refine (HM.out _).mono ?_); rintro e w1 ⟨rfl, hb1⟩); have hz1 := hb1.size; (try simp only [World.size_alloc, World.size_setCell, World.size_drew, size_drewN'] at hz1); have : w.heap.size < w1.heap.size := (by omega); have := hb1.cell (p := ⟨w.heap.size, 0, none⟩) (by go_size); simp [go_sem, *] at this; have := hb1.frozen (p := ⟨w.heap.size, 0, none⟩) (by go_size); simp [go_sem, *] at this; have := hb1.cell (p := ⟨w.heap.size, 1, none⟩) (by go_size); simp [go_sem, *] at this; have := hb1.frozen (p := ⟨w.heap.size, 1, none⟩) (by go_size); simp [go_sem, *] at this))
    refine bodyPost_ret (v := .tuple #[R2 X Y, .int .i64 Z]) (by simp [results, Tryd.results20, go_sem, *]) rfl ?_
    exact ⟨rfl, by (repeat' (first | (with_reducible exact Below.refl _ _) | (with_reducible refine Below.setCell ?_ ?_ _) | (with_reducible refine Below.alloc ?_ ?_ _) | (with_reducible refine Below.drew ?_) | (with_reducible refine belowN ?_ _) | (with_reducible refine below_step ?_ ?_ (by with_reducible assumption)) | go_size))⟩

theorem compare_i64 (x y : Int) (w : World) : Calls Tryd.prog 39 #[.int .i64 x, .int .i64 y] w fun e w' => e = .returned (.int .i64 (cmpO x y)) ∧ w = w' := by
  unfold cmpO
  rcases Int.lt_trichotomy x y with h | h | h
  · have h2 : ¬ y < x := by omega
    go_enter Tryd.func39, Tryd.ntmps39
    go_wp2
    go_ret
    exact ⟨by simp [h], rfl⟩
  · subst h
    go_enter Tryd.func39, Tryd.ntmps39
    go_wp2
    go_ret
    exact ⟨by simp, rfl⟩
  · have h2 : ¬ x < y := by omega
    go_enter Tryd.func39, Tryd.ntmps39
    go_wp2
    go_ret
    exact ⟨by simp [h, h2], rfl⟩

theorem comp_any (r b s c : Int) (w : World) : Calls Tryd.prog 23 #[.int .i64 r, .int .i64 b, .int .i64 s, .int .i64 c] w fun e w' => e = .returned (.tuple #[.int .i64 (coV r b s c), .int .i64 (coE r b s c)]) ∧ ∃ k, w' = w.drewN k := by
  have H1 : Hid (∀ w, Calls Tryd.prog 34 #[.int .i64 r, .int .i64 b] w fun e w' => e = .returned (.bool (rateB r b)) ∧ w = w') := Lib.hid (isRate_any r b)
  have H2 : Hid (∀ w, Calls Tryd.prog 34 #[.int .i64 s, .int .i64 c] w fun e w' => e = .returned (.bool (rateB s c)) ∧ w = w') := Lib.hid (isRate_any s c)
  rcases two_cases (rateB r b) (rateB s c) with ⟨h1, e⟩ | ⟨h1, h2, e⟩ | ⟨h1, h2, e⟩
  · have e1 : coV r b s c = 0 := by unfold coV; rw [e]; rfl
    have e2 : coE r b s c = 2 := by unfold coE; rw [e]; rfl
    rw [e1, e2]
    rw [h1] at H1
    clear h1 e e1 e2
    go_enter Tryd.func23, Tryd.ntmps23
    go_wp2_with (go_at_call 34; ((with_reducible refine (H1.out _).mono ?_); rintro e w' ⟨rfl, rfl⟩))
    go_returns
    exact ⟨rfl, 0, rfl⟩
  · have e1 : coV r b s c = 0 := by unfold coV; rw [e]; rfl
    have e2 : coE r b s c = 2 := by unfold coE; rw [e]; rfl
    rw [e1, e2]
    rw [h1] at H1
    rw [h2] at H2
    clear h1 h2 e e1 e2
    go_enter Tryd.func23, Tryd.ntmps23
    go_wp2_with (first | (go_at_call 34; ((with_reducible refine (H1.out _).mono ?_); rintro e w' ⟨rfl, rfl⟩)) | (go_at_call 34; ((with_reducible refine (H2.out _).mono ?_); rintro e w' ⟨rfl, rfl⟩)))
    go_returns
    exact ⟨rfl, 0, rfl⟩
  · have e1 : coV r b s c = cmpO (r * c) (s * b) := by unfold coV; rw [e]; rfl
    have e2 : coE r b s c = 0 := by unfold coE; rw [e]; rfl
    rw [e1, e2]
    obtain ⟨r1, r2, b1, b2⟩ := rateB_1 h1
    obtain ⟨s1, s2, c1, c2⟩ := rateB_1 h2
    obtain ⟨m1, m2⟩ := mul_bd (a := r) (b := c) r1 r2 (by omega) c2
    obtain ⟨m3, m4⟩ := mul_bd (a := s) (b := b) s1 s2 (by omega) b2
    have m5 : r * c ≤ 1000000000000 := by omega
    have m6 : s * b ≤ 1000000000000 := by omega
    rw [h1] at H1
    rw [h2] at H2
    clear h1 h2 e e1 e2 m2 m4
    have HK : Hid (∀ w, Calls Tryd.prog 39 #[.int .i64 (r * c), .int .i64 (s * b)] w fun e w' => e = .returned (.int .i64 (cmpO (r * c) (s * b))) ∧ w = w') := Lib.hid (compare_i64 _ _)
    generalize cmpO (r * c) (s * b) = V at *
    go_enter Tryd.func23, Tryd.ntmps23
    go_wp2_with (first | (go_at_call 34; ((with_reducible refine (H1.out _).mono ?_); rintro e w' ⟨rfl, rfl⟩)) | (go_at_call 34; ((with_reducible refine (H2.out _).mono ?_); rintro e w' ⟨rfl, rfl⟩)) | (go_at_call 39; ((with_reducible refine (HK.out _).mono ?_); rintro e w' ⟨rfl, rfl⟩)))
    go_returns
    exact ⟨rfl, 0, rfl⟩

theorem rcomp_any (r b s c : Int) (w : World) : Calls Tryd.prog 24 #[.int .i64 r, .int .i64 b, .int .i64 s, .int .i64 c] w fun e w' => e = .returned (.tuple #[.int .i64 (coV r b s c), .int .i64 (coE r b s c)]) ∧ ∃ k, w' = w.drewN k := by
  have H1 : Hid (∀ w, Calls Tryd.prog 36 #[.int .i64 r, .int .i64 b] w fun e w' => e = .returned (.bool (rateB r b)) ∧ w = w') := Lib.hid (rated_any r b)
  have H2 : Hid (∀ w, Calls Tryd.prog 36 #[.int .i64 s, .int .i64 c] w fun e w' => e = .returned (.bool (rateB s c)) ∧ w = w') := Lib.hid (rated_any s c)
  rcases two_cases (rateB r b) (rateB s c) with ⟨h1, e⟩ | ⟨h1, h2, e⟩ | ⟨h1, h2, e⟩
  · have e1 : coV r b s c = 0 := by unfold coV; rw [e]; rfl
    have e2 : coE r b s c = 2 := by unfold coE; rw [e]; rfl
    rw [e1, e2]
    rw [h1] at H1
    clear h1 e e1 e2
    go_enter Tryd.func24, Tryd.ntmps24
    go_wp2_with (go_at_call 36; ((with_reducible refine (H1.out _).mono ?_); rintro e w' ⟨rfl, rfl⟩))
    go_returns
    exact ⟨rfl, 0, rfl⟩
  · have e1 : coV r b s c = 0 := by unfold coV; rw [e]; rfl
    have e2 : coE r b s c = 2 := by unfold coE; rw [e]; rfl
    rw [e1, e2]
    rw [h1] at H1
    rw [h2] at H2
    clear h1 h2 e e1 e2
    go_enter Tryd.func24, Tryd.ntmps24
    go_wp2_with (first | (go_at_call 36; ((with_reducible refine (H1.out _).mono ?_); rintro e w' ⟨rfl, rfl⟩)) | (go_at_call 36; ((with_reducible refine (H2.out _).mono ?_); rintro e w' ⟨rfl, rfl⟩)))
    go_returns
    exact ⟨rfl, 0, rfl⟩
  · have e1 : coV r b s c = cmpO (r * c) (s * b) := by unfold coV; rw [e]; rfl
    have e2 : coE r b s c = 0 := by unfold coE; rw [e]; rfl
    rw [e1, e2]
    obtain ⟨r1, r2, b1, b2⟩ := rateB_1 h1
    obtain ⟨s1, s2, c1, c2⟩ := rateB_1 h2
    obtain ⟨m1, m2⟩ := mul_bd (a := r) (b := c) r1 r2 (by omega) c2
    obtain ⟨m3, m4⟩ := mul_bd (a := s) (b := b) s1 s2 (by omega) b2
    have m5 : r * c ≤ 1000000000000 := by omega
    have m6 : s * b ≤ 1000000000000 := by omega
    rw [h1] at H1
    rw [h2] at H2
    clear h1 h2 e e1 e2 m2 m4
    have ht : (r * c < s * b ∧ cmpO (r * c) (s * b) = -1) ∨ (¬ r * c < s * b ∧ s * b < r * c ∧ cmpO (r * c) (s * b) = 1) ∨ (¬ r * c < s * b ∧ ¬ s * b < r * c ∧ cmpO (r * c) (s * b) = 0) := by
      unfold cmpO
      by_cases g1 : r * c < s * b
      · left; simp [g1]
      · by_cases g2 : s * b < r * c
        · right; left; simp [g1, g2]
        · right; right; simp [g1, g2]
    rcases ht with ⟨g1, e⟩ | ⟨g1, g2, e⟩ | ⟨g1, g2, e⟩
    all_goals
      rw [e]
      clear e
      go_enter Tryd.func24, Tryd.ntmps24
      go_wp2_with (first | (go_at_call 36; ((with_reducible refine (H1.out _).mono ?_); rintro e w' ⟨rfl, rfl⟩)) | (go_at_call 36; ((with_reducible refine (H2.out _).mono ?_); rintro e w' ⟨rfl, rfl⟩)))
      first | (go_returns; exact ⟨rfl, 0, rfl⟩) | (go_quiet (fail); go_wp2; go_returns; exact ⟨rfl, _, rfl⟩)

theorem needed_any (r b p : Int) (w : World) : Calls Tryd.prog 21 #[.int .i64 r, .int .i64 b, .int .i64 p] w fun e w' => e = .returned (.tuple #[.int .i64 (ndV r b p), .int .i64 (ndE r b p)]) ∧ w = w' := by
  have HR : Hid (∀ w, Calls Tryd.prog 34 #[.int .i64 r, .int .i64 b] w fun e w' => e = .returned (.bool (rateB r b)) ∧ w = w') := Lib.hid (isRate_any r b)
  have HP : Hid (∀ w, Calls Tryd.prog 27 #[.int .i64 p] w fun e w' => e = .returned (.bool (perB p)) ∧ w = w') := Lib.hid (isPer_any p)
  rcases two_cases (rateB r b) (perB p) with ⟨h1, e⟩ | ⟨h1, h2, e⟩ | ⟨h1, h2, e⟩
  · have e1 : ndV r b p = 0 := by unfold ndV; rw [e]; rfl
    have e3 : ndE r b p = 2 := by unfold ndE; rw [e]; rfl
    rw [e1, e3]
    rw [h1] at HR
    clear h1 e e1 e3
    go_enter Tryd.func21, Tryd.ntmps21
    go_wp2_with (go_at_call 34; ((with_reducible refine (HR.out _).mono ?_); rintro e w' ⟨rfl, rfl⟩))
    go_returns
    exact ⟨rfl, rfl⟩
  · have e1 : ndV r b p = 0 := by unfold ndV; rw [e]; rfl
    have e3 : ndE r b p = 2 := by unfold ndE; rw [e]; rfl
    rw [e1, e3]
    rw [h1] at HR
    rw [h2] at HP
    clear h1 h2 e e1 e3
    go_enter Tryd.func21, Tryd.ntmps21
    go_wp2_with (first | (go_at_call 34; ((with_reducible refine (HR.out _).mono ?_); rintro e w' ⟨rfl, rfl⟩)) | (go_at_call 27; ((with_reducible refine (HP.out _).mono ?_); rintro e w' ⟨rfl, rfl⟩)))
    go_returns
    exact ⟨rfl, rfl⟩
  · have e1 : ndV r b p = (r * p + b - 1) / b := by unfold ndV; rw [e]; rfl
    have e3 : ndE r b p = 0 := by unfold ndE; rw [e]; rfl
    rw [e1, e3]
    obtain ⟨p1, p2⟩ := perB_1 h2
    obtain ⟨r1, r2, b1, b2⟩ := rateB_1 h1
    obtain ⟨m1, m2⟩ := mul_bd (a := r) (b := p) r1 r2 (by omega) p2
    rw [h1] at HR
    rw [h2] at HP
    clear h1 h2 e e1 e3
    have HM : Hid (∀ w, Calls Tryd.prog 38 #[.int .i64 (r * p), .int .i64 b] w fun e w' => e = .returned (.tuple #[.int .i64 ((r * p + b - 1) / b), .int .i64 0]) ∧ w = w') := Lib.hid (fun w => by
      have h := ceil_any (r * p) b w (by unfold I64; omega) (by unfold I64; omega)
      have hq : quoE (r * p) b = 0 := by unfold quoE; rw [if_neg (by omega), if_neg (by omega)]
      rw [ceil_up _ _ m1 b1, hq] at h; exact h)
    generalize (r * p + b - 1) / b = X at *
    go_enter Tryd.func21, Tryd.ntmps21
    go_wp2_with (first | (go_at_call 34; ((with_reducible refine (HR.out _).mono ?_); rintro e w' ⟨rfl, rfl⟩)) | (go_at_call 27; ((with_reducible refine (HP.out _).mono ?_); rintro e w' ⟨rfl, rfl⟩)) | (go_at_call 38; ((with_reducible refine (HM.out _).mono ?_); rintro e w' ⟨rfl, rfl⟩)))
    go_returns
    exact ⟨rfl, rfl⟩

theorem rneeded_any (r b p : Int) (w : World) : Calls Tryd.prog 22 #[.int .i64 r, .int .i64 b, .int .i64 p] w fun e w' => e = .returned (.tuple #[.int .i64 (ndV r b p), .int .i64 (ndE r b p)]) ∧ w = w' := by
  have HR : Hid (∀ w, Calls Tryd.prog 36 #[.int .i64 r, .int .i64 b] w fun e w' => e = .returned (.bool (rateB r b)) ∧ w = w') := Lib.hid (rated_any r b)
  have HP : Hid (∀ w, Calls Tryd.prog 28 #[.int .i64 p] w fun e w' => e = .returned (.bool (perB p)) ∧ w = w') := Lib.hid (rper_any p)
  rcases two_cases (rateB r b) (perB p) with ⟨h1, e⟩ | ⟨h1, h2, e⟩ | ⟨h1, h2, e⟩
  · have e1 : ndV r b p = 0 := by unfold ndV; rw [e]; rfl
    have e3 : ndE r b p = 2 := by unfold ndE; rw [e]; rfl
    rw [e1, e3]
    rw [h1] at HR
    clear h1 e e1 e3
    go_enter Tryd.func22, Tryd.ntmps22
    go_wp2_with (go_at_call 36; ((with_reducible refine (HR.out _).mono ?_); rintro e w' ⟨rfl, rfl⟩))
    go_returns
    exact ⟨rfl, rfl⟩
  · have e1 : ndV r b p = 0 := by unfold ndV; rw [e]; rfl
    have e3 : ndE r b p = 2 := by unfold ndE; rw [e]; rfl
    rw [e1, e3]
    rw [h1] at HR
    rw [h2] at HP
    clear h1 h2 e e1 e3
    go_enter Tryd.func22, Tryd.ntmps22
    go_wp2_with (first | (go_at_call 36; ((with_reducible refine (HR.out _).mono ?_); rintro e w' ⟨rfl, rfl⟩)) | (go_at_call 28; ((with_reducible refine (HP.out _).mono ?_); rintro e w' ⟨rfl, rfl⟩)))
    go_returns
    exact ⟨rfl, rfl⟩
  · have e1 : ndV r b p = (r * p + b - 1) / b := by unfold ndV; rw [e]; rfl
    have e3 : ndE r b p = 0 := by unfold ndE; rw [e]; rfl
    rw [e1, e3]
    obtain ⟨p1, p2⟩ := perB_1 h2
    obtain ⟨r1, r2, b1, b2⟩ := rateB_1 h1
    obtain ⟨m1, m2⟩ := mul_bd (a := r) (b := p) r1 r2 (by omega) p2
    rw [h1] at HR
    rw [h2] at HP
    clear h1 h2 e e1 e3
    have hb : (b == 0) = false := by simp; omega
    have hnz : ¬ b = 0 := by omega
    go_enter Tryd.func22, Tryd.ntmps22
    go_wp2_with (first | (go_at_call 36; ((with_reducible refine (HR.out _).mono ?_); rintro e w' ⟨rfl, rfl⟩)) | (go_at_call 28; ((with_reducible refine (HP.out _).mono ?_); rintro e w' ⟨rfl, rfl⟩)))
    go_returns
    exact ⟨rfl, rfl⟩
end Go.Proofs.YtnpnippgfkehaaaDoor
