/- A wide number is the quotient times d and the rest, and the rest is smaller than d: WideRemainders returns true for every input, and old memory is as it was. No condition. -/
import Derived.Test.YtnglagdididkbaaWideK
import Derived.Test.YtnglagdididkbaaWideOpen
set_option linter.unusedSimpArgs false
set_option linter.unusedVariables false
namespace Go.Proofs.Ytnglagdididkbaa
open Go.ChangeShapes Go.WideShapes Go.ChangeAt Go.RowKit

theorem W_1 : W 1 = .agg #[.int .i64 0, .int .u64 1] := by simp [W, wh, wl]
theorem W_min : W (-170141183460469231731687303715884105728) = .agg #[.int .i64 (-9223372036854775808), .int .u64 0] := by simp [W, wh, wl]
theorem fits_i64 {d : Int} (h : I64 d) : fits d := by unfold I64 at h; unfold fits lo127 hi127; omega
/-- Where Div has a quotient. -/
theorem div_ok (a d : Int) (ha : fits a) (hd : I64 d) (hz : d ≠ 0) : fits (a / d) ∨ (d = -1 ∧ a = -170141183460469231731687303715884105728) := by
  have e := euclid a d hz
  unfold fits lo127 hi127 at *
  unfold I64 at hd
  have pos : ∀ D : Int, 0 < D → D * (a / D) ≤ a ∧ a < D * (a / D) + D := fun D hD => by
    have h2 := Int.mul_ediv_add_emod a D
    have h3 := Int.emod_nonneg a (show D ≠ 0 by omega)
    have h4 := Int.emod_lt_of_pos a hD
    omega
  rcases Int.lt_trichotomy d (-1) with h | h | h
  · left
    have h1 : a / d = -(a / -d) := by rw [Int.ediv_neg, Int.neg_neg]
    obtain ⟨h2, h3⟩ := pos (-d) (by omega)
    rw [h1]
    generalize a / -d = q at *
    obtain ⟨D, hD⟩ : ∃ D, D = -d := ⟨_, rfl⟩
    rw [← hD] at h2 h3
    have h5 : q ≤ -170141183460469231731687303715884105728 → D * q ≤ D * (-170141183460469231731687303715884105728) := fun h0 => Int.mul_le_mul_of_nonneg_left h0 (by omega)
    have h6 : 170141183460469231731687303715884105729 ≤ q → D * 170141183460469231731687303715884105729 ≤ D * q := fun h0 => Int.mul_le_mul_of_nonneg_left h0 (by omega)
    generalize D * q = X at *
    omega
  · subst h
    have h1 : a / -1 = -a := by rw [Int.ediv_neg, Int.ediv_one]
    rw [h1]
    omega
  · left
    obtain ⟨h2, h3⟩ := pos d (by omega)
    generalize a / d = q at *
    have h5 : q ≤ -170141183460469231731687303715884105729 → d * q ≤ d * (-170141183460469231731687303715884105729) := fun h0 => Int.mul_le_mul_of_nonneg_left h0 (by omega)
    have h6 : 170141183460469231731687303715884105728 ≤ q → d * 170141183460469231731687303715884105728 ≤ d * q := fun h0 => Int.mul_le_mul_of_nonneg_left h0 (by omega)
    generalize d * q = X at *
    omega
theorem rem_self (d : Int) (w : World) (hd : I64 d) (hz : d ≠ 0) :
    Calls Try.prog 24 #[W d, .int .i64 d] w fun e w' => e = .returned (.tuple #[.agg #[.int .i64 0, .int .u64 1], .int .u64 0, .bool true]) ∧ Below w.heap.size w w' := by
  have h := div_any d d w (fits_i64 hd) hd
  have e0 : d / d = 1 := Int.ediv_self hz
  have f1 : fitB 1 = true := by decide
  have e1 : divQ d d = 1 := by simp [divQ, hz, e0, clip, f1]
  have e2 : divR d d = 0 := by simp [divR, hz, e0]
  have e3 : divB d d = true := by simp [divB, hz, e0, f1]
  rw [e1, e2, e3, W_1] at h
  exact h
theorem rem_one (d : Int) (w : World) (hd : I64 d) : Calls Try.prog 22 #[.int .i64 d, .int .i64 1] w fun e w' => e = .returned (W d) ∧ Below w.heap.size w w' := by
  have h := mul_any d 1 w hd (by unfold I64; omega)
  rw [Int.mul_one] at h
  exact h
theorem k_of1 (w : World) : Calls Try.prog 18 #[.int .i64 1] w fun e w' => e = .returned (.agg #[.int .i64 0, .int .u64 1]) ∧ Below w.heap.size w w' := by
  have h := of_any 1 w (by omega) (by omega)
  rw [← W_1]
  exact h

set_option maxHeartbeats 2000000 in
theorem rem_zero (a : Int) (w : World) (ha : fits a) :
    Calls Try.prog 6 #[W a, .int .i64 0] w fun e w' => e = .returned (.bool true) ∧ Below w.heap.size w w' := by
  have HD : Hid (∀ w, Calls Try.prog 24 #[W a, .int .i64 0] w fun e w' => e = .returned (.tuple #[.agg #[.int .i64 0, .int .u64 0], .int .u64 0, .bool false]) ∧ Below w.heap.size w w') := Lib.hid (fun w => by
    have h := div_any a 0 w ha (by unfold I64; omega)
    simp only [divQ, divR, divB, if_true] at h
    rw [W_0] at h
    exact h)
  go_enter Try.func6, Try.ntmps6
  go_wp2_with (first | (go_at_call 11; ((with_reducible refine (awake_any _).mono ?_); rintro e w1 ⟨rfl, hb1⟩); have hz1 := hb1.size; (try simp only [World.size_alloc, World.size_setCell, World.size_drew, size_drewN'] at hz1); have : w.heap.size < w1.heap.size := (by omega); have := hb1.cell (p := ⟨w.heap.size, 0, none⟩) (by go_size); simp [go_sem, *] at this; have := hb1.frozen (p := ⟨w.heap.size, 0, none⟩) (by go_size); simp [go_sem, *] at this; have := hb1.cell (p := ⟨w.heap.size, 1, none⟩) (by go_size); simp [go_sem, *] at this; have := hb1.frozen (p := ⟨w.heap.size, 1, none⟩) (by go_size); simp [go_sem, *] at this) | (go_at_call 24; ((with_reducible refine (HD.out _).mono ?_); rintro e w2 ⟨rfl, hb2⟩); have hz2 := hb2.size; (try simp only [World.size_alloc, World.size_setCell, World.size_drew, size_drewN'] at hz2); have : w.heap.size < w2.heap.size := (by omega); have := hb2.cell (p := ⟨w.heap.size, 0, none⟩) (by go_size); simp [go_sem, *] at this; have := hb2.frozen (p := ⟨w.heap.size, 0, none⟩) (by go_size); simp [go_sem, *] at this; have := hb2.cell (p := ⟨w.heap.size, 1, none⟩) (by go_size); simp [go_sem, *] at this; have := hb2.frozen (p := ⟨w.heap.size, 1, none⟩) (by go_size); simp [go_sem, *] at this))
  go_ret
  exact ⟨rfl, by (repeat' (first | (with_reducible exact Below.refl _ _) | (with_reducible refine Below.setCell ?_ ?_ _) | (with_reducible refine Below.alloc ?_ ?_ _) | (with_reducible refine Below.drew ?_) | (with_reducible refine belowN ?_ _) | (with_reducible refine below_step ?_ ?_ (by with_reducible assumption)) | go_size))⟩

set_option maxHeartbeats 2000000 in
theorem rem_min (w : World) :
    Calls Try.prog 6 #[.agg #[.int .i64 (-9223372036854775808), .int .u64 0], .int .i64 (-1)] w fun e w' => e = .returned (.bool true) ∧ Below w.heap.size w w' := by
  have HD : Hid (∀ w, Calls Try.prog 24 #[.agg #[.int .i64 (-9223372036854775808), .int .u64 0], .int .i64 (-1)] w fun e w' => e = .returned (.tuple #[.agg #[.int .i64 0, .int .u64 0], .int .u64 0, .bool false]) ∧ Below w.heap.size w w') := Lib.hid (fun w => by
    have h := div_any (-170141183460469231731687303715884105728) (-1) w (by unfold fits lo127 hi127; omega) (by unfold I64; omega)
    have e1 : divQ (-170141183460469231731687303715884105728) (-1) = 0 := by decide
    have e2 : divR (-170141183460469231731687303715884105728) (-1) = 0 := by decide
    have e3 : divB (-170141183460469231731687303715884105728) (-1) = false := by decide
    rw [e1, e2, e3, W_0, W_min] at h
    exact h)
  go_enter Try.func6, Try.ntmps6
  go_wp2_with (first | (go_at_call 11; ((with_reducible refine (awake_any _).mono ?_); rintro e w1 ⟨rfl, hb1⟩); have hz1 := hb1.size; (try simp only [World.size_alloc, World.size_setCell, World.size_drew, size_drewN'] at hz1); have : w.heap.size < w1.heap.size := (by omega); have := hb1.cell (p := ⟨w.heap.size, 0, none⟩) (by go_size); simp [go_sem, *] at this; have := hb1.frozen (p := ⟨w.heap.size, 0, none⟩) (by go_size); simp [go_sem, *] at this; have := hb1.cell (p := ⟨w.heap.size, 1, none⟩) (by go_size); simp [go_sem, *] at this; have := hb1.frozen (p := ⟨w.heap.size, 1, none⟩) (by go_size); simp [go_sem, *] at this) | (go_at_call 24; ((with_reducible refine (HD.out _).mono ?_); rintro e w2 ⟨rfl, hb2⟩); have hz2 := hb2.size; (try simp only [World.size_alloc, World.size_setCell, World.size_drew, size_drewN'] at hz2); have : w.heap.size < w2.heap.size := (by omega); have := hb2.cell (p := ⟨w.heap.size, 0, none⟩) (by go_size); simp [go_sem, *] at this; have := hb2.frozen (p := ⟨w.heap.size, 0, none⟩) (by go_size); simp [go_sem, *] at this; have := hb2.cell (p := ⟨w.heap.size, 1, none⟩) (by go_size); simp [go_sem, *] at this; have := hb2.frozen (p := ⟨w.heap.size, 1, none⟩) (by go_size); simp [go_sem, *] at this))
  go_ret
  exact ⟨rfl, by (repeat' (first | (with_reducible exact Below.refl _ _) | (with_reducible refine Below.setCell ?_ ?_ _) | (with_reducible refine Below.alloc ?_ ?_ _) | (with_reducible refine Below.drew ?_) | (with_reducible refine belowN ?_ _) | (with_reducible refine below_step ?_ ?_ (by with_reducible assumption)) | go_size))⟩

set_option maxHeartbeats 4000000 in
theorem rem_fn (a d : Int) (w : World) (ha : fits a) (hd : I64 d) (hz : d ≠ 0) (hq : fits (a / d)) (hp : fits (a / d * d)) (hn : d < 0) :
    Calls Try.prog 6 #[W a, .int .i64 d] w fun e w' => e = .returned (.bool true) ∧ Below w.heap.size w w' := by
  have HD : Hid (∀ w, Calls Try.prog 24 #[W a, .int .i64 d] w fun e w' => e = .returned (.tuple #[W (a / d), .int .u64 (a % d), .bool true]) ∧ Below w.heap.size w w') := Lib.hid (fun w => by
    have h := div_any a d w ha hd
    have e1 : divQ a d = a / d := by simp [divQ, hz, clip_yes hq]
    have e2 : divR a d = a % d := by simp [divR, hz, fit_yes hq]
    have e3 : divB a d = true := by simp [divB, hz, fit_yes hq]
    rw [e1, e2, e3] at h
    exact h)
  have k0 : (d == 0) = false := by simpa using hz
  have HM : Hid (∀ w, Calls Try.prog 20 #[W (a / d), .int .i64 d] w fun e w' => e = .returned (.tuple #[W (a / d * d), .bool true]) ∧ Below w.heap.size w w') := Lib.hid (fun w => by
    have h := scale_any (a / d) d w hq hd
    rw [clip_yes hp, fit_yes hp] at h
    exact h)
  have er : a - a / d * d = a % d := by have := Int.mul_ediv_add_emod a d; rw [Int.mul_comm] at this; omega
  have m0 := Int.emod_nonneg a hz
  have m1 : a % d < size d := by
    have e := euclid a d hz
    by_cases h : d < 0
    · have := Int.emod_lt_of_pos a (show 0 < -d by omega); rw [Int.emod_neg] at this; simp [size, h]; exact this
    · have := Int.emod_lt_of_pos a (show 0 < d by omega); simp [size, h]; exact this
  have sd : size d ≤ 9223372036854775808 := by unfold I64 at hd; unfold size; split <;> omega
  have fr : fits (a % d) := by unfold fits lo127 hi127; omega
  have Wr : W (a % d) = .agg #[.int .i64 0, .int .u64 (a % d)] := by
    have e0 : wh (a % d) = 0 := by unfold wh; omega
    have e1 : wl (a % d) = a % d := by unfold wl; omega
    simp [W, e0, e1]
  have HS : Hid (∀ w, Calls Try.prog 14 #[W a, W (a / d * d)] w fun e w' => e = .returned (.tuple #[.agg #[.int .i64 0, .int .u64 (a % d)], .bool true]) ∧ Below w.heap.size w w') := Lib.hid (fun w => by
    have h := sub_any a (a / d * d) w ha hp
    rw [er, clip_yes fr, fit_yes fr, Wr] at h
    exact h)
  have eu : IntKind.u64.wrap (-IntKind.u64.wrap d) = size d := by simp only [IntKind.wrap_u64]; unfold I64 at hd; unfold size; split <;> omega
  clear er sd fr Wr m0
  go_enter Try.func6, Try.ntmps6
  go_wp2_with (first | (go_at_call 11; ((with_reducible refine (awake_any _).mono ?_); rintro e w1 ⟨rfl, hb1⟩); have hz1 := hb1.size; (try simp only [World.size_alloc, World.size_setCell, World.size_drew, size_drewN'] at hz1); have : w.heap.size < w1.heap.size := (by omega); have := hb1.cell (p := ⟨w.heap.size, 0, none⟩) (by go_size); simp [go_sem, *] at this; have := hb1.frozen (p := ⟨w.heap.size, 0, none⟩) (by go_size); simp [go_sem, *] at this; have := hb1.cell (p := ⟨w.heap.size, 1, none⟩) (by go_size); simp [go_sem, *] at this; have := hb1.frozen (p := ⟨w.heap.size, 1, none⟩) (by go_size); simp [go_sem, *] at this) | (go_at_call 24; ((with_reducible refine (HD.out _).mono ?_); rintro e w2 ⟨rfl, hb2⟩); have hz2 := hb2.size; (try simp only [World.size_alloc, World.size_setCell, World.size_drew, size_drewN'] at hz2); have : w.heap.size < w2.heap.size := (by omega); have := hb2.cell (p := ⟨w.heap.size, 0, none⟩) (by go_size); simp [go_sem, *] at this; have := hb2.frozen (p := ⟨w.heap.size, 0, none⟩) (by go_size); simp [go_sem, *] at this; have := hb2.cell (p := ⟨w.heap.size, 1, none⟩) (by go_size); simp [go_sem, *] at this; have := hb2.frozen (p := ⟨w.heap.size, 1, none⟩) (by go_size); simp [go_sem, *] at this) | (go_at_call 22; ((with_reducible refine (rem_one _ _ hd).mono ?_); rintro e w3 ⟨rfl, hb3⟩); have hz3 := hb3.size; (try simp only [World.size_alloc, World.size_setCell, World.size_drew, size_drewN'] at hz3); have : w.heap.size < w3.heap.size := (by omega); have := hb3.cell (p := ⟨w.heap.size, 0, none⟩) (by go_size); simp [go_sem, *] at this; have := hb3.frozen (p := ⟨w.heap.size, 0, none⟩) (by go_size); simp [go_sem, *] at this; have := hb3.cell (p := ⟨w.heap.size, 1, none⟩) (by go_size); simp [go_sem, *] at this; have := hb3.frozen (p := ⟨w.heap.size, 1, none⟩) (by go_size); simp [go_sem, *] at this; have : w2.heap.size < w3.heap.size := (by omega); have := hb3.cell (p := ⟨w2.heap.size, 0, none⟩) (by go_size); simp [go_sem, *] at this; have := hb3.frozen (p := ⟨w2.heap.size, 0, none⟩) (by go_size); simp [go_sem, *] at this; have := hb3.cell (p := ⟨w2.heap.size, 1, none⟩) (by go_size); simp [go_sem, *] at this; have := hb3.frozen (p := ⟨w2.heap.size, 1, none⟩) (by go_size); simp [go_sem, *] at this) | (go_at_call 24; ((with_reducible refine (rem_self _ _ hd hz).mono ?_); rintro e w4 ⟨rfl, hb4⟩); have hz4 := hb4.size; (try simp only [World.size_alloc, World.size_setCell, World.size_drew, size_drewN'] at hz4); have : w.heap.size < w4.heap.size := (by omega); have := hb4.cell (p := ⟨w.heap.size, 0, none⟩) (by go_size); simp [go_sem, *] at this; have := hb4.frozen (p := ⟨w.heap.size, 0, none⟩) (by go_size); simp [go_sem, *] at this; have := hb4.cell (p := ⟨w.heap.size, 1, none⟩) (by go_size); simp [go_sem, *] at this; have := hb4.frozen (p := ⟨w.heap.size, 1, none⟩) (by go_size); simp [go_sem, *] at this; have : w2.heap.size < w4.heap.size := (by omega); have := hb4.cell (p := ⟨w2.heap.size, 0, none⟩) (by go_size); simp [go_sem, *] at this; have := hb4.frozen (p := ⟨w2.heap.size, 0, none⟩) (by go_size); simp [go_sem, *] at this; have := hb4.cell (p := ⟨w2.heap.size, 1, none⟩) (by go_size); simp [go_sem, *] at this; have := hb4.frozen (p := ⟨w2.heap.size, 1, none⟩) (by go_size); simp [go_sem, *] at this))
  have l1 : w.heap.size < w4.heap.size + 1 := by omega
  have l2 : w2.heap.size < w4.heap.size + 1 := by omega
  go_region_held3 (fun w' => w'.cell? ⟨w4.heap.size, 0, none⟩ = some (.int .i64 0) ∧ w'.cell? ⟨w4.heap.size, 1, none⟩ = some (.int .u64 1)) (simp [go_sem, World.cell?_alloc_past, *]) (first | (go_at_call 18; ((with_reducible refine (k_of1 _).mono ?_); rintro e w5 ⟨rfl, hb5⟩); have hz5 := hb5.size; (try simp only [World.size_alloc, World.size_setCell, World.size_drew, size_drewN'] at hz5); have : w.heap.size < w5.heap.size := (by omega); have := hb5.cell (p := ⟨w.heap.size, 0, none⟩) (by go_size); simp [go_sem, *] at this; have := hb5.frozen (p := ⟨w.heap.size, 0, none⟩) (by go_size); simp [go_sem, *] at this; have := hb5.cell (p := ⟨w.heap.size, 1, none⟩) (by go_size); simp [go_sem, *] at this; have := hb5.frozen (p := ⟨w.heap.size, 1, none⟩) (by go_size); simp [go_sem, *] at this; have : w2.heap.size < w5.heap.size := (by omega); have := hb5.cell (p := ⟨w2.heap.size, 0, none⟩) (by go_size); simp [go_sem, *] at this; have := hb5.frozen (p := ⟨w2.heap.size, 0, none⟩) (by go_size); simp [go_sem, *] at this; have := hb5.cell (p := ⟨w2.heap.size, 1, none⟩) (by go_size); simp [go_sem, *] at this; have := hb5.frozen (p := ⟨w2.heap.size, 1, none⟩) (by go_size); simp [go_sem, *] at this; have : w4.heap.size < w5.heap.size := (by omega); have := hb5.cell (p := ⟨w4.heap.size, 0, none⟩) (by go_size); simp [go_sem, *] at this; have := hb5.frozen (p := ⟨w4.heap.size, 0, none⟩) (by go_size); simp [go_sem, *] at this; have := hb5.cell (p := ⟨w4.heap.size, 1, none⟩) (by go_size); simp [go_sem, *] at this; have := hb5.frozen (p := ⟨w4.heap.size, 1, none⟩) (by go_size); simp [go_sem, *] at this))
  go_wp2_with (first | (go_at_call 20; ((with_reducible refine (HM.out _).mono ?_); rintro e w6 ⟨rfl, hb6⟩); have hz6 := hb6.size; (try simp only [World.size_alloc, World.size_setCell, World.size_drew, size_drewN'] at hz6); have : w.heap.size < w6.heap.size := (by omega); have := hb6.cell (p := ⟨w.heap.size, 0, none⟩) (by go_size); simp [go_sem, *] at this; have := hb6.frozen (p := ⟨w.heap.size, 0, none⟩) (by go_size); simp [go_sem, *] at this; have := hb6.cell (p := ⟨w.heap.size, 1, none⟩) (by go_size); simp [go_sem, *] at this; have := hb6.frozen (p := ⟨w.heap.size, 1, none⟩) (by go_size); simp [go_sem, *] at this) | (go_at_call 14; ((with_reducible refine (HS.out _).mono ?_); rintro e w7 ⟨rfl, hb7⟩); have hz7 := hb7.size; (try simp only [World.size_alloc, World.size_setCell, World.size_drew, size_drewN'] at hz7)))
  go_ret
  exact ⟨rfl, by (repeat' (first | (with_reducible exact Below.refl _ _) | (with_reducible refine Below.setCell ?_ ?_ _) | (with_reducible refine Below.alloc ?_ ?_ _) | (with_reducible refine Below.drew ?_) | (with_reducible refine belowN ?_ _) | (with_reducible refine below_step ?_ ?_ (by with_reducible assumption)) | go_size))⟩

set_option maxHeartbeats 4000000 in
theorem rem_fp (a d : Int) (w : World) (ha : fits a) (hd : I64 d) (hz : d ≠ 0) (hq : fits (a / d)) (hp : fits (a / d * d)) (hn : ¬ d < 0) :
    Calls Try.prog 6 #[W a, .int .i64 d] w fun e w' => e = .returned (.bool true) ∧ Below w.heap.size w w' := by
  have HD : Hid (∀ w, Calls Try.prog 24 #[W a, .int .i64 d] w fun e w' => e = .returned (.tuple #[W (a / d), .int .u64 (a % d), .bool true]) ∧ Below w.heap.size w w') := Lib.hid (fun w => by
    have h := div_any a d w ha hd
    have e1 : divQ a d = a / d := by simp [divQ, hz, clip_yes hq]
    have e2 : divR a d = a % d := by simp [divR, hz, fit_yes hq]
    have e3 : divB a d = true := by simp [divB, hz, fit_yes hq]
    rw [e1, e2, e3] at h
    exact h)
  have k0 : (d == 0) = false := by simpa using hz
  have HM : Hid (∀ w, Calls Try.prog 20 #[W (a / d), .int .i64 d] w fun e w' => e = .returned (.tuple #[W (a / d * d), .bool true]) ∧ Below w.heap.size w w') := Lib.hid (fun w => by
    have h := scale_any (a / d) d w hq hd
    rw [clip_yes hp, fit_yes hp] at h
    exact h)
  have er : a - a / d * d = a % d := by have := Int.mul_ediv_add_emod a d; rw [Int.mul_comm] at this; omega
  have m0 := Int.emod_nonneg a hz
  have m1 : a % d < size d := by
    have e := euclid a d hz
    by_cases h : d < 0
    · have := Int.emod_lt_of_pos a (show 0 < -d by omega); rw [Int.emod_neg] at this; simp [size, h]; exact this
    · have := Int.emod_lt_of_pos a (show 0 < d by omega); simp [size, h]; exact this
  have sd : size d ≤ 9223372036854775808 := by unfold I64 at hd; unfold size; split <;> omega
  have fr : fits (a % d) := by unfold fits lo127 hi127; omega
  have Wr : W (a % d) = .agg #[.int .i64 0, .int .u64 (a % d)] := by
    have e0 : wh (a % d) = 0 := by unfold wh; omega
    have e1 : wl (a % d) = a % d := by unfold wl; omega
    simp [W, e0, e1]
  have HS : Hid (∀ w, Calls Try.prog 14 #[W a, W (a / d * d)] w fun e w' => e = .returned (.tuple #[.agg #[.int .i64 0, .int .u64 (a % d)], .bool true]) ∧ Below w.heap.size w w') := Lib.hid (fun w => by
    have h := sub_any a (a / d * d) w ha hp
    rw [er, clip_yes fr, fit_yes fr, Wr] at h
    exact h)
  have eu : IntKind.u64.wrap d = size d := by simp only [IntKind.wrap_u64]; unfold I64 at hd; unfold size; split <;> omega
  clear er sd fr Wr m0
  go_enter Try.func6, Try.ntmps6
  go_wp2_with (first | (go_at_call 11; ((with_reducible refine (awake_any _).mono ?_); rintro e w1 ⟨rfl, hb1⟩); have hz1 := hb1.size; (try simp only [World.size_alloc, World.size_setCell, World.size_drew, size_drewN'] at hz1); have : w.heap.size < w1.heap.size := (by omega); have := hb1.cell (p := ⟨w.heap.size, 0, none⟩) (by go_size); simp [go_sem, *] at this; have := hb1.frozen (p := ⟨w.heap.size, 0, none⟩) (by go_size); simp [go_sem, *] at this; have := hb1.cell (p := ⟨w.heap.size, 1, none⟩) (by go_size); simp [go_sem, *] at this; have := hb1.frozen (p := ⟨w.heap.size, 1, none⟩) (by go_size); simp [go_sem, *] at this) | (go_at_call 24; ((with_reducible refine (HD.out _).mono ?_); rintro e w2 ⟨rfl, hb2⟩); have hz2 := hb2.size; (try simp only [World.size_alloc, World.size_setCell, World.size_drew, size_drewN'] at hz2); have : w.heap.size < w2.heap.size := (by omega); have := hb2.cell (p := ⟨w.heap.size, 0, none⟩) (by go_size); simp [go_sem, *] at this; have := hb2.frozen (p := ⟨w.heap.size, 0, none⟩) (by go_size); simp [go_sem, *] at this; have := hb2.cell (p := ⟨w.heap.size, 1, none⟩) (by go_size); simp [go_sem, *] at this; have := hb2.frozen (p := ⟨w.heap.size, 1, none⟩) (by go_size); simp [go_sem, *] at this) | (go_at_call 22; ((with_reducible refine (rem_one _ _ hd).mono ?_); rintro e w3 ⟨rfl, hb3⟩); have hz3 := hb3.size; (try simp only [World.size_alloc, World.size_setCell, World.size_drew, size_drewN'] at hz3); have : w.heap.size < w3.heap.size := (by omega); have := hb3.cell (p := ⟨w.heap.size, 0, none⟩) (by go_size); simp [go_sem, *] at this; have := hb3.frozen (p := ⟨w.heap.size, 0, none⟩) (by go_size); simp [go_sem, *] at this; have := hb3.cell (p := ⟨w.heap.size, 1, none⟩) (by go_size); simp [go_sem, *] at this; have := hb3.frozen (p := ⟨w.heap.size, 1, none⟩) (by go_size); simp [go_sem, *] at this; have : w2.heap.size < w3.heap.size := (by omega); have := hb3.cell (p := ⟨w2.heap.size, 0, none⟩) (by go_size); simp [go_sem, *] at this; have := hb3.frozen (p := ⟨w2.heap.size, 0, none⟩) (by go_size); simp [go_sem, *] at this; have := hb3.cell (p := ⟨w2.heap.size, 1, none⟩) (by go_size); simp [go_sem, *] at this; have := hb3.frozen (p := ⟨w2.heap.size, 1, none⟩) (by go_size); simp [go_sem, *] at this) | (go_at_call 24; ((with_reducible refine (rem_self _ _ hd hz).mono ?_); rintro e w4 ⟨rfl, hb4⟩); have hz4 := hb4.size; (try simp only [World.size_alloc, World.size_setCell, World.size_drew, size_drewN'] at hz4); have : w.heap.size < w4.heap.size := (by omega); have := hb4.cell (p := ⟨w.heap.size, 0, none⟩) (by go_size); simp [go_sem, *] at this; have := hb4.frozen (p := ⟨w.heap.size, 0, none⟩) (by go_size); simp [go_sem, *] at this; have := hb4.cell (p := ⟨w.heap.size, 1, none⟩) (by go_size); simp [go_sem, *] at this; have := hb4.frozen (p := ⟨w.heap.size, 1, none⟩) (by go_size); simp [go_sem, *] at this; have : w2.heap.size < w4.heap.size := (by omega); have := hb4.cell (p := ⟨w2.heap.size, 0, none⟩) (by go_size); simp [go_sem, *] at this; have := hb4.frozen (p := ⟨w2.heap.size, 0, none⟩) (by go_size); simp [go_sem, *] at this; have := hb4.cell (p := ⟨w2.heap.size, 1, none⟩) (by go_size); simp [go_sem, *] at this; have := hb4.frozen (p := ⟨w2.heap.size, 1, none⟩) (by go_size); simp [go_sem, *] at this))
  have l1 : w.heap.size < w4.heap.size + 1 := by omega
  have l2 : w2.heap.size < w4.heap.size + 1 := by omega
  go_region_held3 (fun w' => w'.cell? ⟨w4.heap.size, 0, none⟩ = some (.int .i64 0) ∧ w'.cell? ⟨w4.heap.size, 1, none⟩ = some (.int .u64 1)) (simp [go_sem, World.cell?_alloc_past, *]) (first | (go_at_call 18; ((with_reducible refine (k_of1 _).mono ?_); rintro e w5 ⟨rfl, hb5⟩); have hz5 := hb5.size; (try simp only [World.size_alloc, World.size_setCell, World.size_drew, size_drewN'] at hz5); have : w.heap.size < w5.heap.size := (by omega); have := hb5.cell (p := ⟨w.heap.size, 0, none⟩) (by go_size); simp [go_sem, *] at this; have := hb5.frozen (p := ⟨w.heap.size, 0, none⟩) (by go_size); simp [go_sem, *] at this; have := hb5.cell (p := ⟨w.heap.size, 1, none⟩) (by go_size); simp [go_sem, *] at this; have := hb5.frozen (p := ⟨w.heap.size, 1, none⟩) (by go_size); simp [go_sem, *] at this; have : w2.heap.size < w5.heap.size := (by omega); have := hb5.cell (p := ⟨w2.heap.size, 0, none⟩) (by go_size); simp [go_sem, *] at this; have := hb5.frozen (p := ⟨w2.heap.size, 0, none⟩) (by go_size); simp [go_sem, *] at this; have := hb5.cell (p := ⟨w2.heap.size, 1, none⟩) (by go_size); simp [go_sem, *] at this; have := hb5.frozen (p := ⟨w2.heap.size, 1, none⟩) (by go_size); simp [go_sem, *] at this; have : w4.heap.size < w5.heap.size := (by omega); have := hb5.cell (p := ⟨w4.heap.size, 0, none⟩) (by go_size); simp [go_sem, *] at this; have := hb5.frozen (p := ⟨w4.heap.size, 0, none⟩) (by go_size); simp [go_sem, *] at this; have := hb5.cell (p := ⟨w4.heap.size, 1, none⟩) (by go_size); simp [go_sem, *] at this; have := hb5.frozen (p := ⟨w4.heap.size, 1, none⟩) (by go_size); simp [go_sem, *] at this))
  go_wp2_with (first | (go_at_call 20; ((with_reducible refine (HM.out _).mono ?_); rintro e w6 ⟨rfl, hb6⟩); have hz6 := hb6.size; (try simp only [World.size_alloc, World.size_setCell, World.size_drew, size_drewN'] at hz6); have : w.heap.size < w6.heap.size := (by omega); have := hb6.cell (p := ⟨w.heap.size, 0, none⟩) (by go_size); simp [go_sem, *] at this; have := hb6.frozen (p := ⟨w.heap.size, 0, none⟩) (by go_size); simp [go_sem, *] at this; have := hb6.cell (p := ⟨w.heap.size, 1, none⟩) (by go_size); simp [go_sem, *] at this; have := hb6.frozen (p := ⟨w.heap.size, 1, none⟩) (by go_size); simp [go_sem, *] at this) | (go_at_call 14; ((with_reducible refine (HS.out _).mono ?_); rintro e w7 ⟨rfl, hb7⟩); have hz7 := hb7.size; (try simp only [World.size_alloc, World.size_setCell, World.size_drew, size_drewN'] at hz7)))
  go_ret
  exact ⟨rfl, by (repeat' (first | (with_reducible exact Below.refl _ _) | (with_reducible refine Below.setCell ?_ ?_ _) | (with_reducible refine Below.alloc ?_ ?_ _) | (with_reducible refine Below.drew ?_) | (with_reducible refine belowN ?_ _) | (with_reducible refine below_step ?_ ?_ (by with_reducible assumption)) | go_size))⟩

set_option maxHeartbeats 4000000 in
theorem rem_xn (a d : Int) (w : World) (ha : fits a) (hd : I64 d) (hz : d ≠ 0) (hq : fits (a / d)) (hp : ¬ fits (a / d * d)) (hn : d < 0) :
    Calls Try.prog 6 #[W a, .int .i64 d] w fun e w' => e = .returned (.bool true) ∧ Below w.heap.size w w' := by
  have HD : Hid (∀ w, Calls Try.prog 24 #[W a, .int .i64 d] w fun e w' => e = .returned (.tuple #[W (a / d), .int .u64 (a % d), .bool true]) ∧ Below w.heap.size w w') := Lib.hid (fun w => by
    have h := div_any a d w ha hd
    have e1 : divQ a d = a / d := by simp [divQ, hz, clip_yes hq]
    have e2 : divR a d = a % d := by simp [divR, hz, fit_yes hq]
    have e3 : divB a d = true := by simp [divB, hz, fit_yes hq]
    rw [e1, e2, e3] at h
    exact h)
  have k0 : (d == 0) = false := by simpa using hz
  have HM : Hid (∀ w, Calls Try.prog 20 #[W (a / d), .int .i64 d] w fun e w' => e = .returned (.tuple #[.agg #[.int .i64 0, .int .u64 0], .bool false]) ∧ Below w.heap.size w w') := Lib.hid (fun w => by
    have h := scale_any (a / d) d w hq hd
    rw [clip_no hp, fit_no hp, W_0] at h
    exact h)
  have hr : (a % d != 0) = true := by
    rw [bne_iff_ne]
    intro h0
    apply hp
    have := Int.mul_ediv_add_emod a d
    rw [h0, Int.mul_comm] at this
    have e : a / d * d = a := by omega
    rw [e]; exact ha
  go_enter Try.func6, Try.ntmps6
  go_wp2_with (first | (go_at_call 11; ((with_reducible refine (awake_any _).mono ?_); rintro e w1 ⟨rfl, hb1⟩); have hz1 := hb1.size; (try simp only [World.size_alloc, World.size_setCell, World.size_drew, size_drewN'] at hz1); have : w.heap.size < w1.heap.size := (by omega); have := hb1.cell (p := ⟨w.heap.size, 0, none⟩) (by go_size); simp [go_sem, *] at this; have := hb1.frozen (p := ⟨w.heap.size, 0, none⟩) (by go_size); simp [go_sem, *] at this; have := hb1.cell (p := ⟨w.heap.size, 1, none⟩) (by go_size); simp [go_sem, *] at this; have := hb1.frozen (p := ⟨w.heap.size, 1, none⟩) (by go_size); simp [go_sem, *] at this) | (go_at_call 24; ((with_reducible refine (HD.out _).mono ?_); rintro e w2 ⟨rfl, hb2⟩); have hz2 := hb2.size; (try simp only [World.size_alloc, World.size_setCell, World.size_drew, size_drewN'] at hz2); have : w.heap.size < w2.heap.size := (by omega); have := hb2.cell (p := ⟨w.heap.size, 0, none⟩) (by go_size); simp [go_sem, *] at this; have := hb2.frozen (p := ⟨w.heap.size, 0, none⟩) (by go_size); simp [go_sem, *] at this; have := hb2.cell (p := ⟨w.heap.size, 1, none⟩) (by go_size); simp [go_sem, *] at this; have := hb2.frozen (p := ⟨w.heap.size, 1, none⟩) (by go_size); simp [go_sem, *] at this) | (go_at_call 22; ((with_reducible refine (rem_one _ _ hd).mono ?_); rintro e w3 ⟨rfl, hb3⟩); have hz3 := hb3.size; (try simp only [World.size_alloc, World.size_setCell, World.size_drew, size_drewN'] at hz3); have : w.heap.size < w3.heap.size := (by omega); have := hb3.cell (p := ⟨w.heap.size, 0, none⟩) (by go_size); simp [go_sem, *] at this; have := hb3.frozen (p := ⟨w.heap.size, 0, none⟩) (by go_size); simp [go_sem, *] at this; have := hb3.cell (p := ⟨w.heap.size, 1, none⟩) (by go_size); simp [go_sem, *] at this; have := hb3.frozen (p := ⟨w.heap.size, 1, none⟩) (by go_size); simp [go_sem, *] at this; have : w2.heap.size < w3.heap.size := (by omega); have := hb3.cell (p := ⟨w2.heap.size, 0, none⟩) (by go_size); simp [go_sem, *] at this; have := hb3.frozen (p := ⟨w2.heap.size, 0, none⟩) (by go_size); simp [go_sem, *] at this; have := hb3.cell (p := ⟨w2.heap.size, 1, none⟩) (by go_size); simp [go_sem, *] at this; have := hb3.frozen (p := ⟨w2.heap.size, 1, none⟩) (by go_size); simp [go_sem, *] at this) | (go_at_call 24; ((with_reducible refine (rem_self _ _ hd hz).mono ?_); rintro e w4 ⟨rfl, hb4⟩); have hz4 := hb4.size; (try simp only [World.size_alloc, World.size_setCell, World.size_drew, size_drewN'] at hz4); have : w.heap.size < w4.heap.size := (by omega); have := hb4.cell (p := ⟨w.heap.size, 0, none⟩) (by go_size); simp [go_sem, *] at this; have := hb4.frozen (p := ⟨w.heap.size, 0, none⟩) (by go_size); simp [go_sem, *] at this; have := hb4.cell (p := ⟨w.heap.size, 1, none⟩) (by go_size); simp [go_sem, *] at this; have := hb4.frozen (p := ⟨w.heap.size, 1, none⟩) (by go_size); simp [go_sem, *] at this; have : w2.heap.size < w4.heap.size := (by omega); have := hb4.cell (p := ⟨w2.heap.size, 0, none⟩) (by go_size); simp [go_sem, *] at this; have := hb4.frozen (p := ⟨w2.heap.size, 0, none⟩) (by go_size); simp [go_sem, *] at this; have := hb4.cell (p := ⟨w2.heap.size, 1, none⟩) (by go_size); simp [go_sem, *] at this; have := hb4.frozen (p := ⟨w2.heap.size, 1, none⟩) (by go_size); simp [go_sem, *] at this))
  have l1 : w.heap.size < w4.heap.size + 1 := by omega
  have l2 : w2.heap.size < w4.heap.size + 1 := by omega
  go_region_held3 (fun w' => w'.cell? ⟨w4.heap.size, 0, none⟩ = some (.int .i64 0) ∧ w'.cell? ⟨w4.heap.size, 1, none⟩ = some (.int .u64 1)) (simp [go_sem, World.cell?_alloc_past, *]) (first | (go_at_call 18; ((with_reducible refine (k_of1 _).mono ?_); rintro e w5 ⟨rfl, hb5⟩); have hz5 := hb5.size; (try simp only [World.size_alloc, World.size_setCell, World.size_drew, size_drewN'] at hz5); have : w.heap.size < w5.heap.size := (by omega); have := hb5.cell (p := ⟨w.heap.size, 0, none⟩) (by go_size); simp [go_sem, *] at this; have := hb5.frozen (p := ⟨w.heap.size, 0, none⟩) (by go_size); simp [go_sem, *] at this; have := hb5.cell (p := ⟨w.heap.size, 1, none⟩) (by go_size); simp [go_sem, *] at this; have := hb5.frozen (p := ⟨w.heap.size, 1, none⟩) (by go_size); simp [go_sem, *] at this; have : w2.heap.size < w5.heap.size := (by omega); have := hb5.cell (p := ⟨w2.heap.size, 0, none⟩) (by go_size); simp [go_sem, *] at this; have := hb5.frozen (p := ⟨w2.heap.size, 0, none⟩) (by go_size); simp [go_sem, *] at this; have := hb5.cell (p := ⟨w2.heap.size, 1, none⟩) (by go_size); simp [go_sem, *] at this; have := hb5.frozen (p := ⟨w2.heap.size, 1, none⟩) (by go_size); simp [go_sem, *] at this; have : w4.heap.size < w5.heap.size := (by omega); have := hb5.cell (p := ⟨w4.heap.size, 0, none⟩) (by go_size); simp [go_sem, *] at this; have := hb5.frozen (p := ⟨w4.heap.size, 0, none⟩) (by go_size); simp [go_sem, *] at this; have := hb5.cell (p := ⟨w4.heap.size, 1, none⟩) (by go_size); simp [go_sem, *] at this; have := hb5.frozen (p := ⟨w4.heap.size, 1, none⟩) (by go_size); simp [go_sem, *] at this))
  go_wp2_with (first | (go_at_call 20; ((with_reducible refine (HM.out _).mono ?_); rintro e w6 ⟨rfl, hb6⟩); have hz6 := hb6.size; (try simp only [World.size_alloc, World.size_setCell, World.size_drew, size_drewN'] at hz6)))
  go_ret
  exact ⟨rfl, by (repeat' (first | (with_reducible exact Below.refl _ _) | (with_reducible refine Below.setCell ?_ ?_ _) | (with_reducible refine Below.alloc ?_ ?_ _) | (with_reducible refine Below.drew ?_) | (with_reducible refine belowN ?_ _) | (with_reducible refine below_step ?_ ?_ (by with_reducible assumption)) | go_size))⟩

set_option maxHeartbeats 4000000 in
theorem rem_xp (a d : Int) (w : World) (ha : fits a) (hd : I64 d) (hz : d ≠ 0) (hq : fits (a / d)) (hp : ¬ fits (a / d * d)) (hn : ¬ d < 0) :
    Calls Try.prog 6 #[W a, .int .i64 d] w fun e w' => e = .returned (.bool true) ∧ Below w.heap.size w w' := by
  have HD : Hid (∀ w, Calls Try.prog 24 #[W a, .int .i64 d] w fun e w' => e = .returned (.tuple #[W (a / d), .int .u64 (a % d), .bool true]) ∧ Below w.heap.size w w') := Lib.hid (fun w => by
    have h := div_any a d w ha hd
    have e1 : divQ a d = a / d := by simp [divQ, hz, clip_yes hq]
    have e2 : divR a d = a % d := by simp [divR, hz, fit_yes hq]
    have e3 : divB a d = true := by simp [divB, hz, fit_yes hq]
    rw [e1, e2, e3] at h
    exact h)
  have k0 : (d == 0) = false := by simpa using hz
  have HM : Hid (∀ w, Calls Try.prog 20 #[W (a / d), .int .i64 d] w fun e w' => e = .returned (.tuple #[.agg #[.int .i64 0, .int .u64 0], .bool false]) ∧ Below w.heap.size w w') := Lib.hid (fun w => by
    have h := scale_any (a / d) d w hq hd
    rw [clip_no hp, fit_no hp, W_0] at h
    exact h)
  have hr : (a % d != 0) = true := by
    rw [bne_iff_ne]
    intro h0
    apply hp
    have := Int.mul_ediv_add_emod a d
    rw [h0, Int.mul_comm] at this
    have e : a / d * d = a := by omega
    rw [e]; exact ha
  go_enter Try.func6, Try.ntmps6
  go_wp2_with (first | (go_at_call 11; ((with_reducible refine (awake_any _).mono ?_); rintro e w1 ⟨rfl, hb1⟩); have hz1 := hb1.size; (try simp only [World.size_alloc, World.size_setCell, World.size_drew, size_drewN'] at hz1); have : w.heap.size < w1.heap.size := (by omega); have := hb1.cell (p := ⟨w.heap.size, 0, none⟩) (by go_size); simp [go_sem, *] at this; have := hb1.frozen (p := ⟨w.heap.size, 0, none⟩) (by go_size); simp [go_sem, *] at this; have := hb1.cell (p := ⟨w.heap.size, 1, none⟩) (by go_size); simp [go_sem, *] at this; have := hb1.frozen (p := ⟨w.heap.size, 1, none⟩) (by go_size); simp [go_sem, *] at this) | (go_at_call 24; ((with_reducible refine (HD.out _).mono ?_); rintro e w2 ⟨rfl, hb2⟩); have hz2 := hb2.size; (try simp only [World.size_alloc, World.size_setCell, World.size_drew, size_drewN'] at hz2); have : w.heap.size < w2.heap.size := (by omega); have := hb2.cell (p := ⟨w.heap.size, 0, none⟩) (by go_size); simp [go_sem, *] at this; have := hb2.frozen (p := ⟨w.heap.size, 0, none⟩) (by go_size); simp [go_sem, *] at this; have := hb2.cell (p := ⟨w.heap.size, 1, none⟩) (by go_size); simp [go_sem, *] at this; have := hb2.frozen (p := ⟨w.heap.size, 1, none⟩) (by go_size); simp [go_sem, *] at this) | (go_at_call 22; ((with_reducible refine (rem_one _ _ hd).mono ?_); rintro e w3 ⟨rfl, hb3⟩); have hz3 := hb3.size; (try simp only [World.size_alloc, World.size_setCell, World.size_drew, size_drewN'] at hz3); have : w.heap.size < w3.heap.size := (by omega); have := hb3.cell (p := ⟨w.heap.size, 0, none⟩) (by go_size); simp [go_sem, *] at this; have := hb3.frozen (p := ⟨w.heap.size, 0, none⟩) (by go_size); simp [go_sem, *] at this; have := hb3.cell (p := ⟨w.heap.size, 1, none⟩) (by go_size); simp [go_sem, *] at this; have := hb3.frozen (p := ⟨w.heap.size, 1, none⟩) (by go_size); simp [go_sem, *] at this; have : w2.heap.size < w3.heap.size := (by omega); have := hb3.cell (p := ⟨w2.heap.size, 0, none⟩) (by go_size); simp [go_sem, *] at this; have := hb3.frozen (p := ⟨w2.heap.size, 0, none⟩) (by go_size); simp [go_sem, *] at this; have := hb3.cell (p := ⟨w2.heap.size, 1, none⟩) (by go_size); simp [go_sem, *] at this; have := hb3.frozen (p := ⟨w2.heap.size, 1, none⟩) (by go_size); simp [go_sem, *] at this) | (go_at_call 24; ((with_reducible refine (rem_self _ _ hd hz).mono ?_); rintro e w4 ⟨rfl, hb4⟩); have hz4 := hb4.size; (try simp only [World.size_alloc, World.size_setCell, World.size_drew, size_drewN'] at hz4); have : w.heap.size < w4.heap.size := (by omega); have := hb4.cell (p := ⟨w.heap.size, 0, none⟩) (by go_size); simp [go_sem, *] at this; have := hb4.frozen (p := ⟨w.heap.size, 0, none⟩) (by go_size); simp [go_sem, *] at this; have := hb4.cell (p := ⟨w.heap.size, 1, none⟩) (by go_size); simp [go_sem, *] at this; have := hb4.frozen (p := ⟨w.heap.size, 1, none⟩) (by go_size); simp [go_sem, *] at this; have : w2.heap.size < w4.heap.size := (by omega); have := hb4.cell (p := ⟨w2.heap.size, 0, none⟩) (by go_size); simp [go_sem, *] at this; have := hb4.frozen (p := ⟨w2.heap.size, 0, none⟩) (by go_size); simp [go_sem, *] at this; have := hb4.cell (p := ⟨w2.heap.size, 1, none⟩) (by go_size); simp [go_sem, *] at this; have := hb4.frozen (p := ⟨w2.heap.size, 1, none⟩) (by go_size); simp [go_sem, *] at this))
  have l1 : w.heap.size < w4.heap.size + 1 := by omega
  have l2 : w2.heap.size < w4.heap.size + 1 := by omega
  go_region_held3 (fun w' => w'.cell? ⟨w4.heap.size, 0, none⟩ = some (.int .i64 0) ∧ w'.cell? ⟨w4.heap.size, 1, none⟩ = some (.int .u64 1)) (simp [go_sem, World.cell?_alloc_past, *]) (first | (go_at_call 18; ((with_reducible refine (k_of1 _).mono ?_); rintro e w5 ⟨rfl, hb5⟩); have hz5 := hb5.size; (try simp only [World.size_alloc, World.size_setCell, World.size_drew, size_drewN'] at hz5); have : w.heap.size < w5.heap.size := (by omega); have := hb5.cell (p := ⟨w.heap.size, 0, none⟩) (by go_size); simp [go_sem, *] at this; have := hb5.frozen (p := ⟨w.heap.size, 0, none⟩) (by go_size); simp [go_sem, *] at this; have := hb5.cell (p := ⟨w.heap.size, 1, none⟩) (by go_size); simp [go_sem, *] at this; have := hb5.frozen (p := ⟨w.heap.size, 1, none⟩) (by go_size); simp [go_sem, *] at this; have : w2.heap.size < w5.heap.size := (by omega); have := hb5.cell (p := ⟨w2.heap.size, 0, none⟩) (by go_size); simp [go_sem, *] at this; have := hb5.frozen (p := ⟨w2.heap.size, 0, none⟩) (by go_size); simp [go_sem, *] at this; have := hb5.cell (p := ⟨w2.heap.size, 1, none⟩) (by go_size); simp [go_sem, *] at this; have := hb5.frozen (p := ⟨w2.heap.size, 1, none⟩) (by go_size); simp [go_sem, *] at this; have : w4.heap.size < w5.heap.size := (by omega); have := hb5.cell (p := ⟨w4.heap.size, 0, none⟩) (by go_size); simp [go_sem, *] at this; have := hb5.frozen (p := ⟨w4.heap.size, 0, none⟩) (by go_size); simp [go_sem, *] at this; have := hb5.cell (p := ⟨w4.heap.size, 1, none⟩) (by go_size); simp [go_sem, *] at this; have := hb5.frozen (p := ⟨w4.heap.size, 1, none⟩) (by go_size); simp [go_sem, *] at this))
  go_wp2_with (first | (go_at_call 20; ((with_reducible refine (HM.out _).mono ?_); rintro e w6 ⟨rfl, hb6⟩); have hz6 := hb6.size; (try simp only [World.size_alloc, World.size_setCell, World.size_drew, size_drewN'] at hz6)))
  go_ret
  exact ⟨rfl, by (repeat' (first | (with_reducible exact Below.refl _ _) | (with_reducible refine Below.setCell ?_ ?_ _) | (with_reducible refine Below.alloc ?_ ?_ _) | (with_reducible refine Below.drew ?_) | (with_reducible refine belowN ?_ _) | (with_reducible refine below_step ?_ ?_ (by with_reducible assumption)) | go_size))⟩


theorem wideRemainders_walk (a d : Int) (w : World) (ha : fits a) (hd : I64 d) :
    Calls Try.prog 6 #[W a, .int .i64 d] w fun e w' => e = .returned (.bool true) ∧ Below w.heap.size w w' := by
  by_cases hz : d = 0
  · subst hz; exact rem_zero a w ha
  · rcases div_ok a d ha hd hz with hq | ⟨rfl, rfl⟩
    · by_cases hp : fits (a / d * d)
      · by_cases hn : d < 0
        · exact rem_fn a d w ha hd hz hq hp hn
        · exact rem_fp a d w ha hd hz hq hp hn
      · by_cases hn : d < 0
        · exact rem_xn a d w ha hd hz hq hp hn
        · exact rem_xp a d w ha hd hz hq hp hn
    · have h := rem_min w
      rw [← W_min] at h
      exact h

set_option maxRecDepth 100000 in
theorem wideRemainders_lifted (os : Os) (started : os.Started) (H : Type) (enc : TypeId × Value → H) :
    ReturnsInHanded {} Try.checked os 6 .any (Rows.wideRemaindersSpec.pre6 enc Try.prog Try.f6 Rows.wideRemaindersRow.domain false) (Rows.wideRemaindersSpec.post enc Try.prog Try.f6 false true false false) := by
  refine returnsInHanded_of_change (C := Try.checked) own started (by kernel_rfl) Try.func6
    (ChangeSpec.witness6 (enc := enc) (C := Try.checked) false ⟨#[], #[.agg #[.int .i64 0, .int .u64 0], .int .i64 0], []⟩ 8 (by kernel_rfl) (by kernel_rfl) (by kernel_rfl) (by kernel_rfl)) ?_
  intro WW base args ds gs before hval hW _ _
  have hpost := fun (W' : World) (hb : Below WW.heap.size WW W') (hfn : Rows.wideRemaindersSpec.fn H (ds ++ []) = { results := [.lit (.bool true)], args := ds }) =>
    post_of_law (fresh := true) (handsOn := false) laidOut (by rw [Try.params6]; intro t ht; simp at ht; (try rcases ht with rfl | rfl) <;> exact ⟨by kernel_rfl, of_decide_eq_true (by kernel_rfl)⟩) rfl hW (tb := 4) (by kernel_rfl) Try.underlying4 hfn hb
  obtain ⟨p, q, hA, hV, rfl, hfz, hnd⟩ := hW
  rw [Try.params6] at hA hval
  obtain ⟨v0, vs0, d0, ds0, p0, q0, hargs, rfl, rfl, h0, r0⟩ := trodAll_cons hA
  obtain ⟨v1, vs1, d1, ds1, p1, q1, rfl, rfl, rfl, h1, r1⟩ := trodAll_cons r0
  obtain ⟨rfl, rfl, rfl⟩ := trodAll_nil r1
  obtain rfl : args = #[v0, v1] := by cases args; simp_all
  obtain ⟨a0, rfl, g0⟩ := open_wide (hval 0 _ v0 rfl rfl) h0
  obtain ⟨a1, rfl, g1⟩ := open_i64 (hval 1 _ v1 rfl rfl) h1
  refine (wideRemainders_walk a0 a1 WW g0 g1).mono fun e W' ⟨he, hg⟩ => ?_
  exact ⟨_, he, hpost W' hg rfl⟩

theorem wideRemainders_holds : Rows.WideRemaindersSaid :=
  OpenClaim.holds_of_wide 6 Try.f6 rfl rfl rfl rfl rfl rfl rfl ⟨rfl, rfl, rfl, rfl, rfl⟩ rfl rfl rfl rfl rfl (by kernel_rfl) Try.func6 (by kernel_rfl)
    (of_decide_eq_true (by kernel_rfl)) (by unfold Func.isWrapper; first | (rw [if_pos (by decide +kernel)]; kernel_rfl) | (rw [if_neg (by decide +kernel)]; exact ⟨rfl, rfl⟩))
    (fun os started H enc _ => wideRemainders_lifted os started H enc)
#print axioms wideRemainders_holds
end Go.Proofs.Ytnglagdididkbaa
