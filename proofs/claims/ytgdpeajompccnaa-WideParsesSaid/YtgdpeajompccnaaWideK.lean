/- The chapter's examples, which every statement of layer 2 asks first: they hold. -/
import Derived.Test.YtgdpeajompccnaaWideF
import Derived.Test.YtgdpeajompccnaaWideT
set_option linter.unusedSimpArgs false
set_option linter.unusedVariables false
namespace Go.Proofs.Ytgdpeajompccnaa
open Go.RowKit

theorem W_pow : W 18446744073709551616 = .agg #[.int .i64 1, .int .u64 0] := by simp [W, wh, wl]
theorem W_q : W 1844674407370955161 = .agg #[.int .i64 0, .int .u64 1844674407370955161] := by simp [W, wh, wl]
theorem W_m7 : W (-7) = .agg #[.int .i64 (-1), .int .u64 18446744073709551609] := by simp [W, wh, wl]
theorem W_4 : W 4 = .agg #[.int .i64 0, .int .u64 4] := by simp [W, wh, wl]
theorem fits_pow : fits 18446744073709551616 := by unfold fits lo127 hi127; omega

theorem k_mul (w : World) : Calls Try.prog 22 #[.int .i64 4611686018427387904, .int .i64 4] w fun e w' => e = .returned (.agg #[.int .i64 1, .int .u64 0]) ∧ Below w.heap.size w w' := by
  have h := mul_any 4611686018427387904 4 w (by unfold I64; omega) (by unfold I64; omega)
  rw [← W_pow]
  exact h
theorem k_div (w : World) : Calls Try.prog 24 #[.agg #[.int .i64 1, .int .u64 0], .int .i64 10] w fun e w' =>
    e = .returned (.tuple #[.agg #[.int .i64 0, .int .u64 1844674407370955161], .int .u64 6, .bool true]) ∧ Below w.heap.size w w' := by
  have h := div_any 18446744073709551616 10 w fits_pow (by unfold I64; omega)
  have e1 : divQ 18446744073709551616 10 = 1844674407370955161 := by decide
  have e2 : divR 18446744073709551616 10 = 6 := by decide
  have e3 : divB 18446744073709551616 10 = true := by decide
  rw [e1, e2, e3, W_pow, W_q] at h
  exact h
theorem k_fits (w : World) : Calls Try.prog 26 #[.agg #[.int .i64 0, .int .u64 1844674407370955161]] w fun e w' =>
    e = .returned (.tuple #[.int .i64 1844674407370955161, .bool true]) ∧ Below w.heap.size w w' := by
  have h := fits_any 1844674407370955161 w (by unfold fits lo127 hi127; omega)
  have e1 : clip64 1844674407370955161 = 1844674407370955161 := by decide
  have e2 : in64 1844674407370955161 = true := by decide
  rw [e1, e2, W_q] at h
  exact h
theorem k_of7 (w : World) : Calls Try.prog 18 #[.int .i64 (-7)] w fun e w' => e = .returned (.agg #[.int .i64 (-1), .int .u64 18446744073709551609]) ∧ Below w.heap.size w w' := by
  have h := of_any (-7) w (by omega) (by omega)
  rw [← W_m7]
  exact h
theorem k_of4 (w : World) : Calls Try.prog 18 #[.int .i64 4] w fun e w' => e = .returned (.agg #[.int .i64 0, .int .u64 4]) ∧ Below w.heap.size w w' := by
  have h := of_any 4 w (by omega) (by omega)
  rw [← W_4]
  exact h
theorem k_div2 (w : World) : Calls Try.prog 24 #[.agg #[.int .i64 (-1), .int .u64 18446744073709551609], .int .i64 (-2)] w fun e w' =>
    e = .returned (.tuple #[.agg #[.int .i64 0, .int .u64 4], .int .u64 1, .bool true]) ∧ Below w.heap.size w w' := by
  have h := div_any (-7) (-2) w (by unfold fits lo127 hi127; omega) (by unfold I64; omega)
  have e1 : divQ (-7) (-2) = 4 := by decide
  have e2 : divR (-7) (-2) = 1 := by decide
  have e3 : divB (-7) (-2) = true := by decide
  rw [e1, e2, e3, W_m7, W_4] at h
  exact h
def powText : ByteArray := ⟨#[49, 56, 52, 52, 54, 55, 52, 52, 48, 55, 51, 55, 48, 57, 53, 53, 49, 54, 49, 54]⟩
theorem k_text (w : World) : Calls Try.prog 32 #[.agg #[.int .i64 1, .int .u64 0]] w fun e w' => e = .returned (.string ⟨#[49, 56, 52, 52, 54, 55, 52, 52, 48, 55, 51, 55, 48, 57, 53, 53, 49, 54, 49, 54]⟩) ∧ Below w.heap.size w w' := by
  have h := text_any 18446744073709551616 w fits_pow
  have e1 : strOfNums (txt 18446744073709551616) = ⟨#[49, 56, 52, 52, 54, 55, 52, 52, 48, 55, 51, 55, 48, 57, 53, 53, 49, 54, 49, 54]⟩ := by kernel_rfl
  rw [e1, W_pow] at h
  exact h

set_option maxHeartbeats 2000000 in
theorem awake_any (w : World) : Calls Try.prog 11 #[] w fun e w' => e = .returned (.bool true) ∧ Below w.heap.size w w' := by
  go_enter Try.func11, Try.ntmps11
  go_wp2_with (first | (go_at_call 22; ((with_reducible refine (k_mul _).mono ?_); rintro e w1 ⟨rfl, hb1⟩); have hz1 := hb1.size; (try simp only [World.size_alloc, World.size_setCell, World.size_drew, size_drewN'] at hz1)) | (go_at_call 24; ((with_reducible refine (k_div _).mono ?_); rintro e w2 ⟨rfl, hb2⟩); have hz2 := hb2.size; (try simp only [World.size_alloc, World.size_setCell, World.size_drew, size_drewN'] at hz2); have : w1.heap.size < w2.heap.size := (by omega); have := hb2.cell (p := ⟨w1.heap.size, 0, none⟩) (by go_size); simp [go_sem, *] at this; have := hb2.frozen (p := ⟨w1.heap.size, 0, none⟩) (by go_size); simp [go_sem, *] at this; have := hb2.cell (p := ⟨w1.heap.size, 1, none⟩) (by go_size); simp [go_sem, *] at this; have := hb2.frozen (p := ⟨w1.heap.size, 1, none⟩) (by go_size); simp [go_sem, *] at this) | (go_at_call 26; ((with_reducible refine (k_fits _).mono ?_); rintro e w3 ⟨rfl, hb3⟩); have hz3 := hb3.size; (try simp only [World.size_alloc, World.size_setCell, World.size_drew, size_drewN'] at hz3); have : w1.heap.size < w3.heap.size := (by omega); have := hb3.cell (p := ⟨w1.heap.size, 0, none⟩) (by go_size); simp [go_sem, *] at this; have := hb3.frozen (p := ⟨w1.heap.size, 0, none⟩) (by go_size); simp [go_sem, *] at this; have := hb3.cell (p := ⟨w1.heap.size, 1, none⟩) (by go_size); simp [go_sem, *] at this; have := hb3.frozen (p := ⟨w1.heap.size, 1, none⟩) (by go_size); simp [go_sem, *] at this; have : w2.heap.size < w3.heap.size := (by omega); have := hb3.cell (p := ⟨w2.heap.size, 0, none⟩) (by go_size); simp [go_sem, *] at this; have := hb3.frozen (p := ⟨w2.heap.size, 0, none⟩) (by go_size); simp [go_sem, *] at this; have := hb3.cell (p := ⟨w2.heap.size, 1, none⟩) (by go_size); simp [go_sem, *] at this; have := hb3.frozen (p := ⟨w2.heap.size, 1, none⟩) (by go_size); simp [go_sem, *] at this) | (go_at_call 18; ((with_reducible refine (k_of7 _).mono ?_); rintro e w4 ⟨rfl, hb4⟩); have hz4 := hb4.size; (try simp only [World.size_alloc, World.size_setCell, World.size_drew, size_drewN'] at hz4); have : w1.heap.size < w4.heap.size := (by omega); have := hb4.cell (p := ⟨w1.heap.size, 0, none⟩) (by go_size); simp [go_sem, *] at this; have := hb4.frozen (p := ⟨w1.heap.size, 0, none⟩) (by go_size); simp [go_sem, *] at this; have := hb4.cell (p := ⟨w1.heap.size, 1, none⟩) (by go_size); simp [go_sem, *] at this; have := hb4.frozen (p := ⟨w1.heap.size, 1, none⟩) (by go_size); simp [go_sem, *] at this; have : w2.heap.size < w4.heap.size := (by omega); have := hb4.cell (p := ⟨w2.heap.size, 0, none⟩) (by go_size); simp [go_sem, *] at this; have := hb4.frozen (p := ⟨w2.heap.size, 0, none⟩) (by go_size); simp [go_sem, *] at this; have := hb4.cell (p := ⟨w2.heap.size, 1, none⟩) (by go_size); simp [go_sem, *] at this; have := hb4.frozen (p := ⟨w2.heap.size, 1, none⟩) (by go_size); simp [go_sem, *] at this) | (go_at_call 24; ((with_reducible refine (k_div2 _).mono ?_); rintro e w5 ⟨rfl, hb5⟩); have hz5 := hb5.size; (try simp only [World.size_alloc, World.size_setCell, World.size_drew, size_drewN'] at hz5); have : w1.heap.size < w5.heap.size := (by omega); have := hb5.cell (p := ⟨w1.heap.size, 0, none⟩) (by go_size); simp [go_sem, *] at this; have := hb5.frozen (p := ⟨w1.heap.size, 0, none⟩) (by go_size); simp [go_sem, *] at this; have := hb5.cell (p := ⟨w1.heap.size, 1, none⟩) (by go_size); simp [go_sem, *] at this; have := hb5.frozen (p := ⟨w1.heap.size, 1, none⟩) (by go_size); simp [go_sem, *] at this; have : w2.heap.size < w5.heap.size := (by omega); have := hb5.cell (p := ⟨w2.heap.size, 0, none⟩) (by go_size); simp [go_sem, *] at this; have := hb5.frozen (p := ⟨w2.heap.size, 0, none⟩) (by go_size); simp [go_sem, *] at this; have := hb5.cell (p := ⟨w2.heap.size, 1, none⟩) (by go_size); simp [go_sem, *] at this; have := hb5.frozen (p := ⟨w2.heap.size, 1, none⟩) (by go_size); simp [go_sem, *] at this))
  go_region_held3 (fun w' => w'.cell? ⟨w1.heap.size, 0, none⟩ = some (.int .i64 1) ∧ w'.cell? ⟨w1.heap.size, 1, none⟩ = some (.int .u64 0) ∧ w'.cell? ⟨w5.heap.size, 0, none⟩ = some (.int .i64 0) ∧ w'.cell? ⟨w5.heap.size, 1, none⟩ = some (.int .u64 4)) (simp [go_sem, *])
    (first | (go_at_call 32; ((with_reducible refine (k_text _).mono ?_); rintro e w6 ⟨rfl, hb6⟩); have hz6 := hb6.size; (try simp only [World.size_alloc, World.size_setCell, World.size_drew, size_drewN'] at hz6); have : w1.heap.size < w6.heap.size := (by omega); have := hb6.cell (p := ⟨w1.heap.size, 0, none⟩) (by go_size); simp [go_sem, *] at this; have := hb6.frozen (p := ⟨w1.heap.size, 0, none⟩) (by go_size); simp [go_sem, *] at this; have := hb6.cell (p := ⟨w1.heap.size, 1, none⟩) (by go_size); simp [go_sem, *] at this; have := hb6.frozen (p := ⟨w1.heap.size, 1, none⟩) (by go_size); simp [go_sem, *] at this; have : w5.heap.size < w6.heap.size := (by omega); have := hb6.cell (p := ⟨w5.heap.size, 0, none⟩) (by go_size); simp [go_sem, *] at this; have := hb6.frozen (p := ⟨w5.heap.size, 0, none⟩) (by go_size); simp [go_sem, *] at this; have := hb6.cell (p := ⟨w5.heap.size, 1, none⟩) (by go_size); simp [go_sem, *] at this; have := hb6.frozen (p := ⟨w5.heap.size, 1, none⟩) (by go_size); simp [go_sem, *] at this) | (go_at_call 18; ((with_reducible refine (k_of4 _).mono ?_); rintro e w7 ⟨rfl, hb7⟩); have hz7 := hb7.size; (try simp only [World.size_alloc, World.size_setCell, World.size_drew, size_drewN'] at hz7); have : w1.heap.size < w7.heap.size := (by omega); have := hb7.cell (p := ⟨w1.heap.size, 0, none⟩) (by go_size); simp [go_sem, *] at this; have := hb7.frozen (p := ⟨w1.heap.size, 0, none⟩) (by go_size); simp [go_sem, *] at this; have := hb7.cell (p := ⟨w1.heap.size, 1, none⟩) (by go_size); simp [go_sem, *] at this; have := hb7.frozen (p := ⟨w1.heap.size, 1, none⟩) (by go_size); simp [go_sem, *] at this; have : w5.heap.size < w7.heap.size := (by omega); have := hb7.cell (p := ⟨w5.heap.size, 0, none⟩) (by go_size); simp [go_sem, *] at this; have := hb7.frozen (p := ⟨w5.heap.size, 0, none⟩) (by go_size); simp [go_sem, *] at this; have := hb7.cell (p := ⟨w5.heap.size, 1, none⟩) (by go_size); simp [go_sem, *] at this; have := hb7.frozen (p := ⟨w5.heap.size, 1, none⟩) (by go_size); simp [go_sem, *] at this))
  go_wp2
  go_ret
  exact ⟨rfl, by (repeat' (first | (with_reducible exact Below.refl _ _) | (with_reducible refine Below.setCell ?_ ?_ _) | (with_reducible refine Below.alloc ?_ ?_ _) | (with_reducible refine Below.drew ?_) | (with_reducible refine belowN ?_ _) | (with_reducible refine below_step ?_ ?_ (by with_reducible assumption)) | go_size))⟩
end Go.Proofs.Ytgdpeajompccnaa
