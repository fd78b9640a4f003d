/- The chapter's examples, which every statement of layer 1 asks first: they hold. -/
import Derived.Test.YtaabebmaobdofaaDoorRatF
set_option linter.unusedSimpArgs false
set_option linter.unusedVariables false
namespace Go.Proofs.YtaabebmaobdofaaDoor
open Go.RowKit

theorem k_make (w : World) : Calls Tryd.prog 13 #[.int .i64 90, .int .i64 60] w fun e w' => e = .returned (.tuple #[R2 3 2, .int .i64 0]) ∧ Below w.heap.size w w' := by
  have h := make_any 90 60 w (by unfold I64; omega) (by unfold I64; omega)
  have e1 : makeN 90 60 = 3 := by decide
  have e2 : makeD 90 60 = 2 := by decide
  have e3 : makeE 90 60 = 0 := by decide
  rw [e1, e2, e3] at h
  exact h
theorem k_floor (w : World) : Calls Tryd.prog 31 #[.int .i64 (-7), .int .i64 2] w fun e w' => e = .returned (.tuple #[.int .i64 (-4), .int .i64 0]) ∧ w = w' := by
  have h := floor_any (-7) 2 w (by unfold I64; omega) (by unfold I64; omega)
  have e1 : floorI (-7) 2 = -4 := by decide
  have e2 : quoE (-7) 2 = 0 := by decide
  rw [e1, e2] at h
  exact h
theorem k_dec1 (w : World) : Calls Tryd.prog 41 #[R2 (-1) 8, .int .i64 2] w fun e w' => e = .returned (.tuple #[.string ⟨#[45, 48, 46, 49, 51]⟩, .int .i64 0]) ∧ Below w.heap.size w w' := by
  have er : decR (-1) 8 2 = 13 := by decide
  have h := decimal_any (-1) 8 2 w (by decide) (by omega) (fun w' _ => Or.inl (by rw [er]; omega))
  have e1 : decL (-1) 8 2 = [45, 48, 46, 49, 51] := by
    have ei : Lib.itoa 13 = [49, 51] := by rw [show (13 : Int) = ((13 : Nat) : Int) from rfl, Lib.itoa_nonneg, Lib.decDigits_two (by omega) (by omega)]; rfl
    unfold decL
    rw [er, ei]
    rfl
  rw [e1] at h
  exact h
theorem k_dec2 (w : World) : Calls Tryd.prog 41 #[R2 (-1) 300, .int .i64 2] w fun e w' => e = .returned (.tuple #[.string ⟨#[48, 46, 48, 48]⟩, .int .i64 0]) ∧ Below w.heap.size w w' := by
  have er : decR (-1) 300 2 = 0 := by decide
  have h := decimal_any (-1) 300 2 w (by decide) (by omega) (fun w' _ => Or.inl (by rw [er]; omega))
  have e1 : decL (-1) 300 2 = [48, 46, 48, 48] := by
    have ei : Lib.itoa 0 = [48] := by rw [show (0 : Int) = ((0 : Nat) : Int) from rfl, Lib.itoa_nonneg, Lib.decDigits_one (by omega)]; rfl
    unfold decL
    rw [er, ei]
    rfl
  rw [e1] at h
  exact h

set_option maxHeartbeats 2000000 in
theorem awake_any (w : World) : Calls Tryd.prog 12 #[] w fun e w' => e = .returned (.bool true) ∧ Below w.heap.size w w' := by
  go_enter Tryd.func12, Tryd.ntmps12
  go_wp2_with (first | (go_at_call 13; ((with_reducible refine (k_make _).mono ?_); rintro e w1 ⟨rfl, hb1⟩); have hz1 := hb1.size; (try simp only [World.size_alloc, World.size_setCell, World.size_drew, size_drewN'] at hz1)) | (go_at_call 31; ((with_reducible refine (k_floor _).mono ?_); rintro e w' ⟨rfl, rfl⟩)) | (go_at_call 41; ((with_reducible refine (k_dec1 _).mono ?_); rintro e w2 ⟨rfl, hb2⟩); have hz2 := hb2.size; (try simp only [World.size_alloc, World.size_setCell, World.size_drew, size_drewN'] at hz2); have : w1.heap.size < w2.heap.size := (by omega); have := hb2.cell (p := ⟨w1.heap.size, 0, none⟩) (by go_size); simp [go_sem, *] at this; have := hb2.frozen (p := ⟨w1.heap.size, 0, none⟩) (by go_size); simp [go_sem, *] at this; have := hb2.cell (p := ⟨w1.heap.size, 1, none⟩) (by go_size); simp [go_sem, *] at this; have := hb2.frozen (p := ⟨w1.heap.size, 1, none⟩) (by go_size); simp [go_sem, *] at this) | (go_at_call 41; ((with_reducible refine (k_dec2 _).mono ?_); rintro e w3 ⟨rfl, hb3⟩); have hz3 := hb3.size; (try simp only [World.size_alloc, World.size_setCell, World.size_drew, size_drewN'] at hz3); have : w1.heap.size < w3.heap.size := (by omega); have := hb3.cell (p := ⟨w1.heap.size, 0, none⟩) (by go_size); simp [go_sem, *] at this; have := hb3.frozen (p := ⟨w1.heap.size, 0, none⟩) (by go_size); simp [go_sem, *] at this; have := hb3.cell (p := ⟨w1.heap.size, 1, none⟩) (by go_size); simp [go_sem, *] at this; have := hb3.frozen (p := ⟨w1.heap.size, 1, none⟩) (by go_size); simp [go_sem, *] at this))
  go_ret
  exact ⟨rfl, by (repeat' (first | (with_reducible exact Below.refl _ _) | (with_reducible refine Below.setCell ?_ ?_ _) | (with_reducible refine Below.alloc ?_ ?_ _) | (with_reducible refine Below.drew ?_) | (with_reducible refine belowN ?_ _) | (with_reducible refine below_step ?_ ?_ (by with_reducible assumption)) | go_size))⟩
end Go.Proofs.YtaabebmaobdofaaDoor
