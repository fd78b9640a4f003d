/- Contracts of Floor, Ceil and Round of package exact and its reference. -/
import Derived.Test.YtaabebmaobdofaaDoorRatG
set_option linter.unusedSimpArgs false
set_option linter.unusedVariables false
namespace Go.Proofs.YtaabebmaobdofaaDoor
open Go.RowKit

def rdE (n d : Int) : Int := if validB n d then 0 else 1
def loI (n d : Int) : Int := if validB n d then n.fdiv d else 0
def hiI (n d : Int) : Int := if validB n d then ceilI n d else 0
def midI (n d : Int) : Int := if validB n d then (2 * n + d).fdiv (2 * d) else 0
theorem quoE_pos {n d : Int} (h : 1 ≤ d) : quoE n d = 0 := by
  unfold quoE; rw [if_neg (by omega), if_neg (by omega)]
theorem floorI_pos {n d : Int} (h : 1 ≤ d) : floorI n d = n.fdiv d := by unfold floorI; rw [if_pos (quoE_pos h)]

theorem floorQ_any (n d : Int) (w : World) (hn : I64 n) (hd : I64 d) :
    Calls Tryd.prog 35 #[R2 n d] w fun e w' => e = .returned (.tuple #[.int .i64 (loI n d), .int .i64 (rdE n d)]) ∧ Below w.heap.size w w' := by
  cases hv : validB n d
  · have HV : Hid (∀ w, Calls Tryd.prog 17 #[R2 n d] w fun e w' => e = .returned (.bool false) ∧ Below w.heap.size w w') := Lib.hid (fun w => by have h := valid_any n d w hn hd; rw [hv] at h; exact h)
    have e1 : loI n d = 0 := by simp [loI, hv]
    have e2 : rdE n d = 1 := by simp [rdE, hv]
    rw [e1, e2]
    clear e1 e2 hv
    go_enter Tryd.func35, Tryd.ntmps35
    go_wp2_with (go_at_call 17; ((with_reducible refine (HV.out _).mono ?_); rintro e w1 ⟨rfl, hb1⟩); have hz1 := hb1.size; (try simp only [World.size_alloc, World.size_setCell, World.size_drew, size_drewN'] at hz1); have : w.heap.size < w1.heap.size := (by omega); have := hb1.cell (p := ⟨w.heap.size, 0, none⟩) (by go_size); simp [go_sem, *] at this; have := hb1.frozen (p := ⟨w.heap.size, 0, none⟩) (by go_size); simp [go_sem, *] at this; have := hb1.cell (p := ⟨w.heap.size, 1, none⟩) (by go_size); simp [go_sem, *] at this; have := hb1.frozen (p := ⟨w.heap.size, 1, none⟩) (by go_size); simp [go_sem, *] at this)
    go_returns
    exact ⟨rfl, by (repeat' (first | (with_reducible exact Below.refl _ _) | (with_reducible refine Below.setCell ?_ ?_ _) | (with_reducible refine Below.alloc ?_ ?_ _) | (with_reducible refine Below.drew ?_) | (with_reducible refine belowN ?_ _) | (with_reducible refine below_step ?_ ?_ (by with_reducible assumption)) | go_size))⟩
  · have HV : Hid (∀ w, Calls Tryd.prog 17 #[R2 n d] w fun e w' => e = .returned (.bool true) ∧ Below w.heap.size w w') := Lib.hid (fun w => by have h := valid_any n d w hn hd; rw [hv] at h; exact h)
    obtain ⟨b1, b2, b3, b4⟩ := valid_bound hv
    have HD : Hid (∀ w, Calls Tryd.prog 31 #[.int .i64 (n), .int .i64 (d)] w fun e w' => e = .returned (.tuple #[.int .i64 (n.fdiv d), .int .i64 0]) ∧ w = w') := Lib.hid (fun w => by
      have h := floor_any (n) (d) w (by unfold I64; omega) (by unfold I64; omega)
      rw [floorI_pos (by omega), quoE_pos (by omega)] at h; exact h)
    have e1 : loI n d = n.fdiv d := by simp [loI, hv]
    have e2 : rdE n d = 0 := by simp [rdE, hv]
    rw [e1, e2]
    clear e1 e2 hv
    generalize n.fdiv d = V at *
    go_enter Tryd.func35, Tryd.ntmps35
    go_wp2_with (first | (go_at_call 17; ((with_reducible refine (HV.out _).mono ?_); rintro e w1 ⟨rfl, hb1⟩); have hz1 := hb1.size; (try simp only [World.size_alloc, World.size_setCell, World.size_drew, size_drewN'] at hz1); have : w.heap.size < w1.heap.size := (by omega); have := hb1.cell (p := ⟨w.heap.size, 0, none⟩) (by go_size); simp [go_sem, *] at this; have := hb1.frozen (p := ⟨w.heap.size, 0, none⟩) (by go_size); simp [go_sem, *] at this; have := hb1.cell (p := ⟨w.heap.size, 1, none⟩) (by go_size); simp [go_sem, *] at this; have := hb1.frozen (p := ⟨w.heap.size, 1, none⟩) (by go_size); simp [go_sem, *] at this) | (go_at_call 31; ((with_reducible refine (HD.out _).mono ?_); rintro e w' ⟨rfl, rfl⟩)))
    go_returns
    exact ⟨rfl, by (repeat' (first | (with_reducible exact Below.refl _ _) | (with_reducible refine Below.setCell ?_ ?_ _) | (with_reducible refine Below.alloc ?_ ?_ _) | (with_reducible refine Below.drew ?_) | (with_reducible refine belowN ?_ _) | (with_reducible refine below_step ?_ ?_ (by with_reducible assumption)) | go_size))⟩

theorem ceilQ_any (n d : Int) (w : World) (hn : I64 n) (hd : I64 d) :
    Calls Tryd.prog 37 #[R2 n d] w fun e w' => e = .returned (.tuple #[.int .i64 (hiI n d), .int .i64 (rdE n d)]) ∧ Below w.heap.size w w' := by
  cases hv : validB n d
  · have HV : Hid (∀ w, Calls Tryd.prog 17 #[R2 n d] w fun e w' => e = .returned (.bool false) ∧ Below w.heap.size w w') := Lib.hid (fun w => by have h := valid_any n d w hn hd; rw [hv] at h; exact h)
    have e1 : hiI n d = 0 := by simp [hiI, hv]
    have e2 : rdE n d = 1 := by simp [rdE, hv]
    rw [e1, e2]
    clear e1 e2 hv
    go_enter Tryd.func37, Tryd.ntmps37
    go_wp2_with (go_at_call 17; ((with_reducible refine (HV.out _).mono ?_); rintro e w1 ⟨rfl, hb1⟩); have hz1 := hb1.size; (try simp only [World.size_alloc, World.size_setCell, World.size_drew, size_drewN'] at hz1); have : w.heap.size < w1.heap.size := (by omega); have := hb1.cell (p := ⟨w.heap.size, 0, none⟩) (by go_size); simp [go_sem, *] at this; have := hb1.frozen (p := ⟨w.heap.size, 0, none⟩) (by go_size); simp [go_sem, *] at this; have := hb1.cell (p := ⟨w.heap.size, 1, none⟩) (by go_size); simp [go_sem, *] at this; have := hb1.frozen (p := ⟨w.heap.size, 1, none⟩) (by go_size); simp [go_sem, *] at this)
    go_returns
    exact ⟨rfl, by (repeat' (first | (with_reducible exact Below.refl _ _) | (with_reducible refine Below.setCell ?_ ?_ _) | (with_reducible refine Below.alloc ?_ ?_ _) | (with_reducible refine Below.drew ?_) | (with_reducible refine belowN ?_ _) | (with_reducible refine below_step ?_ ?_ (by with_reducible assumption)) | go_size))⟩
  · have HV : Hid (∀ w, Calls Tryd.prog 17 #[R2 n d] w fun e w' => e = .returned (.bool true) ∧ Below w.heap.size w w') := Lib.hid (fun w => by have h := valid_any n d w hn hd; rw [hv] at h; exact h)
    obtain ⟨b1, b2, b3, b4⟩ := valid_bound hv
    have HD : Hid (∀ w, Calls Tryd.prog 33 #[.int .i64 (n), .int .i64 (d)] w fun e w' => e = .returned (.tuple #[.int .i64 (ceilI n d), .int .i64 0]) ∧ w = w') := Lib.hid (fun w => by
      have h := ceil_any (n) (d) w (by unfold I64; omega) (by unfold I64; omega)
      rw [quoE_pos (by omega)] at h; exact h)
    have e1 : hiI n d = ceilI n d := by simp [hiI, hv]
    have e2 : rdE n d = 0 := by simp [rdE, hv]
    rw [e1, e2]
    clear e1 e2 hv
    generalize ceilI n d = V at *
    go_enter Tryd.func37, Tryd.ntmps37
    go_wp2_with (first | (go_at_call 17; ((with_reducible refine (HV.out _).mono ?_); rintro e w1 ⟨rfl, hb1⟩); have hz1 := hb1.size; (try simp only [World.size_alloc, World.size_setCell, World.size_drew, size_drewN'] at hz1); have : w.heap.size < w1.heap.size := (by omega); have := hb1.cell (p := ⟨w.heap.size, 0, none⟩) (by go_size); simp [go_sem, *] at this; have := hb1.frozen (p := ⟨w.heap.size, 0, none⟩) (by go_size); simp [go_sem, *] at this; have := hb1.cell (p := ⟨w.heap.size, 1, none⟩) (by go_size); simp [go_sem, *] at this; have := hb1.frozen (p := ⟨w.heap.size, 1, none⟩) (by go_size); simp [go_sem, *] at this) | (go_at_call 33; ((with_reducible refine (HD.out _).mono ?_); rintro e w' ⟨rfl, rfl⟩)))
    go_returns
    exact ⟨rfl, by (repeat' (first | (with_reducible exact Below.refl _ _) | (with_reducible refine Below.setCell ?_ ?_ _) | (with_reducible refine Below.alloc ?_ ?_ _) | (with_reducible refine Below.drew ?_) | (with_reducible refine belowN ?_ _) | (with_reducible refine below_step ?_ ?_ (by with_reducible assumption)) | go_size))⟩

theorem roundQ_any (n d : Int) (w : World) (hn : I64 n) (hd : I64 d) :
    Calls Tryd.prog 36 #[R2 n d] w fun e w' => e = .returned (.tuple #[.int .i64 (midI n d), .int .i64 (rdE n d)]) ∧ Below w.heap.size w w' := by
  cases hv : validB n d
  · have HV : Hid (∀ w, Calls Tryd.prog 17 #[R2 n d] w fun e w' => e = .returned (.bool false) ∧ Below w.heap.size w w') := Lib.hid (fun w => by have h := valid_any n d w hn hd; rw [hv] at h; exact h)
    have e1 : midI n d = 0 := by simp [midI, hv]
    have e2 : rdE n d = 1 := by simp [rdE, hv]
    rw [e1, e2]
    clear e1 e2 hv
    go_enter Tryd.func36, Tryd.ntmps36
    go_wp2_with (go_at_call 17; ((with_reducible refine (HV.out _).mono ?_); rintro e w1 ⟨rfl, hb1⟩); have hz1 := hb1.size; (try simp only [World.size_alloc, World.size_setCell, World.size_drew, size_drewN'] at hz1); have : w.heap.size < w1.heap.size := (by omega); have := hb1.cell (p := ⟨w.heap.size, 0, none⟩) (by go_size); simp [go_sem, *] at this; have := hb1.frozen (p := ⟨w.heap.size, 0, none⟩) (by go_size); simp [go_sem, *] at this; have := hb1.cell (p := ⟨w.heap.size, 1, none⟩) (by go_size); simp [go_sem, *] at this; have := hb1.frozen (p := ⟨w.heap.size, 1, none⟩) (by go_size); simp [go_sem, *] at this)
    go_returns
    exact ⟨rfl, by (repeat' (first | (with_reducible exact Below.refl _ _) | (with_reducible refine Below.setCell ?_ ?_ _) | (with_reducible refine Below.alloc ?_ ?_ _) | (with_reducible refine Below.drew ?_) | (with_reducible refine belowN ?_ _) | (with_reducible refine below_step ?_ ?_ (by with_reducible assumption)) | go_size))⟩
  · have HV : Hid (∀ w, Calls Tryd.prog 17 #[R2 n d] w fun e w' => e = .returned (.bool true) ∧ Below w.heap.size w w') := Lib.hid (fun w => by have h := valid_any n d w hn hd; rw [hv] at h; exact h)
    obtain ⟨b1, b2, b3, b4⟩ := valid_bound hv
    have HD : Hid (∀ w, Calls Tryd.prog 31 #[.int .i64 (2 * n + d), .int .i64 (2 * d)] w fun e w' => e = .returned (.tuple #[.int .i64 ((2 * n + d).fdiv (2 * d)), .int .i64 0]) ∧ w = w') := Lib.hid (fun w => by
      have h := floor_any (2 * n + d) (2 * d) w (by unfold I64; omega) (by unfold I64; omega)
      rw [floorI_pos (by omega), quoE_pos (by omega)] at h; exact h)
    have e1 : midI n d = (2 * n + d).fdiv (2 * d) := by simp [midI, hv]
    have e2 : rdE n d = 0 := by simp [rdE, hv]
    rw [e1, e2]
    clear e1 e2 hv
    generalize (2 * n + d).fdiv (2 * d) = V at *
    go_enter Tryd.func36, Tryd.ntmps36
    go_wp2_with (first | (go_at_call 17; ((with_reducible refine (HV.out _).mono ?_); rintro e w1 ⟨rfl, hb1⟩); have hz1 := hb1.size; (try simp only [World.size_alloc, World.size_setCell, World.size_drew, size_drewN'] at hz1); have : w.heap.size < w1.heap.size := (by omega); have := hb1.cell (p := ⟨w.heap.size, 0, none⟩) (by go_size); simp [go_sem, *] at this; have := hb1.frozen (p := ⟨w.heap.size, 0, none⟩) (by go_size); simp [go_sem, *] at this; have := hb1.cell (p := ⟨w.heap.size, 1, none⟩) (by go_size); simp [go_sem, *] at this; have := hb1.frozen (p := ⟨w.heap.size, 1, none⟩) (by go_size); simp [go_sem, *] at this) | (go_at_call 31; ((with_reducible refine (HD.out _).mono ?_); rintro e w' ⟨rfl, rfl⟩)))
    go_returns
    exact ⟨rfl, by (repeat' (first | (with_reducible exact Below.refl _ _) | (with_reducible refine Below.setCell ?_ ?_ _) | (with_reducible refine Below.alloc ?_ ?_ _) | (with_reducible refine Below.drew ?_) | (with_reducible refine belowN ?_ _) | (with_reducible refine below_step ?_ ?_ (by with_reducible assumption)) | go_size))⟩

theorem rfloorQ_any (n d : Int) (w : World) (hn : I64 n) (hd : I64 d) :
    Calls Tryd.prog 38 #[R2 n d] w fun e w' => e = .returned (.tuple #[.int .i64 (loI n d), .int .i64 (rdE n d)]) ∧ Below w.heap.size w w' := by
  cases hv : validB n d
  · have HV : Hid (∀ w, Calls Tryd.prog 18 #[R2 n d] w fun e w' => e = .returned (.bool false) ∧ Below w.heap.size w w') := Lib.hid (fun w => by have h := rvalid_any n d w hn hd; rw [hv] at h; exact h)
    have e1 : loI n d = 0 := by simp [loI, hv]
    have e2 : rdE n d = 1 := by simp [rdE, hv]
    rw [e1, e2]
    clear e1 e2 hv
    go_enter Tryd.func38, Tryd.ntmps38
    go_wp2_with (go_at_call 18; ((with_reducible refine (HV.out _).mono ?_); rintro e w1 ⟨rfl, hb1⟩); have hz1 := hb1.size; (try simp only [World.size_alloc, World.size_setCell, World.size_drew, size_drewN'] at hz1); have : w.heap.size < w1.heap.size := (by omega); have := hb1.cell (p := ⟨w.heap.size, 0, none⟩) (by go_size); simp [go_sem, *] at this; have := hb1.frozen (p := ⟨w.heap.size, 0, none⟩) (by go_size); simp [go_sem, *] at this; have := hb1.cell (p := ⟨w.heap.size, 1, none⟩) (by go_size); simp [go_sem, *] at this; have := hb1.frozen (p := ⟨w.heap.size, 1, none⟩) (by go_size); simp [go_sem, *] at this)
    go_returns
    exact ⟨rfl, by (repeat' (first | (with_reducible exact Below.refl _ _) | (with_reducible refine Below.setCell ?_ ?_ _) | (with_reducible refine Below.alloc ?_ ?_ _) | (with_reducible refine Below.drew ?_) | (with_reducible refine belowN ?_ _) | (with_reducible refine below_step ?_ ?_ (by with_reducible assumption)) | go_size))⟩
  · have HV : Hid (∀ w, Calls Tryd.prog 18 #[R2 n d] w fun e w' => e = .returned (.bool true) ∧ Below w.heap.size w w') := Lib.hid (fun w => by have h := rvalid_any n d w hn hd; rw [hv] at h; exact h)
    obtain ⟨b1, b2, b3, b4⟩ := valid_bound hv
    have HD : Hid (∀ w, Calls Tryd.prog 32 #[.int .i64 (n), .int .i64 (d)] w fun e w' => e = .returned (.tuple #[.int .i64 (n.fdiv d), .int .i64 0]) ∧ ∃ k, w' = w.drewN k) := Lib.hid (fun w => by
      have h := rfloor_any (n) (d) w (by unfold I64; omega) (by unfold I64; omega)
      rw [floorI_pos (by omega), quoE_pos (by omega)] at h; exact h)
    have e1 : loI n d = n.fdiv d := by simp [loI, hv]
    have e2 : rdE n d = 0 := by simp [rdE, hv]
    rw [e1, e2]
    clear e1 e2 hv
    generalize n.fdiv d = V at *
    go_enter Tryd.func38, Tryd.ntmps38
    go_wp2_with (first | (go_at_call 18; ((with_reducible refine (HV.out _).mono ?_); rintro e w1 ⟨rfl, hb1⟩); have hz1 := hb1.size; (try simp only [World.size_alloc, World.size_setCell, World.size_drew, size_drewN'] at hz1); have : w.heap.size < w1.heap.size := (by omega); have := hb1.cell (p := ⟨w.heap.size, 0, none⟩) (by go_size); simp [go_sem, *] at this; have := hb1.frozen (p := ⟨w.heap.size, 0, none⟩) (by go_size); simp [go_sem, *] at this; have := hb1.cell (p := ⟨w.heap.size, 1, none⟩) (by go_size); simp [go_sem, *] at this; have := hb1.frozen (p := ⟨w.heap.size, 1, none⟩) (by go_size); simp [go_sem, *] at this) | (go_at_call 32; ((with_reducible refine (HD.out _).mono ?_); rintro e w' ⟨rfl, k, rfl⟩)))
    go_returns
    exact ⟨rfl, by (repeat' (first | (with_reducible exact Below.refl _ _) | (with_reducible refine Below.setCell ?_ ?_ _) | (with_reducible refine Below.alloc ?_ ?_ _) | (with_reducible refine Below.drew ?_) | (with_reducible refine belowN ?_ _) | (with_reducible refine below_step ?_ ?_ (by with_reducible assumption)) | go_size))⟩

theorem rceilQ_any (n d : Int) (w : World) (hn : I64 n) (hd : I64 d) :
    Calls Tryd.prog 40 #[R2 n d] w fun e w' => e = .returned (.tuple #[.int .i64 (hiI n d), .int .i64 (rdE n d)]) ∧ Below w.heap.size w w' := by
  cases hv : validB n d
  · have HV : Hid (∀ w, Calls Tryd.prog 18 #[R2 n d] w fun e w' => e = .returned (.bool false) ∧ Below w.heap.size w w') := Lib.hid (fun w => by have h := rvalid_any n d w hn hd; rw [hv] at h; exact h)
    have e1 : hiI n d = 0 := by simp [hiI, hv]
    have e2 : rdE n d = 1 := by simp [rdE, hv]
    rw [e1, e2]
    clear e1 e2 hv
    go_enter Tryd.func40, Tryd.ntmps40
    go_wp2_with (go_at_call 18; ((with_reducible refine (HV.out _).mono ?_); rintro e w1 ⟨rfl, hb1⟩); have hz1 := hb1.size; (try simp only [World.size_alloc, World.size_setCell, World.size_drew, size_drewN'] at hz1); have : w.heap.size < w1.heap.size := (by omega); have := hb1.cell (p := ⟨w.heap.size, 0, none⟩) (by go_size); simp [go_sem, *] at this; have := hb1.frozen (p := ⟨w.heap.size, 0, none⟩) (by go_size); simp [go_sem, *] at this; have := hb1.cell (p := ⟨w.heap.size, 1, none⟩) (by go_size); simp [go_sem, *] at this; have := hb1.frozen (p := ⟨w.heap.size, 1, none⟩) (by go_size); simp [go_sem, *] at this)
    go_returns
    exact ⟨rfl, by (repeat' (first | (with_reducible exact Below.refl _ _) | (with_reducible refine Below.setCell ?_ ?_ _) | (with_reducible refine Below.alloc ?_ ?_ _) | (with_reducible refine Below.drew ?_) | (with_reducible refine belowN ?_ _) | (with_reducible refine below_step ?_ ?_ (by with_reducible assumption)) | go_size))⟩
  · have HV : Hid (∀ w, Calls Tryd.prog 18 #[R2 n d] w fun e w' => e = .returned (.bool true) ∧ Below w.heap.size w w') := Lib.hid (fun w => by have h := rvalid_any n d w hn hd; rw [hv] at h; exact h)
    obtain ⟨b1, b2, b3, b4⟩ := valid_bound hv
    have HD : Hid (∀ w, Calls Tryd.prog 34 #[.int .i64 (n), .int .i64 (d)] w fun e w' => e = .returned (.tuple #[.int .i64 (ceilI n d), .int .i64 0]) ∧ ∃ k, w' = w.drewN k) := Lib.hid (fun w => by
      have h := rceil_any (n) (d) w (by unfold I64; omega) (by unfold I64; omega)
      rw [quoE_pos (by omega)] at h; exact h)
    have e1 : hiI n d = ceilI n d := by simp [hiI, hv]
    have e2 : rdE n d = 0 := by simp [rdE, hv]
    rw [e1, e2]
    clear e1 e2 hv
    generalize ceilI n d = V at *
    go_enter Tryd.func40, Tryd.ntmps40
    go_wp2_with (first | (go_at_call 18; ((with_reducible refine (HV.out _).mono ?_); rintro e w1 ⟨rfl, hb1⟩); have hz1 := hb1.size; (try simp only [World.size_alloc, World.size_setCell, World.size_drew, size_drewN'] at hz1); have : w.heap.size < w1.heap.size := (by omega); have := hb1.cell (p := ⟨w.heap.size, 0, none⟩) (by go_size); simp [go_sem, *] at this; have := hb1.frozen (p := ⟨w.heap.size, 0, none⟩) (by go_size); simp [go_sem, *] at this; have := hb1.cell (p := ⟨w.heap.size, 1, none⟩) (by go_size); simp [go_sem, *] at this; have := hb1.frozen (p := ⟨w.heap.size, 1, none⟩) (by go_size); simp [go_sem, *] at this) | (go_at_call 34; ((with_reducible refine (HD.out _).mono ?_); rintro e w' ⟨rfl, k, rfl⟩)))
    go_returns
    exact ⟨rfl, by (repeat' (first | (with_reducible exact Below.refl _ _) | (with_reducible refine Below.setCell ?_ ?_ _) | (with_reducible refine Below.alloc ?_ ?_ _) | (with_reducible refine Below.drew ?_) | (with_reducible refine belowN ?_ _) | (with_reducible refine below_step ?_ ?_ (by with_reducible assumption)) | go_size))⟩

theorem rroundQ_any (n d : Int) (w : World) (hn : I64 n) (hd : I64 d) :
    Calls Tryd.prog 39 #[R2 n d] w fun e w' => e = .returned (.tuple #[.int .i64 (midI n d), .int .i64 (rdE n d)]) ∧ Below w.heap.size w w' := by
  cases hv : validB n d
  · have HV : Hid (∀ w, Calls Tryd.prog 18 #[R2 n d] w fun e w' => e = .returned (.bool false) ∧ Below w.heap.size w w') := Lib.hid (fun w => by have h := rvalid_any n d w hn hd; rw [hv] at h; exact h)
    have e1 : midI n d = 0 := by simp [midI, hv]
    have e2 : rdE n d = 1 := by simp [rdE, hv]
    rw [e1, e2]
    clear e1 e2 hv
    go_enter Tryd.func39, Tryd.ntmps39
    go_wp2_with (go_at_call 18; ((with_reducible refine (HV.out _).mono ?_); rintro e w1 ⟨rfl, hb1⟩); have hz1 := hb1.size; (try simp only [World.size_alloc, World.size_setCell, World.size_drew, size_drewN'] at hz1); have : w.heap.size < w1.heap.size := (by omega); have := hb1.cell (p := ⟨w.heap.size, 0, none⟩) (by go_size); simp [go_sem, *] at this; have := hb1.frozen (p := ⟨w.heap.size, 0, none⟩) (by go_size); simp [go_sem, *] at this; have := hb1.cell (p := ⟨w.heap.size, 1, none⟩) (by go_size); simp [go_sem, *] at this; have := hb1.frozen (p := ⟨w.heap.size, 1, none⟩) (by go_size); simp [go_sem, *] at this)
    go_returns
    exact ⟨rfl, by (repeat' (first | (with_reducible exact Below.refl _ _) | (with_reducible refine Below.setCell ?_ ?_ _) | (with_reducible refine Below.alloc ?_ ?_ _) | (with_reducible refine Below.drew ?_) | (with_reducible refine belowN ?_ _) | (with_reducible refine below_step ?_ ?_ (by with_reducible assumption)) | go_size))⟩
  · have HV : Hid (∀ w, Calls Tryd.prog 18 #[R2 n d] w fun e w' => e = .returned (.bool true) ∧ Below w.heap.size w w') := Lib.hid (fun w => by have h := rvalid_any n d w hn hd; rw [hv] at h; exact h)
    obtain ⟨b1, b2, b3, b4⟩ := valid_bound hv
    have HD : Hid (∀ w, Calls Tryd.prog 32 #[.int .i64 (2 * n + d), .int .i64 (2 * d)] w fun e w' => e = .returned (.tuple #[.int .i64 ((2 * n + d).fdiv (2 * d)), .int .i64 0]) ∧ ∃ k, w' = w.drewN k) := Lib.hid (fun w => by
      have h := rfloor_any (2 * n + d) (2 * d) w (by unfold I64; omega) (by unfold I64; omega)
      rw [floorI_pos (by omega), quoE_pos (by omega)] at h; exact h)
    have e1 : midI n d = (2 * n + d).fdiv (2 * d) := by simp [midI, hv]
    have e2 : rdE n d = 0 := by simp [rdE, hv]
    rw [e1, e2]
    clear e1 e2 hv
    generalize (2 * n + d).fdiv (2 * d) = V at *
    go_enter Tryd.func39, Tryd.ntmps39
    go_wp2_with (first | (go_at_call 18; ((with_reducible refine (HV.out _).mono ?_); rintro e w1 ⟨rfl, hb1⟩); have hz1 := hb1.size; (try simp only [World.size_alloc, World.size_setCell, World.size_drew, size_drewN'] at hz1); have : w.heap.size < w1.heap.size := (by omega); have := hb1.cell (p := ⟨w.heap.size, 0, none⟩) (by go_size); simp [go_sem, *] at this; have := hb1.frozen (p := ⟨w.heap.size, 0, none⟩) (by go_size); simp [go_sem, *] at this; have := hb1.cell (p := ⟨w.heap.size, 1, none⟩) (by go_size); simp [go_sem, *] at this; have := hb1.frozen (p := ⟨w.heap.size, 1, none⟩) (by go_size); simp [go_sem, *] at this) | (go_at_call 32; ((with_reducible refine (HD.out _).mono ?_); rintro e w' ⟨rfl, k, rfl⟩)))
    go_returns
    exact ⟨rfl, by (repeat' (first | (with_reducible exact Below.refl _ _) | (with_reducible refine Below.setCell ?_ ?_ _) | (with_reducible refine Below.alloc ?_ ?_ _) | (with_reducible refine Below.drew ?_) | (with_reducible refine belowN ?_ _) | (with_reducible refine below_step ?_ ?_ (by with_reducible assumption)) | go_size))⟩
end Go.Proofs.YtaabebmaobdofaaDoor
