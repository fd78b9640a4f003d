/- Contracts of the reference's functions on wide numbers: Of, Add, Sub, Neg, Cmp, Sign, Fits: each returns what its value says, old memory unchanged. -/
import Derived.Test.YtjmfhcloicembaaWideE
set_option linter.unusedSimpArgs false
set_option linter.unusedVariables false
namespace Go.Proofs.Ytjmfhcloicembaa
open Go.RowKit

theorem rof_any (n : Int) (w : World) (hn : -9223372036854775808 ≤ n ∧ n ≤ 9223372036854775807) :
    Calls Try.prog 57 #[.int .i64 n] w fun e w' => e = .returned (W n) ∧ Below w.heap.size w w' := by
  have e1 : IntKind.u64.wrap n = wl n := by simp only [IntKind.wrap_u64, wl]
  by_cases h : n < 0
  · have e2 : wh n = -1 := by unfold wh; omega
    have HW : Hid (W n = .agg #[.int .i64 (-1), .int .u64 (wl n)]) := Lib.hid (by unfold W; rw [e2])
    clear e2
    go_enter Try.func57, Try.ntmps57
    go_wp2
    rw [HW.out]
    go_returns
    exact ⟨rfl, by (repeat' (first | (with_reducible exact Below.refl _ _) | (with_reducible refine Below.setCell ?_ ?_ _) | (with_reducible refine Below.alloc ?_ ?_ _) | (with_reducible refine Below.drew ?_) | (with_reducible refine belowN ?_ _) | (with_reducible refine below_step ?_ ?_ (by with_reducible assumption)) | go_size))⟩
  · have e2 : wh n = 0 := by unfold wh; omega
    have HW : Hid (W n = .agg #[.int .i64 0, .int .u64 (wl n)]) := Lib.hid (by unfold W; rw [e2])
    clear e2
    go_enter Try.func57, Try.ntmps57
    go_wp2
    rw [HW.out]
    go_returns
    exact ⟨rfl, by (repeat' (first | (with_reducible exact Below.refl _ _) | (with_reducible refine Below.setCell ?_ ?_ _) | (with_reducible refine Below.alloc ?_ ?_ _) | (with_reducible refine Below.drew ?_) | (with_reducible refine belowN ?_ _) | (with_reducible refine below_step ?_ ?_ (by with_reducible assumption)) | go_size))⟩

set_option maxHeartbeats 2000000 in
theorem radd_any (a b : Int) (w : World) (ha : fits a) (hb : fits b) :
    Calls Try.prog 54 #[W a, W b] w fun e w' => e = .returned (.tuple #[W (clip (a + b)), .bool (fitB (a + b))]) ∧ Below w.heap.size w w' := by
  have E1 : IntKind.u64.wrap (wl a + wl b) = wl (a + b) := by rw [IntKind.wrap_u64]; unfold wl; omega
  by_cases hc : wl (a + b) < wl a
  · by_cases hs : fits (a + b)
    · have E2 : IntKind.i64.wrap (IntKind.u64.wrap (IntKind.u64.wrap (IntKind.u64.wrap (wh a) + IntKind.u64.wrap (wh b)) + 1)) = wh (a + b) := by
        simp only [IntKind.wrap_u64, IntKind.wrap_i64]; unfold fits wh wl lo127 hi127 at *; omega
      have s : (wh a < 0 ∧ wh b < 0 ∧ wh (a + b) < 0) ∨ (¬ wh a < 0 ∧ ¬ wh b < 0 ∧ ¬ wh (a + b) < 0) ∨ (wh a < 0 ∧ ¬ wh b < 0) ∨ (¬ wh a < 0 ∧ wh b < 0) := by
        simp only [lt0_iff]; omega
      rw [clip_yes hs, fit_yes hs]
      clear ha hb hs
      rcases s with ⟨s1, s2, s3⟩ | ⟨s1, s2, s3⟩ | ⟨s1, s2⟩ | ⟨s1, s2⟩
      all_goals
        go_enter Try.func54, Try.ntmps54
        go_wp2
        go_returns
        exact ⟨rfl, by (repeat' (first | (with_reducible exact Below.refl _ _) | (with_reducible refine Below.setCell ?_ ?_ _) | (with_reducible refine Below.alloc ?_ ?_ _) | (with_reducible refine Below.drew ?_) | (with_reducible refine belowN ?_ _) | (with_reducible refine below_step ?_ ?_ (by with_reducible assumption)) | go_size))⟩
    · have s : (wh a < 0 ∧ wh b < 0 ∧ ¬ wrap64 (IntKind.u64.wrap (IntKind.u64.wrap (IntKind.u64.wrap (wh a) + IntKind.u64.wrap (wh b)) + 1)) < 0) ∨ (¬ wh a < 0 ∧ ¬ wh b < 0 ∧ wrap64 (IntKind.u64.wrap (IntKind.u64.wrap (IntKind.u64.wrap (wh a) + IntKind.u64.wrap (wh b)) + 1)) < 0) := by
        simp only [IntKind.wrap_u64]; unfold wrap64 fits wh wl lo127 hi127 at *; omega
      rw [clip_no hs, fit_no hs, W_0]
      clear ha hb hs
      rcases s with ⟨s1, s2, s3⟩ | ⟨s1, s2, s3⟩
      all_goals
        go_enter Try.func54, Try.ntmps54
        go_wp2
        go_returns
        exact ⟨rfl, by (repeat' (first | (with_reducible exact Below.refl _ _) | (with_reducible refine Below.setCell ?_ ?_ _) | (with_reducible refine Below.alloc ?_ ?_ _) | (with_reducible refine Below.drew ?_) | (with_reducible refine belowN ?_ _) | (with_reducible refine below_step ?_ ?_ (by with_reducible assumption)) | go_size))⟩
  · by_cases hs : fits (a + b)
    · have E2 : IntKind.i64.wrap (IntKind.u64.wrap (IntKind.u64.wrap (wh a) + IntKind.u64.wrap (wh b))) = wh (a + b) := by
        simp only [IntKind.wrap_u64, IntKind.wrap_i64]; unfold fits wh wl lo127 hi127 at *; omega
      have s : (wh a < 0 ∧ wh b < 0 ∧ wh (a + b) < 0) ∨ (¬ wh a < 0 ∧ ¬ wh b < 0 ∧ ¬ wh (a + b) < 0) ∨ (wh a < 0 ∧ ¬ wh b < 0) ∨ (¬ wh a < 0 ∧ wh b < 0) := by
        simp only [lt0_iff]; omega
      rw [clip_yes hs, fit_yes hs]
      clear ha hb hs
      rcases s with ⟨s1, s2, s3⟩ | ⟨s1, s2, s3⟩ | ⟨s1, s2⟩ | ⟨s1, s2⟩
      all_goals
        go_enter Try.func54, Try.ntmps54
        go_wp2
        go_returns
        exact ⟨rfl, by (repeat' (first | (with_reducible exact Below.refl _ _) | (with_reducible refine Below.setCell ?_ ?_ _) | (with_reducible refine Below.alloc ?_ ?_ _) | (with_reducible refine Below.drew ?_) | (with_reducible refine belowN ?_ _) | (with_reducible refine below_step ?_ ?_ (by with_reducible assumption)) | go_size))⟩
    · have s : (wh a < 0 ∧ wh b < 0 ∧ ¬ wrap64 (IntKind.u64.wrap (IntKind.u64.wrap (wh a) + IntKind.u64.wrap (wh b))) < 0) ∨ (¬ wh a < 0 ∧ ¬ wh b < 0 ∧ wrap64 (IntKind.u64.wrap (IntKind.u64.wrap (wh a) + IntKind.u64.wrap (wh b))) < 0) := by
        simp only [IntKind.wrap_u64]; unfold wrap64 fits wh wl lo127 hi127 at *; omega
      rw [clip_no hs, fit_no hs, W_0]
      clear ha hb hs
      rcases s with ⟨s1, s2, s3⟩ | ⟨s1, s2, s3⟩
      all_goals
        go_enter Try.func54, Try.ntmps54
        go_wp2
        go_returns
        exact ⟨rfl, by (repeat' (first | (with_reducible exact Below.refl _ _) | (with_reducible refine Below.setCell ?_ ?_ _) | (with_reducible refine Below.alloc ?_ ?_ _) | (with_reducible refine Below.drew ?_) | (with_reducible refine belowN ?_ _) | (with_reducible refine below_step ?_ ?_ (by with_reducible assumption)) | go_size))⟩


set_option maxHeartbeats 2000000 in
theorem rsub_any (a b : Int) (w : World) (ha : fits a) (hb : fits b) :
    Calls Try.prog 75 #[W a, W b] w fun e w' => e = .returned (.tuple #[W (clip (a - b)), .bool (fitB (a - b))]) ∧ Below w.heap.size w w' := by
  have E1 : IntKind.u64.wrap (wl a - wl b) = wl (a - b) := by rw [IntKind.wrap_u64]; unfold wl; omega
  by_cases hc : wl a < wl b
  · by_cases hs : fits (a - b)
    · have E2 : IntKind.i64.wrap (IntKind.u64.wrap (IntKind.u64.wrap (IntKind.u64.wrap (wh a) - IntKind.u64.wrap (wh b)) - 1)) = wh (a - b) := by
        simp only [IntKind.wrap_u64, IntKind.wrap_i64]; unfold fits wh wl lo127 hi127 at *; omega
      have s : (wh a < 0 ∧ ¬ wh b < 0 ∧ wh (a - b) < 0) ∨ (¬ wh a < 0 ∧ wh b < 0 ∧ ¬ wh (a - b) < 0) ∨ (wh a < 0 ∧ wh b < 0) ∨ (¬ wh a < 0 ∧ ¬ wh b < 0) := by
        simp only [lt0_iff]; omega
      rw [clip_yes hs, fit_yes hs]
      clear ha hb hs
      rcases s with ⟨s1, s2, s3⟩ | ⟨s1, s2, s3⟩ | ⟨s1, s2⟩ | ⟨s1, s2⟩
      all_goals
        go_enter Try.func75, Try.ntmps75
        go_wp2
        go_returns
        exact ⟨rfl, by (repeat' (first | (with_reducible exact Below.refl _ _) | (with_reducible refine Below.setCell ?_ ?_ _) | (with_reducible refine Below.alloc ?_ ?_ _) | (with_reducible refine Below.drew ?_) | (with_reducible refine belowN ?_ _) | (with_reducible refine below_step ?_ ?_ (by with_reducible assumption)) | go_size))⟩
    · have s : (wh a < 0 ∧ ¬ wh b < 0 ∧ ¬ wrap64 (IntKind.u64.wrap (IntKind.u64.wrap (IntKind.u64.wrap (wh a) - IntKind.u64.wrap (wh b)) - 1)) < 0) ∨ (¬ wh a < 0 ∧ wh b < 0 ∧ wrap64 (IntKind.u64.wrap (IntKind.u64.wrap (IntKind.u64.wrap (wh a) - IntKind.u64.wrap (wh b)) - 1)) < 0) := by
        simp only [IntKind.wrap_u64]; unfold wrap64 fits wh wl lo127 hi127 at *; omega
      rw [clip_no hs, fit_no hs, W_0]
      clear ha hb hs
      rcases s with ⟨s1, s2, s3⟩ | ⟨s1, s2, s3⟩
      all_goals
        go_enter Try.func75, Try.ntmps75
        go_wp2
        go_returns
        exact ⟨rfl, by (repeat' (first | (with_reducible exact Below.refl _ _) | (with_reducible refine Below.setCell ?_ ?_ _) | (with_reducible refine Below.alloc ?_ ?_ _) | (with_reducible refine Below.drew ?_) | (with_reducible refine belowN ?_ _) | (with_reducible refine below_step ?_ ?_ (by with_reducible assumption)) | go_size))⟩
  · by_cases hs : fits (a - b)
    · have E2 : IntKind.i64.wrap (IntKind.u64.wrap (IntKind.u64.wrap (wh a) - IntKind.u64.wrap (wh b))) = wh (a - b) := by
        simp only [IntKind.wrap_u64, IntKind.wrap_i64]; unfold fits wh wl lo127 hi127 at *; omega
      have s : (wh a < 0 ∧ ¬ wh b < 0 ∧ wh (a - b) < 0) ∨ (¬ wh a < 0 ∧ wh b < 0 ∧ ¬ wh (a - b) < 0) ∨ (wh a < 0 ∧ wh b < 0) ∨ (¬ wh a < 0 ∧ ¬ wh b < 0) := by
        simp only [lt0_iff]; omega
      rw [clip_yes hs, fit_yes hs]
      clear ha hb hs
      rcases s with ⟨s1, s2, s3⟩ | ⟨s1, s2, s3⟩ | ⟨s1, s2⟩ | ⟨s1, s2⟩
      all_goals
        go_enter Try.func75, Try.ntmps75
        go_wp2
        go_returns
        exact ⟨rfl, by (repeat' (first | (with_reducible exact Below.refl _ _) | (with_reducible refine Below.setCell ?_ ?_ _) | (with_reducible refine Below.alloc ?_ ?_ _) | (with_reducible refine Below.drew ?_) | (with_reducible refine belowN ?_ _) | (with_reducible refine below_step ?_ ?_ (by with_reducible assumption)) | go_size))⟩
    · have s : (wh a < 0 ∧ ¬ wh b < 0 ∧ ¬ wrap64 (IntKind.u64.wrap (IntKind.u64.wrap (wh a) - IntKind.u64.wrap (wh b))) < 0) ∨ (¬ wh a < 0 ∧ wh b < 0 ∧ wrap64 (IntKind.u64.wrap (IntKind.u64.wrap (wh a) - IntKind.u64.wrap (wh b))) < 0) := by
        simp only [IntKind.wrap_u64]; unfold wrap64 fits wh wl lo127 hi127 at *; omega
      rw [clip_no hs, fit_no hs, W_0]
      clear ha hb hs
      rcases s with ⟨s1, s2, s3⟩ | ⟨s1, s2, s3⟩
      all_goals
        go_enter Try.func75, Try.ntmps75
        go_wp2
        go_returns
        exact ⟨rfl, by (repeat' (first | (with_reducible exact Below.refl _ _) | (with_reducible refine Below.setCell ?_ ?_ _) | (with_reducible refine Below.alloc ?_ ?_ _) | (with_reducible refine Below.drew ?_) | (with_reducible refine belowN ?_ _) | (with_reducible refine below_step ?_ ?_ (by with_reducible assumption)) | go_size))⟩


theorem rneg_any (a : Int) (w : World) (ha : fits a) :
    Calls Try.prog 74 #[W a] w fun e w' => e = .returned (.tuple #[W (clip (-a)), .bool (fitB (-a))]) ∧ Below w.heap.size w w' := by
  have hc : ∀ w, Calls Try.prog 75 #[.agg #[.int .i64 0, .int .u64 0], W a] w fun e w' => e = .returned (.tuple #[W (clip (-a)), .bool (fitB (-a))]) ∧ Below w.heap.size w w' := by
    intro w
    have := rsub_any 0 a w fits_0 ha
    rw [W_0, Int.zero_sub] at this
    exact this
  have HC := Lib.hid hc
  clear hc
  go_enter Try.func74, Try.ntmps74
  go_wp2_with (go_at_call 75; ((with_reducible refine (HC.out _).mono ?_); rintro e w1 ⟨rfl, hb1⟩); have hz1 := hb1.size; (try simp only [World.size_alloc, World.size_setCell, World.size_drew, size_drewN'] at hz1); have : w.heap.size + 1 < w1.heap.size := (by omega); have := hb1.cell (p := ⟨w.heap.size + 1, 0, none⟩) (by go_size); simp [go_sem, *] at this; have := hb1.frozen (p := ⟨w.heap.size + 1, 0, none⟩) (by go_size); simp [go_sem, *] at this; have := hb1.cell (p := ⟨w.heap.size + 1, 1, none⟩) (by go_size); simp [go_sem, *] at this; have := hb1.frozen (p := ⟨w.heap.size + 1, 1, none⟩) (by go_size); simp [go_sem, *] at this)
  refine bodyPost_ret (v := .tuple #[W (clip (-a)), .bool (fitB (-a))]) (by simp [results, Try.results74, go_sem, *]) rfl ?_
  exact ⟨rfl, by (repeat' (first | (with_reducible exact Below.refl _ _) | (with_reducible refine Below.setCell ?_ ?_ _) | (with_reducible refine Below.alloc ?_ ?_ _) | (with_reducible refine Below.drew ?_) | (with_reducible refine belowN ?_ _) | (with_reducible refine below_step ?_ ?_ (by with_reducible assumption)) | go_size))⟩

end Go.Proofs.Ytjmfhcloicembaa
