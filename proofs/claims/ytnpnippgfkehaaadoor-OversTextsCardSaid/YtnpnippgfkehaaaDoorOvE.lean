/- Contracts of Make of package exact and its reference: the reduced ratio or the error that its words say; old memory unchanged. -/
import Derived.Test.YtnpnippgfkehaaaDoorOvM
import Derived.RegionTactic
import Derived.BigRegion
set_option linter.unusedSimpArgs false
set_option linter.unusedVariables false
namespace Go.Proofs.YtnpnippgfkehaaaDoor
open Go.RowKit

theorem make_1 {n d : Int} (h : d = 0) : makeE n d = 1 ∧ makeN n d = 0 ∧ makeD n d = 0 := by
  have e : makeE n d = 1 := by simp [makeE, h]
  simp [makeN, makeD, e]
theorem make_2 {n d : Int} (h : ¬ d = 0) (h2 : n = least ∨ d = least) : makeE n d = 2 ∧ makeN n d = 0 ∧ makeD n d = 0 := by
  have e : makeE n d = 2 := by simp [makeE, h, h2]
  simp [makeN, makeD, e]
theorem make_3 {n d : Int} (h : ¬ d = 0) (h2 : ¬ (n = least ∨ d = least)) (h3 : boundB (redN n d) (redD n d) = false) : makeE n d = 2 ∧ makeN n d = 0 ∧ makeD n d = 0 := by
  have e : makeE n d = 2 := by simp [makeE, h, h2, h3]
  simp [makeN, makeD, e]
theorem make_0 {n d : Int} (h : ¬ d = 0) (h2 : ¬ (n = least ∨ d = least)) (h3 : boundB (redN n d) (redD n d) = true) : makeE n d = 0 ∧ makeN n d = redN n d ∧ makeD n d = redD n d := by
  have e : makeE n d = 0 := by simp [makeE, h, h2, h3]
  simp [makeN, makeD, e]

/-- The parts of the reduction, for the walks. -/
theorem red_parts {n d : Int} (hn : I64 n) (hd : I64 d) (h0 : ¬ d = 0) (h2 : ¬ (n = least ∨ d = least)) :
    1 ≤ gcdI n d ∧ gcdI n d ≤ 9223372036854775807 ∧ IntKind.i64.wrap ((flip n d).tdiv (gcdI n d)) = redN n d ∧ IntKind.i64.wrap ((absI d).tdiv (gcdI n d)) = redD n d := by
  have hn1 : n ≠ least := fun h => h2 (Or.inl h)
  have hd1 : d ≠ least := fun h => h2 (Or.inr h)
  have g1 := gcdI_1 hn1 hd1 h0
  have g2 := gcdI_le n d hn hd
  unfold I64 at hn hd
  unfold least at hn1 hd1
  have a1 := tdiv_small (flip n d) (gcdI n d) g1 (by rw [natAbs_flip]; omega)
  have a2 := tdiv_small (absI d) (gcdI n d) g1 (by rw [natAbs_absI]; omega)
  refine ⟨g1, g2, ?_, ?_⟩
  · unfold redN; rw [IntKind.wrap_i64]; omega
  · unfold redD; rw [IntKind.wrap_i64]; omega

set_option maxHeartbeats 1000000 in
theorem make_any (n d : Int) (w : World) (hn : I64 n) (hd : I64 d) :
    Calls Tryd.prog 35 #[.int .i64 n, .int .i64 d] w fun e w' => e = .returned (.tuple #[R2 (makeN n d) (makeD n d), .int .i64 (makeE n d)]) ∧ Below w.heap.size w w' := by
  by_cases h0 : d = 0
  · obtain ⟨e1, e2, e3⟩ := make_1 (n := n) h0
    rw [e1, e2, e3]
    clear e1 e2 e3
    have k : (d == 0) = true := by simp [h0]
    clear h0
    go_enter Tryd.func35, Tryd.ntmps35
    go_wp2
    go_returns
    exact ⟨rfl, by (repeat' (first | (with_reducible exact Below.refl _ _) | (with_reducible refine Below.setCell ?_ ?_ _) | (with_reducible refine Below.alloc ?_ ?_ _) | (with_reducible refine Below.drew ?_) | (with_reducible refine belowN ?_ _) | (with_reducible refine below_step ?_ ?_ (by with_reducible assumption)) | go_size))⟩
  have k0 : (d == 0) = false := by simpa using h0
  by_cases h2 : n = least ∨ d = least
  · obtain ⟨e1, e2, e3⟩ := make_2 h0 h2
    rw [e1, e2, e3]
    clear e1 e2 e3
    have hk : (n == -9223372036854775808) = true ∨ ((n == -9223372036854775808) = false ∧ (d == -9223372036854775808) = true) := by
      unfold least at h2
      by_cases h : n = -9223372036854775808
      · left; simp [h]
      · right; exact ⟨by simpa using h, by simp; omega⟩
    clear h0 h2
    rcases hk with k1 | ⟨k1, k2⟩
    all_goals
      go_enter Tryd.func35, Tryd.ntmps35
      go_wp2
      go_returns
      exact ⟨rfl, by (repeat' (first | (with_reducible exact Below.refl _ _) | (with_reducible refine Below.setCell ?_ ?_ _) | (with_reducible refine Below.alloc ?_ ?_ _) | (with_reducible refine Below.drew ?_) | (with_reducible refine belowN ?_ _) | (with_reducible refine below_step ?_ ?_ (by with_reducible assumption)) | go_size))⟩
  obtain ⟨g1, g2, HX, HY⟩ := red_parts hn hd h0 h2
  have HG : Hid (∀ w, Calls Tryd.prog 46 #[.int .i64 n, .int .i64 d] w fun e w' => e = .returned (.int .i64 (gcdI n d)) ∧ ∃ k, w' = w.drewN k) := Lib.hid (fun w => gcd_any n d w hn hd)
  have k1 : (n == -9223372036854775808) = false := by unfold least at h2; simp; omega
  have k2 : (d == -9223372036854775808) = false := by unfold least at h2; simp; omega
  have hr : (boundB (redN n d) (redD n d) = false ∧ makeE n d = 2 ∧ makeN n d = 0 ∧ makeD n d = 0) ∨ (boundB (redN n d) (redD n d) = true ∧ makeE n d = 0 ∧ makeN n d = redN n d ∧ makeD n d = redD n d) := by
    cases h3 : boundB (redN n d) (redD n d)
    · left; exact ⟨rfl, make_3 h0 h2 h3⟩
    · right; exact ⟨rfl, make_0 h0 h2 h3⟩
  have n0 : -9223372036854775807 ≤ n ∧ n ≤ 9223372036854775807 := by unfold I64 least at *; omega
  have d0 : -9223372036854775807 ≤ d ∧ d ≤ 9223372036854775807 := by unfold I64 least at *; omega
  obtain ⟨n0, n1⟩ := n0
  obtain ⟨d0, d1⟩ := d0
  clear hn hd h2
  generalize redN n d = X at *
  generalize redD n d = Y at *
  generalize gcdI n d = g at *
  have hg : ¬ g = 0 := by omega
  have hg' : (g == 0) = false := by simpa using hg
  by_cases hs : d < 0
  · have f1 : flip n d = -n := by unfold flip; rw [if_pos hs]
    have f2 : absI d = -d := by unfold absI; rw [if_pos hs]
    rw [f1, Int.neg_tdiv] at HX
    rw [f2, Int.neg_tdiv] at HY
    clear f1 f2 h0
    rcases hr with ⟨hb, e1, e2, e3⟩ | ⟨hb, e1, e2, e3⟩
    all_goals
      rw [e1, e2, e3]
      clear e1 e2 e3
      have HB : Hid (∀ w, Calls Tryd.prog 47 #[R2 X Y] w fun e w' => e = .returned (.bool _) ∧ Below w.heap.size w w') := Lib.hid (fun w => by have := bounded_any X Y w; rw [hb] at this; exact this)
      clear hb
      go_enter Tryd.func35, Tryd.ntmps35
      go_wp2_with (go_at_call 46; refine (HG.out _).mono ?_; rintro e w' ⟨rfl, k, rfl⟩)
      go_region
      all_goals
        go_wp2_with (go_at_call 47; ((with_reducible refine (HB.out _).mono ?_); rintro e w1 ⟨rfl, hb1⟩); have hz1 := hb1.size; (try simp only [World.size_alloc, World.size_setCell, World.size_drew, size_drewN'] at hz1); have : w.heap.size < w1.heap.size := (by omega); have := hb1.cell (p := ⟨w.heap.size, 0, none⟩) (by go_size); simp [go_sem, *] at this; have := hb1.frozen (p := ⟨w.heap.size, 0, none⟩) (by go_size); simp [go_sem, *] at this; have := hb1.cell (p := ⟨w.heap.size, 1, none⟩) (by go_size); simp [go_sem, *] at this; have := hb1.frozen (p := ⟨w.heap.size, 1, none⟩) (by go_size); simp [go_sem, *] at this; have : w.heap.size + 1 < w1.heap.size := (by omega); have := hb1.cell (p := ⟨w.heap.size + 1, 0, none⟩) (by go_size); simp [go_sem, *] at this; have := hb1.frozen (p := ⟨w.heap.size + 1, 0, none⟩) (by go_size); simp [go_sem, *] at this; have := hb1.cell (p := ⟨w.heap.size + 1, 1, none⟩) (by go_size); simp [go_sem, *] at this; have := hb1.frozen (p := ⟨w.heap.size + 1, 1, none⟩) (by go_size); simp [go_sem, *] at this)
        first | (refine bodyPost_ret (v := .tuple #[R2 0 0, .int .i64 2]) (by simp [results, Tryd.results35, go_sem, *]) rfl ?_; exact ⟨rfl, by (repeat' (first | (with_reducible exact Below.refl _ _) | (with_reducible refine Below.setCell ?_ ?_ _) | (with_reducible refine Below.alloc ?_ ?_ _) | (with_reducible refine Below.drew ?_) | (with_reducible refine belowN ?_ _) | (with_reducible refine below_step ?_ ?_ (by with_reducible assumption)) | go_size))⟩) | (refine bodyPost_ret (v := .tuple #[R2 X Y, .int .i64 0]) (by simp [results, Tryd.results35, go_sem, *]) rfl ?_; exact ⟨rfl, by (repeat' (first | (with_reducible exact Below.refl _ _) | (with_reducible refine Below.setCell ?_ ?_ _) | (with_reducible refine Below.alloc ?_ ?_ _) | (with_reducible refine Below.drew ?_) | (with_reducible refine belowN ?_ _) | (with_reducible refine below_step ?_ ?_ (by with_reducible assumption)) | go_size))⟩)
  · have f1 : flip n d = n := by unfold flip; rw [if_neg hs]
    have f2 : absI d = d := by unfold absI; rw [if_neg hs]
    rw [f1] at HX
    rw [f2] at HY
    clear f1 f2 h0
    rcases hr with ⟨hb, e1, e2, e3⟩ | ⟨hb, e1, e2, e3⟩
    all_goals
      rw [e1, e2, e3]
      clear e1 e2 e3
      have HB : Hid (∀ w, Calls Tryd.prog 47 #[R2 X Y] w fun e w' => e = .returned (.bool _) ∧ Below w.heap.size w w') := Lib.hid (fun w => by have := bounded_any X Y w; rw [hb] at this; exact this)
      clear hb
      go_enter Tryd.func35, Tryd.ntmps35
      go_wp2_with (go_at_call 46; refine (HG.out _).mono ?_; rintro e w' ⟨rfl, k, rfl⟩)
      go_region
      all_goals
        go_wp2_with (go_at_call 47; ((with_reducible refine (HB.out _).mono ?_); rintro e w1 ⟨rfl, hb1⟩); have hz1 := hb1.size; (try simp only [World.size_alloc, World.size_setCell, World.size_drew, size_drewN'] at hz1); have : w.heap.size < w1.heap.size := (by omega); have := hb1.cell (p := ⟨w.heap.size, 0, none⟩) (by go_size); simp [go_sem, *] at this; have := hb1.frozen (p := ⟨w.heap.size, 0, none⟩) (by go_size); simp [go_sem, *] at this; have := hb1.cell (p := ⟨w.heap.size, 1, none⟩) (by go_size); simp [go_sem, *] at this; have := hb1.frozen (p := ⟨w.heap.size, 1, none⟩) (by go_size); simp [go_sem, *] at this; have : w.heap.size + 1 < w1.heap.size := (by omega); have := hb1.cell (p := ⟨w.heap.size + 1, 0, none⟩) (by go_size); simp [go_sem, *] at this; have := hb1.frozen (p := ⟨w.heap.size + 1, 0, none⟩) (by go_size); simp [go_sem, *] at this; have := hb1.cell (p := ⟨w.heap.size + 1, 1, none⟩) (by go_size); simp [go_sem, *] at this; have := hb1.frozen (p := ⟨w.heap.size + 1, 1, none⟩) (by go_size); simp [go_sem, *] at this)
        first | (refine bodyPost_ret (v := .tuple #[R2 0 0, .int .i64 2]) (by simp [results, Tryd.results35, go_sem, *]) rfl ?_; exact ⟨rfl, by (repeat' (first | (with_reducible exact Below.refl _ _) | (with_reducible refine Below.setCell ?_ ?_ _) | (with_reducible refine Below.alloc ?_ ?_ _) | (with_reducible refine Below.drew ?_) | (with_reducible refine belowN ?_ _) | (with_reducible refine below_step ?_ ?_ (by with_reducible assumption)) | go_size))⟩) | (refine bodyPost_ret (v := .tuple #[R2 X Y, .int .i64 0]) (by simp [results, Tryd.results35, go_sem, *]) rfl ?_; exact ⟨rfl, by (repeat' (first | (with_reducible exact Below.refl _ _) | (with_reducible refine Below.setCell ?_ ?_ _) | (with_reducible refine Below.alloc ?_ ?_ _) | (with_reducible refine Below.drew ?_) | (with_reducible refine belowN ?_ _) | (with_reducible refine below_step ?_ ?_ (by with_reducible assumption)) | go_size))⟩)
theorem flip_I64 {n d : Int} (hn : I64 n) (h2 : ¬ (n = least ∨ d = least)) : I64 (flip n d) := by
  unfold I64 flip least at *; split <;> omega
theorem absI_I64 {n d : Int} (hd : I64 d) (h2 : ¬ (n = least ∨ d = least)) : I64 (absI d) := by
  unfold I64 absI least at *; split <;> omega
theorem gcdI_flip {n d : Int} (hn : I64 n) (hd' : I64 d) (h2 : ¬ (n = least ∨ d = least)) : gcdI (flip n d) (absI d) = gcdI n d := by
  by_cases hd : d < 0
  · by_cases hb : flip n d = least ∨ absI d = least
    · exfalso; unfold flip absI at hb; rw [if_pos hd, if_pos hd] at hb
      unfold I64 least at *; omega
    · rw [gcdI_nat (fun h => hb (Or.inl h)) (fun h => hb (Or.inr h)), gcdI_nat (fun h => h2 (Or.inl h)) (fun h => h2 (Or.inr h)), natAbs_flip, natAbs_absI]
  · have e1 : flip n d = n := by unfold flip; rw [if_neg hd]
    have e2 : absI d = d := by unfold absI; rw [if_neg hd]
    rw [e1, e2]
theorem red_I64 {n d : Int} (hn : I64 n) (hd : I64 d) (h0 : ¬ d = 0) (h2 : ¬ (n = least ∨ d = least)) : I64 (redN n d) ∧ I64 (redD n d) := by
  have g1 := gcdI_1 (fun h => h2 (Or.inl h)) (fun h => h2 (Or.inr h)) h0
  have a1 := tdiv_small (flip n d) (gcdI n d) g1 (by rw [natAbs_flip]; unfold I64 at hn; unfold least at h2; omega)
  have a2 := tdiv_small (absI d) (gcdI n d) g1 (by rw [natAbs_absI]; unfold I64 at hd; unfold least at h2; omega)
  unfold I64 redN redD; omega

set_option maxHeartbeats 1000000 in
theorem rmake_any (n d : Int) (w : World) (hn : I64 n) (hd : I64 d) :
    Calls Tryd.prog 37 #[.int .i64 n, .int .i64 d] w fun e w' => e = .returned (.tuple #[R2 (makeN n d) (makeD n d), .int .i64 (makeE n d)]) ∧ Below w.heap.size w w' := by
  by_cases h0 : d = 0
  · obtain ⟨e1, e2, e3⟩ := make_1 (n := n) h0
    rw [e1, e2, e3]
    clear e1 e2 e3
    have k : (d == 0) = true := by simp [h0]
    clear h0
    go_enter Tryd.func37, Tryd.ntmps37
    go_wp2
    go_returns
    exact ⟨rfl, by (repeat' (first | (with_reducible exact Below.refl _ _) | (with_reducible refine Below.setCell ?_ ?_ _) | (with_reducible refine Below.alloc ?_ ?_ _) | (with_reducible refine Below.drew ?_) | (with_reducible refine belowN ?_ _) | (with_reducible refine below_step ?_ ?_ (by with_reducible assumption)) | go_size))⟩
  have k0 : (d == 0) = false := by simpa using h0
  by_cases h2 : n = least ∨ d = least
  · obtain ⟨e1, e2, e3⟩ := make_2 h0 h2
    rw [e1, e2, e3]
    clear e1 e2 e3
    have hk : (n == -9223372036854775808) = true ∨ ((n == -9223372036854775808) = false ∧ (d == -9223372036854775808) = true) := by
      unfold least at h2
      by_cases h : n = -9223372036854775808
      · left; simp [h]
      · right; exact ⟨by simpa using h, by simp; omega⟩
    clear h0 h2
    rcases hk with k1 | ⟨k1, k2⟩
    all_goals
      go_enter Tryd.func37, Tryd.ntmps37
      go_wp2
      go_returns
      exact ⟨rfl, by (repeat' (first | (with_reducible exact Below.refl _ _) | (with_reducible refine Below.setCell ?_ ?_ _) | (with_reducible refine Below.alloc ?_ ?_ _) | (with_reducible refine Below.drew ?_) | (with_reducible refine belowN ?_ _) | (with_reducible refine below_step ?_ ?_ (by with_reducible assumption)) | go_size))⟩
  obtain ⟨g1, g2, HX, HY⟩ := red_parts hn hd h0 h2
  have HG : Hid (∀ w, Calls Tryd.prog 48 #[.int .i64 (flip n d), .int .i64 (absI d)] w fun e w' => e = .returned (.int .i64 (gcdI n d)) ∧ ∃ k, w' = w.drewN k) := Lib.hid (fun w => by
    have h := rgcd_any (flip n d) (absI d) w (flip_I64 hn h2) (absI_I64 hd h2)
    rw [gcdI_flip hn hd h2] at h
    exact h)
  have HV : Hid (∀ w, Calls Tryd.prog 49 #[R2 (redN n d) (redD n d)] w fun e w' => e = .returned (.bool (boundB (redN n d) (redD n d))) ∧ Below w.heap.size w w') := Lib.hid (fun w => by
    have h := rvalid_any (redN n d) (redD n d) w (red_I64 hn hd h0 h2).1 (red_I64 hn hd h0 h2).2
    rw [valid_red (fun h => h2 (Or.inl h)) (fun h => h2 (Or.inr h)) h0 (by unfold I64 at hn; unfold least at h2; omega) (by unfold I64 at hd; unfold least at h2; omega)] at h
    exact h)
  have k1 : (n == -9223372036854775808) = false := by unfold least at h2; simp; omega
  have k2 : (d == -9223372036854775808) = false := by unfold least at h2; simp; omega
  have hr : (boundB (redN n d) (redD n d) = false ∧ makeE n d = 2 ∧ makeN n d = 0 ∧ makeD n d = 0) ∨ (boundB (redN n d) (redD n d) = true ∧ makeE n d = 0 ∧ makeN n d = redN n d ∧ makeD n d = redD n d) := by
    cases h3 : boundB (redN n d) (redD n d)
    · left; exact ⟨rfl, make_3 h0 h2 h3⟩
    · right; exact ⟨rfl, make_0 h0 h2 h3⟩
  have n0 : -9223372036854775807 ≤ n ∧ n ≤ 9223372036854775807 := by unfold I64 least at *; omega
  have d0 : -9223372036854775807 ≤ d ∧ d ≤ 9223372036854775807 := by unfold I64 least at *; omega
  obtain ⟨n0, n1⟩ := n0
  obtain ⟨d0, d1⟩ := d0
  clear hn hd h2
  generalize redN n d = X at *
  generalize redD n d = Y at *
  generalize gcdI n d = g at *
  have hg : ¬ g = 0 := by omega
  have hg' : (g == 0) = false := by simpa using hg
  by_cases hs : d < 0
  · have f1 : flip n d = -n := by unfold flip; rw [if_pos hs]
    have f2 : absI d = -d := by unfold absI; rw [if_pos hs]
    rw [f1] at HG
    rw [f2] at HG
    rw [f1, Int.neg_tdiv] at HX
    rw [f2, Int.neg_tdiv] at HY
    clear f1 f2 h0
    rcases hr with ⟨hb, e1, e2, e3⟩ | ⟨hb, e1, e2, e3⟩
    all_goals
      rw [e1, e2, e3]
      clear e1 e2 e3
      have HB : Hid (∀ w, Calls Tryd.prog 49 #[R2 X Y] w fun e w' => e = .returned (.bool _) ∧ Below w.heap.size w w') := Lib.hid (fun w => by have := HV.out w; rw [hb] at this; exact this)
      clear hb HV
      go_enter Tryd.func37, Tryd.ntmps37
      go_wp2_with (go_at_call 48; refine (HG.out _).mono ?_; rintro e w' ⟨rfl, k, rfl⟩)
      go_region
      all_goals
        go_wp2_with (go_at_call 49; ((with_reducible refine (HB.out _).mono ?_); rintro e w1 ⟨rfl, hb1⟩); have hz1 := hb1.size; (try simp only [World.size_alloc, World.size_setCell, World.size_drew, size_drewN'] at hz1); have : w.heap.size < w1.heap.size := (by omega); have := hb1.cell (p := ⟨w.heap.size, 0, none⟩) (by go_size); simp [go_sem, *] at this; have := hb1.frozen (p := ⟨w.heap.size, 0, none⟩) (by go_size); simp [go_sem, *] at this; have := hb1.cell (p := ⟨w.heap.size, 1, none⟩) (by go_size); simp [go_sem, *] at this; have := hb1.frozen (p := ⟨w.heap.size, 1, none⟩) (by go_size); simp [go_sem, *] at this; have : w.heap.size + 1 < w1.heap.size := (by omega); have := hb1.cell (p := ⟨w.heap.size + 1, 0, none⟩) (by go_size); simp [go_sem, *] at this; have := hb1.frozen (p := ⟨w.heap.size + 1, 0, none⟩) (by go_size); simp [go_sem, *] at this; have := hb1.cell (p := ⟨w.heap.size + 1, 1, none⟩) (by go_size); simp [go_sem, *] at this; have := hb1.frozen (p := ⟨w.heap.size + 1, 1, none⟩) (by go_size); simp [go_sem, *] at this)
        first | (refine bodyPost_ret (v := .tuple #[R2 0 0, .int .i64 2]) (by simp [results, Tryd.results37, go_sem, *]) rfl ?_; exact ⟨rfl, by (repeat' (first | (with_reducible exact Below.refl _ _) | (with_reducible refine Below.setCell ?_ ?_ _) | (with_reducible refine Below.alloc ?_ ?_ _) | (with_reducible refine Below.drew ?_) | (with_reducible refine belowN ?_ _) | (with_reducible refine below_step ?_ ?_ (by with_reducible assumption)) | go_size))⟩) | (refine bodyPost_ret (v := .tuple #[R2 X Y, .int .i64 0]) (by simp [results, Tryd.results37, go_sem, *]) rfl ?_; exact ⟨rfl, by (repeat' (first | (with_reducible exact Below.refl _ _) | (with_reducible refine Below.setCell ?_ ?_ _) | (with_reducible refine Below.alloc ?_ ?_ _) | (with_reducible refine Below.drew ?_) | (with_reducible refine belowN ?_ _) | (with_reducible refine below_step ?_ ?_ (by with_reducible assumption)) | go_size))⟩)
  · have f1 : flip n d = n := by unfold flip; rw [if_neg hs]
    have f2 : absI d = d := by unfold absI; rw [if_neg hs]
    rw [f1] at HG
    rw [f2] at HG
    rw [f1] at HX
    rw [f2] at HY
    clear f1 f2 h0
    rcases hr with ⟨hb, e1, e2, e3⟩ | ⟨hb, e1, e2, e3⟩
    all_goals
      rw [e1, e2, e3]
      clear e1 e2 e3
      have HB : Hid (∀ w, Calls Tryd.prog 49 #[R2 X Y] w fun e w' => e = .returned (.bool _) ∧ Below w.heap.size w w') := Lib.hid (fun w => by have := HV.out w; rw [hb] at this; exact this)
      clear hb HV
      go_enter Tryd.func37, Tryd.ntmps37
      go_wp2_with (go_at_call 48; refine (HG.out _).mono ?_; rintro e w' ⟨rfl, k, rfl⟩)
      go_region
      all_goals
        go_wp2_with (go_at_call 49; ((with_reducible refine (HB.out _).mono ?_); rintro e w1 ⟨rfl, hb1⟩); have hz1 := hb1.size; (try simp only [World.size_alloc, World.size_setCell, World.size_drew, size_drewN'] at hz1); have : w.heap.size < w1.heap.size := (by omega); have := hb1.cell (p := ⟨w.heap.size, 0, none⟩) (by go_size); simp [go_sem, *] at this; have := hb1.frozen (p := ⟨w.heap.size, 0, none⟩) (by go_size); simp [go_sem, *] at this; have := hb1.cell (p := ⟨w.heap.size, 1, none⟩) (by go_size); simp [go_sem, *] at this; have := hb1.frozen (p := ⟨w.heap.size, 1, none⟩) (by go_size); simp [go_sem, *] at this; have : w.heap.size + 1 < w1.heap.size := (by omega); have := hb1.cell (p := ⟨w.heap.size + 1, 0, none⟩) (by go_size); simp [go_sem, *] at this; have := hb1.frozen (p := ⟨w.heap.size + 1, 0, none⟩) (by go_size); simp [go_sem, *] at this; have := hb1.cell (p := ⟨w.heap.size + 1, 1, none⟩) (by go_size); simp [go_sem, *] at this; have := hb1.frozen (p := ⟨w.heap.size + 1, 1, none⟩) (by go_size); simp [go_sem, *] at this)
        first | (refine bodyPost_ret (v := .tuple #[R2 0 0, .int .i64 2]) (by simp [results, Tryd.results37, go_sem, *]) rfl ?_; exact ⟨rfl, by (repeat' (first | (with_reducible exact Below.refl _ _) | (with_reducible refine Below.setCell ?_ ?_ _) | (with_reducible refine Below.alloc ?_ ?_ _) | (with_reducible refine Below.drew ?_) | (with_reducible refine belowN ?_ _) | (with_reducible refine below_step ?_ ?_ (by with_reducible assumption)) | go_size))⟩) | (refine bodyPost_ret (v := .tuple #[R2 X Y, .int .i64 0]) (by simp [results, Tryd.results37, go_sem, *]) rfl ?_; exact ⟨rfl, by (repeat' (first | (with_reducible exact Below.refl _ _) | (with_reducible refine Below.setCell ?_ ?_ _) | (with_reducible refine Below.alloc ?_ ?_ _) | (with_reducible refine Below.drew ?_) | (with_reducible refine belowN ?_ _) | (with_reducible refine below_step ?_ ?_ (by with_reducible assumption)) | go_size))⟩)
end Go.Proofs.YtnpnippgfkehaaaDoor
