/- Contracts of further functions of package wide: each returns what its value says, old memory unchanged. -/
import Derived.Test.YtokifmeelgbkiaaDoorWideA
set_option linter.unusedSimpArgs false
set_option linter.unusedVariables false
namespace Go.Proofs.YtokifmeelgbkiaaDoor
open Go.RowKit

theorem size64_any (n : Int) (w : World) (h0 : -9223372036854775808 ≤ n) (h1 : n ≤ 9223372036854775807) :
    Calls Tryd.prog 56 #[.int .i64 n] w fun e w' => e = .returned (.int .u64 (size n)) ∧ w = w' := by
  unfold size
  by_cases h : n < 0
  · have e : IntKind.u64.wrap (-IntKind.u64.wrap n) = -n := by simp only [IntKind.wrap_u64]; omega
    rw [if_pos h]
    go_enter Tryd.func56, Tryd.ntmps56
    go_wp2
    go_ret
    exact ⟨rfl, rfl⟩
  · have e : IntKind.u64.wrap n = n := by simp only [IntKind.wrap_u64]; omega
    rw [if_neg h]
    go_enter Tryd.func56, Tryd.ntmps56
    go_wp2
    go_ret
    exact ⟨rfl, rfl⟩

theorem of_any (n : Int) (w : World) (h0 : -9223372036854775808 ≤ n) (h1 : n ≤ 9223372036854775807) :
    Calls Tryd.prog 39 #[.int .i64 n] w fun e w' => e = .returned (W n) ∧ Below w.heap.size w w' := by
  have e1 : IntKind.u64.wrap n = wl n := by simp only [IntKind.wrap_u64, wl]
  go_enter Tryd.func39, Tryd.ntmps39
  go_wp2
  have e2 : n / 9223372036854775808 = wh n := by unfold wh; omega
  rw [e2]
  go_returns
  exact ⟨rfl, by (repeat' (first | (with_reducible exact Below.refl _ _) | (with_reducible refine Below.setCell ?_ ?_ _) | (with_reducible refine Below.alloc ?_ ?_ _) | (with_reducible refine Below.drew ?_) | (with_reducible refine belowN ?_ _) | (with_reducible refine below_step ?_ ?_ (by with_reducible assumption)) | go_size))⟩

def neg128 (a : Int) : Int := if a = -170141183460469231731687303715884105728 then a else -a
theorem negated_any (a : Int) (w : World) (ha : fits a) :
    Calls Tryd.prog 63 #[W a] w fun e w' => e = .returned (W (neg128 a)) ∧ Below w.heap.size w w' := by
  have a0 := wl_0 a
  have a1 := wl_1 a
  have c0 := bor_0 0 (wl a)
  have c1 := bor_1 0 (wl a)
  have d1 : 0 ≤ IntKind.u64.wrap (wh a) := by rw [IntKind.wrap_u64]; omega
  have d2 : IntKind.u64.wrap (wh a) < 18446744073709551616 := by rw [IntKind.wrap_u64]; omega
  have E1 : wl (-wl a) = wl (neg128 a) := by unfold neg128; split <;> unfold wl <;> omega
  have E2 : IntKind.i64.wrap (wl (-IntKind.u64.wrap (wh a) - bor 0 (wl a))) = wh (neg128 a) := by
    rw [IntKind.wrap_u64, IntKind.wrap_i64]; unfold bor neg128; unfold fits wh wl lo127 hi127 at *; split <;> split <;> omega
  clear ha
  go_enter Tryd.func63, Tryd.ntmps63
  go_wp2_with (first | simp only [sub64_0 0 _ (Int.le_refl 0) a0 a1] | simp only [sub64_b 0 _ _ (Int.le_refl 0) d1 d2 c0 c1])
  go_returns
  exact ⟨rfl, by (repeat' (first | (with_reducible exact Below.refl _ _) | (with_reducible refine Below.setCell ?_ ?_ _) | (with_reducible refine Below.alloc ?_ ?_ _) | (with_reducible refine Below.drew ?_) | (with_reducible refine belowN ?_ _) | (with_reducible refine below_step ?_ ?_ (by with_reducible assumption)) | go_size))⟩

theorem size_neg (a : Int) (ha : fits a) (h : a < 0) : IntKind.u64.wrap (wh (neg128 a)) = wh (size a) ∧ wl (neg128 a) = wl (size a) := by
  unfold neg128 size; unfold fits lo127 hi127 at ha; rw [IntKind.wrap_u64, if_pos h]; unfold wh wl; split <;> omega
theorem size_pos (a : Int) (ha : fits a) (h : ¬ a < 0) : IntKind.u64.wrap (wh a) = wh (size a) ∧ wl a = wl (size a) := by
  unfold size; unfold fits lo127 hi127 at ha; rw [IntKind.wrap_u64, if_neg h]; unfold wh wl; omega
def cmpI (a b : Int) : Int := if a < b then -1 else if b < a then 1 else 0
theorem compare_i64 (x y : Int) (w : World) : Calls Tryd.prog 65 #[.int .i64 x, .int .i64 y] w fun e w' => e = .returned (.int .i64 (cmpI x y)) ∧ w = w' := by
  unfold cmpI
  rcases Int.lt_trichotomy x y with h | h | h
  · have h2 : ¬ y < x := by omega
    go_enter Tryd.func65, Tryd.ntmps65
    go_wp2
    go_ret
    exact ⟨by simp [h], rfl⟩
  · subst h
    go_enter Tryd.func65, Tryd.ntmps65
    go_wp2
    go_ret
    exact ⟨by simp, rfl⟩
  · have h2 : ¬ x < y := by omega
    go_enter Tryd.func65, Tryd.ntmps65
    go_wp2
    go_ret
    exact ⟨by simp [h, h2], rfl⟩
theorem compare_u64 (x y : Int) (w : World) : Calls Tryd.prog 66 #[.int .u64 x, .int .u64 y] w fun e w' => e = .returned (.int .i64 (cmpI x y)) ∧ w = w' := by
  unfold cmpI
  rcases Int.lt_trichotomy x y with h | h | h
  · have h2 : ¬ y < x := by omega
    go_enter Tryd.func66, Tryd.ntmps66
    go_wp2
    go_ret
    exact ⟨by simp [h], rfl⟩
  · subst h
    go_enter Tryd.func66, Tryd.ntmps66
    go_wp2
    go_ret
    exact ⟨by simp, rfl⟩
  · have h2 : ¬ x < y := by omega
    go_enter Tryd.func66, Tryd.ntmps66
    go_wp2
    go_ret
    exact ⟨by simp [h, h2], rfl⟩


def orI (x y : Int) : Int := if x = 0 then y else x
theorem or_two (x y : Int) (b : Nat) (w : World) (h0 : w.cell? ⟨b, 0, none⟩ = some (.int .i64 x)) (h1 : w.cell? ⟨b, 1, none⟩ = some (.int .i64 y)) :
    Calls Tryd.prog 64 #[.slice (some ⟨b, 0, none⟩) 2 2] w fun e w' => e = .returned (.int .i64 (orI x y)) ∧ w = w' := by
  unfold orI
  by_cases hx : x = 0
  · by_cases hy : y = 0
    · subst hx
      subst hy
      go_enter Tryd.func64, Tryd.ntmps64
      go_wp2
      go_rounds 3
      go_ret
      exact ⟨by simp, rfl⟩
    · subst hx
      go_enter Tryd.func64, Tryd.ntmps64
      go_wp2
      go_rounds 3
      go_ret
      exact ⟨by simp, rfl⟩
  · go_enter Tryd.func64, Tryd.ntmps64
    go_wp2
    go_rounds 3
    go_ret
    exact ⟨by simp [hx], rfl⟩
theorem cmp_words (a b : Int) : orI (cmpI (wh a) (wh b)) (cmpI (wl a) (wl b)) = cmpI a b := by
  unfold orI cmpI wh wl
  repeat' split
  all_goals omega
theorem cmp_any (a b : Int) (w : World) (ha : fits a) (hb : fits b) :
    Calls Tryd.prog 58 #[W a, W b] w fun e w' => e = .returned (.int .i64 (cmpI a b)) ∧ Below w.heap.size w w' := by
  go_enter Tryd.func58, Tryd.ntmps58
  go_wp2_with fail
  go_region_held3 (fun w' => w'.cell? ⟨w.heap.size, 0, none⟩ = some (.int .i64 (wh a)) ∧ w'.cell? ⟨w.heap.size, 1, none⟩ = some (.int .u64 (wl a)) ∧ w'.cell? ⟨w.heap.size + 1, 0, none⟩ = some (.int .i64 (wh b)) ∧ w'.cell? ⟨w.heap.size + 1, 1, none⟩ = some (.int .u64 (wl b))) (simp [go_sem, World.cell?_alloc_past])
    (first
      | (go_at_call 65; refine (compare_i64 _ _ _).mono ?_; rintro e w' ⟨rfl, rfl⟩)
      | (go_at_call 66; refine (compare_u64 _ _ _).mono ?_; rintro e w' ⟨rfl, rfl⟩)
      | (go_at_call 64; refine (or_two (cmpI (wh a) (wh b)) (cmpI (wl a) (wl b)) _ _ (by simp [go_sem]) (by simp [go_sem])).mono ?_; rintro e w' ⟨rfl, rfl⟩))
  go_wp2
  go_ret
  rw [cmp_words]
  exact ⟨rfl, by (repeat' (first | (with_reducible exact Below.refl _ _) | (with_reducible refine Below.setCell ?_ ?_ _) | (with_reducible refine Below.alloc ?_ ?_ _) | (with_reducible refine Below.drew ?_) | (with_reducible refine belowN ?_ _) | (with_reducible refine below_step ?_ ?_ (by with_reducible assumption)) | go_size))⟩
end Go.Proofs.YtokifmeelgbkiaaDoor
