/- Contracts of package overs and its reference: overs and balls, rates, comparison, needed runs. -/
import Derived.Test.YtnpnippgfkehaaaDoorOvE
import Derived.Test.YtnpnippgfkehaaaDoorNumA
set_option linter.unusedSimpArgs false
set_option linter.unusedVariables false
namespace Go.Proofs.YtnpnippgfkehaaaDoor
open Go.RowKit

def perB (p : Int) : Bool := decide (1 ≤ p) && decide (p ≤ 8)
def cntB (n : Int) : Bool := decide (0 ≤ n) && decide (n ≤ 1000000)
def rateB (r b : Int) : Bool := cntB r && (cntB b && decide (1 ≤ b))
theorem perB_1 {p : Int} (h : perB p = true) : 1 ≤ p ∧ p ≤ 8 := by simp [perB] at h; omega
theorem cntB_1 {n : Int} (h : cntB n = true) : 0 ≤ n ∧ n ≤ 1000000 := by simp [cntB] at h; omega
theorem rateB_1 {r b : Int} (h : rateB r b = true) : 0 ≤ r ∧ r ≤ 1000000 ∧ 1 ≤ b ∧ b ≤ 1000000 := by simp [rateB, cntB] at h; omega
theorem mul_bd {a b A B : Int} (h0 : 0 ≤ a) (h1 : a ≤ A) (g0 : 0 ≤ b) (g1 : b ≤ B) : 0 ≤ a * b ∧ a * b ≤ A * B :=
  ⟨Int.mul_nonneg h0 g0, Int.mul_le_mul h1 g1 g0 (by omega)⟩

theorem isPer_any (p : Int) (w : World) : Calls Tryd.prog 27 #[.int .i64 p] w fun e w' => e = .returned (.bool (perB p)) ∧ w = w' := by
  by_cases h1 : 1 ≤ p
  · by_cases h2 : p ≤ 8
    · have e : perB p = true := by simp [perB, h1, h2]
      rw [e]
      clear e
      go_enter Tryd.func27, Tryd.ntmps27
      go_wp2
      go_ret
      exact ⟨rfl, rfl⟩
    · have e : perB p = false := by simp [perB, h2]
      rw [e]
      clear e
      go_enter Tryd.func27, Tryd.ntmps27
      go_wp2
      go_ret
      exact ⟨rfl, rfl⟩
  · have e : perB p = false := by simp [perB, h1]
    rw [e]
    clear e
    go_enter Tryd.func27, Tryd.ntmps27
    go_wp2
    go_ret
    exact ⟨rfl, rfl⟩

theorem isCount_any (p : Int) (w : World) : Calls Tryd.prog 26 #[.int .i64 p] w fun e w' => e = .returned (.bool (cntB p)) ∧ w = w' := by
  by_cases h1 : 0 ≤ p
  · by_cases h2 : p ≤ 1000000
    · have e : cntB p = true := by simp [cntB, h1, h2]
      rw [e]
      clear e
      go_enter Tryd.func26, Tryd.ntmps26
      go_wp2
      go_ret
      exact ⟨rfl, rfl⟩
    · have e : cntB p = false := by simp [cntB, h2]
      rw [e]
      clear e
      go_enter Tryd.func26, Tryd.ntmps26
      go_wp2
      go_ret
      exact ⟨rfl, rfl⟩
  · have e : cntB p = false := by simp [cntB, h1]
    rw [e]
    clear e
    go_enter Tryd.func26, Tryd.ntmps26
    go_wp2
    go_ret
    exact ⟨rfl, rfl⟩

theorem rper_any (p : Int) (w : World) : Calls Tryd.prog 28 #[.int .i64 p] w fun e w' => e = .returned (.bool (perB p)) ∧ w = w' := by
  by_cases h1 : 1 ≤ p
  · by_cases h2 : p ≤ 8
    · have e : perB p = true := by simp [perB, h1, h2]
      rw [e]
      clear e
      go_enter Tryd.func28, Tryd.ntmps28
      go_wp2
      go_ret
      exact ⟨rfl, rfl⟩
    · have e : perB p = false := by simp [perB, h2]
      rw [e]
      clear e
      go_enter Tryd.func28, Tryd.ntmps28
      go_wp2
      go_ret
      exact ⟨rfl, rfl⟩
  · have e : perB p = false := by simp [perB, h1]
    rw [e]
    clear e
    go_enter Tryd.func28, Tryd.ntmps28
    go_wp2
    go_ret
    exact ⟨rfl, rfl⟩

theorem isRate_any (r b : Int) (w : World) : Calls Tryd.prog 34 #[.int .i64 r, .int .i64 b] w fun e w' => e = .returned (.bool (rateB r b)) ∧ w = w' := by
  have HR : Hid (∀ w, Calls Tryd.prog 26 #[.int .i64 r] w fun e w' => e = .returned (.bool (cntB r)) ∧ w = w') := Lib.hid (isCount_any r)
  have HB : Hid (∀ w, Calls Tryd.prog 26 #[.int .i64 b] w fun e w' => e = .returned (.bool (cntB b)) ∧ w = w') := Lib.hid (isCount_any b)
  have hc : (cntB r = false ∧ rateB r b = false) ∨ (cntB r = true ∧ cntB b = false ∧ rateB r b = false) ∨ (cntB r = true ∧ cntB b = true ∧ rateB r b = decide (1 ≤ b)) := by
    unfold rateB; cases cntB r <;> cases cntB b <;> simp
  rcases hc with ⟨h1, e⟩ | ⟨h1, h2, e⟩ | ⟨h1, h2, e⟩
  · rw [e]
    rw [h1] at HR
    clear h1 e
    go_enter Tryd.func34, Tryd.ntmps34
    go_wp2_with (go_at_call 26; ((with_reducible refine (HR.out _).mono ?_); rintro e w' ⟨rfl, rfl⟩))
    go_ret
    exact ⟨rfl, rfl⟩
  · rw [e]
    rw [h1] at HR
    rw [h2] at HB
    clear h1 h2 e
    go_enter Tryd.func34, Tryd.ntmps34
    go_wp2_with (first | (go_at_call 26; ((with_reducible refine (HR.out _).mono ?_); rintro e w' ⟨rfl, rfl⟩)) | (go_at_call 26; ((with_reducible refine (HB.out _).mono ?_); rintro e w' ⟨rfl, rfl⟩)))
    go_ret
    exact ⟨rfl, rfl⟩
  · rw [e]
    rw [h1] at HR
    rw [h2] at HB
    clear h1 h2 e
    go_enter Tryd.func34, Tryd.ntmps34
    go_wp2_with (first | (go_at_call 26; ((with_reducible refine (HR.out _).mono ?_); rintro e w' ⟨rfl, rfl⟩)) | (go_at_call 26; ((with_reducible refine (HB.out _).mono ?_); rintro e w' ⟨rfl, rfl⟩)))
    go_ret
    exact ⟨rfl, rfl⟩

theorem rated_any (r b : Int) (w : World) : Calls Tryd.prog 36 #[.int .i64 r, .int .i64 b] w fun e w' => e = .returned (.bool (rateB r b)) ∧ w = w' := by
  have hc : ((¬ 0 ≤ r) ∧ rateB r b = false) ∨ (0 ≤ r ∧ ¬ r ≤ 1000000 ∧ rateB r b = false) ∨ (0 ≤ r ∧ r ≤ 1000000 ∧ ¬ 1 ≤ b ∧ rateB r b = false) ∨ (0 ≤ r ∧ r ≤ 1000000 ∧ 1 ≤ b ∧ ¬ b ≤ 1000000 ∧ rateB r b = false) ∨ (0 ≤ r ∧ r ≤ 1000000 ∧ 1 ≤ b ∧ b ≤ 1000000 ∧ rateB r b = true) := by
    have hh : rateB r b = true ↔ 0 ≤ r ∧ r ≤ 1000000 ∧ 1 ≤ b ∧ b ≤ 1000000 := by simp [rateB, cntB]; omega
    cases h : rateB r b
    · have : ¬ (0 ≤ r ∧ r ≤ 1000000 ∧ 1 ≤ b ∧ b ≤ 1000000) := fun x => by rw [hh.2 x] at h; cases h
      simp; omega
    · have := hh.1 h
      simp; omega
  rcases hc with ⟨h1, e⟩ | ⟨h1, h2, e⟩ | ⟨h1, h2, h3, e⟩ | ⟨h1, h2, h3, h4, e⟩ | ⟨h1, h2, h3, h4, e⟩
  all_goals
    rw [e]
    clear e
    go_enter Tryd.func36, Tryd.ntmps36
    go_wp2
    go_ret
    exact ⟨rfl, rfl⟩

def ofQ (b p : Int) : Int := if cntB b && perB p then b / p else 0
def ofR (b p : Int) : Int := if cntB b && perB p then b % p else 0

theorem of_any (b p : Int) (w : World) : Calls Tryd.prog 11 #[.int .i64 b, .int .i64 p] w fun e w' => e = .returned (.tuple #[.int .i64 (ofQ b p), .int .i64 (ofR b p)]) ∧ ∃ k, w' = w.drewN k := by
  have HC : Hid (∀ w, Calls Tryd.prog 26 #[.int .i64 b] w fun e w' => e = .returned (.bool (cntB b)) ∧ w = w') := Lib.hid (isCount_any b)
  have HP : Hid (∀ w, Calls Tryd.prog 27 #[.int .i64 p] w fun e w' => e = .returned (.bool (perB p)) ∧ w = w') := Lib.hid (isPer_any p)
  have hc : (cntB b = false ∧ (cntB b && perB p) = false) ∨ (cntB b = true ∧ perB p = false ∧ (cntB b && perB p) = false) ∨ (cntB b = true ∧ perB p = true ∧ (cntB b && perB p) = true) := by
    cases cntB b <;> cases perB p <;> simp
  rcases hc with ⟨h1, e⟩ | ⟨h1, h2, e⟩ | ⟨h1, h2, e⟩
  · have e1 : ofQ b p = 0 := by unfold ofQ; rw [e]; rfl
    have e2 : ofR b p = 0 := by unfold ofR; rw [e]; rfl
    rw [e1, e2]
    rw [h1] at HC
    clear h1 e e1 e2
    go_enter Tryd.func11, Tryd.ntmps11
    go_wp2_with (go_at_call 26; ((with_reducible refine (HC.out _).mono ?_); rintro e w' ⟨rfl, rfl⟩))
    go_returns
    exact ⟨rfl, 0, rfl⟩
  · have e1 : ofQ b p = 0 := by unfold ofQ; rw [e]; rfl
    have e2 : ofR b p = 0 := by unfold ofR; rw [e]; rfl
    rw [e1, e2]
    rw [h1] at HC
    rw [h2] at HP
    clear h1 h2 e e1 e2
    go_enter Tryd.func11, Tryd.ntmps11
    go_wp2_with (first | (go_at_call 26; ((with_reducible refine (HC.out _).mono ?_); rintro e w' ⟨rfl, rfl⟩)) | (go_at_call 27; ((with_reducible refine (HP.out _).mono ?_); rintro e w' ⟨rfl, rfl⟩)))
    go_returns
    exact ⟨rfl, 0, rfl⟩
  · have e1 : ofQ b p = b / p := by unfold ofQ; rw [e]; rfl
    have e2 : ofR b p = b % p := by unfold ofR; rw [e]; rfl
    rw [e1, e2]
    obtain ⟨p1, p2⟩ := perB_1 h2
    obtain ⟨b1, b2⟩ := cntB_1 h1
    rw [h1] at HC
    rw [h2] at HP
    clear h1 h2 e e1 e2
    have hb : (p == 0) = false := by simp; omega
    have hnz : ¬ p = 0 := by omega
    have t1 : b.tmod p = b % p := Int.tmod_eq_emod_of_nonneg b1
    go_enter Tryd.func11, Tryd.ntmps11
    go_wp2_with (first | (go_at_call 26; ((with_reducible refine (HC.out _).mono ?_); rintro e w' ⟨rfl, rfl⟩)) | (go_at_call 27; ((with_reducible refine (HP.out _).mono ?_); rintro e w' ⟨rfl, rfl⟩)))
    go_quiet (fail)
    go_wp2
    go_returns
    exact ⟨rfl, _, rfl⟩

theorem rof_any (b p : Int) (w : World) : Calls Tryd.prog 12 #[.int .i64 b, .int .i64 p] w fun e w' => e = .returned (.tuple #[.int .i64 (ofQ b p), .int .i64 (ofR b p)]) ∧ ∃ k, w' = w.drewN k := by
  have HP : Hid (∀ w, Calls Tryd.prog 28 #[.int .i64 p] w fun e w' => e = .returned (.bool (perB p)) ∧ w = w') := Lib.hid (rper_any p)
  have hc : (perB p = false ∧ (cntB b && perB p) = false) ∨ (perB p = true ∧ b < 0 ∧ (cntB b && perB p) = false) ∨ (perB p = true ∧ ¬ b < 0 ∧ b > 1000000 ∧ (cntB b && perB p) = false) ∨ (perB p = true ∧ ¬ b < 0 ∧ ¬ b > 1000000 ∧ (cntB b && perB p) = true) := by
    cases perB p
    · simp
    · by_cases h1 : b < 0
      · right; left; exact ⟨rfl, h1, by simp [cntB]; omega⟩
      · by_cases h2 : b > 1000000
        · right; right; left; exact ⟨rfl, h1, h2, by simp [cntB]; omega⟩
        · right; right; right; exact ⟨rfl, h1, h2, by simp [cntB]; omega⟩
  rcases hc with ⟨h1, e⟩ | ⟨h1, h2, e⟩ | ⟨h1, h2, h3, e⟩ | ⟨h1, h2, h3, e⟩
  rotate_right
  · have e1 : ofQ b p = b / p := by unfold ofQ; rw [e]; rfl
    have e2 : ofR b p = b % p := by unfold ofR; rw [e]; rfl
    rw [e1, e2]
    obtain ⟨p1, p2⟩ := perB_1 h1
    have b1 : 0 ≤ b := by omega
    have b2 : b ≤ 1000000 := by omega
    rw [h1] at HP
    clear h1 e e1 e2
    have hb : (p == 0) = false := by simp; omega
    have hnz : ¬ p = 0 := by omega
    have t1 : b.tmod p = b % p := Int.tmod_eq_emod_of_nonneg b1
    go_enter Tryd.func12, Tryd.ntmps12
    go_wp2_with (go_at_call 28; ((with_reducible refine (HP.out _).mono ?_); rintro e w' ⟨rfl, rfl⟩))
    go_quiet (fail)
    go_wp2
    go_returns
    exact ⟨rfl, _, rfl⟩
  all_goals
    have e1 : ofQ b p = 0 := by unfold ofQ; rw [e]; rfl
    have e2 : ofR b p = 0 := by unfold ofR; rw [e]; rfl
    rw [e1, e2]
    rw [h1] at HP
    clear h1 e e1 e2
    go_enter Tryd.func12, Tryd.ntmps12
    go_wp2_with (go_at_call 28; ((with_reducible refine (HP.out _).mono ?_); rintro e w' ⟨rfl, rfl⟩))
    go_returns
    exact ⟨rfl, 0, rfl⟩

def balB (o r p : Int) : Bool := perB p && (decide (0 ≤ o) && (decide (o ≤ 100000) && (decide (0 ≤ r) && decide (r < p))))
def balV (o r p : Int) : Int := if balB o r p then o * p + r else 0
def balE (o r p : Int) : Int := if balB o r p then 0 else 2

theorem balls_any (o r p : Int) (w : World) (ho : I64 o) (hr : I64 r) : Calls Tryd.prog 17 #[.int .i64 o, .int .i64 r, .int .i64 p] w fun e w' => e = .returned (.tuple #[.int .i64 (balV o r p), .int .i64 (balE o r p)]) ∧ w = w' := by
  have HP : Hid (∀ w, Calls Tryd.prog 27 #[.int .i64 p] w fun e w' => e = .returned (.bool (perB p)) ∧ w = w') := Lib.hid (isPer_any p)
  have hc : (perB p = false ∧ balB o r p = false) ∨ (perB p = true ∧ o < 0 ∧ balB o r p = false) ∨ (perB p = true ∧ ¬ o < 0 ∧ o > 100000 ∧ balB o r p = false) ∨ (perB p = true ∧ ¬ o < 0 ∧ ¬ o > 100000 ∧ r < 0 ∧ balB o r p = false) ∨ (perB p = true ∧ ¬ o < 0 ∧ ¬ o > 100000 ∧ ¬ r < 0 ∧ r ≥ p ∧ balB o r p = false) ∨ (perB p = true ∧ ¬ o < 0 ∧ ¬ o > 100000 ∧ ¬ r < 0 ∧ ¬ r ≥ p ∧ balB o r p = true) := by
    unfold balB
    cases perB p
    · simp
    · by_cases h1 : o < 0
      · right; left; exact ⟨rfl, h1, by simp; omega⟩
      · by_cases h2 : o > 100000
        · right; right; left; exact ⟨rfl, h1, h2, by simp; omega⟩
        · by_cases h3 : r < 0
          · right; right; right; left; exact ⟨rfl, h1, h2, h3, by simp; omega⟩
          · by_cases h4 : r ≥ p
            · right; right; right; right; left; exact ⟨rfl, h1, h2, h3, h4, by simp; omega⟩
            · right; right; right; right; right; exact ⟨rfl, h1, h2, h3, h4, by simp; omega⟩
  rcases hc with ⟨h1, e⟩ | ⟨h1, h2, e⟩ | ⟨h1, h2, h3, e⟩ | ⟨h1, h2, h3, h4, e⟩ | ⟨h1, h2, h3, h4, h5, e⟩ | ⟨h1, h2, h3, h4, h5, e⟩
  rotate_right
  · have e1 : balV o r p = o * p + r := by unfold balV; rw [e]; rfl
    have e2 : balE o r p = 0 := by unfold balE; rw [e]; rfl
    rw [e1, e2]
    obtain ⟨p1, p2⟩ := perB_1 h1
    obtain ⟨m1, m2⟩ := mul_bd (a := o) (b := p) (A := 100000) (B := 8) (by omega) (by omega) (by omega) p2
    rw [h1] at HP
    clear h1 e e1 e2
    go_enter Tryd.func17, Tryd.ntmps17
    go_wp2_with (go_at_call 27; ((with_reducible refine (HP.out _).mono ?_); rintro e w' ⟨rfl, rfl⟩))
    go_returns
    exact ⟨rfl, rfl⟩
  all_goals
    have e1 : balV o r p = 0 := by unfold balV; rw [e]; rfl
    have e2 : balE o r p = 2 := by unfold balE; rw [e]; rfl
    rw [e1, e2]
    rw [h1] at HP
    clear h1 e e1 e2
    go_enter Tryd.func17, Tryd.ntmps17
    go_wp2_with (go_at_call 27; ((with_reducible refine (HP.out _).mono ?_); rintro e w' ⟨rfl, rfl⟩))
    go_returns
    exact ⟨rfl, rfl⟩

theorem rballs_any (o r p : Int) (w : World) (ho : I64 o) (hr : I64 r) : Calls Tryd.prog 18 #[.int .i64 o, .int .i64 r, .int .i64 p] w fun e w' => e = .returned (.tuple #[.int .i64 (balV o r p), .int .i64 (balE o r p)]) ∧ w = w' := by
  have HP : Hid (∀ w, Calls Tryd.prog 28 #[.int .i64 p] w fun e w' => e = .returned (.bool (perB p)) ∧ w = w') := Lib.hid (rper_any p)
  have hc : (perB p = false ∧ balB o r p = false) ∨ (perB p = true ∧ o < 0 ∧ balB o r p = false) ∨ (perB p = true ∧ ¬ o < 0 ∧ o > 100000 ∧ balB o r p = false) ∨ (perB p = true ∧ ¬ o < 0 ∧ ¬ o > 100000 ∧ r < 0 ∧ balB o r p = false) ∨ (perB p = true ∧ ¬ o < 0 ∧ ¬ o > 100000 ∧ ¬ r < 0 ∧ r ≥ p ∧ balB o r p = false) ∨ (perB p = true ∧ ¬ o < 0 ∧ ¬ o > 100000 ∧ ¬ r < 0 ∧ ¬ r ≥ p ∧ balB o r p = true) := by
    unfold balB
    cases perB p
    · simp
    · by_cases h1 : o < 0
      · right; left; exact ⟨rfl, h1, by simp; omega⟩
      · by_cases h2 : o > 100000
        · right; right; left; exact ⟨rfl, h1, h2, by simp; omega⟩
        · by_cases h3 : r < 0
          · right; right; right; left; exact ⟨rfl, h1, h2, h3, by simp; omega⟩
          · by_cases h4 : r ≥ p
            · right; right; right; right; left; exact ⟨rfl, h1, h2, h3, h4, by simp; omega⟩
            · right; right; right; right; right; exact ⟨rfl, h1, h2, h3, h4, by simp; omega⟩
  rcases hc with ⟨h1, e⟩ | ⟨h1, h2, e⟩ | ⟨h1, h2, h3, e⟩ | ⟨h1, h2, h3, h4, e⟩ | ⟨h1, h2, h3, h4, h5, e⟩ | ⟨h1, h2, h3, h4, h5, e⟩
  rotate_right
  · have e1 : balV o r p = o * p + r := by unfold balV; rw [e]; rfl
    have e2 : balE o r p = 0 := by unfold balE; rw [e]; rfl
    rw [e1, e2]
    obtain ⟨p1, p2⟩ := perB_1 h1
    obtain ⟨m1, m2⟩ := mul_bd (a := o) (b := p) (A := 100000) (B := 8) (by omega) (by omega) (by omega) p2
    rw [h1] at HP
    clear h1 e e1 e2
    go_enter Tryd.func18, Tryd.ntmps18
    go_wp2_with (go_at_call 28; ((with_reducible refine (HP.out _).mono ?_); rintro e w' ⟨rfl, rfl⟩))
    go_returns
    exact ⟨rfl, rfl⟩
  all_goals
    have e1 : balV o r p = 0 := by unfold balV; rw [e]; rfl
    have e2 : balE o r p = 2 := by unfold balE; rw [e]; rfl
    rw [e1, e2]
    rw [h1] at HP
    clear h1 e e1 e2
    go_enter Tryd.func18, Tryd.ntmps18
    go_wp2_with (go_at_call 28; ((with_reducible refine (HP.out _).mono ?_); rintro e w' ⟨rfl, rfl⟩))
    go_returns
    exact ⟨rfl, rfl⟩
end Go.Proofs.YtnpnippgfkehaaaDoor
