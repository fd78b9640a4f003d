/- Contracts of FloorDiv of package exact and its reference: each returns the number or the error that its words say; the world is as it was. -/
import Derived.Test.YtaabebmaobdofaaDoorRatA
set_option linter.unusedSimpArgs false
set_option linter.unusedVariables false
namespace Go.Proofs.YtaabebmaobdofaaDoor
open Go.RowKit

theorem fdiv_0 (n d : Int) (h : n.tmod d = 0) : n.fdiv d = n.tdiv d := by
  have hd : d ∣ n := Int.dvd_of_tmod_eq_zero h
  rw [Int.fdiv_eq_tdiv, if_pos hd]; omega
theorem fdiv_1 (n d : Int) (h : ¬ n.tmod d = 0) (hs : (n < 0 ∧ 0 < d) ∨ (¬ n < 0 ∧ d < 0)) : n.fdiv d = n.tdiv d - 1 := by
  have hd' : ¬ d ∣ n := fun hx => h (Int.tmod_eq_zero_of_dvd hx)
  rw [Int.fdiv_eq_tdiv, if_neg hd']
  rcases hs with ⟨h1, h2⟩ | ⟨h1, h2⟩
  · rw [if_neg (by omega), if_pos (by omega), Int.sign_eq_one_of_pos h2]
  · rw [if_pos (by omega), if_neg (by omega)]
theorem fdiv_2 (n d : Int) (h : ¬ n.tmod d = 0) (hs : (n < 0 ∧ d < 0) ∨ (¬ n < 0 ∧ 0 < d)) : n.fdiv d = n.tdiv d := by
  have hd' : ¬ d ∣ n := fun hx => h (Int.tmod_eq_zero_of_dvd hx)
  rw [Int.fdiv_eq_tdiv, if_neg hd']
  rcases hs with ⟨h1, h2⟩ | ⟨h1, h2⟩
  · rw [if_neg (by omega), if_neg (by omega), Int.sign_eq_neg_one_of_neg h2]; omega
  · rw [if_pos (by omega), if_pos (by omega)]; omega
theorem tdiv_range (n d : Int) (hn : I64 n) (hd : d ≠ 0) (hq : quoE n d = 0) : -9223372036854775808 ≤ n.tdiv d ∧ n.tdiv d ≤ 9223372036854775807 ∧ (¬ n.tmod d = 0 → -9223372036854775807 ≤ n.tdiv d) := by
  have h0 : ¬ (n = -9223372036854775808 ∧ d = -1) := by
    intro h; unfold quoE least at hq; rw [if_neg hd, if_pos h] at hq; omega
  have h1 := Int.natAbs_tdiv_le_natAbs n d
  have h2 := Int.mul_tdiv_add_tmod n d
  have h3 : (n.tmod d).natAbs < d.natAbs := by rw [Int.natAbs_tmod]; exact Nat.mod_lt _ (by omega)
  unfold I64 at hn
  generalize n.tmod d = r at *
  refine ⟨by omega, ?_, ?_⟩
  · by_cases h : n.tdiv d = 9223372036854775808
    · rw [h] at h2; omega
    · omega
  · intro hr
    by_cases h : n.tdiv d = -9223372036854775808
    · rw [h] at h2; omega
    · omega
theorem w64_id {x : Int} (h0 : -9223372036854775808 ≤ x) (h1 : x ≤ 9223372036854775807) : wrap64 x = x := by unfold wrap64; omega

theorem floor_any (n d : Int) (w : World) (hn : I64 n) (hd : I64 d) :
    Calls Tryd.prog 31 #[.int .i64 n, .int .i64 d] w fun e w' => e = .returned (.tuple #[.int .i64 (floorI n d), .int .i64 (quoE n d)]) ∧ w = w' := by
  by_cases hq : quoE n d = 0
  · have hf : floorI n d = Int.fdiv n d := by simp [floorI, hq]
    rw [hf]
    have hz : ¬ d = 0 := by intro h; simp [quoE, h] at hq
    obtain ⟨t0, t1, t2⟩ := tdiv_range n d hn hz hq
    have EW := w64_id t0 t1
    have HC : Hid (∀ w, Calls Tryd.prog 51 #[.int .i64 n, .int .i64 d] w fun e w' => e = .returned (.int .i64 0) ∧ w = w') := Lib.hid (fun w => by have h := quotient_any n d w; rw [hq] at h; exact h)
    rw [hq]
    clear hq hf hn hd
    by_cases hr : n.tmod d = 0
    · have HF := Lib.hid (fdiv_0 n d hr)
      clear t0 t1 t2
      go_enter Tryd.func31, Tryd.ntmps31
      go_wp2_with (go_at_call 51; refine (HC.out _).mono ?_; rintro e w' ⟨rfl, rfl⟩)
      rw [HF.out]
      go_returns
      exact ⟨by simp [EW], rfl⟩
    · have kr : (n.tmod d != 0) = true := by simpa using hr
      by_cases hs : (n < 0 ∧ 0 < d) ∨ (¬ n < 0 ∧ d < 0)
      · have HF := Lib.hid (fdiv_1 n d hr hs)
        have EW2 : wrap64 (n.tdiv d - 1) = n.tdiv d - 1 := w64_id (by have := t2 hr; omega) (by omega)
        have kb : (decide (n < 0) == decide (d < 0)) = false := by
          rcases hs with ⟨h1, h2⟩ | ⟨h1, h2⟩
          · have : ¬ d < 0 := by omega
            simp [h1, this]
          · simp [h1, h2]
        clear t0 t1 t2 hs
        go_enter Tryd.func31, Tryd.ntmps31
        go_wp2_with (go_at_call 51; refine (HC.out _).mono ?_; rintro e w' ⟨rfl, rfl⟩)
        rw [HF.out]
        go_returns
        exact ⟨by simp [EW, EW2], rfl⟩
      · have hs2 : (n < 0 ∧ d < 0) ∨ (¬ n < 0 ∧ 0 < d) := by omega
        have HF := Lib.hid (fdiv_2 n d hr hs2)
        have kb : (decide (n < 0) == decide (d < 0)) = true := by
          rcases hs2 with ⟨h1, h2⟩ | ⟨h1, h2⟩
          · simp [h1, h2]
          · have : ¬ d < 0 := by omega
            simp [h1, this]
        clear t0 t1 t2 hs hs2
        go_enter Tryd.func31, Tryd.ntmps31
        go_wp2_with (go_at_call 51; refine (HC.out _).mono ?_; rintro e w' ⟨rfl, rfl⟩)
        rw [HF.out]
        go_returns
        exact ⟨by simp [EW], rfl⟩
  · have hf : floorI n d = 0 := by simp [floorI, hq]
    rw [hf]
    have kq : (quoE n d == 0) = false := by simpa using hq
    have kq' : (quoE n d != 0) = true := by simpa using hq
    have HQ := Lib.hid hq
    clear hq hf
    go_enter Tryd.func31, Tryd.ntmps31
    go_wp2_with (go_at_call 51; refine (quotient_any _ _ _).mono ?_; rintro e w' ⟨rfl, rfl⟩)
    go_returns
    exact ⟨rfl, rfl⟩
end Go.Proofs.YtaabebmaobdofaaDoor
