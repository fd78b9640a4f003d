/- Plain arithmetic of reduced ratios and of quotients; CeilDiv of package exact. -/
import Derived.Test.YtnpnippgfkehaaaDoorRatA
set_option linter.unusedSimpArgs false
set_option linter.unusedVariables false
namespace Go.Proofs.YtnpnippgfkehaaaDoor
open Go.RowKit

def flip (n d : Int) : Int := if d < 0 then -n else n
def redN (n d : Int) : Int := (flip n d).tdiv (gcdI n d)
def redD (n d : Int) : Int := (absI d).tdiv (gcdI n d)
def makeE (n d : Int) : Int := if d = 0 then 1 else if n = least ∨ d = least then 2 else if boundB (redN n d) (redD n d) then 0 else 2
def makeN (n d : Int) : Int := if makeE n d = 0 then redN n d else 0
def makeD (n d : Int) : Int := if makeE n d = 0 then redD n d else 0

theorem natAbs_flip (n d : Int) : (flip n d).natAbs = n.natAbs := by unfold flip; split <;> omega
theorem natAbs_absI (d : Int) : (absI d).natAbs = d.natAbs := by unfold absI; split <;> omega
theorem absI_0 (d : Int) : 0 ≤ absI d := by unfold absI; split <;> omega
theorem gcdI_nat {n d : Int} (hn : n ≠ least) (hd : d ≠ least) : gcdI n d = (Nat.gcd n.natAbs d.natAbs : Int) := by simp [gcdI, hn, hd]
theorem gcdI_1 {n d : Int} (hn : n ≠ least) (hd : d ≠ least) (h0 : d ≠ 0) : 1 ≤ gcdI n d := by
  rw [gcdI_nat hn hd]
  have : 0 < Nat.gcd n.natAbs d.natAbs := Nat.gcd_pos_of_pos_right _ (by omega)
  omega
theorem tdiv_small (x g : Int) (hg : 1 ≤ g) (hx : x.natAbs ≤ 9223372036854775807) : -9223372036854775807 ≤ x.tdiv g ∧ x.tdiv g ≤ 9223372036854775807 := by
  have := Int.natAbs_tdiv_le_natAbs x g
  omega
theorem gcd_red {n d : Int} (hn : n ≠ least) (hd : d ≠ least) (h0 : d ≠ 0) (bn : n.natAbs ≤ 9223372036854775807) (bd : d.natAbs ≤ 9223372036854775807) : gcdI (redN n d) (redD n d) = 1 := by
  have g1 := gcdI_1 hn hd h0
  have hg := gcdI_nat hn hd
  have a1 := tdiv_small (flip n d) (gcdI n d) g1 (by rw [natAbs_flip]; exact bn)
  have a2 := tdiv_small (absI d) (gcdI n d) g1 (by rw [natAbs_absI]; exact bd)
  have e1 : redN n d ≠ least := by unfold redN least; omega
  have e2 : redD n d ≠ least := by unfold redD least; omega
  rw [gcdI_nat e1 e2]
  unfold redN redD
  rw [Int.natAbs_tdiv, Int.natAbs_tdiv, natAbs_flip, natAbs_absI, hg, Int.natAbs_natCast]
  have := Nat.gcd_div_gcd_div_gcd_of_pos_right (n := n.natAbs) (m := d.natAbs) (by omega)
  exact congrArg Int.ofNat this
theorem valid_red {n d : Int} (hn : n ≠ least) (hd : d ≠ least) (h0 : d ≠ 0) (bn : n.natAbs ≤ 9223372036854775807) (bd : d.natAbs ≤ 9223372036854775807) : validB (redN n d) (redD n d) = boundB (redN n d) (redD n d) := by
  unfold validB; rw [gcd_red hn hd h0 bn bd]; simp

theorem fdiv_0 (n d : Int) (h : n.tmod d = 0) : n.fdiv d = n.tdiv d := by
  have hd : d ∣ n := Int.dvd_of_tmod_eq_zero h
  rw [Int.fdiv_eq_tdiv, if_pos hd]; omega
theorem fdiv_1 (n d : Int) (h : ¬ n.tmod d = 0) (hs : (n < 0 ∧ 0 < d) ∨ (¬ n < 0 ∧ d < 0)) : n.fdiv d = n.tdiv d - 1 := by
  have hd' : ¬ d ∣ n := fun hx => h (Int.tmod_eq_zero_of_dvd hx)
  rw [Int.fdiv_eq_tdiv, if_neg hd']
  rcases hs with ⟨h1, h2⟩ | ⟨h1, h2⟩
  · rw [if_neg (by omega), if_pos (by omega), Int.sign_eq_one_of_pos h2]
  · rw [if_pos (by omega), if_neg (by omega)]
theorem fdiv_2 (n d : Int) (h : ¬ n.tmod d = 0) (hs : (n < 0 ∧ d < 0) ∨ (¬ n < 0 ∧ 0 < d)) : n.fdiv d = n.tdiv d := by
  have hd' : ¬ d ∣ n := fun hx => h (Int.tmod_eq_zero_of_dvd hx)
  rw [Int.fdiv_eq_tdiv, if_neg hd']
  rcases hs with ⟨h1, h2⟩ | ⟨h1, h2⟩
  · rw [if_neg (by omega), if_neg (by omega), Int.sign_eq_neg_one_of_neg h2]; omega
  · rw [if_pos (by omega), if_pos (by omega)]; omega
theorem tdiv_range (n d : Int) (hn : I64 n) (hd : d ≠ 0) (hq : quoE n d = 0) : -9223372036854775808 ≤ n.tdiv d ∧ n.tdiv d ≤ 9223372036854775807 ∧ (¬ n.tmod d = 0 → -9223372036854775807 ≤ n.tdiv d) := by
  have h0 : ¬ (n = -9223372036854775808 ∧ d = -1) := by
    intro h; unfold quoE least at hq; rw [if_neg hd, if_pos h] at hq; omega
  have h1 := Int.natAbs_tdiv_le_natAbs n d
  have h2 := Int.mul_tdiv_add_tmod n d
  have h3 : (n.tmod d).natAbs < d.natAbs := by rw [Int.natAbs_tmod]; exact Nat.mod_lt _ (by omega)
  unfold I64 at hn
  generalize n.tmod d = r at *
  refine ⟨by omega, ?_, ?_⟩
  · by_cases h : n.tdiv d = 9223372036854775808
    · rw [h] at h2; omega
    · omega
  · intro hr
    by_cases h : n.tdiv d = -9223372036854775808
    · rw [h] at h2; omega
    · omega
theorem w64_id {x : Int} (h0 : -9223372036854775808 ≤ x) (h1 : x ≤ 9223372036854775807) : wrap64 x = x := by unfold wrap64; omega

theorem tdiv_below (n d : Int) (hn : I64 n) (hd : d ≠ 0) (hr : ¬ n.tmod d = 0) : n.tdiv d ≤ 9223372036854775806 := by
  have h1 := Int.natAbs_tdiv_le_natAbs n d
  have h2 := Int.mul_tdiv_add_tmod n d
  have h3 : (n.tmod d).natAbs < d.natAbs := by rw [Int.natAbs_tmod]; exact Nat.mod_lt _ (by omega)
  unfold I64 at hn
  generalize n.tmod d = r at *
  by_cases h : n.tdiv d = 9223372036854775807
  · rw [h] at h2; omega
  · by_cases h' : n.tdiv d = 9223372036854775808
    · rw [h'] at h2; omega
    · omega
theorem rsgn (n d : Int) (h : ¬ n.tmod d = 0) : (n.tmod d < 0 ↔ n < 0) := by
  by_cases hn : n < 0
  · have h1 : 0 ≤ (-n).tmod d := Int.tmod_nonneg _ (by omega)
    rw [Int.neg_tmod] at h1
    omega
  · have h1 : 0 ≤ n.tmod d := Int.tmod_nonneg _ (by omega)
    omega
theorem ceil_any (n d : Int) (w : World) (hn : I64 n) (hd : I64 d) :
    Calls Tryd.prog 38 #[.int .i64 n, .int .i64 d] w fun e w' => e = .returned (.tuple #[.int .i64 (ceilI n d), .int .i64 (quoE n d)]) ∧ w = w' := by
  by_cases hq : quoE n d = 0
  · have hf : ceilI n d = if n.tmod d = 0 then Int.fdiv n d else Int.fdiv n d + 1 := by simp [ceilI, hq]
    rw [hf]
    have hz : ¬ d = 0 := by intro h; simp [quoE, h] at hq
    obtain ⟨t0, t1, t2⟩ := tdiv_range n d hn hz hq
    have EW := w64_id t0 t1
    have HC : Hid (∀ w, Calls Tryd.prog 50 #[.int .i64 n, .int .i64 d] w fun e w' => e = .returned (.int .i64 0) ∧ w = w') := Lib.hid (fun w => by have h := quotient_any n d w; rw [hq] at h; exact h)
    rw [hq]
    have t3 := tdiv_below n d hn hz
    clear hq hf hn hd
    by_cases hr : n.tmod d = 0
    · have HF := Lib.hid (fdiv_0 n d hr)
      rw [if_pos hr]
      clear t0 t1 t2 t3
      go_enter Tryd.func38, Tryd.ntmps38
      go_wp2_with (go_at_call 50; refine (HC.out _).mono ?_; rintro e w' ⟨rfl, rfl⟩)
      rw [HF.out]
      go_returns
      exact ⟨by simp [EW], rfl⟩
    · have kr : (n.tmod d != 0) = true := by simpa using hr
      by_cases hs : (n < 0 ∧ 0 < d) ∨ (¬ n < 0 ∧ d < 0)
      · have HF : Hid (n.fdiv d + 1 = n.tdiv d) := Lib.hid (by rw [fdiv_1 n d hr hs]; omega)
        rw [if_neg hr]
        have kb : (decide (n < 0) == decide (d < 0)) = false := by
          rcases hs with ⟨h1, h2⟩ | ⟨h1, h2⟩
          · have : ¬ d < 0 := by omega
            simp [h1, this]
          · simp [h1, h2]
        clear t0 t1 t2 t3 hs
        go_enter Tryd.func38, Tryd.ntmps38
        go_wp2_with (go_at_call 50; refine (HC.out _).mono ?_; rintro e w' ⟨rfl, rfl⟩)
        rw [HF.out]
        go_returns
        exact ⟨by simp [EW], rfl⟩
      · have hs2 : (n < 0 ∧ d < 0) ∨ (¬ n < 0 ∧ 0 < d) := by omega
        have HF := Lib.hid (fdiv_2 n d hr hs2)
        have EW2 : wrap64 (n.tdiv d + 1) = n.tdiv d + 1 := w64_id (by omega) (by have := t3 hr; omega)
        rw [if_neg hr]
        have kb : (decide (n < 0) == decide (d < 0)) = true := by
          rcases hs2 with ⟨h1, h2⟩ | ⟨h1, h2⟩
          · simp [h1, h2]
          · have : ¬ d < 0 := by omega
            simp [h1, this]
        clear t0 t1 t2 t3 hs hs2
        go_enter Tryd.func38, Tryd.ntmps38
        go_wp2_with (go_at_call 50; refine (HC.out _).mono ?_; rintro e w' ⟨rfl, rfl⟩)
        rw [HF.out]
        go_returns
        exact ⟨by simp [EW, EW2], rfl⟩
  · have hf : ceilI n d = 0 := by simp [ceilI, hq]
    rw [hf]
    have kq : (quoE n d == 0) = false := by simpa using hq
    have kq' : (quoE n d != 0) = true := by simpa using hq
    have HQ := Lib.hid hq
    clear hq hf
    go_enter Tryd.func38, Tryd.ntmps38
    go_wp2_with (go_at_call 50; refine (quotient_any _ _ _).mono ?_; rintro e w' ⟨rfl, rfl⟩)
    go_returns
    exact ⟨rfl, rfl⟩

end Go.Proofs.YtnpnippgfkehaaaDoor
