/- Contracts of package text's isDigit, isDecimal, Number and Decimal. -/
import Derived.Test.YtjdldofgkhibnaaDoorEnv
import Derived.Test.YtjdldofgkhibnaaDoorNum
set_option linter.unusedSimpArgs false
set_option linter.unusedVariables false
namespace Go.Proofs.YtjdldofgkhibnaaDoor
open Go.RowKit

theorem isDigit_any (c : UInt8) (w : World) : Calls Tryd.prog 39 #[.int .u8 (c.toNat : Int)] w fun e w' => e = .returned (.bool (isDig c)) ∧ w = w' := by
  by_cases h1 : 48 ≤ c.toNat
  · by_cases h2 : c.toNat ≤ 57
    · have e : isDig c = true := by simp [isDig, h1, h2]
      rw [e]
      have k1 : (48 : Int) ≤ (c.toNat : Int) := by omega
      have k2 : (c.toNat : Int) ≤ 57 := by omega
      clear h1 h2 e
      go_enter Tryd.func39, Tryd.ntmps39
      go_wp2
      go_ret
      exact ⟨rfl, rfl⟩
    · have e : isDig c = false := by simp [isDig, h2]
      rw [e]
      have k1 : (48 : Int) ≤ (c.toNat : Int) := by omega
      have k2 : ¬ (c.toNat : Int) ≤ 57 := by omega
      clear h1 h2 e
      go_enter Tryd.func39, Tryd.ntmps39
      go_wp2
      go_ret
      exact ⟨rfl, rfl⟩
  · have e : isDig c = false := by simp [isDig, h1]
    rw [e]
    have k1 : ¬ (48 : Int) ≤ (c.toNat : Int) := by omega
    clear h1 e
    go_enter Tryd.func39, Tryd.ntmps39
    go_wp2
    go_ret
    exact ⟨rfl, rfl⟩


theorem take_all (d : List UInt8) (k : Nat) (hk : k < d.length) (h : (d.take k).all isDig = true) (h2 : isDig d[k] = true) : (d.take (k + 1)).all isDig = true := by
  rw [List.take_succ_eq_append_getElem hk, List.all_append, h]; simp [h2]
theorem not_all (d : List UInt8) (k : Nat) (hk : k < d.length) (h2 : isDig d[k] = false) : d.all isDig = false := by
  cases h : d.all isDig
  · rfl
  · have := List.all_eq_true.1 h d[k] (List.getElem_mem hk); rw [this] at h2; cases h2



end Go.Proofs.YtjdldofgkhibnaaDoor
