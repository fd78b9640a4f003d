/- Contracts of package text's isDigit, isDecimal, Number and Decimal. -/
import Derived.Test.YtkgdlimekkdekaaDoorEnv
import Derived.Test.YtkgdlimekkdekaaDoorNum
set_option linter.unusedSimpArgs false
set_option linter.unusedVariables false
namespace Go.Proofs.YtkgdlimekkdekaaDoor
open Go.RowKit

theorem isDigit_any (c : UInt8) (w : World) : Calls Tryd.prog 98 #[.int .u8 (c.toNat : Int)] w fun e w' => e = .returned (.bool (isDig c)) ∧ w = w' := by
  by_cases h1 : 48 ≤ c.toNat
  · by_cases h2 : c.toNat ≤ 57
    · have e : isDig c = true := by simp [isDig, h1, h2]
      rw [e]
      have k1 : (48 : Int) ≤ (c.toNat : Int) := by omega
      have k2 : (c.toNat : Int) ≤ 57 := by omega
      clear h1 h2 e
      go_enter Tryd.func98, Tryd.ntmps98
      go_wp2
      go_ret
      exact ⟨rfl, rfl⟩
    · have e : isDig c = false := by simp [isDig, h2]
      rw [e]
      have k1 : (48 : Int) ≤ (c.toNat : Int) := by omega
      have k2 : ¬ (c.toNat : Int) ≤ 57 := by omega
      clear h1 h2 e
      go_enter Tryd.func98, Tryd.ntmps98
      go_wp2
      go_ret
      exact ⟨rfl, rfl⟩
  · have e : isDig c = false := by simp [isDig, h1]
    rw [e]
    have k1 : ¬ (48 : Int) ≤ (c.toNat : Int) := by omega
    clear h1 e
    go_enter Tryd.func98, Tryd.ntmps98
    go_wp2
    go_ret
    exact ⟨rfl, rfl⟩


theorem take_all (d : List UInt8) (k : Nat) (hk : k < d.length) (h : (d.take k).all isDig = true) (h2 : isDig d[k] = true) : (d.take (k + 1)).all isDig = true := by
  rw [List.take_succ_eq_append_getElem hk, List.all_append, h]; simp [h2]
theorem not_all (d : List UInt8) (k : Nat) (hk : k < d.length) (h2 : isDig d[k] = false) : d.all isDig = false := by
  cases h : d.all isDig
  · rfl
  · have := List.all_eq_true.1 h d[k] (List.getElem_mem hk); rw [this] at h2; cases h2


theorem decimal_any (n : Int) (w : World) (hn : I64 n) (h : Env w) :
    Calls Tryd.prog 55 #[.int .i64 n] w fun e w' => e = .returned (S (Lib.itoa n)) ∧ Below w.heap.size w w' := by
  have HF : Hid (∀ w', Env w' → Calls Tryd.prog 83 #[.int .i64 n, .int .i64 10] w' fun e w'' => e = .returned (S (Lib.itoa n)) ∧ Below w'.heap.size w' w'') := Lib.hid (fun w' h => fmt_any n w' hn h)
  go_enter Tryd.func55, Tryd.ntmps55
  go_wp2_with (go_at_call 83; ((with_reducible refine (HF.out _ h).mono ?_); rintro e w1 ⟨rfl, hb1⟩); have hz1 := hb1.size; (try simp only [World.size_alloc, World.size_setCell, World.size_drew, size_drewN'] at hz1))
  go_ret
  exact ⟨rfl, by (repeat' (first | (with_reducible exact Below.refl _ _) | (with_reducible refine Below.setCell ?_ ?_ _) | (with_reducible refine Below.alloc ?_ ?_ _) | (with_reducible refine Below.drew ?_) | (with_reducible refine belowN ?_ _) | (with_reducible refine below_step ?_ ?_ (by with_reducible assumption)) | go_size))⟩
theorem decimal_small (n : Int) (w : World) (h0 : 0 ≤ n) (h1 : n < 100) :
    Calls Tryd.prog 55 #[.int .i64 n] w fun e w' => e = .returned (S (Lib.itoa n)) ∧ Below w.heap.size w w' := by
  have HF : Hid (∀ w', Calls Tryd.prog 83 #[.int .i64 n, .int .i64 10] w' fun e w'' => e = .returned (S (Lib.itoa n)) ∧ Below w'.heap.size w' w'') := Lib.hid (fun w' => fmt_small n w' h0 h1)
  go_enter Tryd.func55, Tryd.ntmps55
  go_wp2_with (go_at_call 83; ((with_reducible refine (HF.out _).mono ?_); rintro e w1 ⟨rfl, hb1⟩); have hz1 := hb1.size; (try simp only [World.size_alloc, World.size_setCell, World.size_drew, size_drewN'] at hz1))
  go_ret
  exact ⟨rfl, by (repeat' (first | (with_reducible exact Below.refl _ _) | (with_reducible refine Below.setCell ?_ ?_ _) | (with_reducible refine Below.alloc ?_ ?_ _) | (with_reducible refine Below.drew ?_) | (with_reducible refine belowN ?_ _) | (with_reducible refine below_step ?_ ?_ (by with_reducible assumption)) | go_size))⟩

end Go.Proofs.YtkgdlimekkdekaaDoor
