/- Contracts of package text's small functions: isWhite, isWordByte, skipWhite, wordEnd, quotedEnd. -/
import Derived.Test.YtjdldofgkhibnaaGreatDoorStr
import Derived.Test.YtjdldofgkhibnaaGreatDoorTxM
set_option linter.unusedSimpArgs false
set_option linter.unusedVariables false
namespace Go.Proofs.YtjdldofgkhibnaaGreatDoor
open Go.RowKit

theorem isWhite_any (c : UInt8) (w : World) : Calls Tryz.prog 77 #[.int .u8 (c.toNat : Int)] w fun e w' => e = .returned (.bool (wht c)) ∧ w = w' := by
  by_cases h1 : c.toNat = 9
  · have e : wht c = true := (wht_iff c).2 (Or.inl h1)
    rw [e]
    have k1 : ((c.toNat : Int) == 9) = true := beq_iff_eq.2 (by omega)
    clear h1 e
    go_enter Tryz.func77, Tryz.ntmps77
    go_wp2
    go_ret
    exact ⟨rfl, rfl⟩
  · have k1 : ((c.toNat : Int) == 9) = false := beq_eq_false_iff_ne.2 (by omega)
    cases h2 : wht c
    · have k2 : ((c.toNat : Int) == 32) = false := beq_eq_false_iff_ne.2 (fun h => by rw [(wht_iff c).2 (Or.inr (by omega))] at h2; cases h2)
      clear h1 h2
      go_enter Tryz.func77, Tryz.ntmps77
      go_wp2
      go_ret
      exact ⟨rfl, rfl⟩
    · have k2 : ((c.toNat : Int) == 32) = true := beq_iff_eq.2 (by rw [wht_iff] at h2; omega)
      clear h1 h2
      go_enter Tryz.func77, Tryz.ntmps77
      go_wp2
      go_ret
      exact ⟨rfl, rfl⟩
theorem isWord_any (c : UInt8) (w : World) : Calls Tryz.prog 72 #[.int .u8 (c.toNat : Int)] w fun e w' => e = .returned (.bool (wrd c)) ∧ w = w' := by
  have hd : (¬ 32 < c.toNat ∧ wrd c = false) ∨ (32 < c.toNat ∧ ¬ c.toNat ≤ 126 ∧ wrd c = false) ∨ (32 < c.toNat ∧ c.toNat ≤ 126 ∧ c.toNat = 34 ∧ wrd c = false) ∨ (32 < c.toNat ∧ c.toNat ≤ 126 ∧ c.toNat ≠ 34 ∧ c.toNat = 59 ∧ wrd c = false) ∨ (32 < c.toNat ∧ c.toNat ≤ 126 ∧ c.toNat ≠ 34 ∧ c.toNat ≠ 59 ∧ wrd c = true) := by
    unfold wrd
    simp only [decide_eq_true_eq, decide_eq_false_iff_not]
    omega
  rcases hd with ⟨h1, e⟩ | ⟨h1, h2, e⟩ | ⟨h1, h2, h3, e⟩ | ⟨h1, h2, h3, h4, e⟩ | ⟨h1, h2, h3, h4, e⟩
  · rw [e]
    have k1 : ¬ (32 : Int) < (c.toNat : Int) := by omega
    clear h1 e
    go_enter Tryz.func72, Tryz.ntmps72
    go_wp2
    go_ret
    exact ⟨rfl, rfl⟩
  · rw [e]
    have k1 : (32 : Int) < (c.toNat : Int) := by omega
    have k2 : ¬ (c.toNat : Int) ≤ 126 := by omega
    clear h1 h2 e
    go_enter Tryz.func72, Tryz.ntmps72
    go_wp2
    go_ret
    exact ⟨rfl, rfl⟩
  · rw [e]
    have k1 : (32 : Int) < (c.toNat : Int) := by omega
    have k2 : (c.toNat : Int) ≤ 126 := by omega
    have k3 : ((c.toNat : Int) == 34) = true := beq_iff_eq.2 (by omega)
    have k4 : ((c.toNat : Int) != 34) = false := by simp only [bne, k3]; rfl
    clear h1 h2 h3 e
    go_enter Tryz.func72, Tryz.ntmps72
    go_wp2
    go_ret
    exact ⟨rfl, rfl⟩
  · rw [e]
    have k1 : (32 : Int) < (c.toNat : Int) := by omega
    have k2 : (c.toNat : Int) ≤ 126 := by omega
    have k3 : ((c.toNat : Int) == 34) = false := beq_eq_false_iff_ne.2 (by omega)
    have k4 : ((c.toNat : Int) != 34) = true := by simp only [bne, k3]; rfl
    have k5 : ((c.toNat : Int) == 59) = true := beq_iff_eq.2 (by omega)
    have k6 : ((c.toNat : Int) != 59) = false := by simp only [bne, k5]; rfl
    clear h1 h2 h3 h4 e
    go_enter Tryz.func72, Tryz.ntmps72
    go_wp2
    go_ret
    exact ⟨rfl, rfl⟩
  · rw [e]
    have k1 : (32 : Int) < (c.toNat : Int) := by omega
    have k2 : (c.toNat : Int) ≤ 126 := by omega
    have k3 : ((c.toNat : Int) == 34) = false := beq_eq_false_iff_ne.2 (by omega)
    have k4 : ((c.toNat : Int) != 34) = true := by simp only [bne, k3]; rfl
    have k5 : ((c.toNat : Int) == 59) = false := beq_eq_false_iff_ne.2 (by omega)
    have k6 : ((c.toNat : Int) != 59) = true := by simp only [bne, k5]; rfl
    clear h1 h2 h3 h4 e
    go_enter Tryz.func72, Tryz.ntmps72
    go_wp2
    go_ret
    exact ⟨rfl, rfl⟩

set_option maxHeartbeats 1000000 in
theorem skip_any (l : List UInt8) (i : Nat) (w : World) (hl : l.length ≤ 4611686018427387904) (hi : i ≤ l.length) :
    Calls Tryz.prog 61 #[S l, .int .i64 (i : Int)] w fun e w' => e = .returned (.int .i64 (skp l i : Int)) ∧ w = w' := by
  have z := str_size l
  obtain ⟨D, hD⟩ : ∃ D, D = skp l i := ⟨_, rfl⟩
  rw [← hD]
  go_enter Tryz.func61, Tryz.ntmps61
  go_wp2
  go_loop [1] (fun t => ∃ k : Nat, k ≤ l.length ∧ t = .int .i64 k ∧ Hid (D = skp l k)) (fun t => l.length - (intOf t).toNat)
  case atStart => exact ⟨i, hi, rfl, Lib.hid hD⟩
  case round =>
    obtain ⟨k, hk, rfl, HK⟩ := hrel
    clear hD
    by_cases hlt : k < l.length
    · have hlt2 : k < (str l).size := by omega
      have hg := str_get l k hlt2 hlt
      cases hw : wht l[k]
      · have HC : Hid (∀ w, Calls Tryz.prog 77 #[.int .u8 (((str l)[k]'hlt2).toNat : Int)] w fun e w' => e = .returned (.bool false) ∧ w = w') := Lib.hid (fun w => by have h := isWhite_any l[k] w; rw [hw] at h; rw [hg]; exact h)
        have E : Hid (D = k) := Lib.hid (by rw [HK.out, skp_no l k hlt hw])
        clear hg hw HK
        go_wp2_with (go_at_call 77; ((with_reducible refine (HC.out _).mono ?_); rintro e w' ⟨rfl, rfl⟩))
        go_ret
        exact ⟨by rw [E.out]; rfl, rfl⟩
      · have HC : Hid (∀ w, Calls Tryz.prog 77 #[.int .u8 (((str l)[k]'hlt2).toNat : Int)] w fun e w' => e = .returned (.bool true) ∧ w = w') := Lib.hid (fun w => by have h := isWhite_any l[k] w; rw [hw] at h; rw [hg]; exact h)
        have E : Hid (D = skp l (k + 1)) := Lib.hid (by rw [HK.out, skp_yes l k hlt hw])
        clear hg hw HK
        go_wp2_with (go_at_call 77; ((with_reducible refine (HC.out _).mono ?_); rintro e w' ⟨rfl, rfl⟩))
        go_round
        case rel => exact ⟨k + 1, by omega, by go_num, E⟩
        case measure => simp [intOf]; omega
    · have E : Hid (D = k) := Lib.hid (by rw [HK.out, skp_end l k (by omega)])
      clear HK
      go_wp2
      go_ret
      exact ⟨by rw [E.out]; rfl, rfl⟩
set_option maxHeartbeats 1000000 in
theorem wend_any (l : List UInt8) (i : Nat) (w : World) (hl : l.length ≤ 4611686018427387904) (hi : i ≤ l.length) :
    Calls Tryz.prog 56 #[S l, .int .i64 (i : Int)] w fun e w' => e = .returned (.int .i64 (wnd l i : Int)) ∧ w = w' := by
  have z := str_size l
  obtain ⟨D, hD⟩ : ∃ D, D = wnd l i := ⟨_, rfl⟩
  rw [← hD]
  go_enter Tryz.func56, Tryz.ntmps56
  go_wp2
  go_loop [1] (fun t => ∃ k : Nat, k ≤ l.length ∧ t = .int .i64 k ∧ Hid (D = wnd l k)) (fun t => l.length - (intOf t).toNat)
  case atStart => exact ⟨i, hi, rfl, Lib.hid hD⟩
  case round =>
    obtain ⟨k, hk, rfl, HK⟩ := hrel
    clear hD
    by_cases hlt : k < l.length
    · have hlt2 : k < (str l).size := by omega
      have hg := str_get l k hlt2 hlt
      cases hw : wrd l[k]
      · have HC : Hid (∀ w, Calls Tryz.prog 72 #[.int .u8 (((str l)[k]'hlt2).toNat : Int)] w fun e w' => e = .returned (.bool false) ∧ w = w') := Lib.hid (fun w => by have h := isWord_any l[k] w; rw [hw] at h; rw [hg]; exact h)
        have E : Hid (D = k) := Lib.hid (by rw [HK.out, wnd_no l k hlt hw])
        clear hg hw HK
        go_wp2_with (go_at_call 72; ((with_reducible refine (HC.out _).mono ?_); rintro e w' ⟨rfl, rfl⟩))
        go_ret
        exact ⟨by rw [E.out]; rfl, rfl⟩
      · have HC : Hid (∀ w, Calls Tryz.prog 72 #[.int .u8 (((str l)[k]'hlt2).toNat : Int)] w fun e w' => e = .returned (.bool true) ∧ w = w') := Lib.hid (fun w => by have h := isWord_any l[k] w; rw [hw] at h; rw [hg]; exact h)
        have E : Hid (D = wnd l (k + 1)) := Lib.hid (by rw [HK.out, wnd_yes l k hlt hw])
        clear hg hw HK
        go_wp2_with (go_at_call 72; ((with_reducible refine (HC.out _).mono ?_); rintro e w' ⟨rfl, rfl⟩))
        go_round
        case rel => exact ⟨k + 1, by omega, by go_num, E⟩
        case measure => simp [intOf]; omega
    · have E : Hid (D = k) := Lib.hid (by rw [HK.out, wnd_end l k (by omega)])
      clear HK
      go_wp2
      go_ret
      exact ⟨by rw [E.out]; rfl, rfl⟩
end Go.Proofs.YtjdldofgkhibnaaGreatDoor
