/- Contract of package text's quotedEnd. -/
import Derived.Test.YtjdldofgkhibnaaGreatDoorTxA
set_option linter.unusedSimpArgs false
set_option linter.unusedVariables false
namespace Go.Proofs.YtjdldofgkhibnaaGreatDoor
open Go.RowKit

theorem ret_two {k : IntKind} {a b : Int} {p q : Bool} (h : a = b) (h2 : p = q) : Ending.returned (.tuple #[.int k a, .bool p]) = .returned (.tuple #[.int k b, .bool q]) := by rw [h, h2]
set_option maxHeartbeats 2000000 in
theorem qend_any (l : List UInt8) (i : Nat) (w : World) (hl : l.length ≤ 4611686018427387904) (hi : i + 1 ≤ l.length) :
    Calls Tryz.prog 78 #[S l, .int .i64 (i : Int)] w fun e w' => e = .returned (.tuple #[.int .i64 (qE l (i + 1) : Int), .bool (qB l (i + 1))]) ∧ w = w' := by
  have z := str_size l
  obtain ⟨D, hD⟩ : ∃ D, D = qE l (i + 1) := ⟨_, rfl⟩
  obtain ⟨E, hE⟩ : ∃ E, E = qB l (i + 1) := ⟨_, rfl⟩
  rw [← hD, ← hE]
  have HD : Hid (D = qE l (i + 1) ∧ E = qB l (i + 1)) := Lib.hid ⟨hD, hE⟩
  clear hD hE
  go_enter Tryz.func78, Tryz.ntmps78
  go_wp2
  go_loop [6] (fun t => ∃ k : Nat, k ≤ l.length ∧ t = .int .i64 k ∧ Hid (D = qE l k ∧ E = qB l k)) (fun t => l.length - (intOf t).toNat)
  case atStart => exact ⟨i + 1, hi, by go_num, HD⟩
  case round =>
    obtain ⟨k, hk, rfl, HK⟩ := hrel
    clear HD
    by_cases hlt : k < l.length
    · have hlt2 : k < (str l).size := by omega
      have hg := str_get l k hlt2 hlt
      by_cases h34 : l[k].toNat = 34
      · have k1 : ((((str l)[k]'hlt2).toNat : Int) == 34) = true := by rw [hg]; exact beq_iff_eq.2 (by omega)
        by_cases hlt3 : k + 1 < l.length
        · have hlt4 : k + 1 < (str l).size := by omega
          have hg2 := str_get l (k + 1) hlt4 hlt3
          by_cases h342 : l[k + 1].toNat = 34
          · have k2 : ((((str l)[k + 1]'hlt4).toNat : Int) == 34) = true := by rw [hg2]; exact beq_iff_eq.2 (by omega)
            have e := q_two l k hlt hlt3 h34 h342
            have Q : Hid (D = qE l (k + 1 + 1) ∧ E = qB l (k + 1 + 1)) := Lib.hid ⟨by rw [HK.out.1, e.1], by rw [HK.out.2, e.2.1]⟩
            clear hg hg2 h34 h342 e HK
            go_wp2
            go_round
            case rel => exact ⟨k + 1 + 1, by omega, by go_num, Q⟩
            case measure => simp [intOf]; omega
          · have k2 : ((((str l)[k + 1]'hlt4).toNat : Int) == 34) = false := by rw [hg2]; exact beq_eq_false_iff_ne.2 (by omega)
            have e := q_close l k hlt h34 (fun _ => h342)
            have Q : Hid (D = k + 1 ∧ E = true) := Lib.hid ⟨by rw [HK.out.1, e.1], by rw [HK.out.2, e.2.1]⟩
            clear hg hg2 h34 h342 e HK
            go_wp2
            go_ret2
            exact ⟨ret_two (by rw [Q.out.1]; omega) Q.out.2.symm, rfl⟩
        · have e := q_close l k hlt h34 (fun h => absurd h hlt3)
          have Q : Hid (D = k + 1 ∧ E = true) := Lib.hid ⟨by rw [HK.out.1, e.1], by rw [HK.out.2, e.2.1]⟩
          clear hg h34 e HK
          go_wp2
          go_ret2
          exact ⟨ret_two (by rw [Q.out.1]; omega) Q.out.2.symm, rfl⟩
      · have k1 : ((((str l)[k]'hlt2).toNat : Int) == 34) = false := by rw [hg]; exact beq_eq_false_iff_ne.2 (by omega)
        cases hp : prn l[k]
        · have e := q_bad l k hlt h34 hp
          have Q : Hid (D = k ∧ E = false) := Lib.hid ⟨by rw [HK.out.1, e.1], by rw [HK.out.2, e.2.1]⟩
          have hc : ((((str l)[k]'hlt2).toNat : Int) < 32) ∨ (¬ (((str l)[k]'hlt2).toNat : Int) < 32 ∧ 126 < (((str l)[k]'hlt2).toNat : Int)) := by
            rw [hg]
            have : ¬ (32 ≤ l[k].toNat ∧ l[k].toNat ≤ 126) := fun h => by rw [(prn_iff _).2 h] at hp; cases hp
            omega
          clear hg h34 hp e HK
          rcases hc with hc | ⟨hc, hc2⟩
          all_goals
            go_wp2
            go_ret2
            exact ⟨ret_two (by rw [Q.out.1]) Q.out.2.symm, rfl⟩
        · have e := q_one l k hlt h34 hp
          have Q : Hid (D = qE l (k + 1) ∧ E = qB l (k + 1)) := Lib.hid ⟨by rw [HK.out.1, e.1], by rw [HK.out.2, e.2.1]⟩
          have hc : ¬ ((((str l)[k]'hlt2).toNat : Int) < 32) ∧ ¬ 126 < (((str l)[k]'hlt2).toNat : Int) := by
            rw [hg]
            rw [prn_iff] at hp
            omega
          obtain ⟨hc, hc2⟩ := hc
          clear hg h34 hp e HK
          go_wp2
          go_round
          case rel => exact ⟨k + 1, by omega, by go_num, Q⟩
          case measure => simp [intOf]; omega
    · have e := q_end l k (by omega)
      have Q : Hid (D = l.length ∧ E = false) := Lib.hid ⟨by rw [HK.out.1, e.1]; omega, by rw [HK.out.2, e.2.1]⟩
      clear e HK
      go_wp2
      go_ret2
      exact ⟨ret_two (by rw [Q.out.1]) Q.out.2.symm, rfl⟩
end Go.Proofs.YtjdldofgkhibnaaGreatDoor
