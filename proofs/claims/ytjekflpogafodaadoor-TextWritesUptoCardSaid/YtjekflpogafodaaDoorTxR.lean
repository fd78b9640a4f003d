/- Contracts of the reference's small functions on text: white, wordByte, quoted. -/
import Derived.Test.YtjekflpogafodaaDoorTxB
set_option linter.unusedSimpArgs false
set_option linter.unusedVariables false
namespace Go.Proofs.YtjekflpogafodaaDoor
open Go.RowKit

theorem rwhite_any (c : UInt8) (w : World) : Calls Tryd.prog 41 #[.int .u8 (c.toNat : Int)] w fun e w' => e = .returned (.bool (wht c)) ∧ w = w' := by
  by_cases h1 : c.toNat = 32
  · have e : wht c = true := (wht_iff c).2 (Or.inr h1)
    rw [e]
    have k1 : ((c.toNat : Int) == 32) = true := beq_iff_eq.2 (by omega)
    clear h1 e
    go_enter Tryd.func41, Tryd.ntmps41
    go_wp2
    go_ret
    exact ⟨rfl, rfl⟩
  · have k1 : ((c.toNat : Int) == 32) = false := beq_eq_false_iff_ne.2 (by omega)
    cases h2 : wht c
    · have k2 : ((c.toNat : Int) == 9) = false := beq_eq_false_iff_ne.2 (fun h => by rw [(wht_iff c).2 (Or.inl (by omega))] at h2; cases h2)
      clear h1 h2
      go_enter Tryd.func41, Tryd.ntmps41
      go_wp2
      go_ret
      exact ⟨rfl, rfl⟩
    · have k2 : ((c.toNat : Int) == 9) = true := beq_iff_eq.2 (by rw [wht_iff] at h2; omega)
      clear h1 h2
      go_enter Tryd.func41, Tryd.ntmps41
      go_wp2
      go_ret
      exact ⟨rfl, rfl⟩
theorem rword_any (c : UInt8) (w : World) : Calls Tryd.prog 42 #[.int .u8 (c.toNat : Int)] w fun e w' => e = .returned (.bool (wrd c)) ∧ w = w' := by
  have hd : (¬ 32 < c.toNat ∧ wrd c = false) ∨ (32 < c.toNat ∧ ¬ c.toNat < 127 ∧ wrd c = false) ∨ (32 < c.toNat ∧ c.toNat < 127 ∧ c.toNat = 34 ∧ wrd c = false) ∨ (32 < c.toNat ∧ c.toNat < 127 ∧ c.toNat ≠ 34 ∧ c.toNat = 59 ∧ wrd c = false) ∨ (32 < c.toNat ∧ c.toNat < 127 ∧ c.toNat ≠ 34 ∧ c.toNat ≠ 59 ∧ wrd c = true) := by
    unfold wrd
    simp only [decide_eq_true_eq, decide_eq_false_iff_not]
    omega
  rcases hd with ⟨h1, e⟩ | ⟨h1, h2, e⟩ | ⟨h1, h2, h3, e⟩ | ⟨h1, h2, h3, h4, e⟩ | ⟨h1, h2, h3, h4, e⟩
  · rw [e]
    have k1 : ¬ (32 : Int) < (c.toNat : Int) := by omega
    clear h1 e
    go_enter Tryd.func42, Tryd.ntmps42
    go_wp2
    go_ret
    exact ⟨rfl, rfl⟩
  · rw [e]
    have k1 : (32 : Int) < (c.toNat : Int) := by omega
    have k2 : ¬ (c.toNat : Int) < 127 := by omega
    clear h1 h2 e
    go_enter Tryd.func42, Tryd.ntmps42
    go_wp2
    go_ret
    exact ⟨rfl, rfl⟩
  · rw [e]
    have k1 : (32 : Int) < (c.toNat : Int) := by omega
    have k2 : (c.toNat : Int) < 127 := by omega
    have k3 : ((c.toNat : Int) == 34) = true := beq_iff_eq.2 (by omega)
    have k4 : ((c.toNat : Int) != 34) = false := by simp only [bne, k3]; rfl
    clear h1 h2 h3 e
    go_enter Tryd.func42, Tryd.ntmps42
    go_wp2
    go_ret
    exact ⟨rfl, rfl⟩
  · rw [e]
    have k1 : (32 : Int) < (c.toNat : Int) := by omega
    have k2 : (c.toNat : Int) < 127 := by omega
    have k3 : ((c.toNat : Int) == 34) = false := beq_eq_false_iff_ne.2 (by omega)
    have k4 : ((c.toNat : Int) != 34) = true := by simp only [bne, k3]; rfl
    have k5 : ((c.toNat : Int) == 59) = true := beq_iff_eq.2 (by omega)
    have k6 : ((c.toNat : Int) != 59) = false := by simp only [bne, k5]; rfl
    clear h1 h2 h3 h4 e
    go_enter Tryd.func42, Tryd.ntmps42
    go_wp2
    go_ret
    exact ⟨rfl, rfl⟩
  · rw [e]
    have k1 : (32 : Int) < (c.toNat : Int) := by omega
    have k2 : (c.toNat : Int) < 127 := by omega
    have k3 : ((c.toNat : Int) == 34) = false := beq_eq_false_iff_ne.2 (by omega)
    have k4 : ((c.toNat : Int) != 34) = true := by simp only [bne, k3]; rfl
    have k5 : ((c.toNat : Int) == 59) = false := beq_eq_false_iff_ne.2 (by omega)
    have k6 : ((c.toNat : Int) != 59) = true := by simp only [bne, k5]; rfl
    clear h1 h2 h3 h4 e
    go_enter Tryd.func42, Tryd.ntmps42
    go_wp2
    go_ret
    exact ⟨rfl, rfl⟩

theorem ret_sii {s t : ByteArray} {a b c d : Int} (h : s = t) (h2 : a = b) (h3 : c = d) : Ending.returned (.tuple #[.string s, .int .i64 a, .int .i64 c]) = .returned (.tuple #[.string t, .int .i64 b, .int .i64 d]) := by rw [h, h2, h3]
/-- What the reference's quoted answers. -/
def rqT (l : List UInt8) (i : Nat) : List UInt8 := if qB l (i + 1) then qT l (i + 1) else []
def rqN (l : List UInt8) (i : Nat) : Int := if qB l (i + 1) then (qE l (i + 1) : Int) else 0
def rqW (l : List UInt8) (i : Nat) : Int := if qB l (i + 1) then -1 else (qE l (i + 1) : Int)
theorem one_ext (l : List UInt8) (k : Nat) (h : k < l.length) : (str l).extract k (k + 1) = str [l[k]] := by
  rw [str_ext, List.drop_eq_getElem_cons h]
  have : k + 1 - k = 1 := by omega
  rw [this]; rfl
set_option maxHeartbeats 2000000 in
theorem rquoted_any (l : List UInt8) (i : Nat) (w : World) (hl : l.length ≤ 140737488355328) (hi : i + 1 ≤ l.length) :
    Calls Tryd.prog 31 #[S l, .int .i64 (i : Int)] w fun e w' => e = .returned (.tuple #[S (rqT l i), .int .i64 (rqN l i), .int .i64 (rqW l i)]) ∧ w = w' := by
  have z := str_size l
  obtain ⟨D, hD⟩ : ∃ D, D = qE l (i + 1) := ⟨_, rfl⟩
  obtain ⟨E, hE⟩ : ∃ E, E = qB l (i + 1) := ⟨_, rfl⟩
  obtain ⟨F, hF⟩ : ∃ F, F = qT l (i + 1) := ⟨_, rfl⟩
  have HD : Hid (D = qE l (i + 1) ∧ E = qB l (i + 1) ∧ F = [] ++ qT l (i + 1)) := Lib.hid ⟨hD, hE, by rw [hF]; rfl⟩
  have HR : Hid (rqT l i = (if E then F else []) ∧ rqN l i = (if E then (D : Int) else 0) ∧ rqW l i = (if E then -1 else (D : Int))) := Lib.hid ⟨by unfold rqT; rw [hE, hF], by unfold rqN; rw [hE, hD], by unfold rqW; rw [hE, hD]⟩
  generalize rqT l i = R1 at *
  generalize rqN l i = R2 at *
  generalize rqW l i = R3 at *
  clear hD hE hF
  go_enter Tryd.func31, Tryd.ntmps31
  go_wp2
  go_loop [1, 7] (fun t o => ∃ (k : Nat) (acc : List UInt8), k ≤ l.length ∧ acc.length ≤ k ∧ t = .int .i64 k ∧ o = S acc ∧ Hid (D = qE l k ∧ E = qB l k ∧ F = acc ++ qT l k)) (fun t _ => l.length - (intOf t).toNat)
  case atStart => exact ⟨i + 1, [], hi, by simp, by go_num, rfl, HD⟩
  case round =>
    obtain ⟨k, acc, hk, ha, rfl, rfl, HK⟩ := hrel
    clear HD
    have za := str_size acc
    by_cases hlt : k < l.length
    · have hlt2 : k < (str l).size := by omega
      have hg := str_get l k hlt2 hlt
      cases hp : prn l[k]
      · have h34 : l[k].toNat ≠ 34 := fun h => by have : prn l[k] = true := (prn_iff _).2 (by omega); rw [hp] at this; cases this
        have e := q_bad l k hlt h34 hp
        have Q : Hid (R1 = [] ∧ R2 = 0 ∧ R3 = (k : Int)) := Lib.hid (by
          have e2 : E = false := by rw [HK.out.2.1, e.2.1]
          have e1 : D = k := by rw [HK.out.1, e.1]
          rw [HR.out.1, HR.out.2.1, HR.out.2.2, e2, e1]; simp)
        have hc : ((((str l)[k]'hlt2).toNat : Int) < 32) ∨ (¬ (((str l)[k]'hlt2).toNat : Int) < 32 ∧ 126 < (((str l)[k]'hlt2).toNat : Int)) := by
          rw [hg]
          have : ¬ (32 ≤ l[k].toNat ∧ l[k].toNat ≤ 126) := fun h => by rw [(prn_iff _).2 h] at hp; cases hp
          omega
        clear hg h34 hp e HK
        rcases hc with hc | ⟨hc, hc2⟩
        all_goals
          go_wp2
          go_ret3
          exact ⟨ret_sii (by rw [Q.out.1]; rfl) Q.out.2.1.symm Q.out.2.2.symm, rfl⟩
      · have hc : ¬ ((((str l)[k]'hlt2).toNat : Int) < 32) ∧ ¬ 126 < (((str l)[k]'hlt2).toNat : Int) := by
          rw [hg]
          rw [prn_iff] at hp
          omega
        obtain ⟨hc1, hc2⟩ := hc
        by_cases h34 : l[k].toNat = 34
        · have k1 : ((((str l)[k]'hlt2).toNat : Int) == 34) = true := by rw [hg]; exact beq_iff_eq.2 (by omega)
          by_cases hlt3 : k + 1 < l.length
          · have hlt4 : k + 1 < (str l).size := by omega
            have hg2 := str_get l (k + 1) hlt4 hlt3
            by_cases h342 : l[k + 1].toNat = 34
            · have k2 : ((((str l)[k + 1]'hlt4).toNat : Int) == 34) = true := by rw [hg2]; exact beq_iff_eq.2 (by omega)
              have k3 : ((((str l)[k + 1]'hlt4).toNat : Int) != 34) = false := by simp only [bne, k2]; rfl
              have e := q_two l k hlt hlt3 h34 h342
              have hx : (str l).extract (k + 1) (k + 1 + 1) = str [34] := by rw [one_ext l (k + 1) hlt3, show l[k + 1] = 34 from UInt8.toNat_inj.1 h342]
              have HX := Lib.hid hx
              have Q : Hid (D = qE l (k + 1 + 1) ∧ E = qB l (k + 1 + 1) ∧ F = (acc ++ [34]) ++ qT l (k + 1 + 1)) := Lib.hid ⟨by rw [HK.out.1, e.1], by rw [HK.out.2.1, e.2.1], by rw [HK.out.2.2, e.2.2, List.append_assoc]; rfl⟩
              have hge : ¬ ((l.length : Int) ≤ (k : Int) + 1) := by omega
              clear hg hg2 h34 h342 e HK hp hx
              go_wp2
              go_round
              case rel => exact ⟨k + 1 + 1, acc ++ [34], by omega, by simp; omega, by go_num, by rw [HX.out, str_app], Q⟩
              case measure => simp [intOf]; omega
            · have k2 : ((((str l)[k + 1]'hlt4).toNat : Int) == 34) = false := by rw [hg2]; exact beq_eq_false_iff_ne.2 (by omega)
              have k3 : ((((str l)[k + 1]'hlt4).toNat : Int) != 34) = true := by simp only [bne, k2]; rfl
              have e := q_close l k hlt h34 (fun _ => h342)
              have Q : Hid (R1 = acc ∧ R2 = (k : Int) + 1 ∧ R3 = -1) := Lib.hid (by
                have e2 : E = true := by rw [HK.out.2.1, e.2.1]
                have e1 : D = k + 1 := by rw [HK.out.1, e.1]
                have e3 : F = acc := by rw [HK.out.2.2, e.2.2]; simp
                rw [HR.out.1, HR.out.2.1, HR.out.2.2, e2, e1, e3]; simp)
              have hge : ¬ ((l.length : Int) ≤ (k : Int) + 1) := by omega
              clear hg hg2 h34 h342 e HK hp
              go_wp2
              go_ret3
              exact ⟨ret_sii (by rw [Q.out.1]) Q.out.2.1.symm Q.out.2.2.symm, rfl⟩
          · have e := q_close l k hlt h34 (fun h => absurd h hlt3)
            have Q : Hid (R1 = acc ∧ R2 = (k : Int) + 1 ∧ R3 = -1) := Lib.hid (by
                have e2 : E = true := by rw [HK.out.2.1, e.2.1]
                have e1 : D = k + 1 := by rw [HK.out.1, e.1]
                have e3 : F = acc := by rw [HK.out.2.2, e.2.2]; simp
                rw [HR.out.1, HR.out.2.1, HR.out.2.2, e2, e1, e3]; simp)
            have hge : ((l.length : Int) ≤ (k : Int) + 1) := by omega
            clear hg h34 e HK hp
            go_wp2
            go_ret3
            exact ⟨ret_sii (by rw [Q.out.1]) Q.out.2.1.symm Q.out.2.2.symm, rfl⟩
        · have k1 : ((((str l)[k]'hlt2).toNat : Int) == 34) = false := by rw [hg]; exact beq_eq_false_iff_ne.2 (by omega)
          have e := q_one l k hlt h34 hp
          have HX := Lib.hid (one_ext l k hlt)
          have Q : Hid (D = qE l (k + 1) ∧ E = qB l (k + 1) ∧ F = (acc ++ [l[k]]) ++ qT l (k + 1)) := Lib.hid ⟨by rw [HK.out.1, e.1], by rw [HK.out.2.1, e.2.1], by rw [HK.out.2.2, e.2.2, List.append_assoc]; rfl⟩
          clear hg h34 hp e HK
          go_wp2
          go_round
          case rel => exact ⟨k + 1, acc ++ [l[k]], by omega, by simp; omega, by go_num, by rw [HX.out, str_app]; rfl, Q⟩
          case measure => simp [intOf]; omega
    · have e := q_end l k (by omega)
      have Q : Hid (R1 = [] ∧ R2 = 0 ∧ R3 = (l.length : Int)) := Lib.hid (by
        have e2 : E = false := by rw [HK.out.2.1, e.2.1]
        have e1 : D = l.length := by rw [HK.out.1, e.1]; omega
        rw [HR.out.1, HR.out.2.1, HR.out.2.2, e2, e1]; simp)
      clear e HK
      go_wp2
      go_ret3
      exact ⟨ret_sii (by rw [Q.out.1]; rfl) Q.out.2.1.symm Q.out.2.2.symm, rfl⟩
end Go.Proofs.YtjekflpogafodaaDoor
