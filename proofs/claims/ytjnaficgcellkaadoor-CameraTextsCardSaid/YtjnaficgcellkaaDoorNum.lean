/- Plain words for decimals of any length: which lists of bytes are one, and the number that one spells. -/
import Derived.Test.YtjnaficgcellkaaDoorRatW
import Derived.Lib.ParseIntB
import Derived.Lib.Strings
set_option linter.unusedSimpArgs false
set_option linter.unusedVariables false
namespace Go.Proofs.YtjnaficgcellkaaDoor
open Go.RowKit

def isDig (c : UInt8) : Bool := decide (48 ≤ c.toNat) && decide (c.toNat ≤ 57)
def minus (l : List UInt8) : Bool := l.head?.map (·.toNat) == some 45
def body (l : List UInt8) : List UInt8 := if minus l then l.tail else l
def decimalB (l : List UInt8) : Bool := !(body l).isEmpty && ((body l).all isDig && (((body l).headD 0).toNat != 48 || l == [48]))
def digF (acc : Nat) : List UInt8 → Nat
  | [] => acc
  | c :: r => digF (acc * 10 + (c.toNat - 48)) r
def valI (l : List UInt8) : Int := if minus l then -(digF 0 (body l) : Int) else (digF 0 (body l) : Int)
def in64B (n : Int) : Bool := decide (-9223372036854775808 ≤ n) && decide (n ≤ 9223372036854775807)
def numE (l : List UInt8) (lo hi : Int) : Int := if decimalB l then (if in64B (valI l) && (decide (lo ≤ valI l) && decide (valI l ≤ hi)) then 0 else 2) else 4
def numV (l : List UInt8) (lo hi : Int) : Int := if numE l lo hi = 0 then valI l else 0

theorem digF_ge (l : List UInt8) : ∀ acc : Nat, acc ≤ digF acc l := by
  induction l with
  | nil => intro acc; exact Nat.le_of_eq (by unfold digF; rfl)
  | cons c r ih =>
    intro acc
    have h := ih (acc * 10 + (c.toNat - 48))
    have e : digF acc (c :: r) = digF (acc * 10 + (c.toNat - 48)) r := rfl
    rw [e]
    generalize c.toNat - 48 = x at *
    omega
theorem isDig_iff (c : UInt8) : isDig c = true ↔ 48 ≤ c.toNat ∧ c.toNat ≤ 57 := by simp [isDig]
theorem parseU_dig (M : Nat) (hM : M < 18446744073709551616) (l : List UInt8) : ∀ (acc : Nat), acc ≤ M → l.all isDig = true → Lib.parseUintM M acc l = if digF acc l ≤ M then .ok (digF acc l) else .range := by
  induction l with
  | nil =>
    intro acc ha _
    have e : digF acc [] = acc := rfl
    rw [e, if_pos ha]; rfl
  | cons c r ih =>
    intro acc ha h
    simp only [List.all_cons, Bool.and_eq_true] at h
    obtain ⟨h1, h2⟩ := h
    rw [isDig_iff] at h1
    have ed : digF acc (c :: r) = digF (acc * 10 + (c.toNat - 48)) r := rfl
    rw [ed]
    rw [Lib.parseUintM, if_pos h1]
    have hg := digF_ge r (acc * 10 + (c.toNat - 48))
    by_cases hb : 1844674407370955162 ≤ acc
    · rw [if_pos hb, if_neg (by omega)]
    · rw [if_neg hb]
      by_cases hc : M < acc * 10 + (c.toNat - 48)
      · rw [if_pos hc, if_neg (by omega)]
      · rw [if_neg hc]
        exact ih _ (by omega) h2

theorem decimal_parts {l : List UInt8} (h : decimalB l = true) : body l ≠ [] ∧ (body l).all isDig = true := by
  unfold decimalB at h
  simp only [Bool.and_eq_true] at h
  refine ⟨?_, h.2.1⟩
  intro e; rw [e] at h; simp at h
theorem parse_dec {l : List UInt8} (h : decimalB l = true) : Lib.parseIntB 64 l = if in64B (valI l) then .ok (valI l) else .range := by
  obtain ⟨h1, h2⟩ := decimal_parts h
  have hp : (2 : Nat) ^ 64 - 1 = 18446744073709551615 := by decide
  have hq : (2 : Nat) ^ (64 - 1) = 9223372036854775808 := by decide
  cases l with
  | nil => exact absurd rfl h1
  | cons c r =>
    by_cases hm : c.toNat = 45
    · have em : minus (c :: r) = true := by simp [minus, hm]
      have eb : body (c :: r) = r := by unfold body; rw [if_pos em]; rfl
      have ev : valI (c :: r) = -(digF 0 r : Int) := by unfold valI; rw [if_pos em, eb]
      rw [eb] at h1 h2
      unfold Lib.parseIntB
      simp only []
      rw [if_pos (Or.inr hm), ev]
      unfold Lib.parseUintB
      rw [if_neg h1, hp, parseU_dig _ (by omega) r 0 (by omega) h2]
      by_cases hle : digF 0 r ≤ 18446744073709551615
      · rw [if_pos hle]
        simp only [hm, hq]
        by_cases hs : 9223372036854775808 < digF 0 r
        · have : in64B (-(digF 0 r : Int)) = false := by simp [in64B]; omega
          rw [this]; simp [hs]
        · have : in64B (-(digF 0 r : Int)) = true := by simp [in64B]; omega
          rw [this]; simp [hs]
      · rw [if_neg hle]
        have : in64B (-(digF 0 r : Int)) = false := by simp [in64B]; omega
        rw [this]; rfl
    · have em : minus (c :: r) = false := by simp [minus, hm]
      have eb : body (c :: r) = c :: r := by unfold body; rw [em]; rfl
      have ev : valI (c :: r) = (digF 0 (c :: r) : Int) := by unfold valI; rw [em, eb]; rfl
      rw [eb] at h1 h2
      have h43 : ¬ c.toNat = 43 := by
        simp only [List.all_cons, Bool.and_eq_true, isDig_iff] at h2; omega
      unfold Lib.parseIntB
      simp only []
      rw [if_neg (by omega), ev]
      unfold Lib.parseUintB
      rw [if_neg h1, hp, parseU_dig _ (by omega) (c :: r) 0 (by omega) h2]
      by_cases hle : digF 0 (c :: r) ≤ 18446744073709551615
      · rw [if_pos hle]
        simp only [hm, hq]
        by_cases hs : 9223372036854775808 ≤ digF 0 (c :: r)
        · have : in64B (digF 0 (c :: r) : Int) = false := by simp [in64B]; omega
          rw [this]; simp [hs]
        · have : in64B (digF 0 (c :: r) : Int) = true := by simp [in64B]; omega
          rw [this]; simp [hs]
      · rw [if_neg hle]
        have : in64B (digF 0 (c :: r) : Int) = false := by simp [in64B]; omega
        rw [this]; rfl
theorem trim_body (l : List UInt8) : Lib.trimPrefix l [45] = body l := by
  cases l with
  | nil => simp [Lib.trimPrefix, Lib.hasPrefix, body, minus]
  | cons c r =>
    by_cases hm : c.toNat = 45
    · have hc : c = 45 := UInt8.toNat_inj.1 (by simpa using hm)
      subst hc
      simp [Lib.trimPrefix, Lib.hasPrefix, body, minus]
    · have hc : ¬ c = 45 := fun e => hm (by rw [e]; rfl)
      have hc' : ¬ (45 : UInt8) = c := fun e => hc e.symm
      simp [Lib.trimPrefix, Lib.hasPrefix, body, minus, hm, hc, hc']
end Go.Proofs.YtjnaficgcellkaaDoor
