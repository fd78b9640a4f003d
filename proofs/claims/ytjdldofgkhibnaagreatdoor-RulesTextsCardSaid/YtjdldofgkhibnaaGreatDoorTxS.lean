/- Plain words: the library's Split and ReplaceAll, byte by byte, are those of this text's words. No run of the program. -/
import Derived.Test.YtjdldofgkhibnaaGreatDoorTxM
import Derived.Lib.Replace
set_option linter.unusedSimpArgs false
set_option linter.unusedVariables false
namespace Go.Proofs.YtjdldofgkhibnaaGreatDoor
open Go.Lib

theorem ix_zero (s old : List UInt8) (hs : s ≠ []) (h : old.isPrefixOf s = true) : index s old = ((0 : Nat) : Int) := by
  cases s with
  | nil => exact absurd rfl hs
  | cons c r => rw [index, if_pos h]; rfl
theorem ix_cons (c : UInt8) (r old : List UInt8) (h : old.isPrefixOf (c :: r) = false) : (index (c :: r) old = -1 ∧ index r old = -1) ∨ ∃ i : Nat, index r old = i ∧ index (c :: r) old = ((i + 1 : Nat) : Int) := by
  rw [index, h]
  by_cases hm : index r old = -1
  · left; simp [hm]
  · right
    have := index_ge r old
    refine ⟨(index r old).toNat, by omega, ?_⟩
    simp [hm]; omega
theorem ct_hit (s old : List UInt8) (hs : s ≠ []) (ho : old ≠ []) (h : old.isPrefixOf s = true) : count s old = 1 + count (s.drop old.length) old := by
  have := count_hit (i := 0) ho (ix_zero s old hs h)
  rwa [Nat.zero_add] at this
theorem ct_cons (c : UInt8) (r old : List UInt8) (ho : old ≠ []) (h : old.isPrefixOf (c :: r) = false) : count (c :: r) old = count r old := by
  rcases ix_cons c r old h with ⟨h1, h2⟩ | ⟨i, h1, h2⟩
  · rw [count_miss h1, count_miss h2]
  · rw [count_hit ho h1, count_hit ho h2]
    have : (c :: r).drop (i + 1 + old.length) = r.drop (i + old.length) := by
      rw [show i + 1 + old.length = (i + old.length) + 1 by omega, List.drop_succ_cons]
    rw [this]
/-- ReplaceAll byte by byte. -/
theorem ra_def (s old new : List UInt8) (h : (old == new) = false) : replaceAll s old new = replaceK old new (count s old) s := by
  unfold replaceAll replace replaceNum
  rw [h]; simp
theorem ra_nil (old new : List UInt8) (h : (old == new) = false) (ho : old ≠ []) : replaceAll [] old new = [] := by
  rw [ra_def _ _ _ h]
  have : index [] old = -1 := by unfold index; cases old with | nil => exact absurd rfl ho | cons c r => rfl
  rw [count_miss this]; rfl
theorem ra_hit (s old new : List UInt8) (h : (old == new) = false) (hs : s ≠ []) (ho : old ≠ []) (hp : old.isPrefixOf s = true) : replaceAll s old new = new ++ replaceAll (s.drop old.length) old new := by
  rw [ra_def _ _ _ h, ra_def _ _ _ h, ct_hit s old hs ho hp, Nat.add_comm, replaceK_hit old new _ s 0 (ix_zero s old hs hp)]
  simp
theorem ra_cons (c : UInt8) (r old new : List UInt8) (h : (old == new) = false) (ho : old ≠ []) (hp : old.isPrefixOf (c :: r) = false) : replaceAll (c :: r) old new = c :: replaceAll r old new := by
  rw [ra_def _ _ _ h, ra_def _ _ _ h, ct_cons c r old ho hp]
  rcases ix_cons c r old hp with ⟨h1, h2⟩ | ⟨i, h1, h2⟩
  · rw [count_miss h2]; rfl
  · rw [count_hit ho h1, Nat.add_comm, replaceK_hit old new _ _ _ h1, replaceK_hit old new _ _ _ h2]
    have : (c :: r).drop (i + 1 + old.length) = r.drop (i + old.length) := by
      rw [show i + 1 + old.length = (i + old.length) + 1 by omega, List.drop_succ_cons]
    rw [this]; simp
/-- Split at line feeds. -/
theorem sp_hit (r : List UInt8) : split (10 :: r) [10] = [] :: split r [10] := by
  unfold split
  have hp : [(10 : UInt8)].isPrefixOf (10 :: r) = true := by simp [List.isPrefixOf]
  have hi := ix_zero (10 :: r) [10] (by simp) hp
  rw [ct_hit (10 :: r) [10] (by simp) (by simp) hp, Nat.add_comm, splitK, hi]
  simp
theorem sk_zero (s : List UInt8) (h : index s [10] = -1) (k : Nat) : splitK [10] 0 k s = [s] := by
  cases k with
  | zero => rfl
  | succ k => rw [splitK, h]; rfl
theorem sp_cons (c : UInt8) (r : List UInt8) (hc : c.toNat ≠ 10) : split (c :: r) [10] = match split r [10] with | [] => [[c]] | p :: ps => (c :: p) :: ps := by
  unfold split
  have hp : [(10 : UInt8)].isPrefixOf (c :: r) = false := by
    have : (10 : UInt8) ≠ c := fun e => hc (by rw [← e]; rfl)
    simp [List.isPrefixOf, this]
  rw [ct_cons c r [10] (by simp) hp]
  rcases ix_cons c r [10] hp with ⟨h1, h2⟩ | ⟨i, h1, h2⟩
  · rw [count_miss h2]; rfl
  · rw [count_hit (by simp) h1, Nat.add_comm, splitK, splitK, h1, h2]
    have e1 : (((i : Nat) : Int) == -1) = false := beq_eq_false_iff_ne.2 (by omega)
    have e2 : (((i + 1 : Nat) : Int) == -1) = false := beq_eq_false_iff_ne.2 (by omega)
    rw [e1, e2]
    simp
theorem sp_pcs (l : List UInt8) : split l [10] = pcs l := by
  induction l with
  | nil =>
    unfold split
    have : index [] [10] = -1 := rfl
    rw [count_miss this]; rfl
  | cons c r ih =>
    by_cases hc : c.toNat = 10
    · have : c = 10 := UInt8.toNat_inj.1 hc
      subst this
      rw [sp_hit, ih, pcs]; simp
    · rw [sp_cons c r hc, ih, pcs, if_neg hc]
      cases pcs r <;> rfl

/-- Every quotation mark doubled. -/
def dbl : List UInt8 → List UInt8
  | [] => []
  | c :: r => if c.toNat = 34 then 34 :: 34 :: dbl r else c :: dbl r
theorem ra_dbl (l : List UInt8) : replaceAll l [34] [34, 34] = dbl l := by
  induction l with
  | nil => exact ra_nil _ _ rfl (by simp)
  | cons c r ih =>
    by_cases hc : c.toNat = 34
    · have : c = 34 := UInt8.toNat_inj.1 hc
      subst this
      rw [ra_hit _ _ _ rfl (by simp) (by simp) (by simp [List.isPrefixOf]), dbl, if_pos hc]
      simp [ih]
    · have : (34 : UInt8) ≠ c := fun e => hc (by rw [← e]; rfl)
      rw [ra_cons _ _ _ _ rfl (by simp) (by simp [List.isPrefixOf, this]), ih, dbl, if_neg hc]
theorem dbl_length (l : List UInt8) : (dbl l).length ≤ 2 * l.length := by
  induction l with
  | nil => simp [dbl]
  | cons c r ih => rw [dbl]; split <;> simp <;> omega
/-- A quoted string that is closed, its doubled marks made single, is its text. -/
theorem ra_qs : ∀ (n : Nat) (l : List UInt8), l.length ≤ n → (qs l).2.1 = true → replaceAll (l.take ((qs l).1 - 1)) [34, 34] [34] = (qs l).2.2 := by
  intro n
  induction n with
  | zero => intro l h hb; cases l with | nil => simp [qs_nil] at hb | cons c r => simp at h
  | succ n ih =>
    intro l h hb
    cases l with
    | nil => simp [qs_nil] at hb
    | cons c r =>
      by_cases hc : c.toNat = 34
      · cases r with
        | nil => rw [qs_close1 c hc]; exact ra_nil _ _ rfl (by simp)
        | cons d r' =>
          by_cases hd : d.toNat = 34
          · have e1 : c = 34 := UInt8.toNat_inj.1 hc
            have e2 : d = 34 := UInt8.toNat_inj.1 hd
            subst e1 e2
            rw [qs_two _ _ r' hc hd] at hb ⊢
            have h1 := qs_pos r' hb
            have h2 := ih r' (by simp at h; omega) hb
            simp only at hb ⊢
            have e3 : (qs r').1 + 2 - 1 = (qs r').1 - 1 + 1 + 1 := by omega
            rw [e3, List.take_succ_cons, List.take_succ_cons, ra_hit _ _ _ rfl (by simp) (by simp) (by simp [List.isPrefixOf])]
            simp [h2]
          · rw [qs_close2 c d r' hc hd]; exact ra_nil _ _ rfl (by simp)
      · cases hp : prn c
        · rw [qs_bad c r hc hp] at hb; simp at hb
        · rw [qs_one c r hc hp] at hb ⊢
          simp only at hb ⊢
          have h1 := qs_pos r hb
          have h2 := ih r (by simp at h; omega) hb
          have e3 : (qs r).1 + 1 - 1 = (qs r).1 - 1 + 1 := by omega
          have hne : (34 : UInt8) ≠ c := fun e => hc (by rw [← e]; rfl)
          rw [e3, List.take_succ_cons, ra_cons _ _ _ _ rfl (by simp) (by simp [List.isPrefixOf, hne]), h2]
end Go.Proofs.YtjdldofgkhibnaaGreatDoor
