/- Plain words: the numeral of a number is a decimal and spells the number; a text is cut at its first byte of a kind. -/
import Derived.Test.YtjnaficgcellkaaDoorNum
import Derived.Lib.ItoaNum
import Derived.Lib.ItoaMem
import Derived.Lib.IndexBytes
import Derived.Lib.IndexMore
set_option linter.unusedSimpArgs false
set_option linter.unusedVariables false
namespace Go.Proofs.YtjnaficgcellkaaDoor
open Go.RowKit

theorem digF_snoc (c : UInt8) (l : List UInt8) : ∀ acc, digF acc (l ++ [c]) = digF acc l * 10 + (c.toNat - 48) := by
  induction l with
  | nil => intro acc; rfl
  | cons d r ih => intro acc; exact ih _
theorem ofNat_dig {x : Nat} (h : x < 10) : (UInt8.ofNat (48 + x)).toNat = 48 + x := by
  rw [UInt8.toNat_ofNat']; omega
/-- All that is asked of the digits of a number. -/
theorem dec_all (u : Nat) : (Lib.decDigits u).all isDig = true ∧ digF 0 (Lib.decDigits u) = u ∧ Lib.decDigits u ≠ [] ∧ (1 ≤ u → ((Lib.decDigits u).headD 0).toNat ≠ 48) := by
  induction u using Nat.strongRecOn with
  | _ u ih =>
    by_cases h : u < 10
    · rw [Lib.decDigits_one h]
      have hd := ofNat_dig h
      refine ⟨?_, ?_, by simp, ?_⟩
      · simp only [List.all_cons, List.all_nil, Bool.and_true]
        rw [isDig_iff, hd]; omega
      · show 0 * 10 + ((UInt8.ofNat (48 + u)).toNat - 48) = u
        rw [hd]; omega
      · intro hu
        show (UInt8.ofNat (48 + u)).toNat ≠ 48
        rw [hd]; omega
    · have e : Lib.decDigits u = Lib.decDigits (u / 10) ++ [UInt8.ofNat (48 + u % 10)] := by rw [Lib.decDigits, dif_neg h]
      obtain ⟨i1, i2, i3, i4⟩ := ih (u / 10) (by omega)
      have hd := ofNat_dig (show u % 10 < 10 by omega)
      rw [e]
      refine ⟨?_, ?_, by simp, ?_⟩
      · rw [List.all_append, i1]
        simp only [List.all_cons, List.all_nil, Bool.and_true, Bool.true_and]
        rw [isDig_iff, hd]; omega
      · rw [digF_snoc, i2, hd]; omega
      · intro _
        have : (Lib.decDigits (u / 10) ++ [UInt8.ofNat (48 + u % 10)]).headD 0 = (Lib.decDigits (u / 10)).headD 0 := by
          cases hc : Lib.decDigits (u / 10) with
          | nil => exact absurd hc i3
          | cons c r => rfl
        rw [this]; exact i4 (by omega)
theorem dig_no_minus {l : List UInt8} (h : l.all isDig = true) : minus l = false := by
  cases l with
  | nil => rfl
  | cons c r =>
    simp only [List.all_cons, Bool.and_eq_true, isDig_iff] at h
    simp [minus]; omega
theorem itoa_dec (n : Int) : decimalB (Lib.itoa n) = true ∧ valI (Lib.itoa n) = n := by
  rcases Int.lt_or_le n 0 with hn | hn
  · obtain ⟨u, rfl, hu⟩ : ∃ u : Nat, n = -(u : Int) ∧ 1 ≤ u := ⟨n.natAbs, by omega, by omega⟩
    rw [Lib.itoa_neg u hu]
    obtain ⟨i1, i2, i3, i4⟩ := dec_all u
    have em : minus (45 :: Lib.decDigits u) = true := rfl
    have eb : body (45 :: Lib.decDigits u) = Lib.decDigits u := by unfold body; rw [if_pos em]; rfl
    constructor
    · unfold decimalB
      rw [eb, i1]
      have : (Lib.decDigits u).isEmpty = false := by simpa using i3
      rw [this, bne_iff_ne.2 (i4 hu)]; rfl
    · unfold valI; rw [if_pos em, eb, i2]
  · obtain ⟨u, rfl⟩ : ∃ u : Nat, n = (u : Int) := ⟨n.toNat, by omega⟩
    rw [Lib.itoa_nonneg]
    obtain ⟨i1, i2, i3, i4⟩ := dec_all u
    have em := dig_no_minus i1
    have eb : body (Lib.decDigits u) = Lib.decDigits u := by unfold body; rw [em]; rfl
    constructor
    · unfold decimalB
      rw [eb, i1]
      have : (Lib.decDigits u).isEmpty = false := by simpa using i3
      rw [this]
      by_cases hu : 1 ≤ u
      · rw [bne_iff_ne.2 (i4 hu)]; rfl
      · obtain rfl : u = 0 := by omega
        have : Lib.decDigits 0 = [48] := by rw [Lib.decDigits_one (by omega)]; rfl
        rw [this]; rfl
    · unfold valI; rw [em, eb, i2]; rfl
theorem itoa_no (n : Int) (c : UInt8) (hc : isDig c = false) (hm : c.toNat ≠ 45) : ∀ x ∈ Lib.itoa n, x ≠ c := by
  have hd : ∀ u, ∀ x ∈ Lib.decDigits u, x ≠ c := fun u x hx e => by
    have := List.all_eq_true.1 (dec_all u).1 x hx
    rw [e, hc] at this; cases this
  intro x hx
  unfold Lib.itoa at hx
  split at hx
  · rcases List.mem_cons.1 hx with rfl | hx
    · intro e; apply hm; rw [← e]; rfl
    · exact hd _ x hx
  · exact hd _ x hx
theorem numE_itoa {n lo hi : Int} (h64 : I64 n) (h0 : lo ≤ n) (h1 : n ≤ hi) : numE (Lib.itoa n) lo hi = 0 := by
  obtain ⟨d, v⟩ := itoa_dec n
  unfold I64 at h64
  unfold numE
  rw [if_pos d, v, if_pos (by simp [in64B]; omega)]
theorem numV_itoa {n lo hi : Int} (h64 : I64 n) (h0 : lo ≤ n) (h1 : n ≤ hi) : numV (Lib.itoa n) lo hi = n := by
  unfold numV; rw [if_pos (numE_itoa h64 h0 h1)]; exact (itoa_dec n).2

theorem indexByte_at (c : UInt8) (B : List UInt8) : ∀ A : List UInt8, (∀ x ∈ A, x ≠ c) → Lib.indexByte (A ++ c :: B) c = (A.length : Int) := by
  intro A
  induction A with
  | nil => intro _; simp [Lib.indexByte]
  | cons a r ih =>
    intro h
    have h1 : a ≠ c := h a (by simp)
    have h2 := ih (fun x hx => h x (by simp [hx]))
    show (if a == c then (0 : Int) else if Lib.indexByte (r ++ c :: B) c == -1 then -1 else Lib.indexByte (r ++ c :: B) c + 1) = _
    rw [if_neg (by simpa using h1), h2, if_neg (by simp), List.length_cons]
    omega
theorem cut_at (c : UInt8) (A B : List UInt8) (h : ∀ x ∈ A, x ≠ c) : Lib.cut (A ++ c :: B) [c] = (A, B, true) := by
  unfold Lib.cut
  rw [Lib.index_one, indexByte_at c B A h, if_pos (by omega)]
  simp
theorem indexByte_no (c : UInt8) : ∀ A : List UInt8, (∀ x ∈ A, x ≠ c) → Lib.indexByte A c = -1 := by
  intro A
  induction A with
  | nil => intro _; rfl
  | cons a r ih =>
    intro h
    have h1 : a ≠ c := h a (by simp)
    have h2 := ih (fun x hx => h x (by simp [hx]))
    show (if a == c then (0 : Int) else if Lib.indexByte r c == -1 then -1 else Lib.indexByte r c + 1) = _
    rw [if_neg (by simpa using h1), h2]; rfl
theorem cut_no (c : UInt8) (A : List UInt8) (h : ∀ x ∈ A, x ≠ c) : Lib.cut A [c] = (A, [], false) := by
  unfold Lib.cut
  rw [Lib.index_one, indexByte_no c A h]; rfl
end Go.Proofs.YtjnaficgcellkaaDoor
