/- Plain words: the text of a wide number is the numeral of its value, as a list of bytes. -/
import Derived.Test.YtgdpeajompccnaaWideT
import Derived.Test.YtgdpeajompccnaaNumX
set_option linter.unusedSimpArgs false
set_option linter.unusedVariables false
namespace Go.Proofs.Ytgdpeajompccnaa
open Go.RowKit

/-- A string of a list of bytes. -/
def str (l : List UInt8) : ByteArray := ⟨l.toArray⟩
abbrev S (l : List UInt8) : Value := .string (str l)
theorem str_size (l : List UInt8) : (str l).size = l.length := by simp [str, ByteArray.size]
theorem str_list (l : List UInt8) : (str l).data.toList = l := by simp [str]
theorem str_of (s : ByteArray) : str s.data.toList = s := by simp [str]
theorem str_toList (l : List UInt8) : (str l).toList = l := by rw [ByteArray.toList_eq, str_list]
theorem str_get (l : List UInt8) (k : Nat) (h : k < (str l).size) (h' : k < l.length) : (str l)[k]'h = l[k]'h' := by
  show (str l).data[k]'h = l[k]'h'
  simp [str]
theorem str_app (a b : List UInt8) : str a ++ str b = str (a ++ b) := by
  apply ByteArray.ext
  apply Array.toList_inj.1
  rw [ByteArray.data_append, Array.toList_append, str_list, str_list, str_list]
theorem str_beq (a b : List UInt8) : ((str a).toList == (str b).toList) = (a == b) := by rw [str_toList, str_toList]

def toB (i : Int) : UInt8 := UInt8.ofNat i.toNat
theorem nums_map (l : List Int) : strOfNums l = str (l.map toB) := rfl
theorem toB_dig (n : Nat) : toB (48 + (n : Int)) = UInt8.ofNat (48 + n) := by
  unfold toB
  have : (48 + (n : Int)).toNat = 48 + n := by omega
  rw [this]
theorem dgs_dec : ∀ (f n : Nat), n < 10 ^ (f + 1) → (dgs (f + 1) n).map toB = Lib.decDigits n := by
  intro f
  induction f with
  | zero =>
    intro n h
    have h10 : n < 10 := by omega
    rw [dgs_last 0 n h10, Lib.decDigits_one h10]
    simp [toB_dig]
  | succ f ih =>
    intro n h
    by_cases h10 : n < 10
    · rw [dgs_last _ n h10, Lib.decDigits_one h10]
      simp [toB_dig]
    · have e : Lib.decDigits n = Lib.decDigits (n / 10) ++ [UInt8.ofNat (48 + n % 10)] := by rw [Lib.decDigits, dif_neg h10]
      have h2 : 10 ^ (f + 1 + 1) = 10 ^ (f + 1) * 10 := Nat.pow_succ 10 (f + 1)
      rw [dgs_more _ n h10, List.map_append, ih (n / 10) (by omega), e, List.map_cons, List.map_nil, toB_dig]
theorem txtN_dec (m : Int) (h : m < 1000000000000000000000000000000000000000) : (txtN m).map toB = Lib.decDigits m.toNat := by
  unfold txtN
  have h2 : (10 : Nat) ^ (38 + 1) = 1000000000000000000000000000000000000000 := by decide
  exact dgs_dec 38 m.toNat (by rw [h2]; omega)
theorem txt_itoa (a : Int) (ha : fits a) : strOfNums (txt a) = str (Lib.itoa a) := by
  rw [nums_map]
  congr 1
  unfold fits lo127 hi127 at ha
  unfold txt
  by_cases h : a < 0
  · obtain ⟨u, rfl, hu⟩ : ∃ u : Nat, a = -(u : Int) ∧ 1 ≤ u := ⟨a.natAbs, by omega, by omega⟩
    have hs : size (-(u : Int)) = (u : Int) := by unfold size; rw [if_pos h]; omega
    rw [if_pos h, hs, Lib.itoa_neg u hu, List.map_cons, txtN_dec _ (by omega)]
    rfl
  · obtain ⟨u, rfl⟩ : ∃ u : Nat, a = (u : Int) := ⟨a.toNat, by omega⟩
    have hs : size (u : Int) = (u : Int) := by unfold size; rw [if_neg h]
    rw [if_neg h, hs, Lib.itoa_nonneg, txtN_dec _ (by omega)]
    rfl
theorem ptext_any (a : Int) (w : World) (ha : fits a) :
    Calls Try.prog 32 #[W a] w fun e w' => e = .returned (S (Lib.itoa a)) ∧ Below w.heap.size w w' := by
  have h := text_any a w ha
  rw [txt_itoa a ha] at h
  exact h
/-- The numeral of a wide number has at most 40 bytes. -/
theorem dec_len_le : ∀ (k u : Nat), u < 10 ^ (k + 1) → (Lib.decDigits u).length ≤ k + 1 := by
  intro k
  induction k with
  | zero => intro u h; rw [Lib.decDigits_one (by omega)]; simp
  | succ k ih =>
    intro u h
    by_cases hu : u < 10
    · rw [Lib.decDigits_one hu]; simp
    · have e : Lib.decDigits u = Lib.decDigits (u / 10) ++ [UInt8.ofNat (48 + u % 10)] := by rw [Lib.decDigits, dif_neg hu]
      have h2 : 10 ^ (k + 1 + 1) = 10 ^ (k + 1) * 10 := Nat.pow_succ 10 (k + 1)
      have := ih (u / 10) (by omega)
      rw [e, List.length_append]; simp; omega
theorem body_itoa (n : Int) : body (Lib.itoa n) = Lib.decDigits n.natAbs := by
  rcases Int.lt_or_le n 0 with hn | hn
  · obtain ⟨u, rfl, hu⟩ : ∃ u : Nat, n = -(u : Int) ∧ 1 ≤ u := ⟨n.natAbs, by omega, by omega⟩
    rw [Lib.itoa_neg u hu]
    have em : minus (45 :: Lib.decDigits u) = true := rfl
    unfold body; rw [if_pos em]; simp
  · obtain ⟨u, rfl⟩ : ∃ u : Nat, n = (u : Int) := ⟨n.toNat, by omega⟩
    rw [Lib.itoa_nonneg]
    have em := dig_no_minus (dec_all u).1
    unfold body; rw [em]; simp
theorem body_len (a : Int) (ha : fits a) : (body (Lib.itoa a)).length ≤ 39 := by
  rw [body_itoa]
  have h2 : (10 : Nat) ^ (38 + 1) = 1000000000000000000000000000000000000000 := by decide
  unfold fits lo127 hi127 at ha
  exact dec_len_le 38 _ (by rw [h2]; omega)
theorem len_body (l : List UInt8) : l.length ≤ (body l).length + 1 := by
  unfold body
  split
  · cases l <;> simp
  · omega
end Go.Proofs.Ytgdpeajompccnaa
