/- Contracts of the reference's Cut and Read. -/
import Derived.Test.YtaabebmaobdofaaDoorEnvE
set_option linter.unusedSimpArgs false
set_option linter.unusedVariables false
namespace Go.Proofs.YtaabebmaobdofaaDoor
open Go.RowKit

theorem ext_at (A B : List UInt8) (c : UInt8) (k : Nat) (hk : k = A.length) : (str (A ++ c :: B)).extract 0 k = str A := by
  subst hk
  apply ByteArray.ext
  apply Array.toList_inj.1
  rw [ByteArray.data_extract]
  simp [str, Array.toList_extract, List.extract_eq_take_drop]
theorem ext_to (A B : List UInt8) (c : UInt8) (k n : Nat) (hk : k = A.length + 1) (hn : n = (str (A ++ c :: B)).size) : (str (A ++ c :: B)).extract k n = str B := by
  subst hk hn
  apply ByteArray.ext
  apply Array.toList_inj.1
  rw [ByteArray.data_extract]
  simp [str, Array.toList_extract, List.extract_eq_take_drop, ByteArray.size, List.drop_append, List.drop_of_length_le]
  try rw [List.take_of_length_le (by omega)]
theorem parted (c : UInt8) : ∀ l : List UInt8, (∃ A B, l = A ++ c :: B ∧ ∀ x ∈ A, x ≠ c) ∨ (∀ x ∈ l, x ≠ c) := by
  intro l
  induction l with
  | nil => right; intro x hx; cases hx
  | cons a r ih =>
    by_cases h : a = c
    · left; exact ⟨[], r, by rw [h]; rfl, fun x hx => by cases hx⟩
    · rcases ih with ⟨A, B, e, hA⟩ | hn
      · left; exact ⟨a :: A, B, by rw [e]; rfl, fun x hx => by
          rcases List.mem_cons.1 hx with rfl | hx
          · exact h
          · exact hA x hx⟩
      · right; intro x hx
        rcases List.mem_cons.1 hx with rfl | hx
        · exact h
        · exact hn x hx
theorem nat_ne {x c : UInt8} (h : x ≠ c) : ((x.toNat : Int) == (c.toNat : Int)) = false := by
  have : x.toNat ≠ c.toNat := fun e => h (UInt8.toNat_inj.1 e)
  simp; omega

set_option maxHeartbeats 1000000 in
theorem rcut_at (A B : List UInt8) (w : World) (hl : (A ++ 47 :: B).length ≤ 4611686018427387904) (hA : ∀ x ∈ A, x ≠ 47) :
    Calls Tryd.prog 57 #[S (A ++ 47 :: B), .int .u8 47] w fun e w' => e = .returned (.tuple #[S A, S B, .bool true]) ∧ Below w.heap.size w w' := by
  have z := str_size (A ++ 47 :: B)
  have hz : (str (A ++ 47 :: B)).size ≤ 4611686018427387904 := by omega
  have hAl : A.length < (str (A ++ 47 :: B)).size := by rw [z]; simp
  have HG : Hid (∀ (k : Nat) (h : k < (str (A ++ 47 :: B)).size), k < A.length → (((((str (A ++ 47 :: B))[k]'h).toNat : Int)) == 47) = false) := Lib.hid (fun k h hk => by
    rw [str_get _ k h (by omega), List.getElem_append_left hk]
    exact nat_ne (hA _ (List.getElem_mem hk)))
  have HE : Hid (∀ (h : A.length < (str (A ++ 47 :: B)).size), ((str (A ++ 47 :: B))[A.length]'h).toNat = 47) := Lib.hid (fun h => by
    rw [str_get _ _ h (by omega)]; simp)
  have HX : Hid (∀ k, k = A.length → (str (A ++ 47 :: B)).extract 0 k = str A) := Lib.hid (fun k h => ext_at A B 47 k h)
  have HY : Hid (∀ k n, k = A.length + 1 → n = (str (A ++ 47 :: B)).size → (str (A ++ 47 :: B)).extract k n = str B) := Lib.hid (fun k n h h2 => ext_to A B 47 k n h h2)
  unfold S
  generalize str (A ++ 47 :: B) = t at *
  clear hA z hl
  generalize A.length = a at *
  go_enter Tryd.func57, Tryd.ntmps57
  go_wp2
  go_loop [7] (fun i => ∃ k : Nat, k ≤ a ∧ i = .int .i64 k) (fun i => a - (intOf i).toNat)
  case atStart => exact ⟨0, Nat.zero_le _, rfl⟩
  case round =>
    obtain ⟨k, hk, rfl⟩ := hrel
    have hlt : k < t.size := by omega
    by_cases hka : k < a
    · have hne := HG.out k hlt hka
      go_wp2
      go_round
      case rel => exact ⟨k + 1, by omega, by go_num⟩
      case measure => simp [intOf]; omega
    · obtain rfl : k = a := by omega
      have heq : ((t[k]'hlt).toNat : Int) = 47 := by rw [HE.out hlt]; rfl
      go_wp2
      go_quiet (fail)
      go_wp2
      go_returns
      exact ⟨by rw [HX.out k rfl, HY.out _ _ rfl rfl]; rfl, by (repeat' (first | (with_reducible exact Below.refl _ _) | (with_reducible refine Below.setCell ?_ ?_ _) | (with_reducible refine Below.alloc ?_ ?_ _) | (with_reducible refine Below.drew ?_) | (with_reducible refine belowN ?_ _) | (with_reducible refine below_step ?_ ?_ (by with_reducible assumption)) | go_size))⟩

set_option maxHeartbeats 1000000 in
theorem rcut_no (l : List UInt8) (w : World) (hl : l.length ≤ 4611686018427387904) (hA : ∀ x ∈ l, x ≠ 47) :
    Calls Tryd.prog 57 #[S l, .int .u8 47] w fun e w' => e = .returned (.tuple #[S l, S [], .bool false]) ∧ Below w.heap.size w w' := by
  have z := str_size l
  have hz : (str l).size ≤ 4611686018427387904 := by omega
  have HG : Hid (∀ (k : Nat) (h : k < (str l).size), (((((str l)[k]'h).toNat : Int)) == 47) = false) := Lib.hid (fun k h => by
    rw [str_get _ k h (by omega)]
    exact nat_ne (hA _ (List.getElem_mem (by omega))))
  clear hA z hl
  unfold S
  generalize str l = t at *
  go_enter Tryd.func57, Tryd.ntmps57
  go_wp2
  go_loop [7] (fun i => ∃ k : Nat, k ≤ t.size ∧ i = .int .i64 k) (fun i => t.size - (intOf i).toNat)
  case atStart => exact ⟨0, Nat.zero_le _, rfl⟩
  case round =>
    obtain ⟨k, hk, rfl⟩ := hrel
    by_cases hlt : k < t.size
    · have hne := HG.out k hlt
      go_wp2
      go_round
      case rel => exact ⟨k + 1, by omega, by go_num⟩
      case measure => simp [intOf]; omega
    · go_wp2
      go_returns
      exact ⟨rfl, by (repeat' (first | (with_reducible exact Below.refl _ _) | (with_reducible refine Below.setCell ?_ ?_ _) | (with_reducible refine Below.alloc ?_ ?_ _) | (with_reducible refine Below.drew ?_) | (with_reducible refine belowN ?_ _) | (with_reducible refine below_step ?_ ?_ (by with_reducible assumption)) | go_size))⟩
end Go.Proofs.YtaabebmaobdofaaDoor
