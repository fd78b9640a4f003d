/- Contract of the reference's Number: the numeral of the number. -/
import Derived.Test.YtjnaficgcellkaaDoorEnv
import Derived.Laws.BytesArg
set_option linter.unusedSimpArgs false
set_option linter.unusedVariables false
namespace Go.Proofs.YtjnaficgcellkaaDoor
open Go.RowKit

theorem conv_one (w : World) (c : Int) : (convert 48 9 (.slice (some ⟨w.heap.size, 0, none⟩) 1 1)).run Tryd.prog (w.alloc (Obj.cells #[.int .u8 c] 5)) = .ok (.string (strOfNums [c])) (w.alloc (Obj.cells #[.int .u8 c] 5)) := by
  refine run_convert_bytes_arg _ 48 5 Tryd.underlying48 Tryd.underlying5 w.heap.size 0 1 1 [c] rfl (fun i hi => ?_) 9 Tryd.underlying9
  obtain rfl : i = 0 := by omega
  simp [go_sem]

theorem str_cons (l : List UInt8) : (⟨#[45]⟩ : ByteArray) ++ str l = str (45 :: l) := by
  apply ByteArray.ext
  apply Array.toList_inj.1
  rw [ByteArray.data_append, Array.toList_append, str_list, str_list]
  rfl
theorem nums_one (u : Nat) : strOfNums [48 + ((u % 10 : Nat) : Int)] = str [UInt8.ofNat (48 + u % 10)] := by
  unfold strOfNums str
  have : (48 + ((u % 10 : Nat) : Int)).toNat = 48 + u % 10 := by omega
  simp only [List.map_cons, List.map_nil]
  rw [this]
theorem dec_len (u : Nat) (h : u ≤ 9223372036854775807) : (str (Lib.decDigits u)).size ≤ 30 := by
  rw [str_size, ← Lib.itoa_nonneg]
  have := Lib.itoa_length_le (u : Int) (by omega) (by omega)
  omega

set_option maxHeartbeats 1000000 in
theorem rnum_pos (u : Nat) : ∀ (w : World), u ≤ 9223372036854775807 →
    Calls Tryd.prog 34 #[.int .i64 (u : Int)] w fun e w' => e = .returned (S (Lib.decDigits u)) ∧ Below w.heap.size w w' := by
  induction u using Nat.strongRecOn with
  | _ u ih =>
    intro w hu
    have k0 : ¬ (u : Int) < 0 := by omega
    have hcv := conv_one w
    have hw : IntKind.u8.wrap (48 + (u : Int) % 10) = 48 + (u : Int) % 10 := by rw [IntKind.wrap_u8]; omega
    have hnum : strOfNums [48 + (u : Int) % 10] = str [UInt8.ofNat (48 + u % 10)] := by rw [← nums_one]; rfl
    by_cases h : u < 10
    · have k1 : ¬ (10 : Int) ≤ (u : Int) := by omega
      have e : Lib.decDigits u = [UInt8.ofNat (48 + u % 10)] := by rw [Lib.decDigits_one h, Nat.mod_eq_of_lt h]
      rw [e]
      clear e ih
      go_enter Tryd.func34, Tryd.ntmps34
      set_option maxRecDepth 20000 in
      go_wp2_with fail
      go_ret
      exact ⟨rfl, by (repeat' (first | (with_reducible exact Below.refl _ _) | (with_reducible refine Below.setCell ?_ ?_ _) | (with_reducible refine Below.alloc ?_ ?_ _) | (with_reducible refine Below.drew ?_) | (with_reducible refine belowN ?_ _) | (with_reducible refine below_step ?_ ?_ (by with_reducible assumption)) | go_size))⟩
    · have k1 : (10 : Int) ≤ (u : Int) := by omega
      have e : Lib.decDigits u = Lib.decDigits (u / 10) ++ [UInt8.ofNat (48 + u % 10)] := by rw [Lib.decDigits, dif_neg h]
      have HI : Hid (∀ w, Calls Tryd.prog 34 #[.int .i64 ((u : Int) / 10)] w fun e w' => e = .returned (S (Lib.decDigits (u / 10))) ∧ Below w.heap.size w w') := Lib.hid (fun w => by
        have := ih (u / 10) (by omega) w (by omega)
        simpa using this)
      have hz := dec_len (u / 10) (by omega)
      have hz2 : (str [UInt8.ofNat (48 + u % 10)]).size ≤ 1 := by rw [str_size]; simp
      have HF : Hid (str (Lib.decDigits (u / 10)) ++ str [UInt8.ofNat (48 + u % 10)] = str (Lib.decDigits u)) := Lib.hid (by rw [e, str_app])
      generalize str [UInt8.ofNat (48 + u % 10)] = t at *
      clear e ih
      go_enter Tryd.func34, Tryd.ntmps34
      set_option maxRecDepth 20000 in
      go_wp2_with (go_at_call 34; ((with_reducible refine (HI.out _).mono ?_); rintro e w1 ⟨rfl, hb1⟩); have hz1 := hb1.size; (try simp only [World.size_alloc, World.size_setCell, World.size_drew, size_drewN'] at hz1))
      go_ret
      exact ⟨by rw [HF.out]; rfl, by (repeat' (first | (with_reducible exact Below.refl _ _) | (with_reducible refine Below.setCell ?_ ?_ _) | (with_reducible refine Below.alloc ?_ ?_ _) | (with_reducible refine Below.drew ?_) | (with_reducible refine belowN ?_ _) | (with_reducible refine below_step ?_ ?_ (by with_reducible assumption)) | go_size))⟩
theorem rnum_any (n : Int) (w : World) (h0 : -9223372036854775807 ≤ n) (h1 : n ≤ 9223372036854775807) :
    Calls Tryd.prog 34 #[.int .i64 n] w fun e w' => e = .returned (S (Lib.itoa n)) ∧ Below w.heap.size w w' := by
  rcases Int.lt_or_le n 0 with hn | hn
  · obtain ⟨u, hu, hu1⟩ : ∃ u : Nat, -n = (u : Int) ∧ 1 ≤ u := ⟨n.natAbs, by omega, by omega⟩
    have HI : Hid (∀ w, Calls Tryd.prog 34 #[.int .i64 (u : Int)] w fun e w' => e = .returned (S (Lib.decDigits u)) ∧ Below w.heap.size w w') := Lib.hid (fun w => rnum_pos u w (by omega))
    have e : Lib.itoa n = 45 :: Lib.decDigits u := by rw [← Lib.itoa_neg u hu1]; congr 1; omega
    have hz := dec_len u (by omega)
    rw [e]
    clear e
    go_enter Tryd.func34, Tryd.ntmps34
    set_option maxRecDepth 20000 in
    go_wp2_with (go_at_call 34; ((with_reducible refine (HI.out _).mono ?_); rintro e w1 ⟨rfl, hb1⟩); have hz1 := hb1.size; (try simp only [World.size_alloc, World.size_setCell, World.size_drew, size_drewN'] at hz1))
    go_ret
    exact ⟨by rw [str_cons]; rfl, by (repeat' (first | (with_reducible exact Below.refl _ _) | (with_reducible refine Below.setCell ?_ ?_ _) | (with_reducible refine Below.alloc ?_ ?_ _) | (with_reducible refine Below.drew ?_) | (with_reducible refine belowN ?_ _) | (with_reducible refine below_step ?_ ?_ (by with_reducible assumption)) | go_size))⟩
  · obtain ⟨u, rfl⟩ : ∃ u : Nat, n = (u : Int) := ⟨n.toNat, by omega⟩
    rw [Lib.itoa_nonneg]
    exact rnum_pos u w (by omega)
end Go.Proofs.YtjnaficgcellkaaDoor
