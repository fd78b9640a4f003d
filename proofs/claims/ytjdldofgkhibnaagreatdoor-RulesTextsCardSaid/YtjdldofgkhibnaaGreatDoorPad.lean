/- Contracts of the reference's Padded (at width 1) and Decimal. (The part of XTxO that names no word of overs.) -/
import Derived.Test.YtjdldofgkhibnaaGreatDoorTxC
import Derived.Test.YtjdldofgkhibnaaGreatDoorNum
import Derived.Test.YtjdldofgkhibnaaGreatDoorNumA
set_option linter.unusedSimpArgs false
set_option linter.unusedVariables false
namespace Go.Proofs.YtjdldofgkhibnaaGreatDoor
open Go.RowKit

def tl (U : Nat) : List UInt8 := if U = 0 then [] else Lib.decDigits U
theorem tl_step (U : Nat) (L : List UInt8) (h : 0 < U) : tl (U / 10) ++ (UInt8.ofNat (48 + U % 10) :: L) = tl U ++ L := by
  have e : tl U = Lib.decDigits U := by unfold tl; rw [if_neg (by omega)]
  rw [e]
  by_cases h10 : U < 10
  · have : U / 10 = 0 := by omega
    have e2 : tl (U / 10) = [] := by unfold tl; rw [if_pos this]
    rw [e2, Lib.decDigits_one h10, Nat.mod_eq_of_lt h10]; rfl
  · have e2 : tl (U / 10) = Lib.decDigits (U / 10) := by unfold tl; rw [if_neg (by omega)]
    have e3 : Lib.decDigits U = Lib.decDigits (U / 10) ++ [UInt8.ofNat (48 + U % 10)] := by rw [Lib.decDigits, dif_neg h10]
    rw [e2, e3]; simp
def tensB : ByteArray := ⟨#[48, 49, 50, 51, 52, 53, 54, 55, 56, 57]⟩
theorem tensB_at (d : Nat) (h : d < 10) : tensB.extract d (d + 1) = str [UInt8.ofNat (48 + d)] := by
  have : d = 0 ∨ d = 1 ∨ d = 2 ∨ d = 3 ∨ d = 4 ∨ d = 5 ∨ d = 6 ∨ d = 7 ∨ d = 8 ∨ d = 9 := by omega
  rcases this with rfl | rfl | rfl | rfl | rfl | rfl | rfl | rfl | rfl | rfl <;> rfl
/-- Rounds still to come. -/
def togo (u s : Value) : Nat := (intOf u).toNat + (match s with | .string b => if b.size = 0 then 1 else 0 | _ => 0)
def padI (N : Nat) (U : Nat) (L : List UInt8) : Prop := (L = [] ∧ U = N) ∨ (L ≠ [] ∧ tl U ++ L = Lib.decDigits N)
theorem padI_len {N U : Nat} {L : List UInt8} (hN : N ≤ 1000000) (h : padI N U L) : L.length ≤ 30 := by
  rcases h with ⟨rfl, _⟩ | ⟨_, h⟩
  · simp
  · have h1 := congrArg List.length h
    rw [List.length_append, ← Lib.itoa_nonneg] at h1
    have h2 := Lib.itoa_length_le (N : Int) (by omega) (by omega)
    omega
theorem padI_step {N U : Nat} {L : List UInt8} (h : padI N U L) (hs : 0 < U ∨ L = []) : padI N (U / 10) (UInt8.ofNat (48 + U % 10) :: L) := by
  right
  refine ⟨by simp, ?_⟩
  rcases h with ⟨rfl, rfl⟩ | ⟨h1, h2⟩
  · by_cases hU : 0 < U
    · rw [tl_step U [] hU]; unfold tl; rw [if_neg (by omega)]; simp
    · obtain rfl : U = 0 := by omega
      rw [Lib.decDigits_one (by omega)]; rfl
  · rcases hs with hs | hs
    · rw [tl_step U L hs]; exact h2
    · exact absurd hs h1

set_option maxHeartbeats 1000000 in
theorem padded_1 (N : Nat) (w : World) (hN : N ≤ 1000000) :
    Calls Tryz.prog 58 #[.int .i64 (N : Int), .int .i64 1] w fun e w' => e = .returned (S (Lib.decDigits N)) ∧ Below w.heap.size w w' := by
  have k0 : ¬ (N : Int) < 0 := by omega
  have hw0 : IntKind.u64.wrap (N : Int) = (N : Int) := by rw [IntKind.wrap_u64]; omega
  go_enter Tryz.func58, Tryz.ntmps58
  go_wp2
  go_loop [6, 8] (fun u s => ∃ (U : Nat) (L : List UInt8), U ≤ N ∧ u = .int .u64 (U : Int) ∧ s = .string (str L) ∧ Hid (padI N U L)) (fun u s => togo u s)
  case atStart => exact ⟨N, [], Nat.le_refl _, rfl, rfl, Lib.hid (Or.inl ⟨rfl, rfl⟩)⟩
  case round =>
    obtain ⟨U, L, hU, rfl, rfl, hI⟩ := hrel
    have zL := str_size L
    have lL := padI_len hN hI.out

    have hcs : (0 < U) ∨ (U = 0 ∧ L = []) ∨ (U = 0 ∧ L ≠ []) := by
      by_cases h : L = []
      · rcases Nat.eq_zero_or_pos U with h0 | h0
        · exact Or.inr (Or.inl ⟨h0, h⟩)
        · exact Or.inl h0
      · rcases Nat.eq_zero_or_pos U with h0 | h0
        · exact Or.inr (Or.inr ⟨h0, h⟩)
        · exact Or.inl h0
    rcases hcs with h | ⟨rfl, rfl⟩ | ⟨rfl, h⟩
    · have kU : (0 : Int) < (U : Int) := by omega
      have HS := Lib.hid (padI_step hI.out (Or.inl h))
      have hten : (U : Int) % 10 = 0 ∨ (U : Int) % 10 = 1 ∨ (U : Int) % 10 = 2 ∨ (U : Int) % 10 = 3 ∨ (U : Int) % 10 = 4 ∨ (U : Int) % 10 = 5 ∨ (U : Int) % 10 = 6 ∨ (U : Int) % 10 = 7 ∨ (U : Int) % 10 = 8 ∨ (U : Int) % 10 = 9 := by omega
      rcases hten with hm | hm | hm | hm | hm | hm | hm | hm | hm | hm
      all_goals
        have hmn : Hid (U % 10 = ((U : Int) % 10).toNat) := Lib.hid (by omega)
        rw [hmn.out, hm] at HS
        clear hmn
        go_wp2
        go_round
        case rel => exact ⟨U / 10, _, by omega, by go_num, rfl, HS⟩
        case measure =>
          have hs10 : (⟨#[48, 49, 50, 51, 52, 53, 54, 55, 56, 57]⟩ : ByteArray).size = 10 := rfl
          have hne : ¬ ((⟨#[48, 49, 50, 51, 52, 53, 54, 55, 56, 57]⟩ : ByteArray) = ByteArray.empty) := fun h => by have := congrArg ByteArray.size h; rw [hs10] at this; cases this
          simp [togo, intOf, hs10, hne]
          omega
    · have HS := Lib.hid (padI_step hI.out (Or.inr rfl))
      go_wp2
      go_round
      case rel => exact ⟨0, [48], by omega, by go_num, rfl, HS⟩
      case measure =>
        simp [togo, intOf]
        rw [if_neg (fun h => by have := congrArg ByteArray.size h.1; simp [ByteArray.size] at this), if_pos (show str [] = ByteArray.empty from rfl)]
        omega
    · have HF : Hid ((⟨#[]⟩ : ByteArray) ++ str L = str (Lib.decDigits N)) := Lib.hid (by
        rw [show (⟨#[]⟩ : ByteArray) = str [] from rfl, str_app, List.nil_append]
        rcases hI.out with ⟨h1, _⟩ | ⟨_, h2⟩
        · exact absurd h1 h
        · have : tl 0 = [] := by unfold tl; rw [if_pos rfl]
          rw [this] at h2; rw [← h2]; rfl)
      have kL : ¬ ((L.length : Int) < 1) := by
        have : L.length ≠ 0 := fun h0 => h (List.length_eq_zero_iff.1 h0)
        omega
      go_wp2
      go_ret
      exact ⟨by show Ending.returned (.string ((⟨#[]⟩ : ByteArray) ++ str L)) = _; rw [HF.out], by (repeat' (first | (with_reducible exact Below.refl _ _) | (with_reducible refine Below.setCell ?_ ?_ _) | (with_reducible refine Below.alloc ?_ ?_ _) | (with_reducible refine Below.drew ?_) | (with_reducible refine belowN ?_ _) | (with_reducible refine below_step ?_ ?_ (by with_reducible assumption)) | go_size))⟩
theorem rdecimal_small (n : Int) (w : World) (h0 : 0 ≤ n) (h1 : n ≤ 1000000) :
    Calls Tryz.prog 42 #[.int .i64 n] w fun e w' => e = .returned (S (Lib.itoa n)) ∧ Below w.heap.size w w' := by
  obtain ⟨N, rfl⟩ : ∃ N : Nat, n = (N : Int) := ⟨n.toNat, by omega⟩
  have HP : Hid (∀ w, Calls Tryz.prog 58 #[.int .i64 (N : Int), .int .i64 1] w fun e w' => e = .returned (S (Lib.decDigits N)) ∧ Below w.heap.size w w') := Lib.hid (fun w => padded_1 N w (by omega))
  rw [Lib.itoa_nonneg]
  go_enter Tryz.func42, Tryz.ntmps42
  go_wp2_with (go_at_call 58; ((with_reducible refine (HP.out _).mono ?_); rintro e w1 ⟨rfl, hb1⟩); have hz1 := hb1.size; (try simp only [World.size_alloc, World.size_setCell, World.size_drew, size_drewN'] at hz1))
  go_ret
  exact ⟨rfl, by (repeat' (first | (with_reducible exact Below.refl _ _) | (with_reducible refine Below.setCell ?_ ?_ _) | (with_reducible refine Below.alloc ?_ ?_ _) | (with_reducible refine Below.drew ?_) | (with_reducible refine belowN ?_ _) | (with_reducible refine below_step ?_ ?_ (by with_reducible assumption)) | go_size))⟩
end Go.Proofs.YtjdldofgkhibnaaGreatDoor
