/- The product of two numbers of four parts of 32 bits, part by part: what each round keeps. -/
import Derived.Test.YtokifmeelgbkiaaDoorWideS
set_option linter.unusedSimpArgs false
set_option linter.unusedVariables false
namespace Go.Proofs.YtokifmeelgbkiaaDoor
open Go.RowKit

def VV (o : Nat → Int) : Int := o 0 + o 1 * 4294967296 + o 2 * 18446744073709551616 + o 3 * 79228162514264337593543950336 + o 4 * 340282366920938463463374607431768211456 + o 5 * 1461501637330902918203684832716283019655932542976 + o 6 * 6277101735386680763835789423207666416102355444464034512896 + o 7 * 26959946667150639794667015087019630673637144422540572481103610249216
def pw : Nat → Int
  | 0 => 1 | 1 => 4294967296 | 2 => 18446744073709551616 | 3 => 79228162514264337593543950336 | 4 => 340282366920938463463374607431768211456 | 5 => 1461501637330902918203684832716283019655932542976 | 6 => 6277101735386680763835789423207666416102355444464034512896 | 7 => 26959946667150639794667015087019630673637144422540572481103610249216 | _ => 0
def upd (o : Nat → Int) (m : Nat) (v : Int) : Nat → Int := fun j => if j = m then v else o j
def rowS (a b : Nat → Int) (i : Nat) : Nat → Int
  | 0 => 0
  | k + 1 => rowS a b i k + a i * b k * pw (i + k)
def TT (a b : Nat → Int) : Nat → Int
  | 0 => 0
  | i + 1 => TT a b i + rowS a b i 4
def U32 (x : Int) : Prop := 0 ≤ x ∧ x < 4294967296
def Inv (a b : Nat → Int) (i k : Nat) (c : Int) (o : Nat → Int) : Prop :=
  U32 c ∧ (∀ j, j < 8 → U32 (o j)) ∧ (∀ j, i + 4 ≤ j → j < 8 → o j = 0) ∧ VV o + c * pw (i + k) = TT a b i + rowS a b i k

theorem VV_upd (o : Nat → Int) (m : Nat) (v : Int) (hm : m < 8) : VV (upd o m v) = VV o + (v - o m) * pw m := by
  rcases (show m = 0 ∨ m = 1 ∨ m = 2 ∨ m = 3 ∨ m = 4 ∨ m = 5 ∨ m = 6 ∨ m = 7 by omega) with rfl | rfl | rfl | rfl | rfl | rfl | rfl | rfl <;> simp [VV, upd, pw] <;> omega
theorem inv_start (a b : Nat → Int) : Inv a b 0 0 0 (fun _ => 0) := by
  refine ⟨by unfold U32; omega, fun j _ => by simp [U32], fun j _ _ => rfl, by simp [VV, TT, rowS]⟩
theorem prod_le (p q : Int) (hp : U32 p) (hq : U32 q) : 0 ≤ p * q ∧ p * q ≤ 18446744065119617025 := by
  unfold U32 at *
  refine ⟨Int.mul_nonneg hp.1 hq.1, ?_⟩
  have h1 : p * q ≤ 4294967295 * q := Int.mul_le_mul_of_nonneg_right (by omega) hq.1
  omega
theorem inv_step {a b : Nat → Int} {i k : Nat} {c : Int} {o : Nat → Int} (h : Inv a b i k c o) (hi : i < 4) (hk : k < 4) (ha : U32 (a i)) (hb : U32 (b k)) :
    Inv a b i (k + 1) ((a i * b k + o (i + k) + c) / 4294967296) (upd o (i + k) ((a i * b k + o (i + k) + c) % 4294967296)) := by
  obtain ⟨hc, ho, hz, hv⟩ := h
  obtain ⟨q0, q1⟩ := prod_le _ _ ha hb
  have hm := ho (i + k) (by omega)
  unfold U32 at hc hm
  refine ⟨by unfold U32; omega, fun j hj => ?_, fun j h1 h2 => ?_, ?_⟩
  · unfold upd; split
    · unfold U32; omega
    · exact ho j hj
  · unfold upd; rw [if_neg (by omega)]; exact hz j h1 h2
  · rw [VV_upd _ _ _ (by omega)]
    show _ = TT a b i + (rowS a b i k + a i * b k * pw (i + k))
    generalize TT a b i = T at *
    generalize rowS a b i k = R at *
    generalize VV o = V at *
    generalize a i * b k = P at *
    rw [show i + (k + 1) = i + k + 1 by omega]
    generalize o (i + k) = O at *
    have hlt : i + k < 7 := by omega
    generalize i + k = m at *
    rcases (show m = 0 ∨ m = 1 ∨ m = 2 ∨ m = 3 ∨ m = 4 ∨ m = 5 ∨ m = 6 by omega) with rfl | rfl | rfl | rfl | rfl | rfl | rfl <;> simp only [pw] at * <;> omega
theorem inv_out {a b : Nat → Int} {i : Nat} {c : Int} {o : Nat → Int} (h : Inv a b i 4 c o) (hi : i < 4) : Inv a b (i + 1) 0 0 (upd o (i + 4) c) := by
  obtain ⟨hc, ho, hz, hv⟩ := h
  refine ⟨by unfold U32; omega, fun j hj => ?_, fun j h1 h2 => ?_, ?_⟩
  · unfold upd; split
    · exact hc
    · exact ho j hj
  · unfold upd; rw [if_neg (by omega)]; exact hz j (by omega) h2
  · rw [VV_upd _ _ _ (by omega), hz (i + 4) (by omega) (by omega)]
    show _ = (TT a b i + rowS a b i 4) + 0
    rw [Int.sub_zero, Int.zero_mul]
    omega
theorem TT_mul (a b : Nat → Int) : TT a b 4 = (a 0 + a 1 * 4294967296 + a 2 * 18446744073709551616 + a 3 * 79228162514264337593543950336) * (b 0 + b 1 * 4294967296 + b 2 * 18446744073709551616 + b 3 * 79228162514264337593543950336) := by
  obtain ⟨y, hy⟩ : ∃ y, y = b 0 + b 1 * 4294967296 + b 2 * 18446744073709551616 + b 3 * 79228162514264337593543950336 := ⟨_, rfl⟩
  have e : ∀ i, a i * y = a i * b 0 + a i * b 1 * 4294967296 + a i * b 2 * 18446744073709551616 + a i * b 3 * 79228162514264337593543950336 := fun i => by
    rw [hy, Int.mul_add, Int.mul_add, Int.mul_add, ← Int.mul_assoc, ← Int.mul_assoc, ← Int.mul_assoc]
  rw [← hy, Int.add_mul, Int.add_mul, Int.add_mul, Int.mul_right_comm (a 1), Int.mul_right_comm (a 2), Int.mul_right_comm (a 3), e 0, e 1, e 2, e 3]
  simp only [TT, rowS, pw]
  omega
theorem inv_end {x y : Int} {a b o : Nat → Int} (h : Inv a b 4 0 0 o) (hx : a 0 + a 1 * 4294967296 + a 2 * 18446744073709551616 + a 3 * 79228162514264337593543950336 = x) (hy : b 0 + b 1 * 4294967296 + b 2 * 18446744073709551616 + b 3 * 79228162514264337593543950336 = y) :
    o 0 = l0 (x * y) ∧ o 1 = l1 (x * y) ∧ o 2 = l2 (x * y) ∧ o 3 = l3 (x * y) ∧ ((o 4 == 0 && (o 5 == 0 && (o 6 == 0 && o 7 == 0))) = decide (x * y < 340282366920938463463374607431768211456)) := by
  obtain ⟨_, ho, _, hv⟩ := h
  rw [TT_mul, hx, hy] at hv
  simp only [rowS, pw, VV, Nat.add_zero] at hv
  generalize x * y = X at *
  have h0 := ho 0 (by omega); have h1 := ho 1 (by omega); have h2 := ho 2 (by omega); have h3 := ho 3 (by omega)
  have h4 := ho 4 (by omega); have h5 := ho 5 (by omega); have h6 := ho 6 (by omega); have h7 := ho 7 (by omega)
  clear ho
  unfold U32 at *
  generalize o 0 = o0 at *; generalize o 1 = o1 at *; generalize o 2 = o2 at *; generalize o 3 = o3 at *
  generalize o 4 = o4 at *; generalize o 5 = o5 at *; generalize o 6 = o6 at *; generalize o 7 = o7 at *
  unfold l0 l1 l2 l3
  refine ⟨by omega, by omega, by omega, by omega, ?_⟩
  rw [Bool.eq_iff_iff]
  simp only [Bool.and_eq_true, beq_iff_eq, decide_eq_true_eq]
  omega
end Go.Proofs.YtokifmeelgbkiaaDoor
