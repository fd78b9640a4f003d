/- Contracts of the reference's small functions on text: white, wordByte, quoted. -/
import Derived.Test.YtjdldofgkhibnaaGreatDoorTxB
set_option linter.unusedSimpArgs false
set_option linter.unusedVariables false
namespace Go.Proofs.YtjdldofgkhibnaaGreatDoor
open Go.RowKit

theorem rword_any (c : UInt8) (w : World) : Calls Tryz.prog 59 #[.int .u8 (c.toNat : Int)] w fun e w' => e = .returned (.bool (wrd c)) ∧ w = w' := by
  have hd : (¬ 32 < c.toNat ∧ wrd c = false) ∨ (32 < c.toNat ∧ ¬ c.toNat < 127 ∧ wrd c = false) ∨ (32 < c.toNat ∧ c.toNat < 127 ∧ c.toNat = 34 ∧ wrd c = false) ∨ (32 < c.toNat ∧ c.toNat < 127 ∧ c.toNat ≠ 34 ∧ c.toNat = 59 ∧ wrd c = false) ∨ (32 < c.toNat ∧ c.toNat < 127 ∧ c.toNat ≠ 34 ∧ c.toNat ≠ 59 ∧ wrd c = true) := by
    unfold wrd
    simp only [decide_eq_true_eq, decide_eq_false_iff_not]
    omega
  rcases hd with ⟨h1, e⟩ | ⟨h1, h2, e⟩ | ⟨h1, h2, h3, e⟩ | ⟨h1, h2, h3, h4, e⟩ | ⟨h1, h2, h3, h4, e⟩
  · rw [e]
    have k1 : ¬ (32 : Int) < (c.toNat : Int) := by omega
    clear h1 e
    go_enter Tryz.func59, Tryz.ntmps59
    go_wp2
    go_ret
    exact ⟨rfl, rfl⟩
  · rw [e]
    have k1 : (32 : Int) < (c.toNat : Int) := by omega
    have k2 : ¬ (c.toNat : Int) < 127 := by omega
    clear h1 h2 e
    go_enter Tryz.func59, Tryz.ntmps59
    go_wp2
    go_ret
    exact ⟨rfl, rfl⟩
  · rw [e]
    have k1 : (32 : Int) < (c.toNat : Int) := by omega
    have k2 : (c.toNat : Int) < 127 := by omega
    have k3 : ((c.toNat : Int) == 34) = true := beq_iff_eq.2 (by omega)
    have k4 : ((c.toNat : Int) != 34) = false := by simp only [bne, k3]; rfl
    clear h1 h2 h3 e
    go_enter Tryz.func59, Tryz.ntmps59
    go_wp2
    go_ret
    exact ⟨rfl, rfl⟩
  · rw [e]
    have k1 : (32 : Int) < (c.toNat : Int) := by omega
    have k2 : (c.toNat : Int) < 127 := by omega
    have k3 : ((c.toNat : Int) == 34) = false := beq_eq_false_iff_ne.2 (by omega)
    have k4 : ((c.toNat : Int) != 34) = true := by simp only [bne, k3]; rfl
    have k5 : ((c.toNat : Int) == 59) = true := beq_iff_eq.2 (by omega)
    have k6 : ((c.toNat : Int) != 59) = false := by simp only [bne, k5]; rfl
    clear h1 h2 h3 h4 e
    go_enter Tryz.func59, Tryz.ntmps59
    go_wp2
    go_ret
    exact ⟨rfl, rfl⟩
  · rw [e]
    have k1 : (32 : Int) < (c.toNat : Int) := by omega
    have k2 : (c.toNat : Int) < 127 := by omega
    have k3 : ((c.toNat : Int) == 34) = false := beq_eq_false_iff_ne.2 (by omega)
    have k4 : ((c.toNat : Int) != 34) = true := by simp only [bne, k3]; rfl
    have k5 : ((c.toNat : Int) == 59) = false := beq_eq_false_iff_ne.2 (by omega)
    have k6 : ((c.toNat : Int) != 59) = true := by simp only [bne, k5]; rfl
    clear h1 h2 h3 h4 e
    go_enter Tryz.func59, Tryz.ntmps59
    go_wp2
    go_ret
    exact ⟨rfl, rfl⟩

theorem ret_sii {s t : ByteArray} {a b c d : Int} (h : s = t) (h2 : a = b) (h3 : c = d) : Ending.returned (.tuple #[.string s, .int .i64 a, .int .i64 c]) = .returned (.tuple #[.string t, .int .i64 b, .int .i64 d]) := by rw [h, h2, h3]
/-- What the reference's quoted answers. -/
def rqT (l : List UInt8) (i : Nat) : List UInt8 := if qB l (i + 1) then qT l (i + 1) else []
def rqN (l : List UInt8) (i : Nat) : Int := if qB l (i + 1) then (qE l (i + 1) : Int) else 0
def rqW (l : List UInt8) (i : Nat) : Int := if qB l (i + 1) then -1 else (qE l (i + 1) : Int)
theorem one_ext (l : List UInt8) (k : Nat) (h : k < l.length) : (str l).extract k (k + 1) = str [l[k]] := by
  rw [str_ext, List.drop_eq_getElem_cons h]
  have : k + 1 - k = 1 := by omega
  rw [this]; rfl
end Go.Proofs.YtjdldofgkhibnaaGreatDoor
