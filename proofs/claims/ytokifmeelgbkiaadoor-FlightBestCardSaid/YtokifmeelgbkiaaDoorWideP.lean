/- The contract of the reference's product of absolute values. -/
import Derived.Test.YtokifmeelgbkiaaDoorTimesMath
import Derived.BigRegion
set_option linter.unusedSimpArgs false
set_option linter.unusedVariables false
namespace Go.Proofs.YtokifmeelgbkiaaDoor
open Go.RowKit

/-- Block b holds n numbers of 64 bits, the j-th of which is f j; and it may be written. -/
def Cel (w : World) (b n : Nat) (f : Nat → Int) : Prop := ∀ j, j < n → w.cell? ⟨b, j, none⟩ = some (.int .u64 (f j)) ∧ w.frozen? ⟨b, j, none⟩ = false
theorem cel_set {w : World} {b n : Nat} {f : Nat → Int} (h : Cel w b n f) (m : Nat) (hm : m < n) (v : Int) : Cel (w.setCell ⟨b, m, none⟩ (.int .u64 v)) b n (upd f m v) := by
  intro j hj
  obtain ⟨h1, h2⟩ := h j hj
  obtain ⟨h3, h4⟩ := h m hm
  by_cases hjm : j = m
  · subst hjm; simp [upd, go_sem, *]
  · simp [upd, go_sem, *]
theorem cel_other {w : World} {b n : Nat} {f : Nat → Int} (h : Cel w b n f) (b' m : Nat) (hb : b ≠ b') (v : Value) : Cel (w.setCell ⟨b', m, none⟩ v) b n f := by
  intro j hj
  obtain ⟨h1, h2⟩ := h j hj
  simp [go_sem, *]
theorem cel_drew {w : World} {b n : Nat} {f : Nat → Int} (h : Cel w b n f) (q : Nat) : Cel (w.drewN q) b n f := by
  intro j hj
  obtain ⟨h1, h2⟩ := h j hj
  simp [go_sem, *]

theorem succ_ne (m : Nat) : (Int.ofNat (m + 1) == 0) = false := rfl
theorem step_val (p q o c : Int) (hp : U32 p) (hq : U32 q) (ho : U32 o) (hc : U32 c) : IntKind.u64.wrap (IntKind.u64.wrap (IntKind.u64.wrap (p * q) + o) + c) = p * q + o + c ∧ bits .and .u64 (p * q + o + c) 4294967295 = (p * q + o + c) % 4294967296 := by
  obtain ⟨q0, q1⟩ := prod_le p q hp hq
  unfold U32 at ho hc
  simp only [IntKind.wrap_u64]
  generalize p * q = r at *
  exact ⟨by omega, and32 _ (by omega) (by omega)⟩

end Go.Proofs.YtokifmeelgbkiaaDoor
