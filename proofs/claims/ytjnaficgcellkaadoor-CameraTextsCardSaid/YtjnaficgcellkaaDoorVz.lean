/- Words that make the walks' texts short: runs of like hints, of trivial parts of a conjunction, of a table's cells. -/
import Derived.Test.YtjnaficgcellkaaDoorVf
set_option linter.unusedSimpArgs false
set_option linter.unusedVariables false
namespace Go.Proofs.YtjnaficgcellkaaDoor
open Go.RowKit

def ho (i n : Nat) (h : Hint) : Hint := Nat.rec (motive := fun _ => Hint) h (fun _ r => .ob i r) n
def hp (n : Nat) (h : Hint) : Hint := Nat.rec (motive := fun _ => Hint) h (fun _ r => .pl (.lit r)) n
def hl (n : Nat) (h : Hint) : Hint := Nat.rec (motive := fun _ => Hint) h (fun _ r => .lit r) n
/-- The cells of a table, one after another. -/
def hx (i : Nat) (C : List Value) (N : Nat) (h : Hint) : Hint := Nat.rec (motive := fun _ => Hint) h (fun m r => .ex i (C.getD (N - (m + 1)) (.bool false)) r) N
def e1 (b n : Nat) (p : Prop) : Prop := Nat.rec (motive := fun _ => Prop) p (fun _ r => b = b ∧ r) n
def e2 (b n : Nat) (p : Prop) : Prop := Nat.rec (motive := fun _ => Prop) p (fun _ r => b = b ∧ True ∧ r) n
def lx (i : Nat) (C : List Value) (N : Nat) (p : Prop) : Prop := Nat.rec (motive := fun _ => Prop) p (fun m r => i = i ∧ lgo C (N - (m + 1)) = some (C.getD (N - (m + 1)) (.bool false)) ∧ r) N
theorem e1_in {b n : Nat} {p : Prop} (h : p) : e1 b n p := by
  induction n with
  | zero => exact h
  | succ n ih => exact ⟨rfl, ih⟩
theorem e2_in {b n : Nat} {p : Prop} (h : p) : e2 b n p := by
  induction n with
  | zero => exact h
  | succ n ih => exact ⟨rfl, trivial, ih⟩
theorem lx_in {i : Nat} {C : List Value} {N : Nat} {p : Prop} (hN : N ≤ C.length) (h : p) : lx i C N p := by
  have : ∀ n, n ≤ N → (Nat.rec (motive := fun _ => Prop) p (fun m r => i = i ∧ lgo C (N - (m + 1)) = some (C.getD (N - (m + 1)) (.bool false)) ∧ r) n : Prop) := by
    intro n
    induction n with
    | zero => intro _; exact h
    | succ n ih =>
      intro hn
      refine ⟨rfl, ?_, ih (by omega)⟩
      rw [lgo_eq, List.getD_eq_getElem?_getD, List.getElem?_eq_getElem (by omega)]
      rfl
  exact this N (Nat.le_refl _)
/-- A row that is given: its type, the size of an element, how many, its cells. -/
def rqx {α : Type} (c : List α → List Value) (t z : Nat) (l m : List α) (p : Prop) : Prop := t = t ∧ z = z ∧ l.length = m.length ∧ c l = c m ∧ p
theorem rqx_rf {α : Type} {c : List α → List Value} {t z : Nat} {l : List α} {p : Prop} (h : p) : rqx c t z l l p := ⟨rfl, rfl, rfl, rfl, h⟩
theorem rqx_in {α : Type} {c : List α → List Value} {t z : Nat} {l m : List α} {p : Prop} (h1 : l.length = m.length) (h2 : c l = c m) (h : p) : rqx c t z l m p := ⟨rfl, rfl, h1, h2, h⟩
end Go.Proofs.YtjnaficgcellkaaDoor
