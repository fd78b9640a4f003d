/- Plain words for decimal texts: digits as numbers. No Go in sight. -/
import Derived.Laws.BytesArg
import Derived.Deep.Draws
import Derived.Below
set_option linter.unusedVariables false
namespace Go.Proofs.Ytgdpeajompccnaa
open Go.RowKit

/-- The decimal digits of n, for n below 10^f. -/
def dgs : Nat → Nat → List Int
  | 0, _ => []
  | f + 1, n => if n < 10 then [48 + (n : Int)] else dgs f (n / 10) ++ [48 + ((n % 10 : Nat) : Int)]
def txtN (m : Int) : List Int := dgs 39 m.toNat

theorem dgs_last (f n : Nat) (h : n < 10) : dgs (f + 1) n = [48 + (n : Int)] := by simp [dgs, h]
theorem dgs_more (f n : Nat) (h : ¬ n < 10) : dgs (f + 1) n = dgs f (n / 10) ++ [48 + ((n % 10 : Nat) : Int)] := by simp [dgs, h]
theorem dgs_len : ∀ (f n : Nat), (dgs f n).length ≤ f
  | 0, _ => by simp [dgs]
  | f + 1, n => by
    unfold dgs
    split
    · simp
    · have := dgs_len f (n / 10)
      simp; omega

/-- A block known whole. -/
def Row (w : World) (g : Nat) (t : TypeId) (cs : List Value) : Prop := w.heap[g]? = some (.cells cs.toArray t (0, 0))
section
variable {w w' : World} {g : Nat} {t : TypeId} {cs : List Value}
theorem Row.lt (h : Row w g t cs) : g < w.heap.size := by
  rcases Nat.lt_or_ge g w.heap.size with hlt | hge
  · exact hlt
  · unfold Row at h; rw [Array.getElem?_eq_none hge] at h; cases h
theorem Row.cell (h : Row w g t cs) (i : Nat) : w.cell? ⟨g, i, none⟩ = cs[i]? := by unfold Row at h; simp [World.cell?, h]
theorem Row.free (h : Row w g t cs) (i : Nat) : w.frozen? ⟨g, i, none⟩ = false := by unfold Row at h; simp [World.frozen?, h]
theorem Row.below {B : Nat} (h : Row w g t cs) (hb : Below B w w') (hg : g < B) : Row w' g t cs := by unfold Row at h ⊢; rw [hb.block g hg]; exact h
theorem Row.alloc (h : Row w g t cs) (o : Obj) : Row (w.alloc o) g t cs := by unfold Row at h ⊢; rw [Below.heap_alloc w o g (Row.lt h)]; exact h
theorem Row.far (h : Row w g t cs) {p : Addr} (hp : g ≠ p.block) (u : Value) : Row (w.setCell p u) g t cs := by unfold Row at h ⊢; rw [Below.heap_setCell w p u g hp]; exact h
theorem Row.put (h : Row w g t cs) (i : Nat) (u : Value) : Row (w.setCell ⟨g, i, none⟩ u) g t (cs.set i u) := by
  unfold Row at h ⊢
  simp [World.setCell, Array.getElem?_modify, h]
theorem Row.new (w : World) (t : TypeId) (cs : List Value) : Row (w.alloc (.cells cs.toArray t)) w.heap.size t cs := by unfold Row; show (w.heap.push _)[w.heap.size]? = _; simp
theorem Row.drewN (h : Row w g t cs) (n : Nat) : Row (w.drewN n) g t cs := h
theorem Row.drew (h : Row w g t cs) : Row w.drew g t cs := h
end
end Go.Proofs.Ytgdpeajompccnaa
