/- What the library's variables hold, kept by whatever leaves old memory alone; FormatInt and Cut by their contracts. -/
import Derived.Test.YtjdldofgkhibnaaDoorStr
import Derived.Test.YtjdldofgkhibnaaDoorShelf
import Derived.Lib.ItoaLen
import Derived.Lib.SmallJoins
import Derived.Lib.ConvBytes
set_option linter.unusedSimpArgs false
set_option linter.unusedVariables false
namespace Go.Proofs.YtjdldofgkhibnaaDoor
open Go.RowKit

structure Env (w : World) : Prop where
  max : ∃ m, w.cell? ⟨0, 0, none⟩ = some (.int .i64 m)

theorem block_of_cell {w : World} {b o : Nat} {v : Value} (h : w.cell? ⟨b, o, none⟩ = some v) : b < w.heap.size := by
  rcases Nat.lt_or_ge b w.heap.size with hlt | hge
  · exact hlt
  · exfalso
    have : w.heap[b]? = none := by simp [hge]
    simp [World.cell?, this] at h
theorem cell_stays {w w' : World} {b o : Nat} {v : Value} (h : w.cell? ⟨b, o, none⟩ = some v) (hb : Below w.heap.size w w') : w'.cell? ⟨b, o, none⟩ = some v := by
  rw [hb.cell (p := ⟨b, o, none⟩) (block_of_cell h)]; exact h
theorem Env.stays {w w' : World} (h : Env w) (hb : Below w.heap.size w w') : Env w' where
  max := h.max.imp fun m hm => cell_stays hm hb

theorem below_sort (w : World) (k : Nat) (os : Array Obj) : Below w.heap.size w («Sort».grow (w.drewN k) os) :=
  ⟨rfl, rfl, rfl, by simp, fun b hb => Sort.heap_grow_old (w.drewN k) os hb⟩
theorem below_drewN (w : World) (n : Nat) : Below w.heap.size w (w.drewN n) := ⟨rfl, rfl, rfl, Nat.le_refl _, fun _ _ => rfl⟩
theorem bytesWorld_below (w : World) (e : TypeId) (s : ByteArray) : Below w.heap.size w (Lib.bytesWorld w e s) := by
  refine ⟨rfl, rfl, rfl, ?_, fun b hb => Lib.bytesWorld_at_old w e s b hb⟩
  rw [Lib.bytesWorld_size]; omega
end Go.Proofs.YtjdldofgkhibnaaDoor
