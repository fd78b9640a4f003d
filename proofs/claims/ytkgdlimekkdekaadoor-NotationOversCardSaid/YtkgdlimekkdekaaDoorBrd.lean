/- The library's variables as what is known of the world; decimals in the walker's words; contracts by value as contracts with rows. -/
import Derived.Test.YtkgdlimekkdekaaDoorVz
import Derived.Test.YtkgdlimekkdekaaDoorFda
import Derived.Test.YtkgdlimekkdekaaDoorNumA
import Derived.Lib.ItoaLen
import Derived.KernelRfl
set_option linter.unusedSimpArgs false
set_option linter.unusedVariables false
set_option maxRecDepth 100000
namespace Go.Proofs.YtkgdlimekkdekaaDoor
open Go.RowKit

def rE : List Ex := [⟨0, fun _ => none, Env, fun _ _ h hb => h.stays hb⟩]
theorem rE_env {w : World} (h : ExtOK rE w) : Env w := (h _ (List.mem_cons_self ..)).2
theorem ownsL_nil (b : Nat) (w : World) : OwnsL b [] [] w := ⟨rfl, fun i o h => by simp [obsOf] at h, fun i j o p k h => by simp [obsOf] at h⟩
/-- The decimal of a number. -/
def itS (n : Int) : ByteArray := str (Lib.itoa n)
theorem dec_sp (n : Int) (hn : I64 n) : SpecG Tryd.prog rE [] 55 #[.int .i64 n] [] (fun _ => .string (itS n)) := by
  intro w hE _
  exact (decimal_any n w hn (rE_env hE)).mono fun e w' ⟨he, hb⟩ => ⟨[], he, ownsL_nil _ _, hb⟩
theorem itS_size {n : Int} (hn : I64 n) : (itS n).size ≤ 21 := by
  have := Lib.itoa_length_le n hn.1 hn.2
  unfold itS
  rw [str_size]
  exact this
theorem itoa_ne (n : Int) : Lib.itoa n ≠ [] := by
  have dd : ∀ u, Lib.decDigits u ≠ [] := fun u => by
    rw [Lib.decDigits]
    split
    · simp
    · simp
  unfold Lib.itoa
  split
  · simp
  · exact dd _
theorem itS_pos (n : Int) : 0 < (itS n).size := by
  unfold itS
  rw [str_size]
  exact List.length_pos_iff.2 (itoa_ne n)
theorem specG_ofQ {P : Program} {E : List Ex} {f : FuncId} {args : Array Value} {v : Value} (h : SpecQ P E f args v) : SpecG P E [] f args [] (fun _ => v) :=
  fun w hE _ => (h w hE).mono fun e w' ⟨he, hb⟩ => ⟨[], he, ownsL_nil _ _, hb⟩
theorem specG_ofC {P : Program} {f : FuncId} {args : Array Value} {v : Value} (h : ∀ w, Calls P f args w fun e w' => e = .returned v ∧ Below w.heap.size w w') : SpecG P [] [] f args [] (fun _ => v) :=
  fun w _ _ => (h w).mono fun e w' ⟨he, hb⟩ => ⟨[], he, ownsL_nil _ _, hb⟩
end Go.Proofs.YtkgdlimekkdekaaDoor
