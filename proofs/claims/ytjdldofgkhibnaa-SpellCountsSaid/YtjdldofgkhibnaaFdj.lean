/- Layer 11 (field), the laws' parts: what is done, and what is expected. -/
import Derived.Test.YtjdldofgkhibnaaVz
import Derived.KernelRfl
import Derived.Test.YtjdldofgkhibnaaProg
import Derived.Test.YtjdldofgkhibnaaFda
import Derived.Test.YtjdldofgkhibnaaFdb
import Derived.Test.YtjdldofgkhibnaaFdc
import Derived.Test.YtjdldofgkhibnaaFdd
set_option linter.unusedSimpArgs false
set_option linter.unusedVariables false
set_option maxRecDepth 100000
namespace Go.Proofs.Ytjdldofgkhibnaa
open Go.RowKit


def doS (s : Inn) (k n : Int) (on : Bool) : Inn := if Int.tmod k 3 = 0 then kpS s n else if Int.tmod k 3 = 1 then sbS s n on else ouS s n
def doL (s : Inn) (k n : Int) (on : Bool) : Int := if Int.tmod k 3 = 0 then kpL s n else if Int.tmod k 3 = 1 then sbL s n on else ouL s n
theorem m3 {k : Int} (h : 0 ≤ k ∧ k ≤ 255) : IntKind.u8.wrap (Int.tmod k 3) = Int.tmod k 3 := IntWalk.u8_in _ (by have := Int.emod_nonneg k (show (3 : Int) ≠ 0 by omega); have := Int.emod_lt_of_pos k (show (0 : Int) < 3 by omega); rw [Int.tmod_eq_emod_of_nonneg h.1]; omega)
theorem do_0 {s : Inn} {k n : Int} {on : Bool} (h : Int.tmod k 3 = 0) : doS s k n on = kpS s n ∧ doL s k n on = kpL s n := by unfold doS doL; simp [h]
theorem do_1 {s : Inn} {k n : Int} {on : Bool} (h : Int.tmod k 3 = 1) : doS s k n on = sbS s n on ∧ doL s k n on = sbL s n on := by unfold doS doL; simp [h]
theorem do_2 {s : Inn} {k n : Int} {on : Bool} (h0 : ¬ Int.tmod k 3 = 0) (h1 : ¬ Int.tmod k 3 = 1) : doS s k n on = ouS s n ∧ doL s k n on = ouL s n := by unfold doS doL; simp [h0, h1]

end Go.Proofs.Ytjdldofgkhibnaa
