/- Layer 10 (dismissal): Possible of any delivery without a free hit. -/
import Derived.Test.YtkgdlimekkdekaaDoorVz
import Derived.KernelRfl
import Derived.Test.YtkgdlimekkdekaaDoorProg
import Derived.Test.YtkgdlimekkdekaaDoorDmfs
set_option linter.unusedSimpArgs false
set_option linter.unusedVariables false
set_option maxRecDepth 100000
namespace Go.Proofs.YtkgdlimekkdekaaDoor
open Go.RowKit


theorem ppos_sp (t : Int) (s r sh b : Int) (x : Bool) (h v f g : Int) (u : Bool) (z : Int) (hh : 0 ≤ h ∧ h ≤ 255) : SpecQ Tryd.prog wE 87 #[.agg #[.int .u8 t, .int .u8 s, .int .i64 r, .int .i64 sh, .int .i64 b, .bool x, .int .u8 h, .int .i64 v, .int .i64 f, .int .i64 g, .bool u, .int .i64 z], .bool false] (.int .i64 (psb t s r h v f g u false)) := by
  by_cases e1 : t = 1
  · subst e1
    exact pos_10_sp s r sh b x h v f g u z hh
  by_cases e2 : t = 2
  · subst e2
    exact pos_20_sp s r sh b x h v f g u z hh
  by_cases e3 : t = 3
  · subst e3
    exact pos_30_sp s r sh b x h v f g u z hh
  exact pos_00_sp t s r sh b x h v f g u z hh (by simpa using e1) (by simpa using e2) (by simpa using e3)

end Go.Proofs.YtkgdlimekkdekaaDoor
