/- Layer 8 (event): the check of the events of the chapter's example. -/
import Derived.Test.YtnhlpgdadbjmoaaGreatDoorVz
import Derived.KernelRfl
import Derived.Test.YtnhlpgdadbjmoaaGreatDoorProg
import Derived.Test.YtnhlpgdadbjmoaaGreatDoorEvz
import Derived.Test.YtnhlpgdadbjmoaaGreatDoorEva
import Derived.Test.YtnhlpgdadbjmoaaGreatDoorEvb
set_option linter.unusedSimpArgs false
set_option linter.unusedVariables false
set_option maxRecDepth 100000
namespace Go.Proofs.YtnhlpgdadbjmoaaGreatDoor
open Go.RowKit


theorem evp_sp (k : Int) (e : Ev) (d : Dl) (hk : k = 2 ∨ k = 3 ∨ k = 4 ∨ k = 5 ∨ k = 8) : SpecG Tryz.prog wE [] 77 #[evV k e d] [] (fun _ => .int .i64 (evC k e d)) := by
  rcases hk with rfl | rfl | rfl | rfl | rfl
  · exact ec_2_sp e d
  · exact ec_3_sp e d
  · exact ec_4_sp e d
  · exact ec_5_sp e d
  · exact ec_8_sp e d

end Go.Proofs.YtnhlpgdadbjmoaaGreatDoor
