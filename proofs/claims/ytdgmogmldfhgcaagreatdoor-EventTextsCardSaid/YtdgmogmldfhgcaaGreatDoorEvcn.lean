/- Layer 8 (event): the check of any event by itself. -/
import Derived.Test.YtdgmogmldfhgcaaGreatDoorVz
import Derived.KernelRfl
import Derived.Test.YtdgmogmldfhgcaaGreatDoorProg
import Derived.Test.YtdgmogmldfhgcaaGreatDoorEvzn
import Derived.Test.YtdgmogmldfhgcaaGreatDoorEvan
import Derived.Test.YtdgmogmldfhgcaaGreatDoorEvbn
import Derived.Test.YtdgmogmldfhgcaaGreatDoorEvdn
import Derived.Test.YtdgmogmldfhgcaaGreatDoorEven
set_option linter.unusedSimpArgs false
set_option linter.unusedVariables false
set_option maxRecDepth 100000
namespace Go.Proofs.YtdgmogmldfhgcaaGreatDoor
open Go.RowKit


theorem evp_sp (k : Int) (e : Ev) (d : Dl) : SpecG Tryz.prog wE [] 12 #[evV k e d] [] (fun _ => .int .i64 (evC k e d)) := by
  by_cases h1 : k < 1
  · have : evC k e d = 3 := by unfold evC; rw [if_pos (Or.inl h1)]
    rw [this]
    exact ec_l_sp k e d (by simpa using h1)
  by_cases h2 : 16 < k
  · have : evC k e d = 3 := by unfold evC; rw [if_pos (Or.inr h2)]
    rw [this]
    exact ec_h_sp k e d (by simpa using h1) (by simpa using h2)
  have hk : k = 1 ∨ k = 2 ∨ k = 3 ∨ k = 4 ∨ k = 5 ∨ k = 6 ∨ k = 7 ∨ k = 8 ∨ k = 9 ∨ k = 10 ∨ k = 11 ∨ k = 12 ∨ k = 13 ∨ k = 14 ∨ k = 15 ∨ k = 16 := by omega
  rcases hk with rfl | rfl | rfl | rfl | rfl | rfl | rfl | rfl | rfl | rfl | rfl | rfl | rfl | rfl | rfl | rfl
  · exact ec_1_sp e d
  · exact ec_2_sp e d
  · exact ec_3_sp e d
  · exact ec_4_sp e d
  · exact ec_5_sp e d
  · exact ec_6_sp e d
  · exact ec_7_sp e d
  · exact ec_8_sp e d
  · exact ec_9_sp e d
  · exact ec_10_sp e d
  · exact ec_11_sp e d
  · exact ec_12_sp e d
  · exact ec_13_sp e d
  · exact ec_14_sp e d
  · exact ec_15_sp e d
  · exact ec_16_sp e d

end Go.Proofs.YtdgmogmldfhgcaaGreatDoor
