/- Layer 7 (notation): the check of a delivery's numbers, both, as contracts with rows. -/
import Derived.Test.YtdgmogmldfhgcaaGreatDoorVz
import Derived.KernelRfl
import Derived.Test.YtdgmogmldfhgcaaGreatDoorProg
import Derived.Test.YtdgmogmldfhgcaaGreatDoorBrs
import Derived.Test.YtdgmogmldfhgcaaGreatDoorNoB
import Derived.Test.YtdgmogmldfhgcaaGreatDoorFda
set_option linter.unusedSimpArgs false
set_option linter.unusedVariables false
set_option maxRecDepth 100000
namespace Go.Proofs.YtdgmogmldfhgcaaGreatDoor
open Go.RowKit


def dlV (d : Dl) : Value := DV d
theorem val_int {k : IntKind} {a b : Int} (h : a = b) : Value.int k a = Value.int k b := by rw [h]
theorem aok0 : AOK none 0 := ⟨(fun _ => rfl), (fun _ q hq => by cases hq)⟩
theorem aokb (b n : Nat) : AOK (some ⟨b, 0, none⟩) n := ⟨(fun h => by cases h), (fun _ q hq => by injection hq with hq; subst hq; rfl)⟩
/-- What a delivery makes of the check of its numbers. -/
def ntC (d : Dl) : Int := chk d
theorem ntp_sp (d : Dl) : SpecG Tryz.prog [] [] 34 #[dlV d] [] (fun _ => .int .i64 (ntC d)) := specG_ofC (fun w => noChk_any d w)
theorem ntr_sp (d : Dl) : SpecG Tryz.prog [] [] 38 #[dlV d] [] (fun _ => .int .i64 (ntC d)) := specG_ofC (fun w => rcheck_any d w)

end Go.Proofs.YtdgmogmldfhgcaaGreatDoor
