/- Layer 8 (event): the law of checks and lines (EventTexts). -/
import Derived.Test.YtdgmogmldfhgcaaGreatDoorVz
import Derived.KernelRfl
import Derived.Test.YtdgmogmldfhgcaaGreatDoorProg
import Derived.Test.YtdgmogmldfhgcaaGreatDoorEvw
import Derived.Test.YtdgmogmldfhgcaaGreatDoorEvcn
import Derived.Test.YtdgmogmldfhgcaaGreatDoorEvrn
import Derived.Test.YtdgmogmldfhgcaaGreatDoorEwx
import Derived.Test.YtdgmogmldfhgcaaGreatDoorEws
set_option linter.unusedSimpArgs false
set_option linter.unusedVariables false
set_option maxRecDepth 100000
namespace Go.Proofs.YtdgmogmldfhgcaaGreatDoor
open Go.RowKit

def eventTexts_h (k : Int) (e : Ev) (d : Dl) : Hint := .specg vE [] [] [] (fun ads0 x ↦ Value.bool true) (.lit (ho 0 19 (.specg vE [] [] [] (fun ads0 x ↦ Value.tuple #[Value.string (ewL k e d), .int .i64 (evC k e d)]) (ho 0 19 (.specg [] [] [] [] (fun ads0 x ↦ Value.tuple #[Value.string (ewL k e d), .int .i64 (evC k e d)]) (.draw [0] none [0] (.take 0
 (ho 0 19 (.take 2 (ho 0 19 (.pl (.br (.specg wE [] [] [] (fun ads0 x ↦ Value.int .i64 (evC k e d)) (.pl (.br (.specg [] [] [] [] (fun ads0 x ↦ Value.int .i64 (evC k e d)) (.take 4 (.pl (.take 5 (.take 6 (.known true (.take 7 (.lit (.take 8 (.lit (.pl (.take 9 (.lit (.take 10 (.take 11 (.known true
 (.take 12 (.lit (.take 13 (.lit (.pl (.take 14 (.lit (.take 15 (.perm [] .nil))))))))))))))))))))))))) .nil))) .nil))))))))))))
theorem eventTexts_x (k : Int) (e : Ev) (d : Dl) : wpG Tryz.prog vE ([]) 400 3 [evV k e d] (eventTexts_h k e d) ([]) (fun _ => .bool true) = (∀ (b : Nat), (SpecG Tryz.prog vE [] (9 : FuncId) #[] [] fun x ↦ Value.bool true) /\ (∀ (e : Ex), e ∈ vE -> e ∈ vE) /\ e1 b 19 ((SpecG Tryz.prog vE [] (10 : FuncId) #[evV k e d] [] fun x ↦ Value.tuple #[Value.string (ewL k e d), .int .i64 (evC k e d)]) /\ (∀ (e : Ex), e ∈ vE -> e ∈ vE) /\ e1 b 19
 ((SpecG Tryz.prog [] [] (11 : FuncId) #[evV k e d] [] fun x ↦ Value.tuple #[Value.string (ewL k e d), .int .i64 (evC k e d)]) /\ (∀ (e : Ex), e ∈ [] -> e ∈ vE) /\ e1 b 37 (b = b /\ True /\ ((SpecG Tryz.prog wE [] (12 : FuncId) #[evV k e d] [] fun x ↦ Value.int .i64 (evC k e d)) /\ (∀ (e : Ex), e ∈ wE
 -> e ∈ vE) /\ True /\ ((SpecG Tryz.prog [] [] (13 : FuncId) #[evV k e d] [] fun x ↦ Value.int .i64 (evC k e d)) /\ (∀ (e : Ex), e ∈ [] -> e ∈ vE) /\ (evC k e d == evC k e d) = true /\ (ByteArray.toList (ewL k e d) == ByteArray.toList (ewL k e d)) = true /\ Value.bool (evC k e d == evC k e d) =
 Value.bool true) /\ True) /\ True)))) := by kernel_rfl
set_option maxHeartbeats 4000000 in
theorem eventTexts_sp (k : Int) (e : Ev) (d : Dl) (hw : Wf d) : SpecG Tryz.prog vE ([]) 3 #[evV k e d] ([]) (fun _ => .bool true) := by
  refine specG_of (h := eventTexts_h k e d) (?_ : wpG Tryz.prog vE ([]) 400 3 [evV k e d] (eventTexts_h k e d) ([]) (fun _ => .bool true))
  rw [eventTexts_x]
  (repeat' (first | with_reducible exact rfl | exact trivial | with_reducible assumption | (with_reducible exact awk_sp) | (with_reducible exact txp_sp _ _ _ hw) | (with_reducible exact rxp_sp _ _ _ hw) | (with_reducible exact evp_sp _ _ _) | (with_reducible exact evr_sp _ _ _) | exact cU_len _ | exact cI_len _ | exact cB_len _ | exact cU_one _ | exact cI_one _ | exact cB_one _ | exact (fun _ h => h) | exact (fun _ h => (List.not_mem_nil h).elim) | exact wE_v | exact rE_v | (with_reducible refine e1_in ?_) | (with_reducible refine e2_in ?_) | (with_reducible refine lx_in (Nat.le_of_ble_eq_true rfl) ?_) | (with_reducible refine rqx_rf ?_) | (with_reducible refine rqx_in ?_ ?_ ?_) | (with_reducible apply And.intro) | (with_reducible intro _)))
  all_goals (try (first | rfl | (simp; done) | (exfalso; simp_all; done)))
  all_goals trace_state
end Go.Proofs.YtdgmogmldfhgcaaGreatDoor
