/- Layer 5 (rules): parts of the laws: few, the length of an innings. The reference. -/
import Derived.Test.YtkhhjdbnihbcjaaGreatDoorVz
import Derived.KernelRfl
import Derived.Test.YtkhhjdbnihbcjaaGreatDoorProg
import Derived.Test.YtkhhjdbnihbcjaaGreatDoorBrg
import Derived.Test.YtkhhjdbnihbcjaaGreatDoorRda
import Derived.Test.YtkhhjdbnihbcjaaGreatDoorRdar
import Derived.Test.YtkhhjdbnihbcjaaGreatDoorRub
import Derived.Test.YtkhhjdbnihbcjaaGreatDoorRubr
import Derived.Test.YtkhhjdbnihbcjaaGreatDoorRcc
set_option linter.unusedSimpArgs false
set_option linter.unusedVariables false
set_option maxRecDepth 100000
namespace Go.Proofs.YtkhhjdbnihbcjaaGreatDoor
open Go.RowKit

def mor_h (r : Rul) (B : RAd) : Hint := ho 1 14 (.specg [] [0] [cP r.pw] [] (fun ads0 x ↦ Value.int .i64 (rck r)) (.pl (.split (.perm [] .nil) (ho 1 2 (.perm [] .nil)))))
theorem mor_x (r : Rul) (B : RAd) : wpG Tryz.prog [] ([(B.a, cP r.pw)]) 400 17 [ruV r B] (mor_h r B) ([]) (fun _ => .int .i64 (mo r)) = (∀ (b : Nat), e1 b 14 (cP r.pw = cP r.pw /\ (SpecG Tryz.prog [] [(RAd.a B, cP r.pw)] (13 : FuncId) #[ruV r B] [] fun x ↦ Value.int .i64 (rck r)) /\ (∀ (e : Ex), e ∈ [] -> e ∈ []) /\ ((rck r != 0) = true -> Value.int .i64 0 = Value.int .i64 (if rck r = (0 : Int) then IntKind.i64.wrap (r.q3 * r.q4) else
 (0 : Int))) /\ ((rck r != 0) = false -> b = b /\ b = b /\ Value.int .i64 (IntKind.i64.wrap (r.q3 * r.q4)) = Value.int .i64 (if rck r = (0 : Int) then IntKind.i64.wrap (r.q3 * r.q4) else (0 : Int))))) := by kernel_rfl
set_option maxHeartbeats 4000000 in
theorem mor_sp (r : Rul) (B : RAd) (hB : AOK B.a r.pw.length) (hl : r.pw.length ≤ 1000000) (hn : r.nm.size ≤ 1000000) : SpecG Tryz.prog [] ([(B.a, cP r.pw)]) 17 #[ruV r B] ([]) (fun _ => .int .i64 (mo r)) := by
  refine specG_of (h := mor_h r B) (?_ : wpG Tryz.prog [] ([(B.a, cP r.pw)]) 400 17 [ruV r B] (mor_h r B) ([]) (fun _ => .int .i64 (mo r)))
  rw [mor_x]
  (repeat' (first | with_reducible exact rfl | exact trivial | with_reducible assumption | exact rrc_sp _ _ hB hl hn | exact cU_len _ | exact cI_len _ | exact cB_len _ | exact cU_one _ | exact cI_one _ | exact cB_one _ | exact (fun _ h => h) | exact (fun _ h => (List.not_mem_nil h).elim) | (with_reducible refine e1_in ?_) | (with_reducible refine e2_in ?_) | (with_reducible refine lx_in (Nat.le_of_ble_eq_true rfl) ?_) | (with_reducible refine rqx_rf ?_) | (with_reducible refine rqx_in ?_ ?_ ?_) | (with_reducible apply And.intro) | (with_reducible intro _)))
  all_goals (first | exact congrArg (Value.int .i64) (mo_t (by assumption)) | exact congrArg (Value.int .i64) (mo_f (by assumption)) | trace_state)
end Go.Proofs.YtkhhjdbnihbcjaaGreatDoor
