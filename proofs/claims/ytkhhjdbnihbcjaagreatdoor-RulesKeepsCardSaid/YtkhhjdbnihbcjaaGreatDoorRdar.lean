/- Layer 11 (field): what may be bowled: Allowed of both, Ready and Named of both. The reference. -/
import Derived.Test.YtkhhjdbnihbcjaaGreatDoorVz
import Derived.KernelRfl
import Derived.Test.YtkhhjdbnihbcjaaGreatDoorProg
import Derived.Test.YtkhhjdbnihbcjaaGreatDoorFda
import Derived.Test.YtkhhjdbnihbcjaaGreatDoorRda
set_option linter.unusedSimpArgs false
set_option linter.unusedVariables false
set_option maxRecDepth 100000
namespace Go.Proofs.YtkhhjdbnihbcjaaGreatDoor
open Go.RowKit

def alr_h (r : Rul) (B : RAd) (o : Int) : Hint := .ob 1 (.pl (.inv (arL r (IntKind.i64.wrap (o + 1))) fun x0 ↦ .split (.ix (.lst (0 : Nat) (x0 * (3 : Nat)) (Value.int .i64 (Ph.pf (List.getD r.pw x0 (Ph.mk (0 : Int) (0 : Int) (0 : Int))))) (.lst (0 : Nat) (x0 * (3 : Nat) + (1 : Nat)) (Value.int .i64 (Ph.pt (List.getD r.pw x0 (Ph.mk (0 : Int) (0 :
 Int) (0 : Int))))) (.lst (0 : Nat) (x0 * (3 : Nat) + (2 : Nat)) (Value.int .i64 (Ph.po (List.getD r.pw x0 (Ph.mk (0 : Int) (0 : Int) (0 : Int))))) (ho 2 3 (.cut [((25 : Nat), .bool (decide (Ph.pf (List.getD r.pw x0 (Ph.mk (0 : Int) (0 : Int) (0 : Int))) ≤ IntKind.i64.wrap (o + 1)) && decide
 (IntKind.i64.wrap (o + 1) ≤ Ph.pt (List.getD r.pw x0 (Ph.mk (0 : Int) (0 : Int) (0 : Int))))))] (.ob 2 (.split (hl 3 (.ob 2 (.lit (.lit .nil)))) (hl 4 (.lit .nil)))) (.split (.ob 2 (.perm [] .nil)) (.perm [] .nil)))))))) (.ob 1 (.perm [] .nil))))
theorem alr_x (r : Rul) (B : RAd) (o : Int) : wpG Tryz.prog [] ([(B.a, cP r.pw)]) 400 15 [ruV r B, .int .i64 o] (alr_h r B o) ([]) (fun _ => .int .i64 (alw r (IntKind.i64.wrap (o + 1)))) = (∀ (b : Nat), b = b /\ (∃ x, aI r (IntKind.i64.wrap (o + 1)) x /\ Value.int .i64 0 = Value.int .i64 (↑x : Int) /\ True) /\ ∀ (x0 : Nat), aI r (IntKind.i64.wrap (o + 1)) x0 -> ∀ (junk : Nat -> Value), (decide ((↑x0 : Int) < (↑(r.pw.length) : Int)) = true -> (((0 : Int) ≤ (↑x0 : Int) /\ (↑x0 : Int) <
 (↑(r.pw.length) : Int)) /\ AOK (RAd.a B) (r.pw.length)) /\ bk (RAd.a B) = bk (RAd.a B) /\ ofs (RAd.a B) + x0 * (3 : Nat) = ofs (RAd.a B) + x0 * (3 : Nat) /\ lgo (cP r.pw) (x0 * (3 : Nat)) = some (Value.int .i64 (Ph.pf (List.getD r.pw x0 (Ph.mk (0 : Int) (0 : Int) (0 : Int))))) /\ bk (RAd.a B) = bk
 (RAd.a B) /\ ofs (RAd.a B) + x0 * (3 : Nat) + (1 : Nat) = ofs (RAd.a B) + (x0 * (3 : Nat) + (1 : Nat)) /\ lgo (cP r.pw) (x0 * (3 : Nat) + (1 : Nat)) = some (Value.int .i64 (Ph.pt (List.getD r.pw x0 (Ph.mk (0 : Int) (0 : Int) (0 : Int))))) /\ bk (RAd.a B) = bk (RAd.a B) /\ ofs (RAd.a B) + x0 * (3 :
 Nat) + (2 : Nat) = ofs (RAd.a B) + (x0 * (3 : Nat) + (2 : Nat)) /\ lgo (cP r.pw) (x0 * (3 : Nat) + (2 : Nat)) = some (Value.int .i64 (Ph.po (List.getD r.pw x0 (Ph.mk (0 : Int) (0 : Int) (0 : Int))))) /\ ∀ (b : Nat), e2 b 3 ((b = b /\ (decide (Ph.pf (List.getD r.pw x0 (Ph.mk (0 : Int) (0 : Int) (0 :
 Int))) ≤ IntKind.i64.wrap (o + 1)) = true -> b = b /\ Value.bool (decide (IntKind.i64.wrap (o + 1) ≤ Ph.pt (List.getD r.pw x0 (Ph.mk (0 : Int) (0 : Int) (0 : Int))))) = Value.bool (decide (Ph.pf (List.getD r.pw x0 (Ph.mk (0 : Int) (0 : Int) (0 : Int))) ≤ IntKind.i64.wrap (o + 1)) && decide
 (IntKind.i64.wrap (o + 1) ≤ Ph.pt (List.getD r.pw x0 (Ph.mk (0 : Int) (0 : Int) (0 : Int))))) /\ True) /\ (decide (Ph.pf (List.getD r.pw x0 (Ph.mk (0 : Int) (0 : Int) (0 : Int))) ≤ IntKind.i64.wrap (o + 1)) = false -> Value.bool false = Value.bool (decide (Ph.pf (List.getD r.pw x0 (Ph.mk (0 : Int)
 (0 : Int) (0 : Int))) ≤ IntKind.i64.wrap (o + 1)) && decide (IntKind.i64.wrap (o + 1) ≤ Ph.pt (List.getD r.pw x0 (Ph.mk (0 : Int) (0 : Int) (0 : Int))))) /\ True)) /\ ∀ (junk : Nat -> Value), ((decide (Ph.pf (List.getD r.pw x0 (Ph.mk (0 : Int) (0 : Int) (0 : Int))) ≤ IntKind.i64.wrap (o + 1)) &&
 decide (IntKind.i64.wrap (o + 1) ≤ Ph.pt (List.getD r.pw x0 (Ph.mk (0 : Int) (0 : Int) (0 : Int))))) = true -> b = b /\ Value.int .i64 (Ph.po (List.getD r.pw x0 (Ph.mk (0 : Int) (0 : Int) (0 : Int)))) = Value.int .i64 (alw r (IntKind.i64.wrap (o + 1)))) /\ ((decide (Ph.pf (List.getD r.pw x0 (Ph.mk
 (0 : Int) (0 : Int) (0 : Int))) ≤ IntKind.i64.wrap (o + 1)) && decide (IntKind.i64.wrap (o + 1) ≤ Ph.pt (List.getD r.pw x0 (Ph.mk (0 : Int) (0 : Int) (0 : Int))))) = false -> ∃ y, aI r (IntKind.i64.wrap (o + 1)) y /\ r.pw.length - y < r.pw.length - x0 /\ Value.int .i64 (IntKind.i64.wrap ((↑x0 : Int)
 + (1 : Int))) = Value.int .i64 (↑y : Int) /\ True))) /\ (decide ((↑x0 : Int) < (↑(r.pw.length) : Int)) = false -> b = b /\ Value.int .i64 r.qo = Value.int .i64 (alw r (IntKind.i64.wrap (o + 1))))) := by kernel_rfl
set_option maxHeartbeats 4000000 in
theorem alr_sp (r : Rul) (B : RAd) (o : Int) (hB : AOK B.a r.pw.length) (hl : r.pw.length ≤ 1000000) : SpecG Tryz.prog [] ([(B.a, cP r.pw)]) 15 #[ruV r B, .int .i64 o] ([]) (fun _ => .int .i64 (alw r (IntKind.i64.wrap (o + 1)))) := by
  refine specG_of (h := alr_h r B o) (?_ : wpG Tryz.prog [] ([(B.a, cP r.pw)]) 400 15 [ruV r B, .int .i64 o] (alr_h r B o) ([]) (fun _ => .int .i64 (alw r (IntKind.i64.wrap (o + 1)))))
  rw [alr_x]
  (repeat' (first | with_reducible exact rfl | exact trivial | with_reducible assumption | exact cU_len _ | exact cI_len _ | exact cB_len _ | exact cU_one _ | exact cI_one _ | exact cB_one _ | exact (fun _ h => h) | exact (fun _ h => (List.not_mem_nil h).elim) | (with_reducible refine e1_in ?_) | (with_reducible refine e2_in ?_) | (with_reducible refine lx_in (Nat.le_of_ble_eq_true rfl) ?_) | (with_reducible refine rqx_rf ?_) | (with_reducible refine rqx_in ?_ ?_ ?_) | (with_reducible apply And.intro) | (with_reducible intro _)))
  all_goals (try simp only [Int.toNat_natCast] at *)
  all_goals (try (first | exact ⟨0, aI_0 _ _, rfl, trivial⟩ | (simp only [*, Bool.and_true, Bool.true_and, Bool.and_false, Bool.false_and, Bool.or_true, Bool.true_or, Bool.or_false, Bool.false_or, Bool.not_true, Bool.not_false, cond_true, cond_false]; done)))
  all_goals (try simp only [decide_eq_true_eq, decide_eq_false_iff_not] at *)
  all_goals (first | omega | (refine cP_get0 ?_; omega) | (refine cP_get1 ?_; omega) | (refine cP_get2 ?_; omega) | (exfalso; omega) | skip)
  all_goals first
    | (have hx := ‹aI _ _ _›
       have hc := ‹(decide _ && decide _) = false›
       have h1 := aI_step hx (by omega) hc
       exact ⟨_, h1, (by show _ - (_ + 1) < _; omega), (by rw [IntWalk.i64_in _ (by omega)]; rfl), trivial⟩)
    | (have hx := ‹aI _ _ _›
       have hc := ‹(decide _ && decide _) = true›
       rw [alw_hit hx (by omega) hc])
    | (rename_i x0 hx junk hlt
       have e : x0 = r.pw.length := by have := hx.1; omega
       subst e
       rw [alw_no hx])
    | trace_state
end Go.Proofs.YtkhhjdbnihbcjaaGreatDoor
