/- Layer 14 (innings): how an innings ends, the reference's. -/
import Derived.Test.YtnhlpgdadbjmoaaGreatDoorVz
import Derived.KernelRfl
import Derived.Test.YtnhlpgdadbjmoaaGreatDoorProg
import Derived.Test.YtnhlpgdadbjmoaaGreatDoorFda
import Derived.Test.YtnhlpgdadbjmoaaGreatDoorFdb
import Derived.Test.YtnhlpgdadbjmoaaGreatDoorFdc
import Derived.Test.YtnhlpgdadbjmoaaGreatDoorFdd
import Derived.Test.YtnhlpgdadbjmoaaGreatDoorFdf
import Derived.Test.YtnhlpgdadbjmoaaGreatDoorFdh
import Derived.Test.YtnhlpgdadbjmoaaGreatDoorFdk
import Derived.Test.YtnhlpgdadbjmoaaGreatDoorRua
import Derived.Test.YtnhlpgdadbjmoaaGreatDoorCra
import Derived.Test.YtnhlpgdadbjmoaaGreatDoorCrs
import Derived.Test.YtnhlpgdadbjmoaaGreatDoorSpa
import Derived.Test.YtnhlpgdadbjmoaaGreatDoorIva
import Derived.Test.YtnhlpgdadbjmoaaGreatDoorIvb
import Derived.Test.YtnhlpgdadbjmoaaGreatDoorIvc
import Derived.Test.YtnhlpgdadbjmoaaGreatDoorIvr
import Derived.Test.YtnhlpgdadbjmoaaGreatDoorIvs
import Derived.Test.YtnhlpgdadbjmoaaGreatDoorEvz
import Derived.Test.YtnhlpgdadbjmoaaGreatDoorStb
import Derived.Test.YtnhlpgdadbjmoaaGreatDoorStes
set_option linter.unusedSimpArgs false
set_option linter.unusedVariables false
set_option maxRecDepth 100000
namespace Go.Proofs.YtnhlpgdadbjmoaaGreatDoor
open Go.RowKit

def rend_h (r : Rul) (B : RAd) (s : Inn) (A : Adr) : Hint := ho 6 14 (ho 7 28 (.specg [] [0, 1, 2, 3, 4, 5] [cP r.pw, cU s.bts, cI s.bws, cI s.bfs, cI s.bwd, cB s.sbs] [] (fun ads0 x ↦ Value.bool (vlB r s)) (.split (.perm [] .nil) (.cut [((10 : Nat), .bool (decide (s.tg > 0) && decide (s.rn ≥ s.tg)))] (.ob 7 (.split (.lit (.ob 7 (.lit (.lit (.ob 7 (.lit (.lit
 .nil))))))) (hl 4 (.lit .nil)))) (.split (.perm [] .nil) (.cut [((21 : Nat), .bool (vac s && (↑(List.length (lft s.bts (s.bts.length))) : Int) == (0 : Int)))] (ho 7 28 (.specg [] [1, 2, 3, 4, 5] [cU s.bts, cI s.bws, cI s.bfs, cI s.bwd, cB s.sbs] [] (fun ads0 x ↦ Value.bool (vac s)) (.split (ho 7 28
 (.lit (.specg [] [1, 2, 3, 4, 5] [cU s.bts, cI s.bws, cI s.bfs, cI s.bwd, cB s.sbs] [RowT.mk (3 : TypeId) (1 : Nat) (List.length (lft s.bts (s.bts.length))) (cI (lft s.bts (s.bts.length)))] (fun ads0 ads ↦ Value.slice (Prod.fst (nthA ads (0 : Nat))) (List.length (lft s.bts (s.bts.length))) (Prod.snd
 (nthA ads (0 : Nat)))) (.lit (.pl (.lit (.pl (.lit .nil)))))))) (hl 3 (.lit .nil))))) (.split (.perm [] .nil) (.cut [((30 : Nat), .bool (decide (s.ov > 0) && decide (s.cm ≥ s.ov)))] (.ob 7 (.split (.lit (.ob 7 (.lit (.lit (.ob 7 (.lit (.lit .nil))))))) (hl 4 (.lit .nil)))) (.split (.perm [] .nil)
 (.perm [] .nil))))))))))
theorem rend_x (r : Rul) (B : RAd) (s : Inn) (A : Adr) : wpG Tryz.prog [] ((B.a, cP r.pw) :: rdI s A) 400 15 [ruV r B, inV s A] (rend_h r B s A) ([]) (fun _ => .int .u8 (edE r s)) = (∀ (b b_1 : Nat), e1 b 14 (e1 b_1 28 (cP r.pw = cP r.pw /\ cU s.bts = cU s.bts /\ cI s.bws = cI s.bws /\ cI s.bfs = cI s.bfs /\ cI s.bwd = cI s.bwd /\ cB s.sbs = cB s.sbs /\ (SpecG Tryz.prog [] ((RAd.a B, cP r.pw) :: rdI s A) (13 : FuncId) #[ruV r B, inV s A] [] fun x ↦ Value.bool (vlB r s)) /\ (∀ (e :
 Ex), e ∈ [] -> e ∈ []) /\ ((!vlB r s) = true -> Value.int .u8 0 = Value.int .u8 (edE r s)) /\ ((!vlB r s) = false -> (b_1 = b_1 /\ (decide (s.tg > 0) = true -> b_1 = b_1 /\ b_1 = b_1 /\ Value.bool (decide (s.rn ≥ s.tg)) = Value.bool (decide (s.tg > 0) && decide (s.rn ≥ s.tg)) /\ True) /\ (decide
 (s.tg > 0) = false -> Value.bool false = Value.bool (decide (s.tg > 0) && decide (s.rn ≥ s.tg)) /\ True)) /\ ∀ (junk : Nat -> Value), ((decide (s.tg > 0) && decide (s.rn ≥ s.tg)) = true -> Value.int .u8 3 = Value.int .u8 (edE r s)) /\ ((decide (s.tg > 0) && decide (s.rn ≥ s.tg)) = false -> (e1 b_1
 28 (cU s.bts = cU s.bts /\ cI s.bws = cI s.bws /\ cI s.bfs = cI s.bfs /\ cI s.bwd = cI s.bwd /\ cB s.sbs = cB s.sbs /\ (SpecG Tryz.prog [] (rdI s A) (45 : FuncId) #[inV s A] [] fun x ↦ Value.bool (vac s)) /\ (∀ (e : Ex), e ∈ [] -> e ∈ []) /\ (vac s = true -> e1 b_1 28 (cU s.bts = cU s.bts /\ cI s.bws
 = cI s.bws /\ cI s.bfs = cI s.bfs /\ cI s.bwd = cI s.bwd /\ cB s.sbs = cB s.sbs /\ (SpecG Tryz.prog [] (rdI s A) (46 : FuncId) #[inV s A] [RowT.mk (3 : TypeId) (1 : Nat) (List.length (lft s.bts (s.bts.length))) (cI (lft s.bts (s.bts.length)))] fun ads ↦ Value.slice (Prod.fst (nthA ads (0 : Nat)))
 (List.length (lft s.bts (s.bts.length))) (Prod.snd (nthA ads (0 : Nat)))) /\ (∀ (e : Ex), e ∈ [] -> e ∈ []) /\ ∀ (a : Option Addr) (cap : Nat), AOK a (List.length (lft s.bts (s.bts.length))) -> List.length (lft s.bts (s.bts.length)) ≤ cap -> Value.bool ((↑(List.length (lft s.bts (s.bts.length))) :
 Int) == (0 : Int)) = Value.bool (vac s && (↑(List.length (lft s.bts (s.bts.length))) : Int) == (0 : Int)) /\ True)) /\ (vac s = false -> Value.bool false = Value.bool (vac s && (↑(List.length (lft s.bts (s.bts.length))) : Int) == (0 : Int)) /\ True))) /\ ∀ (junk : Nat -> Value), ((vac s &&
 (↑(List.length (lft s.bts (s.bts.length))) : Int) == (0 : Int)) = true -> Value.int .u8 1 = Value.int .u8 (edE r s)) /\ ((vac s && (↑(List.length (lft s.bts (s.bts.length))) : Int) == (0 : Int)) = false -> (b_1 = b_1 /\ (decide (s.ov > 0) = true -> b_1 = b_1 /\ b_1 = b_1 /\ Value.bool (decide (s.cm
 ≥ s.ov)) = Value.bool (decide (s.ov > 0) && decide (s.cm ≥ s.ov)) /\ True) /\ (decide (s.ov > 0) = false -> Value.bool false = Value.bool (decide (s.ov > 0) && decide (s.cm ≥ s.ov)) /\ True)) /\ ∀ (junk : Nat -> Value), ((decide (s.ov > 0) && decide (s.cm ≥ s.ov)) = true -> Value.int .u8 2 =
 Value.int .u8 (edE r s)) /\ ((decide (s.ov > 0) && decide (s.cm ≥ s.ov)) = false -> Value.int .u8 0 = Value.int .u8 (edE r s)))))))) := by kernel_rfl
set_option maxHeartbeats 4000000 in
theorem rend_sp (r : Rul) (B : RAd) (s : Inn) (A : Adr) (hB : AOK B.a r.pw.length) (hl : r.pw.length ≤ 1000000) (hn : r.nm.size ≤ 1000000) (hA : OkI s A) (hc : CapI s A) : SpecG Tryz.prog [] ((B.a, cP r.pw) :: rdI s A) 15 #[ruV r B, inV s A] ([]) (fun _ => .int .u8 (edE r s)) := by
  refine specG_of (h := rend_h r B s A) (?_ : wpG Tryz.prog [] ((B.a, cP r.pw) :: rdI s A) 400 15 [ruV r B, inV s A] (rend_h r B s A) ([]) (fun _ => .int .u8 (edE r s)))
  rw [rend_x]
  (repeat' (first | with_reducible exact rfl | exact trivial | with_reducible assumption | exact rvl_sp _ _ _ _ hB hl hn hA hc | exact rva_sp _ _ hA | exact rlf_sp _ _ hA | exact cU_len _ | exact cI_len _ | exact cB_len _ | exact cU_one _ | exact cI_one _ | exact cB_one _ | exact (fun _ h => h) | exact (fun _ h => (List.not_mem_nil h).elim) | (with_reducible refine e1_in ?_) | (with_reducible refine e2_in ?_) | (with_reducible refine lx_in (Nat.le_of_ble_eq_true rfl) ?_) | (with_reducible refine rqx_rf ?_) | (with_reducible refine rqx_in ?_ ?_ ?_) | (with_reducible apply And.intro) | (with_reducible intro _)))
  all_goals (first | (simp only [*, Bool.and_true, Bool.true_and, Bool.and_false, Bool.false_and, Bool.or_true, Bool.true_or, Bool.or_false, Bool.false_or, Bool.not_true, Bool.not_false, cond_true, cond_false]; done) | (refine intI ?_; rw [ed_eq]; simp only [*, if_true, if_false, Bool.false_eq_true]; done) | trace_state)
def rba3_h (r : Rul) (B : RAd) (s : Inn) (A : Adr) : Hint := .ob 1 (.ob 0 (.ob 1 (.perm [] .nil)))
theorem rba3_x (r : Rul) (B : RAd) (s : Inn) (A : Adr) : wpG Tryz.prog [] ([]) 400 17 [ruV r B, inV s A] (rba3_h r B s A) ([]) (fun _ => .int .i64 (inbI r s)) = (∀ (b b_1 : Nat), b_1 = b_1 /\ b = b /\ b_1 = b_1 /\ Value.int .i64 (IntKind.i64.wrap (IntKind.i64.wrap (s.cm * r.q4) + s.io)) = Value.int .i64 (IntKind.i64.wrap (IntKind.i64.wrap (s.cm * r.q4) + s.io))) := by kernel_rfl
set_option maxHeartbeats 4000000 in
theorem rba3_sp (r : Rul) (B : RAd) (s : Inn) (A : Adr)  : SpecG Tryz.prog [] ([]) 17 #[ruV r B, inV s A] ([]) (fun _ => .int .i64 (inbI r s)) := by
  refine specG_of (h := rba3_h r B s A) (?_ : wpG Tryz.prog [] ([]) 400 17 [ruV r B, inV s A] (rba3_h r B s A) ([]) (fun _ => .int .i64 (inbI r s)))
  rw [rba3_x]
  (repeat' (first | with_reducible exact rfl | exact trivial | with_reducible assumption | exact cU_len _ | exact cI_len _ | exact cB_len _ | exact cU_one _ | exact cI_one _ | exact cB_one _ | exact (fun _ h => h) | exact (fun _ h => (List.not_mem_nil h).elim) | (with_reducible refine e1_in ?_) | (with_reducible refine e2_in ?_) | (with_reducible refine lx_in (Nat.le_of_ble_eq_true rfl) ?_) | (with_reducible refine rqx_rf ?_) | (with_reducible refine rqx_in ?_ ?_ ?_) | (with_reducible apply And.intro) | (with_reducible intro _)))
  all_goals (first | (simp only [*, Bool.and_true, Bool.true_and, Bool.and_false, Bool.false_and, Bool.or_true, Bool.true_or, Bool.or_false, Bool.false_or, Bool.not_true, Bool.not_false, cond_true, cond_false]; done) | rfl | trace_state)
end Go.Proofs.YtnhlpgdadbjmoaaGreatDoor
