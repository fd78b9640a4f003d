/- Layer 14 (innings): how an innings ends, its phase, and its phase. -/
import Derived.Test.YtnhlpgdadbjmoaaGreatDoorVz
import Derived.KernelRfl
import Derived.Test.YtnhlpgdadbjmoaaGreatDoorProg
import Derived.Test.YtnhlpgdadbjmoaaGreatDoorFda
import Derived.Test.YtnhlpgdadbjmoaaGreatDoorFdb
import Derived.Test.YtnhlpgdadbjmoaaGreatDoorFdc
import Derived.Test.YtnhlpgdadbjmoaaGreatDoorFdd
import Derived.Test.YtnhlpgdadbjmoaaGreatDoorFdf
import Derived.Test.YtnhlpgdadbjmoaaGreatDoorRua
import Derived.Test.YtnhlpgdadbjmoaaGreatDoorCra
import Derived.Test.YtnhlpgdadbjmoaaGreatDoorSpa
import Derived.Test.YtnhlpgdadbjmoaaGreatDoorIva
import Derived.Test.YtnhlpgdadbjmoaaGreatDoorIvb
import Derived.Test.YtnhlpgdadbjmoaaGreatDoorIvc
import Derived.Test.YtnhlpgdadbjmoaaGreatDoorDvk
import Derived.Test.YtnhlpgdadbjmoaaGreatDoorEvz
import Derived.Test.YtnhlpgdadbjmoaaGreatDoorEvcs
set_option linter.unusedSimpArgs false
set_option linter.unusedVariables false
set_option maxRecDepth 100000
namespace Go.Proofs.YtnhlpgdadbjmoaaGreatDoor
open Go.RowKit


/-- How the innings ends in a state. -/
def edE (r : Rul) (s : Inn) : Int := if vlB r s = false then 0 else if 0 < s.tg ∧ s.rn ≥ s.tg then 3 else if vac s = true ∧ lft s.bts s.bts.length = [] then 1 else if 0 < s.ov ∧ s.cm ≥ s.ov then 2 else 0
def phL (r : Rul) (s : Inn) (k : Int) (e : Ev) (d : Dl) : Int := if vlB r s = false ∨ evC k e d ≠ 0 then 1 else if s.en ≠ 0 then 26 else if beg s = false ∧ k ≠ 2 then 1 else 0
theorem ph_ev {r : Rul} {s : Inn} {k : Int} {e : Ev} {d : Dl} (h : phL r s k e d = 0) : evC k e d = 0 := by
  unfold phL at h
  by_cases c : vlB r s = false ∨ evC k e d ≠ 0
  · rw [if_pos c] at h; omega
  · exact Decidable.not_not.1 (fun x => c (Or.inr x))


theorem nil_len2 {α : Type} {l : List α} : (l.length : Int) = 0 ↔ l = [] := by
  constructor
  · intro h; exact List.eq_nil_of_length_eq_zero (by omega)
  · rintro rfl; rfl
theorem ed_eq (r : Rul) (s : Inn) : edE r s = if (!vlB r s) = true then 0 else if (decide (s.tg > 0) && decide (s.rn ≥ s.tg)) = true then 3 else if (vac s && ((lft s.bts s.bts.length).length : Int) == 0) = true then 1 else if (decide (s.ov > 0) && decide (s.cm ≥ s.ov)) = true then 2 else 0 := by
  unfold edE
  simp only [Bool.not_eq_true', Bool.and_eq_true, decide_eq_true_eq, beq_iff_eq, nil_len2, gt_iff_lt]

def end_h (r : Rul) (B : RAd) (s : Inn) (A : Adr) : Hint := ho 6 14 (ho 7 28 (.specg [] [0, 1, 2, 3, 4, 5] [cP r.pw, cU s.bts, cI s.bws, cI s.bfs, cI s.bwd, cB s.sbs] [] (fun ads0 x ↦ Value.bool (vlB r s)) (.split (.perm [] .nil) (.cut [((10 : Nat), .bool (decide (s.tg > 0) && decide (s.rn ≥ s.tg)))] (.ob 7 (.split (.lit (.ob 7 (.lit (.lit (.ob 7 (.lit (.lit
 .nil))))))) (hl 4 (.lit .nil)))) (.split (.perm [] .nil) (.cut [((21 : Nat), .bool (vac s && (↑(List.length (lft s.bts (s.bts.length))) : Int) == (0 : Int)))] (ho 7 28 (.specg [] [1, 2, 3, 4, 5] [cU s.bts, cI s.bws, cI s.bfs, cI s.bwd, cB s.sbs] [] (fun ads0 x ↦ Value.bool (vac s)) (.split (ho 7 28
 (.lit (.specg [] [1, 2, 3, 4, 5] [cU s.bts, cI s.bws, cI s.bfs, cI s.bwd, cB s.sbs] [RowT.mk (3 : TypeId) (1 : Nat) (List.length (lft s.bts (s.bts.length))) (cI (lft s.bts (s.bts.length)))] (fun ads0 ads ↦ Value.slice (Prod.fst (nthA ads (0 : Nat))) (List.length (lft s.bts (s.bts.length))) (Prod.snd
 (nthA ads (0 : Nat)))) (.lit (.pl (.lit (.pl (.lit .nil)))))))) (hl 3 (.lit .nil))))) (.split (.perm [] .nil) (.cut [((30 : Nat), .bool (decide (s.ov > 0) && decide (s.cm ≥ s.ov)))] (.ob 7 (.split (.lit (.ob 7 (.lit (.lit (.ob 7 (.lit (.lit .nil))))))) (hl 4 (.lit .nil)))) (.split (.perm [] .nil)
 (.perm [] .nil))))))))))
theorem end_x (r : Rul) (B : RAd) (s : Inn) (A : Adr) : wpG Tryz.prog [] ((B.a, cP r.pw) :: rdI s A) 400 14 [ruV r B, inV s A] (end_h r B s A) ([]) (fun _ => .int .u8 (edE r s)) = (∀ (b b_1 : Nat), e1 b 14 (e1 b_1 28 (cP r.pw = cP r.pw /\ cU s.bts = cU s.bts /\ cI s.bws = cI s.bws /\ cI s.bfs = cI s.bfs /\ cI s.bwd = cI s.bwd /\ cB s.sbs = cB s.sbs /\ (SpecG Tryz.prog [] ((RAd.a B, cP r.pw) :: rdI s A) (12 : FuncId) #[ruV r B, inV s A] [] fun x ↦ Value.bool (vlB r s)) /\ (∀ (e :
 Ex), e ∈ [] -> e ∈ []) /\ ((!vlB r s) = true -> Value.int .u8 0 = Value.int .u8 (edE r s)) /\ ((!vlB r s) = false -> (b_1 = b_1 /\ (decide (s.tg > 0) = true -> b_1 = b_1 /\ b_1 = b_1 /\ Value.bool (decide (s.rn ≥ s.tg)) = Value.bool (decide (s.tg > 0) && decide (s.rn ≥ s.tg)) /\ True) /\ (decide
 (s.tg > 0) = false -> Value.bool false = Value.bool (decide (s.tg > 0) && decide (s.rn ≥ s.tg)) /\ True)) /\ ∀ (junk : Nat -> Value), ((decide (s.tg > 0) && decide (s.rn ≥ s.tg)) = true -> Value.int .u8 3 = Value.int .u8 (edE r s)) /\ ((decide (s.tg > 0) && decide (s.rn ≥ s.tg)) = false -> (e1 b_1
 28 (cU s.bts = cU s.bts /\ cI s.bws = cI s.bws /\ cI s.bfs = cI s.bfs /\ cI s.bwd = cI s.bwd /\ cB s.sbs = cB s.sbs /\ (SpecG Tryz.prog [] (rdI s A) (43 : FuncId) #[inV s A] [] fun x ↦ Value.bool (vac s)) /\ (∀ (e : Ex), e ∈ [] -> e ∈ []) /\ (vac s = true -> e1 b_1 28 (cU s.bts = cU s.bts /\ cI s.bws
 = cI s.bws /\ cI s.bfs = cI s.bfs /\ cI s.bwd = cI s.bwd /\ cB s.sbs = cB s.sbs /\ (SpecG Tryz.prog [] (rdI s A) (44 : FuncId) #[inV s A] [RowT.mk (3 : TypeId) (1 : Nat) (List.length (lft s.bts (s.bts.length))) (cI (lft s.bts (s.bts.length)))] fun ads ↦ Value.slice (Prod.fst (nthA ads (0 : Nat)))
 (List.length (lft s.bts (s.bts.length))) (Prod.snd (nthA ads (0 : Nat)))) /\ (∀ (e : Ex), e ∈ [] -> e ∈ []) /\ ∀ (a : Option Addr) (cap : Nat), AOK a (List.length (lft s.bts (s.bts.length))) -> List.length (lft s.bts (s.bts.length)) ≤ cap -> Value.bool ((↑(List.length (lft s.bts (s.bts.length))) :
 Int) == (0 : Int)) = Value.bool (vac s && (↑(List.length (lft s.bts (s.bts.length))) : Int) == (0 : Int)) /\ True)) /\ (vac s = false -> Value.bool false = Value.bool (vac s && (↑(List.length (lft s.bts (s.bts.length))) : Int) == (0 : Int)) /\ True))) /\ ∀ (junk : Nat -> Value), ((vac s &&
 (↑(List.length (lft s.bts (s.bts.length))) : Int) == (0 : Int)) = true -> Value.int .u8 1 = Value.int .u8 (edE r s)) /\ ((vac s && (↑(List.length (lft s.bts (s.bts.length))) : Int) == (0 : Int)) = false -> (b_1 = b_1 /\ (decide (s.ov > 0) = true -> b_1 = b_1 /\ b_1 = b_1 /\ Value.bool (decide (s.cm
 ≥ s.ov)) = Value.bool (decide (s.ov > 0) && decide (s.cm ≥ s.ov)) /\ True) /\ (decide (s.ov > 0) = false -> Value.bool false = Value.bool (decide (s.ov > 0) && decide (s.cm ≥ s.ov)) /\ True)) /\ ∀ (junk : Nat -> Value), ((decide (s.ov > 0) && decide (s.cm ≥ s.ov)) = true -> Value.int .u8 2 =
 Value.int .u8 (edE r s)) /\ ((decide (s.ov > 0) && decide (s.cm ≥ s.ov)) = false -> Value.int .u8 0 = Value.int .u8 (edE r s)))))))) := by kernel_rfl
set_option maxHeartbeats 4000000 in
theorem end_sp (r : Rul) (B : RAd) (s : Inn) (A : Adr) (hB : AOK B.a r.pw.length) (hl : r.pw.length ≤ 1000000) (hn : r.nm.size ≤ 1000000) (hA : OkI s A) (hc : CapI s A) : SpecG Tryz.prog [] ((B.a, cP r.pw) :: rdI s A) 14 #[ruV r B, inV s A] ([]) (fun _ => .int .u8 (edE r s)) := by
  refine specG_of (h := end_h r B s A) (?_ : wpG Tryz.prog [] ((B.a, cP r.pw) :: rdI s A) 400 14 [ruV r B, inV s A] (end_h r B s A) ([]) (fun _ => .int .u8 (edE r s)))
  rw [end_x]
  (repeat' (first | with_reducible exact rfl | exact trivial | with_reducible assumption | exact ivl_sp _ _ _ _ hB hl hn hA hc | exact cva_sp _ _ hA | exact clf_sp _ _ hA | exact cU_len _ | exact cI_len _ | exact cB_len _ | exact cU_one _ | exact cI_one _ | exact cB_one _ | exact (fun _ h => h) | exact (fun _ h => (List.not_mem_nil h).elim) | (with_reducible refine e1_in ?_) | (with_reducible refine e2_in ?_) | (with_reducible refine lx_in (Nat.le_of_ble_eq_true rfl) ?_) | (with_reducible refine rqx_rf ?_) | (with_reducible refine rqx_in ?_ ?_ ?_) | (with_reducible apply And.intro) | (with_reducible intro _)))
  all_goals (first | (simp only [*, Bool.and_true, Bool.true_and, Bool.and_false, Bool.false_and, Bool.or_true, Bool.true_or, Bool.or_false, Bool.false_or, Bool.not_true, Bool.not_false, cond_true, cond_false]; done) | (refine intI ?_; rw [ed_eq]; simp only [*, if_true, if_false, Bool.false_eq_true]; done) | (refine intI ?_; unfold edE; (simp only [decide_eq_true_eq, decide_eq_false_iff_not, Bool.or_eq_true, Bool.and_eq_true, Bool.or_eq_false_iff, Bool.and_eq_false_iff, Bool.not_eq_true', Bool.not_eq_false', beq_iff_eq, bne_iff_ne, beq_eq_false_iff_ne, bne_eq_false_iff_eq, ne_eq] at *); simp_all [List.length_eq_zero_iff]; done) | trace_state)
def phl_h (r : Rul) (B : RAd) (s : Inn) (A : Adr) (k : Int) (e : Ev) (d : Dl) : Hint := ho 6 14 (ho 7 28 (.specg [] [0, 1, 2, 3, 4, 5] [cP r.pw, cU s.bts, cI s.bws, cI s.bfs, cI s.bwd, cB s.sbs] [] (fun ads0 x ↦ Value.bool (vlB r s)) (.cut [((7 : Nat), .bool (!vlB r s || evC k e d != 0))] (.split .nil (ho 8 19 (.specg wE [] [] [] (fun ads0 x ↦ Value.int .i64 (evC k e d)) (.pl .nil))))
 (.split (.perm [] .nil) (.ob 7 (.pl (.split (.perm [] .nil) (.cut [((19 : Nat), .bool (!beg s && k != 2))] (ho 7 28 (.specg [] [1, 2, 3, 4, 5] [cU s.bts, cI s.bws, cI s.bfs, cI s.bwd, cB s.sbs] [] (fun ads0 x ↦ Value.bool (beg s)) (.split (.lit (.ob 8 (.lit (.pl (.lit .nil))))) (.lit (.lit (.lit
 .nil)))))) (.split (.perm [] .nil) (.perm [] .nil))))))))))
theorem phl_x (r : Rul) (B : RAd) (s : Inn) (A : Adr) (k : Int) (e : Ev) (d : Dl) : wpG Tryz.prog wE ((B.a, cP r.pw) :: rdI s A) 400 54 [ruV r B, inV s A, evV k e d] (phl_h r B s A k e d) ([]) (fun _ => .int .i64 (phL r s k e d)) = (∀ (b b_1 b_2 : Nat), e1 b 14 (e1 b_1 28 (cP r.pw = cP r.pw /\ cU s.bts = cU s.bts /\ cI s.bws = cI s.bws /\ cI s.bfs = cI s.bfs /\ cI s.bwd = cI s.bwd /\ cB s.sbs = cB s.sbs /\ (SpecG Tryz.prog [] ((RAd.a B, cP r.pw) :: rdI s A) (12 : FuncId) #[ruV r B, inV s A] [] fun x ↦ Value.bool (vlB r s)) /\ (∀
 (e : Ex), e ∈ [] -> e ∈ wE) /\ (((!vlB r s) = true -> Value.bool true = Value.bool (!vlB r s || evC k e d != 0) /\ True) /\ ((!vlB r s) = false -> e1 b_2 19 ((SpecG Tryz.prog wE [] (77 : FuncId) #[evV k e d] [] fun x ↦ Value.int .i64 (evC k e d)) /\ (∀ (e : Ex), e ∈ wE -> e ∈ wE) /\ Value.bool (evC k
 e d != 0) = Value.bool (!vlB r s || evC k e d != 0) /\ True))) /\ ∀ (junk : Nat -> Value), ((!vlB r s || evC k e d != 0) = true -> Value.int .i64 1 = Value.int .i64 (phL r s k e d)) /\ ((!vlB r s || evC k e d != 0) = false -> b_1 = b_1 /\ ((s.en != 0) = true -> Value.int .i64 26 = Value.int .i64
 (phL r s k e d)) /\ ((s.en != 0) = false -> (e1 b_1 28 (cU s.bts = cU s.bts /\ cI s.bws = cI s.bws /\ cI s.bfs = cI s.bfs /\ cI s.bwd = cI s.bwd /\ cB s.sbs = cB s.sbs /\ (SpecG Tryz.prog [] (rdI s A) (66 : FuncId) #[inV s A] [] fun x ↦ Value.bool (beg s)) /\ (∀ (e : Ex), e ∈ [] -> e ∈ wE) /\ ((!beg
 s) = true -> b_2 = b_2 /\ Value.bool (k != 2) = Value.bool (!beg s && k != 2) /\ True) /\ ((!beg s) = false -> Value.bool false = Value.bool (!beg s && k != 2) /\ True))) /\ ∀ (junk : Nat -> Value), ((!beg s && k != 2) = true -> Value.int .i64 1 = Value.int .i64 (phL r s k e d)) /\ ((!beg s && k !=
 2) = false -> Value.int .i64 0 = Value.int .i64 (phL r s k e d))))))) := by kernel_rfl
set_option maxHeartbeats 4000000 in
theorem phl_sp (r : Rul) (B : RAd) (s : Inn) (A : Adr) (k : Int) (e : Ev) (d : Dl) (hB : AOK B.a r.pw.length) (hl : r.pw.length ≤ 1000000) (hn : r.nm.size ≤ 1000000) (hA : OkI s A) (hc : CapI s A) (hk : k = 2 ∨ k = 3 ∨ k = 4 ∨ k = 5 ∨ k = 8) : SpecG Tryz.prog wE ((B.a, cP r.pw) :: rdI s A) 54 #[ruV r B, inV s A, evV k e d] ([]) (fun _ => .int .i64 (phL r s k e d)) := by
  refine specG_of (h := phl_h r B s A k e d) (?_ : wpG Tryz.prog wE ((B.a, cP r.pw) :: rdI s A) 400 54 [ruV r B, inV s A, evV k e d] (phl_h r B s A k e d) ([]) (fun _ => .int .i64 (phL r s k e d)))
  rw [phl_x]
  (repeat' (first | with_reducible exact rfl | exact trivial | with_reducible assumption | exact ivl_sp _ _ _ _ hB hl hn hA hc | exact evp_sp _ _ _ hk | exact ibg_sp _ _ hA | exact cU_len _ | exact cI_len _ | exact cB_len _ | exact cU_one _ | exact cI_one _ | exact cB_one _ | exact (fun _ h => h) | exact (fun _ h => (List.not_mem_nil h).elim) | (with_reducible refine e1_in ?_) | (with_reducible refine e2_in ?_) | (with_reducible refine lx_in (Nat.le_of_ble_eq_true rfl) ?_) | (with_reducible refine rqx_rf ?_) | (with_reducible refine rqx_in ?_ ?_ ?_) | (with_reducible apply And.intro) | (with_reducible intro _)))
  all_goals (first | (simp only [*, Bool.and_true, Bool.true_and, Bool.and_false, Bool.false_and, Bool.or_true, Bool.true_or, Bool.or_false, Bool.false_or, Bool.not_true, Bool.not_false, cond_true, cond_false]; done) | (refine intI ?_; unfold phL; simp_all; done) | (refine intI ?_; unfold phL; (simp only [decide_eq_true_eq, decide_eq_false_iff_not, Bool.or_eq_true, Bool.and_eq_true, Bool.or_eq_false_iff, Bool.and_eq_false_iff, Bool.not_eq_true', Bool.not_eq_false', beq_iff_eq, bne_iff_ne, beq_eq_false_iff_ne, bne_eq_false_iff_eq, ne_eq] at *); simp_all; done) | trace_state)
end Go.Proofs.YtnhlpgdadbjmoaaGreatDoor
