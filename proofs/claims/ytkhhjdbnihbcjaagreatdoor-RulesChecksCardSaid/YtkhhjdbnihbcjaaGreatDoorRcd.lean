/- Layer 5 (rules): the laws on checks and on standard rules. -/
import Derived.Test.YtkhhjdbnihbcjaaGreatDoorVz
import Derived.KernelRfl
import Derived.Test.YtkhhjdbnihbcjaaGreatDoorProg
import Derived.Test.YtkhhjdbnihbcjaaGreatDoorBrg
import Derived.Test.YtkhhjdbnihbcjaaGreatDoorRda
import Derived.Test.YtkhhjdbnihbcjaaGreatDoorRdar
import Derived.Test.YtkhhjdbnihbcjaaGreatDoorRub
import Derived.Test.YtkhhjdbnihbcjaaGreatDoorRubr
import Derived.Test.YtkhhjdbnihbcjaaGreatDoorRcc
import Derived.Test.YtkhhjdbnihbcjaaGreatDoorRccr
import Derived.Test.YtkhhjdbnihbcjaaGreatDoorRce
set_option linter.unusedSimpArgs false
set_option linter.unusedVariables false
set_option maxRecDepth 100000
namespace Go.Proofs.YtkhhjdbnihbcjaaGreatDoor
open Go.RowKit


theorem st_nm {x y : ByteArray} (h : (ByteArray.toList x == ByteArray.toList y) = true) : x = y := by
  have := eq_of_beq h
  rw [ByteArray.toList_eq, ByteArray.toList_eq] at this
  obtain ⟨⟨l⟩⟩ := x
  obtain ⟨⟨m⟩⟩ := y
  simp only at this
  rw [this]
theorem stN (b : ByteArray) : (b.extract 0 (if (20 : Int) < b.size then 20 else (b.size : Int)).toNat).size ≤ 1000000 := by
  rw [ByteArray.size_extract]
  split <;> omega
theorem aokn : AOK none ([] : List Ph).length := ⟨(fun _ => rfl), (fun _ q hq => by cases hq)⟩
theorem rchL (r : Rul) (B : RAd) (h1 : AOK B.a r.pw.length) (h2 : r.pw.length ≤ 2) (h3 : r.nm.size ≤ 1000000) : SpecG Tryz.prog [] [(B.a, cP r.pw)] 12 #[ruV r B] [] (fun _ => .int .i64 (rck r)) := rch_sp r B h1 (by omega) h3

def rulesChecks_h (r : Rul) (B : RAd) (o : Int) : Hint := .specg rE [] [] [] (fun ads0 x ↦ Value.bool true) (.lit (ho 1 14 (.specg [] [] [] [] (fun ads0 x ↦ ruV (bnd r) B) (ho 1 14 (.draw [0, 1] none [0, 1] (.take 0 (ho 1 14 (.take 2 (ho 1 14 (.pl (.br (.specg [] [0] [cP (Rul.pw (bnd r))] [] (fun ads0 x ↦ Value.int .i64 (rck (bnd r))) (.pl (.br (.specg []
 [0] [cP (Rul.pw (bnd r))] [] (fun ads0 x ↦ Value.int .i64 (rck (bnd r))) (.take 4 (.pl (.take 5 (.take 6 (.known true (ho 1 14 (.take 7 (.lit (.take 8 (.lit (.pl (.take 10 (.lit (ho 1 14 (.take 11 (.lit (.take 12 (.lit (.pl (.pl (.br (.lit (.specg [] [0] [cP (Rul.pw (bnd r))] [] (fun ads0 x ↦
 Value.int .i64 (alw (bnd r) (IntKind.i64.wrap (IntKind.i64.wrap o + 1)))) (.pl (.br (.lit (.specg [] [0] [cP (Rul.pw (bnd r))] [] (fun ads0 x ↦ Value.int .i64 (alw (bnd r) (IntKind.i64.wrap (IntKind.i64.wrap o + 1)))) (.take 14 (.lit (.pl (.take 15 (.lit (.take 16 (.take 17 (.known true (ho 1 14
 (.take 19 (.lit (ho 1 14 (.pl (.br (.lit (.specg [] [0] [cP (Rul.pw (bnd r))] [] (fun ads0 x ↦ Value.int .i64 (mo (bnd r))) (.pl (.br (.lit (.specg [] [0] [cP (Rul.pw (bnd r))] [] (fun ads0 x ↦ Value.int .i64 (mo (bnd r))) (.take 21 (.lit (.pl (.take 22 (.lit (.take 23 (.perm [] .nil)))))))))
 .nil)))) .nil)))))))))))))))) .nil)))) .nil)))))))))))))))))))))) .nil))) .nil)))))))))))
theorem rulesChecks_x (r : Rul) (B : RAd) (o : Int) : wpG Tryz.prog rE ([(B.a, cP (bnd r).pw)]) 400 3 [ruV r B, .int .i32 o] (rulesChecks_h r B o) ([]) (fun _ => .bool true) = (∀ (b : Nat), (SpecG Tryz.prog rE [] (10 : FuncId) #[] [] fun x ↦ Value.bool true) /\ (∀ (e : Ex), e ∈ rE -> e ∈ rE) /\ e1 b 14 ((SpecG Tryz.prog [] [] (11 : FuncId) #[ruV r B] [] fun x ↦ ruV (bnd r) B) /\ (∀ (e : Ex), e ∈ [] -> e ∈ rE) /\ e2 b 14 (e1 b 27 (b = b /\ True /\ (cP (Rul.pw (bnd r)) = cP
 (Rul.pw (bnd r)) /\ (SpecG Tryz.prog [] [(RAd.a B, cP (Rul.pw (bnd r)))] (12 : FuncId) #[ruV (bnd r) B] [] fun x ↦ Value.int .i64 (rck (bnd r))) /\ (∀ (e : Ex), e ∈ [] -> e ∈ rE) /\ True /\ (cP (Rul.pw (bnd r)) = cP (Rul.pw (bnd r)) /\ (SpecG Tryz.prog [] [(RAd.a B, cP (Rul.pw (bnd r)))] (13 : FuncId)
 #[ruV (bnd r) B] [] fun x ↦ Value.int .i64 (rck (bnd r))) /\ (∀ (e : Ex), e ∈ [] -> e ∈ rE) /\ (rck (bnd r) == rck (bnd r)) = true /\ e1 b 27 (b = b /\ True /\ (cP (Rul.pw (bnd r)) = cP (Rul.pw (bnd r)) /\ (SpecG Tryz.prog [] [(RAd.a B, cP (Rul.pw (bnd r)))] (14 : FuncId) #[ruV (bnd r) B, .int .i64
 (IntKind.i64.wrap o)] [] fun x ↦ Value.int .i64 (alw (bnd r) (IntKind.i64.wrap (IntKind.i64.wrap o + 1)))) /\ (∀ (e : Ex), e ∈ [] -> e ∈ rE) /\ True /\ (cP (Rul.pw (bnd r)) = cP (Rul.pw (bnd r)) /\ (SpecG Tryz.prog [] [(RAd.a B, cP (Rul.pw (bnd r)))] (15 : FuncId) #[ruV (bnd r) B, .int .i64
 (IntKind.i64.wrap o)] [] fun x ↦ Value.int .i64 (alw (bnd r) (IntKind.i64.wrap (IntKind.i64.wrap o + 1)))) /\ (∀ (e : Ex), e ∈ [] -> e ∈ rE) /\ (alw (bnd r) (IntKind.i64.wrap (IntKind.i64.wrap o + 1)) == alw (bnd r) (IntKind.i64.wrap (IntKind.i64.wrap o + 1))) = true /\ e1 b 27 (b = b /\ True /\ (cP
 (Rul.pw (bnd r)) = cP (Rul.pw (bnd r)) /\ (SpecG Tryz.prog [] [(RAd.a B, cP (Rul.pw (bnd r)))] (16 : FuncId) #[ruV (bnd r) B] [] fun x ↦ Value.int .i64 (mo (bnd r))) /\ (∀ (e : Ex), e ∈ [] -> e ∈ rE) /\ True /\ (cP (Rul.pw (bnd r)) = cP (Rul.pw (bnd r)) /\ (SpecG Tryz.prog [] [(RAd.a B, cP (Rul.pw
 (bnd r)))] (17 : FuncId) #[ruV (bnd r) B] [] fun x ↦ Value.int .i64 (mo (bnd r))) /\ (∀ (e : Ex), e ∈ [] -> e ∈ rE) /\ Value.bool (mo (bnd r) == mo (bnd r)) = Value.bool true) /\ True) /\ True)) /\ True) /\ True)) /\ True) /\ True)))) := by kernel_rfl
set_option maxHeartbeats 4000000 in
theorem rulesChecks_sp (r : Rul) (B : RAd) (o : Int) (hB : AOK B.a r.pw.length) (hBc : r.pw.length ≤ B.c) : SpecG Tryz.prog rE ([(B.a, cP (bnd r).pw)]) 3 #[ruV r B, .int .i32 o] ([]) (fun _ => .bool true) := by
  refine specG_of (h := rulesChecks_h r B o) (?_ : wpG Tryz.prog rE ([(B.a, cP (bnd r).pw)]) 400 3 [ruV r B, .int .i32 o] (rulesChecks_h r B o) ([]) (fun _ => .bool true))
  rw [rulesChecks_x]
  (repeat' (first | with_reducible exact rfl | exact trivial | with_reducible assumption | (with_reducible exact awk_sp) | (with_reducible exact few5_sp _ _ hBc) | (with_reducible exact rch_sp _ _ (aok_b hB) (bnd_pw r) (bnd_nm r)) | (with_reducible exact rrc_sp _ _ (aok_b hB) (bnd_pw r) (bnd_nm r)) | (with_reducible exact alp_sp _ _ _ (aok_b hB) (bnd_pw r)) | (with_reducible exact alr_sp _ _ _ (aok_b hB) (bnd_pw r)) | (with_reducible exact mst_sp _ _ (aok_b hB) (bnd_pw r) (bnd_nm r)) | (with_reducible exact mor_sp _ _ (aok_b hB) (bnd_pw r) (bnd_nm r)) | exact aok0 | exact aokb _ _ | exact cU_len _ | exact cI_len _ | exact cB_len _ | exact cU_one _ | exact cI_one _ | exact cB_one _ | exact (fun _ h => h) | exact (fun _ h => (List.not_mem_nil h).elim) | (with_reducible refine e1_in ?_) | (with_reducible refine e2_in ?_) | (with_reducible refine lx_in (Nat.le_of_ble_eq_true rfl) ?_) | (with_reducible refine rqx_rf ?_) | (with_reducible refine rqx_in ?_ ?_ ?_) | (with_reducible apply And.intro) | (with_reducible intro _)))
  all_goals (first | (simp only [*, Bool.and_true, Bool.true_and, Bool.and_false, Bool.false_and, Bool.or_true, Bool.true_or, Bool.or_false, Bool.false_or, Bool.not_true, Bool.not_false, cond_true, cond_false]; done) | (simp; done) | (split <;> omega) | trace_state)
end Go.Proofs.YtkhhjdbnihbcjaaGreatDoor
