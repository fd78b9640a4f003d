/- Layer 5 (rules): the law on texts. -/
import Derived.Test.YtjdldofgkhibnaaGreatDoorVz
import Derived.KernelRfl
import Derived.Test.YtjdldofgkhibnaaGreatDoorProg
import Derived.Test.YtjdldofgkhibnaaGreatDoorBrg
import Derived.Test.YtjdldofgkhibnaaGreatDoorRda
import Derived.Test.YtjdldofgkhibnaaGreatDoorRub
import Derived.Test.YtjdldofgkhibnaaGreatDoorRubr
import Derived.Test.YtjdldofgkhibnaaGreatDoorRcc
import Derived.Test.YtjdldofgkhibnaaGreatDoorRce
import Derived.Test.YtjdldofgkhibnaaGreatDoorRct
import Derived.Test.YtjdldofgkhibnaaGreatDoorRcu
set_option linter.unusedSimpArgs false
set_option linter.unusedVariables false
set_option maxRecDepth 100000
namespace Go.Proofs.YtjdldofgkhibnaaGreatDoor
open Go.RowKit


theorem bnd_20 (r : Rul) : (bnd r).nm.size ≤ 20 := by
  show (r.nm.extract 0 _).size ≤ _
  rw [ByteArray.size_extract]
  split <;> omega

def rulesTexts_h (r : Rul) (B : RAd) : Hint := .specg rE [] [] [] (fun ads0 x ↦ Value.bool true) (.lit (ho 1 14 (.specg [] [] [] [] (fun ads0 x ↦ ruV (bnd r) B) (ho 1 28 (.specg rE [0] [cP (Rul.pw (bnd r))] [] (fun ads0 x ↦ Value.tuple #[Value.string (txE (bnd r)), .int .i64 (rck (bnd r))]) (ho 1 14 (.specg [] [0] [cP (Rul.pw (bnd r))] [] (fun
 ads0 x ↦ Value.tuple #[Value.string (txE (bnd r)), .int .i64 (rck (bnd r))]) (.pl (.known true (.lit (.lit (.pl (.lit (.perm [] .nil))))))))))))))
theorem rulesTexts_x (r : Rul) (B : RAd) : wpG Tryz.prog rE ([(B.a, cP (bnd r).pw)]) 400 3 [ruV r B] (rulesTexts_h r B) ([]) (fun _ => .bool true) = (∀ (b : Nat), (SpecG Tryz.prog rE [] (4 : FuncId) #[] [] fun x ↦ Value.bool true) /\ (∀ (e : Ex), e ∈ rE -> e ∈ rE) /\ e1 b 14 ((SpecG Tryz.prog [] [] (5 : FuncId) #[ruV r B] [] fun x ↦ ruV (bnd r) B) /\ (∀ (e : Ex), e ∈ [] -> e ∈ rE) /\ e2 b 14 (e1 b 14 (cP (Rul.pw (bnd r)) = cP (Rul.pw (bnd r)) /\
 (SpecG Tryz.prog rE [(RAd.a B, cP (Rul.pw (bnd r)))] (6 : FuncId) #[ruV (bnd r) B] [] fun x ↦ Value.tuple #[Value.string (txE (bnd r)), .int .i64 (rck (bnd r))]) /\ (∀ (e : Ex), e ∈ rE -> e ∈ rE) /\ e1 b 14 (cP (Rul.pw (bnd r)) = cP (Rul.pw (bnd r)) /\ (SpecG Tryz.prog [] [(RAd.a B, cP (Rul.pw (bnd
 r)))] (7 : FuncId) #[ruV (bnd r) B] [] fun x ↦ Value.tuple #[Value.string (txE (bnd r)), .int .i64 (rck (bnd r))]) /\ (∀ (e : Ex), e ∈ [] -> e ∈ rE) /\ (ByteArray.toList (txE (bnd r)) == ByteArray.toList (txE (bnd r))) = true /\ Value.bool (rck (bnd r) == rck (bnd r)) = Value.bool true))))) := by kernel_rfl
set_option maxHeartbeats 4000000 in
theorem rulesTexts_sp (r : Rul) (B : RAd) (hB : AOK B.a r.pw.length) (hBc : r.pw.length ≤ B.c) : SpecG Tryz.prog rE ([(B.a, cP (bnd r).pw)]) 3 #[ruV r B] ([]) (fun _ => .bool true) := by
  refine specG_of (h := rulesTexts_h r B) (?_ : wpG Tryz.prog rE ([(B.a, cP (bnd r).pw)]) 400 3 [ruV r B] (rulesTexts_h r B) ([]) (fun _ => .bool true))
  rw [rulesTexts_x]
  (repeat' (first | with_reducible exact rfl | exact trivial | with_reducible assumption | (with_reducible exact awk_sp) | (with_reducible exact few5_sp _ _ hBc) | (with_reducible exact rtx_sp _ _ (aok_b hB) (bnd_pw r) (bnd_20 r)) | (with_reducible exact qtx_sp _ _ (aok_b hB) (bnd_pw r) (bnd_20 r)) | exact aok0 | exact aokb _ _ | exact cU_len _ | exact cI_len _ | exact cB_len _ | exact cU_one _ | exact cI_one _ | exact cB_one _ | exact (fun _ h => h) | exact (fun _ h => (List.not_mem_nil h).elim) | (with_reducible refine e1_in ?_) | (with_reducible refine e2_in ?_) | (with_reducible refine lx_in (Nat.le_of_ble_eq_true rfl) ?_) | (with_reducible refine rqx_rf ?_) | (with_reducible refine rqx_in ?_ ?_ ?_) | (with_reducible apply And.intro) | (with_reducible intro _)))
  all_goals (first | (simp only [*, Bool.and_true, Bool.true_and, Bool.and_false, Bool.false_and, Bool.or_true, Bool.true_or, Bool.or_false, Bool.false_or, Bool.not_true, Bool.not_false, cond_true, cond_false]; done) | (simp; done) | (split <;> omega) | trace_state)
end Go.Proofs.YtjdldofgkhibnaaGreatDoor
