/- Layer 6 (squad): the law on checks. -/
import Derived.Test.YtaijjnafanmcnaaDoorVz
import Derived.KernelRfl
import Derived.Test.YtaijjnafanmcnaaDoorProg
import Derived.Test.YtaijjnafanmcnaaDoorBrg
import Derived.Test.YtaijjnafanmcnaaDoorRda
import Derived.Test.YtaijjnafanmcnaaDoorRub
import Derived.Test.YtaijjnafanmcnaaDoorRubr
import Derived.Test.YtaijjnafanmcnaaDoorSqw
import Derived.Test.YtaijjnafanmcnaaDoorSqa
import Derived.Test.YtaijjnafanmcnaaDoorSqb
import Derived.Test.YtaijjnafanmcnaaDoorSqf
set_option linter.unusedSimpArgs false
set_option linter.unusedVariables false
set_option maxRecDepth 100000
namespace Go.Proofs.YtaijjnafanmcnaaDoor
open Go.RowKit


def squadChecks_h (s : Squ) (B : RAd) (x : ByteArray) (p : Int) : Hint := .specg rE [] [] [] (fun ads0 x ↦ Value.bool true) (.lit (ho 1 4 (.specg [] [0] [cS (Squ.pl s)] [RowT.mk (9 : TypeId) (1 : Nat) (List.length (fewL (Squ.pl s))) (cS (fewL (Squ.pl s)))] (fun ads0 ads ↦ sqV (fewS s) (RAd.mk (Prod.fst (nthA ads (0 : Nat))) (Prod.snd (nthA ads (0 : Nat))))) (ho 1 4 (.pl
 (.pl (.ix (.draw [0, 1, 2] none [0, 1, 2] (.take 0 (ho 1 4 (.take 2 (ho 1 4 (.pl (.br (.specg [] [2] [cS (fewL (Squ.pl s))] [] (fun ads0 x ↦ Value.int .i64 (sqk (Squ.mk (Squ.nm (fewS s)) (fewL (Squ.pl s)) (Squ.ca (fewS s)) (Squ.ke (fewS s))))) (.pl (.br (.specg [] [2] [cS (fewL (Squ.pl s))] [] (fun
 ads0 x ↦ Value.int .i64 (sqk (Squ.mk (Squ.nm (fewS s)) (fewL (Squ.pl s)) (Squ.ca (fewS s)) (Squ.ke (fewS s))))) (.take 4 (.pl (.take 5 (.take 6 (.known true (ho 1 4 (.take 7 (.lit (.take 9 (.lit (ho 1 4 (.take 10 (.lit (.pl (.br (.lit (.specg [] [2] [cS (fewL (Squ.pl s))] [] (fun ads0 x_1 ↦
 Value.int .i64 (fnd (Squ.pl (Squ.mk (Squ.nm (fewS s)) (fewL (Squ.pl s)) (Squ.ca (fewS s)) (Squ.ke (fewS s)))) (ByteArray.extract x (0 : Nat) (Int.toNat (if (20 : Int) < (↑(ByteArray.size x) : Int) then (20 : Int) else (↑(ByteArray.size x) : Int)))) + 1)) (.pl (.br (.lit (.specg [] [2] [cS (fewL
 (Squ.pl s))] [] (fun ads0 x_1 ↦ Value.int .i64 (fnd (Squ.pl (Squ.mk (Squ.nm (fewS s)) (fewL (Squ.pl s)) (Squ.ca (fewS s)) (Squ.ke (fewS s)))) (ByteArray.extract x (0 : Nat) (Int.toNat (if (20 : Int) < (↑(ByteArray.size x) : Int) then (20 : Int) else (↑(ByteArray.size x) : Int)))) + 1)) (.take 12
 (.lit (.pl (.take 13 (.lit (.take 14 (.take 15 (.known true (ho 1 4 (.take 16 (.lit (.take 18 (.lit (ho 1 4 (.take 19 (.lit (.pl (.br (.lit (.specg [] [2] [cS (fewL (Squ.pl s))] [] (fun ads0 x ↦ Value.string (ttl (Squ.mk (Squ.nm (fewS s)) (fewL (Squ.pl s)) (Squ.ca (fewS s)) (Squ.ke (fewS s))) p))
 (.pl (.br (.lit (.specg [] [2] [cS (fewL (Squ.pl s))] [] (fun ads0 x ↦ Value.string (ttl (Squ.mk (Squ.nm (fewS s)) (fewL (Squ.pl s)) (Squ.ca (fewS s)) (Squ.ke (fewS s))) p)) (.take 21 (.lit (.pl (.take 22 (.lit (.take 23 (.perm [] .nil))))))))) .nil)))) .nil)))))))))))))))))))) .nil))))
 .nil)))))))))))))))) .nil))) .nil))))))))))))))
theorem squadChecks_x (s : Squ) (B : RAd) (x : ByteArray) (p : Int) : wpG Tryd.prog rE ([(B.a, cS s.pl)]) 400 3 [sqV s B, .string x, .int .i64 p] (squadChecks_h s B x p) ([]) (fun _ => .bool true) = (∀ (b : Nat), (SpecG Tryd.prog rE [] (10 : FuncId) #[] [] fun x ↦ Value.bool true) /\ (∀ (e : Ex), e ∈ rE -> e ∈ rE) /\ e1 b 4 (cS (Squ.pl s) = cS (Squ.pl s) /\ (SpecG Tryd.prog [] [(RAd.a B, cS (Squ.pl s))] (11 : FuncId) #[sqV s B] [RowT.mk (9 : TypeId) (1 : Nat) (List.length (fewL (Squ.pl s))) (cS
 (fewL (Squ.pl s)))] fun ads ↦ sqV (fewS s) (RAd.mk (Prod.fst (nthA ads (0 : Nat))) (Prod.snd (nthA ads (0 : Nat))))) /\ (∀ (e : Ex), e ∈ [] -> e ∈ rE) /\ ∀ (a : Option Addr) (cap : Nat), AOK a (List.length (fewL (Squ.pl s))) -> List.length (fewL (Squ.pl s)) ≤ cap -> e2 b 4 ((((0 : Int) ≤ if (20 :
 Int) < (↑(ByteArray.size x) : Int) then (20 : Int) else (↑(ByteArray.size x) : Int)) /\ (if (20 : Int) < (↑(ByteArray.size x) : Int) then (20 : Int) else (↑(ByteArray.size x) : Int)) ≤ (↑(ByteArray.size x) : Int)) /\ e1 b 7 (b = b /\ True /\ (cS (fewL (Squ.pl s)) = cS (fewL (Squ.pl s)) /\ (SpecG
 Tryd.prog [] [(RAd.a (RAd.mk a cap), cS (Squ.pl (Squ.mk (Squ.nm (fewS s)) (fewL (Squ.pl s)) (Squ.ca (fewS s)) (Squ.ke (fewS s)))))] (12 : FuncId) #[sqV (Squ.mk (Squ.nm (fewS s)) (fewL (Squ.pl s)) (Squ.ca (fewS s)) (Squ.ke (fewS s))) (RAd.mk a cap)] [] fun x ↦ Value.int .i64 (sqk (Squ.mk (Squ.nm (fewS
 s)) (fewL (Squ.pl s)) (Squ.ca (fewS s)) (Squ.ke (fewS s))))) /\ (∀ (e : Ex), e ∈ [] -> e ∈ rE) /\ True /\ (cS (fewL (Squ.pl s)) = cS (fewL (Squ.pl s)) /\ (SpecG Tryd.prog [] [(RAd.a (RAd.mk a cap), cS (Squ.pl (Squ.mk (Squ.nm (fewS s)) (fewL (Squ.pl s)) (Squ.ca (fewS s)) (Squ.ke (fewS s)))))] (13 :
 FuncId) #[sqV (Squ.mk (Squ.nm (fewS s)) (fewL (Squ.pl s)) (Squ.ca (fewS s)) (Squ.ke (fewS s))) (RAd.mk a cap)] [] fun x ↦ Value.int .i64 (sqk (Squ.mk (Squ.nm (fewS s)) (fewL (Squ.pl s)) (Squ.ca (fewS s)) (Squ.ke (fewS s))))) /\ (∀ (e : Ex), e ∈ [] -> e ∈ rE) /\ (sqk (Squ.mk (Squ.nm (fewS s)) (fewL
 (Squ.pl s)) (Squ.ca (fewS s)) (Squ.ke (fewS s))) == sqk (Squ.mk (Squ.nm (fewS s)) (fewL (Squ.pl s)) (Squ.ca (fewS s)) (Squ.ke (fewS s)))) = true /\ e1 b 7 (b = b /\ True /\ (cS (fewL (Squ.pl s)) = cS (fewL (Squ.pl s)) /\ (SpecG Tryd.prog [] [(RAd.a (RAd.mk a cap), cS (Squ.pl (Squ.mk (Squ.nm (fewS s))
 (fewL (Squ.pl s)) (Squ.ca (fewS s)) (Squ.ke (fewS s)))))] (14 : FuncId) #[sqV (Squ.mk (Squ.nm (fewS s)) (fewL (Squ.pl s)) (Squ.ca (fewS s)) (Squ.ke (fewS s))) (RAd.mk a cap), .string (ByteArray.extract x (0 : Nat) (Int.toNat (if (20 : Int) < (↑(ByteArray.size x) : Int) then (20 : Int) else
 (↑(ByteArray.size x) : Int))))] [] fun x_3 ↦ Value.int .i64 (fnd (Squ.pl (Squ.mk (Squ.nm (fewS s)) (fewL (Squ.pl s)) (Squ.ca (fewS s)) (Squ.ke (fewS s)))) (ByteArray.extract x (0 : Nat) (Int.toNat (if (20 : Int) < (↑(ByteArray.size x) : Int) then (20 : Int) else (↑(ByteArray.size x) : Int)))) + 1))
 /\ (∀ (e : Ex), e ∈ [] -> e ∈ rE) /\ True /\ (cS (fewL (Squ.pl s)) = cS (fewL (Squ.pl s)) /\ (SpecG Tryd.prog [] [(RAd.a (RAd.mk a cap), cS (Squ.pl (Squ.mk (Squ.nm (fewS s)) (fewL (Squ.pl s)) (Squ.ca (fewS s)) (Squ.ke (fewS s)))))] (15 : FuncId) #[sqV (Squ.mk (Squ.nm (fewS s)) (fewL (Squ.pl s))
 (Squ.ca (fewS s)) (Squ.ke (fewS s))) (RAd.mk a cap), .string (ByteArray.extract x (0 : Nat) (Int.toNat (if (20 : Int) < (↑(ByteArray.size x) : Int) then (20 : Int) else (↑(ByteArray.size x) : Int))))] [] fun x_3 ↦ Value.int .i64 (fnd (Squ.pl (Squ.mk (Squ.nm (fewS s)) (fewL (Squ.pl s)) (Squ.ca (fewS
 s)) (Squ.ke (fewS s)))) (ByteArray.extract x (0 : Nat) (Int.toNat (if (20 : Int) < (↑(ByteArray.size x) : Int) then (20 : Int) else (↑(ByteArray.size x) : Int)))) + 1)) /\ (∀ (e : Ex), e ∈ [] -> e ∈ rE) /\ (fnd (fewL (Squ.pl s)) (ByteArray.extract x (0 : Nat) (Int.toNat (if (20 : Int) <
 (↑(ByteArray.size x) : Int) then (20 : Int) else (↑(ByteArray.size x) : Int)))) + 1 == fnd (fewL (Squ.pl s)) (ByteArray.extract x (0 : Nat) (Int.toNat (if (20 : Int) < (↑(ByteArray.size x) : Int) then (20 : Int) else (↑(ByteArray.size x) : Int)))) + 1) = true /\ e1 b 7 (b = b /\ True /\ (cS (fewL
 (Squ.pl s)) = cS (fewL (Squ.pl s)) /\ (SpecG Tryd.prog [] [(RAd.a (RAd.mk a cap), cS (Squ.pl (Squ.mk (Squ.nm (fewS s)) (fewL (Squ.pl s)) (Squ.ca (fewS s)) (Squ.ke (fewS s)))))] (16 : FuncId) #[sqV (Squ.mk (Squ.nm (fewS s)) (fewL (Squ.pl s)) (Squ.ca (fewS s)) (Squ.ke (fewS s))) (RAd.mk a cap), .int
 .i64 p] [] fun x ↦ Value.string (ttl (Squ.mk (Squ.nm (fewS s)) (fewL (Squ.pl s)) (Squ.ca (fewS s)) (Squ.ke (fewS s))) p)) /\ (∀ (e : Ex), e ∈ [] -> e ∈ rE) /\ True /\ (cS (fewL (Squ.pl s)) = cS (fewL (Squ.pl s)) /\ (SpecG Tryd.prog [] [(RAd.a (RAd.mk a cap), cS (Squ.pl (Squ.mk (Squ.nm (fewS s)) (fewL
 (Squ.pl s)) (Squ.ca (fewS s)) (Squ.ke (fewS s)))))] (17 : FuncId) #[sqV (Squ.mk (Squ.nm (fewS s)) (fewL (Squ.pl s)) (Squ.ca (fewS s)) (Squ.ke (fewS s))) (RAd.mk a cap), .int .i64 p] [] fun x ↦ Value.string (ttl (Squ.mk (Squ.nm (fewS s)) (fewL (Squ.pl s)) (Squ.ca (fewS s)) (Squ.ke (fewS s))) p)) /\
 (∀ (e : Ex), e ∈ [] -> e ∈ rE) /\ Value.bool (ByteArray.toList (ttl (Squ.mk (Squ.nm (fewS s)) (fewL (Squ.pl s)) (Squ.ca (fewS s)) (Squ.ke (fewS s))) p) == ByteArray.toList (ttl (Squ.mk (Squ.nm (fewS s)) (fewL (Squ.pl s)) (Squ.ca (fewS s)) (Squ.ke (fewS s))) p)) = Value.bool true) /\ True) /\ True))
 /\ True) /\ True)) /\ True) /\ True)))) := by kernel_rfl
set_option maxHeartbeats 4000000 in
theorem squadChecks_sp (s : Squ) (B : RAd) (x : ByteArray) (p : Int) (hB : AOK B.a s.pl.length) : SpecG Tryd.prog rE ([(B.a, cS s.pl)]) 3 #[sqV s B, .string x, .int .i64 p] ([]) (fun _ => .bool true) := by
  refine specG_of (h := squadChecks_h s B x p) (?_ : wpG Tryd.prog rE ([(B.a, cS s.pl)]) 400 3 [sqV s B, .string x, .int .i64 p] (squadChecks_h s B x p) ([]) (fun _ => .bool true))
  rw [squadChecks_x]
  (repeat' (first | with_reducible exact rfl | exact trivial | with_reducible assumption | (with_reducible exact awk_sp) | (with_reducible exact few6_sp _ _ hB) | (with_reducible exact sch_sp _ _ (by assumption) (by first | assumption | exact fewS_pl _) (fewS_pl _) (fewS_nm _) (fewS_sz _)) | (with_reducible exact scr_sp _ _ (by assumption) (by first | assumption | exact fewS_pl _) (fewS_pl _) (fewS_nm _) (fewS_sz _)) | (with_reducible exact fds_sp _ _ _ (by assumption) (fewS_pl _)) | (with_reducible exact fdr_sp _ _ _ (by assumption) (fewS_pl _)) | (with_reducible exact ttp_sp _ _ _ (by assumption) (fewS_pl _) (fewS_sz _)) | (with_reducible exact ttr_sp _ _ _ (by assumption) (fewS_pl _) (fewS_sz _)) | exact exact cU_len _ | exact cI_len _ | exact cB_len _ | exact cU_one _ | exact cI_one _ | exact cB_one _ | exact (fun _ h => h) | exact (fun _ h => (List.not_mem_nil h).elim) | (with_reducible refine e1_in ?_) | (with_reducible refine e2_in ?_) | (with_reducible refine lx_in (Nat.le_of_ble_eq_true rfl) ?_) | (with_reducible refine rqx_rf ?_) | (with_reducible refine rqx_in ?_ ?_ ?_) | (with_reducible apply And.intro) | (with_reducible intro _)))
  all_goals (first | (simp only [*, Bool.and_true, Bool.true_and, Bool.and_false, Bool.false_and, Bool.or_true, Bool.true_or, Bool.or_false, Bool.false_or, Bool.not_true, Bool.not_false, cond_true, cond_false]; done) | (simp; done) | (split <;> omega) | trace_state)
end Go.Proofs.YtaijjnafanmcnaaDoor
