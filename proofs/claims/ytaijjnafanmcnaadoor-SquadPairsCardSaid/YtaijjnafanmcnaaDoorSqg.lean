/- Layer 6 (squad): the law on two sides. -/
import Derived.Test.YtaijjnafanmcnaaDoorVz
import Derived.KernelRfl
import Derived.Test.YtaijjnafanmcnaaDoorProg
import Derived.Test.YtaijjnafanmcnaaDoorBrg
import Derived.Test.YtaijjnafanmcnaaDoorRda
import Derived.Test.YtaijjnafanmcnaaDoorRub
import Derived.Test.YtaijjnafanmcnaaDoorRubr
import Derived.Test.YtaijjnafanmcnaaDoorSqw
import Derived.Test.YtaijjnafanmcnaaDoorSqa
import Derived.Test.YtaijjnafanmcnaaDoorSqb
import Derived.Test.YtaijjnafanmcnaaDoorSqp
import Derived.Test.YtaijjnafanmcnaaDoorSqf
set_option linter.unusedSimpArgs false
set_option linter.unusedVariables false
set_option maxRecDepth 100000
namespace Go.Proofs.YtaijjnafanmcnaaDoor
open Go.RowKit


theorem take10 {α : Type} (l : List α) : (if (10 : Int) < l.length then 10 else (l.length : Int)).toNat = (l.take 10).length := by
  rw [List.length_take]
  split <;> omega
theorem aok_take {α : Type} {a : Option Addr} {l : List α} (n : Nat) (h : AOK a l.length) : AOK a (l.take n).length := ⟨(fun e => by have := h.1 e; rw [List.length_take]; omega), (fun hn q hq => h.2 (by rw [List.length_take] at hn; omega) q hq)⟩
def bnd (r : Rul) : Rul := { r with nm := r.nm.extract 0 (if (20 : Int) < r.nm.size then 20 else (r.nm.size : Int)).toNat, pw := r.pw.take 10 }
theorem bnd_nm (r : Rul) : (bnd r).nm.size ≤ 1000000 := by
  show (r.nm.extract 0 _).size ≤ _
  rw [ByteArray.size_extract]
  split <;> omega
theorem bnd_pw (r : Rul) : (bnd r).pw.length ≤ 1000000 := by
  show (r.pw.take 10).length ≤ _
  rw [List.length_take]
  omega
theorem aok_b {r : Rul} {B : RAd} (hB : AOK B.a r.pw.length) : AOK B.a (bnd r).pw.length := aok_take 10 hB

def squadPairs_h (r : Rul) (B : RAd) (a : Squ) (A : RAd) (b : Squ) (D : RAd) : Hint := .specg rE [] [] [] (fun ads0 x ↦ Value.bool true) (.lit (.draw (List.range 6) (some 14) [0, 1, 2, 4, 5] (.take 0 (.take 1 (.ob 3 (.take 2 (.take 3 (.ob 3 (.take 4 (.pl (.take 5 (.pl (.take 6 (.ix (.take 7 (.take 8 (.ob 3 (.take 9 (.take 10 (.ob 3 (.take 11 (.pl (.take 12 (.pl (.take 13 (.ix (.pl (.br
 (.pl (.br (.ob 3 (.take 16 (.pl (.br (.ob 3 (.draw (List.range 6) (some 3) [0, 1, 2, 3] (.take 2 (ho 5 4 (.pl (.br (ho 4 4 (.pl (.br (.specg [] [1] [cS (Squ.pl a)] [RowT.mk (9 : TypeId) (1 : Nat) (List.length (fewL (Squ.pl a))) (cS (fewL (Squ.pl a)))] (fun ads0 ads ↦ sqV (fewS a) (RAd.mk (Prod.fst
 (nthA ads (0 : Nat))) (Prod.snd (nthA ads (0 : Nat))))) (.pl (.br (.specg [] [2] [cS (Squ.pl b)] [RowT.mk (9 : TypeId) (1 : Nat) (List.length (fewL (Squ.pl b))) (cS (fewL (Squ.pl b)))] (fun ads0 ads ↦ sqV (fewS b) (RAd.mk (Prod.fst (nthA ads (0 : Nat))) (Prod.snd (nthA ads (0 : Nat))))) (.pl (.br
 (ho 4 4 (.pl (.br (ho 5 4 (ho 3 14 (ho 4 4 (ho 5 4 (.specg [] [0, 6, 7] [cP (Rul.pw (bnd r)), cS (fewL (Squ.pl a)), cS (fewL (Squ.pl b))] [] (fun ads0 x ↦ Value.int .i64 (prK (Rul.mk (ByteArray.extract r.nm (0 : Nat) (Int.toNat (if (20 : Int) < (↑(ByteArray.size r.nm) : Int) then (20 : Int) else
 (↑(ByteArray.size r.nm) : Int)))) r.q1 r.q2 r.q3 r.q4 r.q5 r.q6 r.q7 r.fh r.q8 r.q9 r.qa r.qo (Rul.pw (bnd r))) (Squ.mk (Squ.nm (fewS a)) (fewL (Squ.pl a)) (Squ.ca (fewS a)) (Squ.ke (fewS a))) (Squ.mk (Squ.nm (fewS b)) (fewL (Squ.pl b)) (Squ.ca (fewS b)) (Squ.ke (fewS b))))) (ho 3 14 (ho 4 4 (ho 5 4
 (.specg [] [0, 6, 7] [cP (Rul.pw (bnd r)), cS (fewL (Squ.pl a)), cS (fewL (Squ.pl b))] [] (fun ads0 x ↦ Value.int .i64 (prK (Rul.mk (ByteArray.extract r.nm (0 : Nat) (Int.toNat (if (20 : Int) < (↑(ByteArray.size r.nm) : Int) then (20 : Int) else (↑(ByteArray.size r.nm) : Int)))) r.q1 r.q2 r.q3 r.q4
 r.q5 r.q6 r.q7 r.fh r.q8 r.q9 r.qa r.qo (Rul.pw (bnd r))) (Squ.mk (Squ.nm (fewS a)) (fewL (Squ.pl a)) (Squ.ca (fewS a)) (Squ.ke (fewS a))) (Squ.mk (Squ.nm (fewS b)) (fewL (Squ.pl b)) (Squ.ca (fewS b)) (Squ.ke (fewS b))))) (.pl (.known true (.lit (.pl (.lit (ho 3 14 (.lit (ho 5 4 (.lit (ho 4 4 (.lit
 (.specg [] [0, 7, 6] [cP (Rul.pw (bnd r)), cS (fewL (Squ.pl b)), cS (fewL (Squ.pl a))] [] (fun ads0 x ↦ Value.int .i64 (prK (Rul.mk (ByteArray.extract r.nm (0 : Nat) (Int.toNat (if (20 : Int) < (↑(ByteArray.size r.nm) : Int) then (20 : Int) else (↑(ByteArray.size r.nm) : Int)))) r.q1 r.q2 r.q3 r.q4
 r.q5 r.q6 r.q7 r.fh r.q8 r.q9 r.qa r.qo (Rul.pw (bnd r))) (Squ.mk (Squ.nm (fewS b)) (fewL (Squ.pl b)) (Squ.ca (fewS b)) (Squ.ke (fewS b))) (Squ.mk (Squ.nm (fewS a)) (fewL (Squ.pl a)) (Squ.ca (fewS a)) (Squ.ke (fewS a))))) (.lit (hp 2 (.perm [] .nil)))))))))))))))))))))))) .nil))) .nil))) .nil)))
 .nil))) .nil)))))) .nil)))) .nil)) .nil))))))))))))))))))))))))))))
theorem squadPairs_x (r : Rul) (B : RAd) (a : Squ) (A : RAd) (b : Squ) (D : RAd) : wpG Tryd.prog rE ([(B.a, cP (bnd r).pw), (A.a, cS a.pl), (D.a, cS b.pl)]) 400 4 [ruV r B, sqV a A, sqV b D] (squadPairs_h r B a A b D) ([]) (fun _ => .bool true) = (∀ (b_1 b_2 b_3 : Nat), (SpecG Tryd.prog rE [] (10 : FuncId) #[] [] fun x ↦ Value.bool true) /\ (∀ (e : Ex), e ∈ rE -> e ∈ rE) /\ b_1 = b_1 /\ b_1 = b_1 /\ (((0 : Int) ≤ if (20 : Int) < (↑(ByteArray.size r.nm) : Int) then (20 : Int) else (↑(ByteArray.size r.nm) : Int)) /\ (if (20 : Int) <
 (↑(ByteArray.size r.nm) : Int) then (20 : Int) else (↑(ByteArray.size r.nm) : Int)) ≤ (↑(ByteArray.size r.nm) : Int)) /\ b_1 = b_1 /\ b_1 = b_1 /\ (((0 : Int) ≤ if (10 : Int) < (↑(r.pw.length) : Int) then (10 : Int) else (↑(r.pw.length) : Int)) /\ (if (10 : Int) < (↑(r.pw.length) : Int) then (10 :
 Int) else (↑(r.pw.length) : Int)) ≤ (↑(RAd.c B) : Int)) /\ True /\ (True /\ (b_1 = b_1 /\ True /\ True /\ (b_1 = b_1 /\ True /\ e1 b_3 3 (b_3 = b_3 /\ True /\ (e1 b_2 3 (b_2 = b_2 /\ True /\ (cS (Squ.pl a) = cS (Squ.pl a) /\ (SpecG Tryd.prog [] [(RAd.a A, cS (Squ.pl a))] (11 : FuncId) #[sqV a A]
 [RowT.mk (9 : TypeId) (1 : Nat) (List.length (fewL (Squ.pl a))) (cS (fewL (Squ.pl a)))] fun ads ↦ sqV (fewS a) (RAd.mk (Prod.fst (nthA ads (0 : Nat))) (Prod.snd (nthA ads (0 : Nat))))) /\ (∀ (e : Ex), e ∈ [] -> e ∈ rE) /\ ∀ (a_1 : Option Addr) (cap : Nat), AOK a_1 (List.length (fewL (Squ.pl a))) ->
 List.length (fewL (Squ.pl a)) ≤ cap -> True /\ (cS (Squ.pl b) = cS (Squ.pl b) /\ (SpecG Tryd.prog [] [(RAd.a D, cS (Squ.pl b))] (11 : FuncId) #[sqV b D] [RowT.mk (9 : TypeId) (1 : Nat) (List.length (fewL (Squ.pl b))) (cS (fewL (Squ.pl b)))] fun ads ↦ sqV (fewS b) (RAd.mk (Prod.fst (nthA ads (0 :
 Nat))) (Prod.snd (nthA ads (0 : Nat))))) /\ (∀ (e : Ex), e ∈ [] -> e ∈ rE) /\ ∀ (a_2 : Option Addr) (cap_1 : Nat), AOK a_2 (List.length (fewL (Squ.pl b))) -> List.length (fewL (Squ.pl b)) ≤ cap_1 -> True /\ (e2 b_2 4 (True /\ (e2 b_3 4 (e1 b_1 14 (e1 b_2 4 (e1 b_3 4 (cP (Rul.pw (bnd r)) = cP (Rul.pw
 (bnd r)) /\ cS (fewL (Squ.pl a)) = cS (fewL (Squ.pl a)) /\ cS (fewL (Squ.pl b)) = cS (fewL (Squ.pl b)) /\ (SpecG Tryd.prog [] [(RAd.a B, cP (Rul.pw (Rul.mk (ByteArray.extract r.nm (0 : Nat) (Int.toNat (if (20 : Int) < (↑(ByteArray.size r.nm) : Int) then (20 : Int) else (↑(ByteArray.size r.nm) :
 Int)))) r.q1 r.q2 r.q3 r.q4 r.q5 r.q6 r.q7 r.fh r.q8 r.q9 r.qa r.qo (Rul.pw (bnd r))))), (RAd.a (RAd.mk a_1 cap), cS (Squ.pl (Squ.mk (Squ.nm (fewS a)) (fewL (Squ.pl a)) (Squ.ca (fewS a)) (Squ.ke (fewS a))))), (RAd.a (RAd.mk a_2 cap_1), cS (Squ.pl (Squ.mk (Squ.nm (fewS b)) (fewL (Squ.pl b)) (Squ.ca
 (fewS b)) (Squ.ke (fewS b)))))] (18 : FuncId) (Array.mk [.agg (Array.mk [.string (ByteArray.extract r.nm (0 : Nat) (Int.toNat (if (20 : Int) < (↑(ByteArray.size r.nm) : Int) then (20 : Int) else (↑(ByteArray.size r.nm) : Int)))), .int .i64 r.q1, .int .i64 r.q2, .int .i64 r.q3, .int .i64 r.q4, .int
 .i64 r.q5, .int .i64 r.q6, .int .i64 r.q7, .bool r.fh, .int .i64 r.q8, .int .i64 r.q9, .int .i64 r.qa, .int .i64 r.qo, .slice (RAd.a B) (Int.toNat (if (10 : Int) < (↑(r.pw.length) : Int) then (10 : Int) else (↑(r.pw.length) : Int))) (RAd.c B)]), .agg (Array.mk [.string (Squ.nm (fewS a)), .slice a_1
 (List.length (Squ.pl (fewS a))) cap, .int .i64 (Squ.ca (fewS a)), .int .i64 (Squ.ke (fewS a))]), .agg (Array.mk [.string (Squ.nm (fewS b)), .slice a_2 (List.length (Squ.pl (fewS b))) cap_1, .int .i64 (Squ.ca (fewS b)), .int .i64 (Squ.ke (fewS b))])]) [] fun x ↦ Value.int .i64 (prK (Rul.mk
 (ByteArray.extract r.nm (0 : Nat) (Int.toNat (if (20 : Int) < (↑(ByteArray.size r.nm) : Int) then (20 : Int) else (↑(ByteArray.size r.nm) : Int)))) r.q1 r.q2 r.q3 r.q4 r.q5 r.q6 r.q7 r.fh r.q8 r.q9 r.qa r.qo (Rul.pw (bnd r))) (Squ.mk (Squ.nm (fewS a)) (fewL (Squ.pl a)) (Squ.ca (fewS a)) (Squ.ke
 (fewS a))) (Squ.mk (Squ.nm (fewS b)) (fewL (Squ.pl b)) (Squ.ca (fewS b)) (Squ.ke (fewS b))))) /\ (∀ (e : Ex), e ∈ [] -> e ∈ rE) /\ e1 b_1 14 (e1 b_2 4 (e1 b_3 4 (cP (Rul.pw (bnd r)) = cP (Rul.pw (bnd r)) /\ cS (fewL (Squ.pl a)) = cS (fewL (Squ.pl a)) /\ cS (fewL (Squ.pl b)) = cS (fewL (Squ.pl b)) /\
 (SpecG Tryd.prog [] [(RAd.a B, cP (Rul.pw (Rul.mk (ByteArray.extract r.nm (0 : Nat) (Int.toNat (if (20 : Int) < (↑(ByteArray.size r.nm) : Int) then (20 : Int) else (↑(ByteArray.size r.nm) : Int)))) r.q1 r.q2 r.q3 r.q4 r.q5 r.q6 r.q7 r.fh r.q8 r.q9 r.qa r.qo (Rul.pw (bnd r))))), (RAd.a (RAd.mk a_1
 cap), cS (Squ.pl (Squ.mk (Squ.nm (fewS a)) (fewL (Squ.pl a)) (Squ.ca (fewS a)) (Squ.ke (fewS a))))), (RAd.a (RAd.mk a_2 cap_1), cS (Squ.pl (Squ.mk (Squ.nm (fewS b)) (fewL (Squ.pl b)) (Squ.ca (fewS b)) (Squ.ke (fewS b)))))] (19 : FuncId) (Array.mk [.agg (Array.mk [.string (ByteArray.extract r.nm (0 :
 Nat) (Int.toNat (if (20 : Int) < (↑(ByteArray.size r.nm) : Int) then (20 : Int) else (↑(ByteArray.size r.nm) : Int)))), .int .i64 r.q1, .int .i64 r.q2, .int .i64 r.q3, .int .i64 r.q4, .int .i64 r.q5, .int .i64 r.q6, .int .i64 r.q7, .bool r.fh, .int .i64 r.q8, .int .i64 r.q9, .int .i64 r.qa, .int
 .i64 r.qo, .slice (RAd.a B) (Int.toNat (if (10 : Int) < (↑(r.pw.length) : Int) then (10 : Int) else (↑(r.pw.length) : Int))) (RAd.c B)]), .agg (Array.mk [.string (Squ.nm (fewS a)), .slice a_1 (List.length (Squ.pl (fewS a))) cap, .int .i64 (Squ.ca (fewS a)), .int .i64 (Squ.ke (fewS a))]), .agg
 (Array.mk [.string (Squ.nm (fewS b)), .slice a_2 (List.length (Squ.pl (fewS b))) cap_1, .int .i64 (Squ.ca (fewS b)), .int .i64 (Squ.ke (fewS b))])]) [] fun x ↦ Value.int .i64 (prK (Rul.mk (ByteArray.extract r.nm (0 : Nat) (Int.toNat (if (20 : Int) < (↑(ByteArray.size r.nm) : Int) then (20 : Int)
 else (↑(ByteArray.size r.nm) : Int)))) r.q1 r.q2 r.q3 r.q4 r.q5 r.q6 r.q7 r.fh r.q8 r.q9 r.qa r.qo (Rul.pw (bnd r))) (Squ.mk (Squ.nm (fewS a)) (fewL (Squ.pl a)) (Squ.ca (fewS a)) (Squ.ke (fewS a))) (Squ.mk (Squ.nm (fewS b)) (fewL (Squ.pl b)) (Squ.ca (fewS b)) (Squ.ke (fewS b))))) /\ (∀ (e : Ex), e ∈
 [] -> e ∈ rE) /\ (prK (Rul.mk (ByteArray.extract r.nm (0 : Nat) (Int.toNat (if (20 : Int) < (↑(ByteArray.size r.nm) : Int) then (20 : Int) else (↑(ByteArray.size r.nm) : Int)))) r.q1 r.q2 r.q3 r.q4 r.q5 r.q6 r.q7 r.fh r.q8 r.q9 r.qa r.qo (Rul.pw (bnd r))) (Squ.mk (Squ.nm (fewS a)) (fewL (Squ.pl a))
 (Squ.ca (fewS a)) (Squ.ke (fewS a))) (Squ.mk (Squ.nm (fewS b)) (fewL (Squ.pl b)) (Squ.ca (fewS b)) (Squ.ke (fewS b))) == prK (Rul.mk (ByteArray.extract r.nm (0 : Nat) (Int.toNat (if (20 : Int) < (↑(ByteArray.size r.nm) : Int) then (20 : Int) else (↑(ByteArray.size r.nm) : Int)))) r.q1 r.q2 r.q3 r.q4
 r.q5 r.q6 r.q7 r.fh r.q8 r.q9 r.qa r.qo (Rul.pw (bnd r))) (Squ.mk (Squ.nm (fewS a)) (fewL (Squ.pl a)) (Squ.ca (fewS a)) (Squ.ke (fewS a))) (Squ.mk (Squ.nm (fewS b)) (fewL (Squ.pl b)) (Squ.ca (fewS b)) (Squ.ke (fewS b)))) = true /\ e1 b_1 14 (e1 b_3 4 (e1 b_2 4 (cP (Rul.pw (bnd r)) = cP (Rul.pw (bnd
 r)) /\ cS (fewL (Squ.pl b)) = cS (fewL (Squ.pl b)) /\ cS (fewL (Squ.pl a)) = cS (fewL (Squ.pl a)) /\ (SpecG Tryd.prog [] [(RAd.a B, cP (Rul.pw (Rul.mk (ByteArray.extract r.nm (0 : Nat) (Int.toNat (if (20 : Int) < (↑(ByteArray.size r.nm) : Int) then (20 : Int) else (↑(ByteArray.size r.nm) : Int))))
 r.q1 r.q2 r.q3 r.q4 r.q5 r.q6 r.q7 r.fh r.q8 r.q9 r.qa r.qo (Rul.pw (bnd r))))), (RAd.a (RAd.mk a_2 cap_1), cS (Squ.pl (Squ.mk (Squ.nm (fewS b)) (fewL (Squ.pl b)) (Squ.ca (fewS b)) (Squ.ke (fewS b))))), (RAd.a (RAd.mk a_1 cap), cS (Squ.pl (Squ.mk (Squ.nm (fewS a)) (fewL (Squ.pl a)) (Squ.ca (fewS a))
 (Squ.ke (fewS a)))))] (18 : FuncId) (Array.mk [.agg (Array.mk [.string (ByteArray.extract r.nm (0 : Nat) (Int.toNat (if (20 : Int) < (↑(ByteArray.size r.nm) : Int) then (20 : Int) else (↑(ByteArray.size r.nm) : Int)))), .int .i64 r.q1, .int .i64 r.q2, .int .i64 r.q3, .int .i64 r.q4, .int .i64 r.q5,
 .int .i64 r.q6, .int .i64 r.q7, .bool r.fh, .int .i64 r.q8, .int .i64 r.q9, .int .i64 r.qa, .int .i64 r.qo, .slice (RAd.a B) (Int.toNat (if (10 : Int) < (↑(r.pw.length) : Int) then (10 : Int) else (↑(r.pw.length) : Int))) (RAd.c B)]), .agg (Array.mk [.string (Squ.nm (fewS b)), .slice a_2
 (List.length (Squ.pl (fewS b))) cap_1, .int .i64 (Squ.ca (fewS b)), .int .i64 (Squ.ke (fewS b))]), .agg (Array.mk [.string (Squ.nm (fewS a)), .slice a_1 (List.length (Squ.pl (fewS a))) cap, .int .i64 (Squ.ca (fewS a)), .int .i64 (Squ.ke (fewS a))])]) [] fun x ↦ Value.int .i64 (prK (Rul.mk
 (ByteArray.extract r.nm (0 : Nat) (Int.toNat (if (20 : Int) < (↑(ByteArray.size r.nm) : Int) then (20 : Int) else (↑(ByteArray.size r.nm) : Int)))) r.q1 r.q2 r.q3 r.q4 r.q5 r.q6 r.q7 r.fh r.q8 r.q9 r.qa r.qo (Rul.pw (bnd r))) (Squ.mk (Squ.nm (fewS b)) (fewL (Squ.pl b)) (Squ.ca (fewS b)) (Squ.ke
 (fewS b))) (Squ.mk (Squ.nm (fewS a)) (fewL (Squ.pl a)) (Squ.ca (fewS a)) (Squ.ke (fewS a))))) /\ (∀ (e : Ex), e ∈ [] -> e ∈ rE) /\ Value.bool ((prK (Rul.mk (ByteArray.extract r.nm (0 : Nat) (Int.toNat (if (20 : Int) < (↑(ByteArray.size r.nm) : Int) then (20 : Int) else (↑(ByteArray.size r.nm) :
 Int)))) r.q1 r.q2 r.q3 r.q4 r.q5 r.q6 r.q7 r.fh r.q8 r.q9 r.qa r.qo (Rul.pw (bnd r))) (Squ.mk (Squ.nm (fewS a)) (fewL (Squ.pl a)) (Squ.ca (fewS a)) (Squ.ke (fewS a))) (Squ.mk (Squ.nm (fewS b)) (fewL (Squ.pl b)) (Squ.ca (fewS b)) (Squ.ke (fewS b))) == 0) == (prK (Rul.mk (ByteArray.extract r.nm (0 :
 Nat) (Int.toNat (if (20 : Int) < (↑(ByteArray.size r.nm) : Int) then (20 : Int) else (↑(ByteArray.size r.nm) : Int)))) r.q1 r.q2 r.q3 r.q4 r.q5 r.q6 r.q7 r.fh r.q8 r.q9 r.qa r.qo (Rul.pw (bnd r))) (Squ.mk (Squ.nm (fewS b)) (fewL (Squ.pl b)) (Squ.ca (fewS b)) (Squ.ke (fewS b))) (Squ.mk (Squ.nm (fewS
 a)) (fewL (Squ.pl a)) (Squ.ca (fewS a)) (Squ.ke (fewS a))) == 0)) = Value.bool true))))))))))) /\ True)) /\ True) /\ True) /\ True)) /\ True)) /\ True) /\ True) /\ True) := by kernel_rfl
set_option maxHeartbeats 4000000 in
theorem squadPairs_sp (r : Rul) (B : RAd) (a : Squ) (A : RAd) (b : Squ) (D : RAd) (hB : AOK B.a r.pw.length) (hBc : r.pw.length ≤ B.c) (hA : AOK A.a a.pl.length) (hD : AOK D.a b.pl.length) : SpecG Tryd.prog rE ([(B.a, cP (bnd r).pw), (A.a, cS a.pl), (D.a, cS b.pl)]) 4 #[ruV r B, sqV a A, sqV b D] ([]) (fun _ => .bool true) := by
  refine specG_of (h := squadPairs_h r B a A b D) (?_ : wpG Tryd.prog rE ([(B.a, cP (bnd r).pw), (A.a, cS a.pl), (D.a, cS b.pl)]) 400 4 [ruV r B, sqV a A, sqV b D] (squadPairs_h r B a A b D) ([]) (fun _ => .bool true))
  rw [squadPairs_x]
  simp only [take10]
  (repeat' (first | with_reducible exact rfl | exact trivial | with_reducible assumption | (with_reducible exact awk_sp) | (with_reducible exact few6_sp _ _ hA) | (with_reducible exact few6_sp _ _ hD) | (with_reducible exact prp_sp _ _ _ _ _ _ (aok_b hB) (bnd_pw r) (bnd_nm r) (by assumption) (by assumption) (fewS_pl _) (fewS_nm _) (fewS_sz _) (by assumption) (by assumption) (fewS_pl _) (fewS_nm _) (fewS_sz _)) | (with_reducible exact prr_sp _ _ _ _ _ _ (aok_b hB) (bnd_pw r) (bnd_nm r) (by assumption) (by assumption) (fewS_pl _) (fewS_nm _) (fewS_sz _) (by assumption) (by assumption) (fewS_pl _) (fewS_nm _) (fewS_sz _)) | exact exact cU_len _ | exact cI_len _ | exact cB_len _ | exact cU_one _ | exact cI_one _ | exact cB_one _ | exact (fun _ h => h) | exact (fun _ h => (List.not_mem_nil h).elim) | (with_reducible refine e1_in ?_) | (with_reducible refine e2_in ?_) | (with_reducible refine lx_in (Nat.le_of_ble_eq_true rfl) ?_) | (with_reducible refine rqx_rf ?_) | (with_reducible refine rqx_in ?_ ?_ ?_) | (with_reducible apply And.intro) | (with_reducible intro _)))
  all_goals (try (first | exact prp_sp (bnd r) B (fewS a) ⟨_, _⟩ (fewS b) ⟨_, _⟩ (aok_b hB) (bnd_pw r) (bnd_nm r) (by assumption) (by assumption) (fewS_pl _) (fewS_nm _) (fewS_sz _) (by assumption) (by assumption) (fewS_pl _) (fewS_nm _) (fewS_sz _) | exact prp_sp (bnd r) B (fewS b) ⟨_, _⟩ (fewS a) ⟨_, _⟩ (aok_b hB) (bnd_pw r) (bnd_nm r) (by assumption) (by assumption) (fewS_pl _) (fewS_nm _) (fewS_sz _) (by assumption) (by assumption) (fewS_pl _) (fewS_nm _) (fewS_sz _) | exact prr_sp (bnd r) B (fewS a) ⟨_, _⟩ (fewS b) ⟨_, _⟩ (aok_b hB) (bnd_pw r) (bnd_nm r) (by assumption) (by assumption) (fewS_pl _) (fewS_nm _) (fewS_sz _) (by assumption) (by assumption) (fewS_pl _) (fewS_nm _) (fewS_sz _)))
  all_goals (first | (simp only [*, Bool.and_true, Bool.true_and, Bool.and_false, Bool.false_and, Bool.or_true, Bool.true_or, Bool.or_false, Bool.false_or, Bool.not_true, Bool.not_false, cond_true, cond_false]; done) | (simp; done) | (split <;> omega) | (simp only [take10]; done) | (rw [prK_sym]; simp; done) | trace_state)
end Go.Proofs.YtaijjnafanmcnaaDoor
