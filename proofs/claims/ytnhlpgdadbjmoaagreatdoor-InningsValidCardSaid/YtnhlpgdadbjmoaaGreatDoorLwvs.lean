/- Layer 14 (innings): whether a state is valid, and how the innings ends in it (InningsValid). -/
import Derived.Test.YtnhlpgdadbjmoaaGreatDoorVz
import Derived.KernelRfl
import Derived.Test.YtnhlpgdadbjmoaaGreatDoorProg
import Derived.Test.YtnhlpgdadbjmoaaGreatDoorFda
import Derived.Test.YtnhlpgdadbjmoaaGreatDoorFdb
import Derived.Test.YtnhlpgdadbjmoaaGreatDoorFdf
import Derived.Test.YtnhlpgdadbjmoaaGreatDoorFdh
import Derived.Test.YtnhlpgdadbjmoaaGreatDoorFdk
import Derived.Test.YtnhlpgdadbjmoaaGreatDoorRua
import Derived.Test.YtnhlpgdadbjmoaaGreatDoorCra
import Derived.Test.YtnhlpgdadbjmoaaGreatDoorCrs
import Derived.Test.YtnhlpgdadbjmoaaGreatDoorSpa
import Derived.Test.YtnhlpgdadbjmoaaGreatDoorIva
import Derived.Test.YtnhlpgdadbjmoaaGreatDoorIvb
import Derived.Test.YtnhlpgdadbjmoaaGreatDoorIvc
import Derived.Test.YtnhlpgdadbjmoaaGreatDoorIvr
import Derived.Test.YtnhlpgdadbjmoaaGreatDoorIvs
import Derived.Test.YtnhlpgdadbjmoaaGreatDoorDvk
import Derived.Test.YtnhlpgdadbjmoaaGreatDoorEvz
import Derived.Test.YtnhlpgdadbjmoaaGreatDoorSta
import Derived.Test.YtnhlpgdadbjmoaaGreatDoorStb
import Derived.Test.YtnhlpgdadbjmoaaGreatDoorStes
import Derived.Test.YtnhlpgdadbjmoaaGreatDoorStfs
import Derived.Test.YtnhlpgdadbjmoaaGreatDoorStcs
import Derived.Test.YtnhlpgdadbjmoaaGreatDoorLwas
set_option linter.unusedSimpArgs false
set_option linter.unusedVariables false
set_option maxRecDepth 100000
namespace Go.Proofs.YtnhlpgdadbjmoaaGreatDoor
open Go.RowKit

def inningsValid_h (r : Rul) (B : RAd) (s : Inn) (A : Adr) : Hint := .specg wE [] [] [] (fun ads0 x ↦ Value.bool true) (.lit (.draw [0, 1, 2, 3, 4, 5, 6, 7] (some 3) [0, 1, 2, 3, 4, 5] (.take 2 (ho 7 28 (.pl (.br (ho 6 14 (.pl (.br (.specg [] [] [] [] (fun ads0 x ↦ ruV (bnd r) B) (.pl (.br (.specg [] [] [] [] (fun ads0 x ↦ inV (few s) A) (.pl (.br (ho 6 14 (.pl (.br
 (ho 7 28 (.draw [0, 1, 2, 3, 4, 5, 6, 7] none [0, 1, 2, 3, 4, 5, 6, 7] (.take 0 (ho 6 14 (.take 1 (ho 7 28 (.take 3 (ho 6 14 (.take 4 (ho 7 28 (.pl (.br (.specg [] [0, 1, 2, 3, 4, 5] [cP (Rul.pw (bnd r)), cU (Inn.bts (few s)), cI (Inn.bws (few s)), cI (Inn.bfs (few s)), cI (Inn.bwd (few s)), cB
 (Inn.sbs (few s))] [] (fun ads0 x ↦ Value.bool (vlB (bnd r) (few s))) (.pl (.br (.specg [] [0, 1, 2, 3, 4, 5] [cP (Rul.pw (bnd r)), cU (Inn.bts (few s)), cI (Inn.bws (few s)), cI (Inn.bfs (few s)), cI (Inn.bwd (few s)), cB (Inn.sbs (few s))] [] (fun ads0 x ↦ Value.bool (vlB (bnd r) (few s))) (.take
 6 (.pl (.take 7 (.take 8 (.known true (ho 6 14 (.take 9 (.lit (ho 7 28 (.take 11 (.lit (ho 6 14 (.take 12 (.lit (ho 7 28 (.pl (.br (.lit (.specg [] [0, 1, 2, 3, 4, 5] [cP (Rul.pw (bnd r)), cU (Inn.bts (few s)), cI (Inn.bws (few s)), cI (Inn.bfs (few s)), cI (Inn.bwd (few s)), cB (Inn.sbs (few s))]
 [] (fun ads0 x ↦ Value.int .u8 (edE (bnd r) (few s))) (.pl (.br (.lit (.specg [] [0, 1, 2, 3, 4, 5] [cP (Rul.pw (bnd r)), cU (Inn.bts (few s)), cI (Inn.bws (few s)), cI (Inn.bfs (few s)), cI (Inn.bwd (few s)), cB (Inn.sbs (few s))] [] (fun ads0 x ↦ Value.int .u8 (edE (bnd r) (few s))) (.take 14
 (.lit (.pl (.take 15 (.lit (.take 16 (.take 17 (.known true (ho 6 14 (.take 18 (.lit (ho 7 28 (.take 20 (.lit (ho 6 14 (.take 21 (.lit (ho 7 28 (.pl (.br (.lit (.specg [] [] [] [] (fun ads0 x ↦ Value.int .i64 (inbI (Rul.mk (Rul.nm (bnd r)) (Rul.q1 (bnd r)) (Rul.q2 (bnd r)) (Rul.q3 (bnd r)) (Rul.q4
 (bnd r)) (Rul.q5 (bnd r)) (Rul.q6 (bnd r)) (Rul.q7 (bnd r)) (Rul.fh (bnd r)) (Rul.q8 (bnd r)) (Rul.q9 (bnd r)) (Rul.qa (bnd r)) (Rul.qo (bnd r)) (List.take (10 : Nat) r.pw)) (Inn.mk (Inn.sd (few s)) (Inn.tg (few s)) (Inn.ov (few s)) (Inn.rn (few s)) (Inn.wk (few s)) (Inn.e1 (few s)) (Inn.e2 (few s))
 (Inn.e3 (few s)) (Inn.e4 (few s)) (Inn.e5 (few s)) (Inn.cm (few s)) (Inn.io (few s)) (Inn.st (few s)) (Inn.ot (few s)) (List.take (13 : Nat) s.bts) (Inn.bw (few s)) (List.take (13 : Nat) s.bws) (List.take (13 : Nat) s.bfs) (Inn.fr (few s)) (List.take (13 : Nat) s.bwd) (Inn.fh (few s)) (Inn.ba (few
 s)) (Inn.kp (few s)) (Inn.ou (few s)) (List.take (13 : Nat) s.sbs) (Inn.r1 (few s)) (Inn.r2 (few s)) (Inn.en (few s))))) (.pl (.br (.lit (.specg [] [] [] [] (fun ads0 x ↦ Value.int .i64 (inbI (Rul.mk (Rul.nm (bnd r)) (Rul.q1 (bnd r)) (Rul.q2 (bnd r)) (Rul.q3 (bnd r)) (Rul.q4 (bnd r)) (Rul.q5 (bnd
 r)) (Rul.q6 (bnd r)) (Rul.q7 (bnd r)) (Rul.fh (bnd r)) (Rul.q8 (bnd r)) (Rul.q9 (bnd r)) (Rul.qa (bnd r)) (Rul.qo (bnd r)) (List.take (10 : Nat) r.pw)) (Inn.mk (Inn.sd (few s)) (Inn.tg (few s)) (Inn.ov (few s)) (Inn.rn (few s)) (Inn.wk (few s)) (Inn.e1 (few s)) (Inn.e2 (few s)) (Inn.e3 (few s))
 (Inn.e4 (few s)) (Inn.e5 (few s)) (Inn.cm (few s)) (Inn.io (few s)) (Inn.st (few s)) (Inn.ot (few s)) (List.take (13 : Nat) s.bts) (Inn.bw (few s)) (List.take (13 : Nat) s.bws) (List.take (13 : Nat) s.bfs) (Inn.fr (few s)) (List.take (13 : Nat) s.bwd) (Inn.fh (few s)) (Inn.ba (few s)) (Inn.kp (few
 s)) (Inn.ou (few s)) (List.take (13 : Nat) s.sbs) (Inn.r1 (few s)) (Inn.r2 (few s)) (Inn.en (few s))))) (.take 23 (.lit (.pl (.take 24 (.lit (.take 25 (.perm [] .nil))))))))) .nil)))) .nil)))))))))))))))))))))) .nil)))) .nil)))))))))))))))))) .nil))) .nil)))))))))))) .nil))) .nil))) .nil))) .nil)))
 .nil))))))
theorem inningsValid_x (r : Rul) (B : RAd) (s : Inn) (A : Adr) : wpG Tryz.prog wE ((B.a, cP (bnd r).pw) :: rdI (few s) A) 400 3 [ruV r B, inV s A] (inningsValid_h r B s A) ([]) (fun _ => .bool true) = (∀ (b b_1 : Nat), (SpecG Tryz.prog wE [] (9 : FuncId) #[] [] fun x ↦ Value.bool true) /\ (∀ (e : Ex), e ∈ wE -> e ∈ wE) /\ e1 b_1 27 (b_1 = b_1 /\ True /\ (e1 b 13 (b = b /\ True /\ ((SpecG Tryz.prog [] [] (10 : FuncId) #[ruV r B] [] fun x ↦ ruV (bnd r) B) /\ (∀ (e : Ex), e ∈ [] -> e ∈ wE) /\ True /\
 ((SpecG Tryz.prog [] [] (11 : FuncId) #[inV s A] [] fun x ↦ inV (few s) A) /\ (∀ (e : Ex), e ∈ [] -> e ∈ wE) /\ True /\ (e2 b 14 (True /\ (e2 b_1 28 (e1 b 14 (e1 b_1 28 (e1 b 14 (e1 b_1 27 (b_1 = b_1 /\ True /\ (cP (Rul.pw (bnd r)) = cP (Rul.pw (bnd r)) /\ cU (Inn.bts (few s)) = cU (Inn.bts (few s))
 /\ cI (Inn.bws (few s)) = cI (Inn.bws (few s)) /\ cI (Inn.bfs (few s)) = cI (Inn.bfs (few s)) /\ cI (Inn.bwd (few s)) = cI (Inn.bwd (few s)) /\ cB (Inn.sbs (few s)) = cB (Inn.sbs (few s)) /\ (SpecG Tryz.prog [] ((RAd.a B, cP (Rul.pw (bnd r))) :: rdI (few s) A) (12 : FuncId) #[ruV (bnd r) B, inV (few
 s) A] [] fun x ↦ Value.bool (vlB (bnd r) (few s))) /\ (∀ (e : Ex), e ∈ [] -> e ∈ wE) /\ True /\ (cP (Rul.pw (bnd r)) = cP (Rul.pw (bnd r)) /\ cU (Inn.bts (few s)) = cU (Inn.bts (few s)) /\ cI (Inn.bws (few s)) = cI (Inn.bws (few s)) /\ cI (Inn.bfs (few s)) = cI (Inn.bfs (few s)) /\ cI (Inn.bwd (few
 s)) = cI (Inn.bwd (few s)) /\ cB (Inn.sbs (few s)) = cB (Inn.sbs (few s)) /\ (SpecG Tryz.prog [] ((RAd.a B, cP (Rul.pw (bnd r))) :: rdI (few s) A) (13 : FuncId) #[ruV (bnd r) B, inV (few s) A] [] fun x ↦ Value.bool (vlB (bnd r) (few s))) /\ (∀ (e : Ex), e ∈ [] -> e ∈ wE) /\ (vlB (bnd r) (few s) ==
 vlB (bnd r) (few s)) = true /\ e1 b 14 (e1 b_1 28 (e1 b 14 (e1 b_1 27 (b_1 = b_1 /\ True /\ (cP (Rul.pw (bnd r)) = cP (Rul.pw (bnd r)) /\ cU (Inn.bts (few s)) = cU (Inn.bts (few s)) /\ cI (Inn.bws (few s)) = cI (Inn.bws (few s)) /\ cI (Inn.bfs (few s)) = cI (Inn.bfs (few s)) /\ cI (Inn.bwd (few s))
 = cI (Inn.bwd (few s)) /\ cB (Inn.sbs (few s)) = cB (Inn.sbs (few s)) /\ (SpecG Tryz.prog [] ((RAd.a B, cP (Rul.pw (bnd r))) :: rdI (few s) A) (14 : FuncId) #[ruV (bnd r) B, inV (few s) A] [] fun x ↦ Value.int .u8 (edE (bnd r) (few s))) /\ (∀ (e : Ex), e ∈ [] -> e ∈ wE) /\ True /\ (cP (Rul.pw (bnd
 r)) = cP (Rul.pw (bnd r)) /\ cU (Inn.bts (few s)) = cU (Inn.bts (few s)) /\ cI (Inn.bws (few s)) = cI (Inn.bws (few s)) /\ cI (Inn.bfs (few s)) = cI (Inn.bfs (few s)) /\ cI (Inn.bwd (few s)) = cI (Inn.bwd (few s)) /\ cB (Inn.sbs (few s)) = cB (Inn.sbs (few s)) /\ (SpecG Tryz.prog [] ((RAd.a B, cP
 (Rul.pw (bnd r))) :: rdI (few s) A) (15 : FuncId) #[ruV (bnd r) B, inV (few s) A] [] fun x ↦ Value.int .u8 (edE (bnd r) (few s))) /\ (∀ (e : Ex), e ∈ [] -> e ∈ wE) /\ (edE (bnd r) (few s) == edE (bnd r) (few s)) = true /\ e1 b 14 (e1 b_1 28 (e1 b 14 (e1 b_1 27 (b_1 = b_1 /\ True /\ ((SpecG Tryz.prog
 [] [] (16 : FuncId) #[ruV (Rul.mk (Rul.nm (bnd r)) (Rul.q1 (bnd r)) (Rul.q2 (bnd r)) (Rul.q3 (bnd r)) (Rul.q4 (bnd r)) (Rul.q5 (bnd r)) (Rul.q6 (bnd r)) (Rul.q7 (bnd r)) (Rul.fh (bnd r)) (Rul.q8 (bnd r)) (Rul.q9 (bnd r)) (Rul.qa (bnd r)) (Rul.qo (bnd r)) (List.take (10 : Nat) r.pw)) B, inV (Inn.mk
 (Inn.sd (few s)) (Inn.tg (few s)) (Inn.ov (few s)) (Inn.rn (few s)) (Inn.wk (few s)) (Inn.e1 (few s)) (Inn.e2 (few s)) (Inn.e3 (few s)) (Inn.e4 (few s)) (Inn.e5 (few s)) (Inn.cm (few s)) (Inn.io (few s)) (Inn.st (few s)) (Inn.ot (few s)) (List.take (13 : Nat) s.bts) (Inn.bw (few s)) (List.take (13 :
 Nat) s.bws) (List.take (13 : Nat) s.bfs) (Inn.fr (few s)) (List.take (13 : Nat) s.bwd) (Inn.fh (few s)) (Inn.ba (few s)) (Inn.kp (few s)) (Inn.ou (few s)) (List.take (13 : Nat) s.sbs) (Inn.r1 (few s)) (Inn.r2 (few s)) (Inn.en (few s))) A] [] fun x ↦ Value.int .i64 (inbI (Rul.mk (Rul.nm (bnd r))
 (Rul.q1 (bnd r)) (Rul.q2 (bnd r)) (Rul.q3 (bnd r)) (Rul.q4 (bnd r)) (Rul.q5 (bnd r)) (Rul.q6 (bnd r)) (Rul.q7 (bnd r)) (Rul.fh (bnd r)) (Rul.q8 (bnd r)) (Rul.q9 (bnd r)) (Rul.qa (bnd r)) (Rul.qo (bnd r)) (List.take (10 : Nat) r.pw)) (Inn.mk (Inn.sd (few s)) (Inn.tg (few s)) (Inn.ov (few s)) (Inn.rn
 (few s)) (Inn.wk (few s)) (Inn.e1 (few s)) (Inn.e2 (few s)) (Inn.e3 (few s)) (Inn.e4 (few s)) (Inn.e5 (few s)) (Inn.cm (few s)) (Inn.io (few s)) (Inn.st (few s)) (Inn.ot (few s)) (List.take (13 : Nat) s.bts) (Inn.bw (few s)) (List.take (13 : Nat) s.bws) (List.take (13 : Nat) s.bfs) (Inn.fr (few s))
 (List.take (13 : Nat) s.bwd) (Inn.fh (few s)) (Inn.ba (few s)) (Inn.kp (few s)) (Inn.ou (few s)) (List.take (13 : Nat) s.sbs) (Inn.r1 (few s)) (Inn.r2 (few s)) (Inn.en (few s))))) /\ (∀ (e : Ex), e ∈ [] -> e ∈ wE) /\ True /\ ((SpecG Tryz.prog [] [] (17 : FuncId) #[ruV (Rul.mk (Rul.nm (bnd r)) (Rul.q1
 (bnd r)) (Rul.q2 (bnd r)) (Rul.q3 (bnd r)) (Rul.q4 (bnd r)) (Rul.q5 (bnd r)) (Rul.q6 (bnd r)) (Rul.q7 (bnd r)) (Rul.fh (bnd r)) (Rul.q8 (bnd r)) (Rul.q9 (bnd r)) (Rul.qa (bnd r)) (Rul.qo (bnd r)) (List.take (10 : Nat) r.pw)) B, inV (Inn.mk (Inn.sd (few s)) (Inn.tg (few s)) (Inn.ov (few s)) (Inn.rn
 (few s)) (Inn.wk (few s)) (Inn.e1 (few s)) (Inn.e2 (few s)) (Inn.e3 (few s)) (Inn.e4 (few s)) (Inn.e5 (few s)) (Inn.cm (few s)) (Inn.io (few s)) (Inn.st (few s)) (Inn.ot (few s)) (List.take (13 : Nat) s.bts) (Inn.bw (few s)) (List.take (13 : Nat) s.bws) (List.take (13 : Nat) s.bfs) (Inn.fr (few s))
 (List.take (13 : Nat) s.bwd) (Inn.fh (few s)) (Inn.ba (few s)) (Inn.kp (few s)) (Inn.ou (few s)) (List.take (13 : Nat) s.sbs) (Inn.r1 (few s)) (Inn.r2 (few s)) (Inn.en (few s))) A] [] fun x ↦ Value.int .i64 (inbI (Rul.mk (Rul.nm (bnd r)) (Rul.q1 (bnd r)) (Rul.q2 (bnd r)) (Rul.q3 (bnd r)) (Rul.q4
 (bnd r)) (Rul.q5 (bnd r)) (Rul.q6 (bnd r)) (Rul.q7 (bnd r)) (Rul.fh (bnd r)) (Rul.q8 (bnd r)) (Rul.q9 (bnd r)) (Rul.qa (bnd r)) (Rul.qo (bnd r)) (List.take (10 : Nat) r.pw)) (Inn.mk (Inn.sd (few s)) (Inn.tg (few s)) (Inn.ov (few s)) (Inn.rn (few s)) (Inn.wk (few s)) (Inn.e1 (few s)) (Inn.e2 (few s))
 (Inn.e3 (few s)) (Inn.e4 (few s)) (Inn.e5 (few s)) (Inn.cm (few s)) (Inn.io (few s)) (Inn.st (few s)) (Inn.ot (few s)) (List.take (13 : Nat) s.bts) (Inn.bw (few s)) (List.take (13 : Nat) s.bws) (List.take (13 : Nat) s.bfs) (Inn.fr (few s)) (List.take (13 : Nat) s.bwd) (Inn.fh (few s)) (Inn.ba (few
 s)) (Inn.kp (few s)) (Inn.ou (few s)) (List.take (13 : Nat) s.sbs) (Inn.r1 (few s)) (Inn.r2 (few s)) (Inn.en (few s))))) /\ (∀ (e : Ex), e ∈ [] -> e ∈ wE) /\ Value.bool (inbI (Rul.mk (Rul.nm (bnd r)) (Rul.q1 (bnd r)) (Rul.q2 (bnd r)) (Rul.q3 (bnd r)) (Rul.q4 (bnd r)) (Rul.q5 (bnd r)) (Rul.q6 (bnd
 r)) (Rul.q7 (bnd r)) (Rul.fh (bnd r)) (Rul.q8 (bnd r)) (Rul.q9 (bnd r)) (Rul.qa (bnd r)) (Rul.qo (bnd r)) (List.take (10 : Nat) r.pw)) (Inn.mk (Inn.sd (few s)) (Inn.tg (few s)) (Inn.ov (few s)) (Inn.rn (few s)) (Inn.wk (few s)) (Inn.e1 (few s)) (Inn.e2 (few s)) (Inn.e3 (few s)) (Inn.e4 (few s))
 (Inn.e5 (few s)) (Inn.cm (few s)) (Inn.io (few s)) (Inn.st (few s)) (Inn.ot (few s)) (List.take (13 : Nat) s.bts) (Inn.bw (few s)) (List.take (13 : Nat) s.bws) (List.take (13 : Nat) s.bfs) (Inn.fr (few s)) (List.take (13 : Nat) s.bwd) (Inn.fh (few s)) (Inn.ba (few s)) (Inn.kp (few s)) (Inn.ou (few
 s)) (List.take (13 : Nat) s.sbs) (Inn.r1 (few s)) (Inn.r2 (few s)) (Inn.en (few s))) == inbI (Rul.mk (Rul.nm (bnd r)) (Rul.q1 (bnd r)) (Rul.q2 (bnd r)) (Rul.q3 (bnd r)) (Rul.q4 (bnd r)) (Rul.q5 (bnd r)) (Rul.q6 (bnd r)) (Rul.q7 (bnd r)) (Rul.fh (bnd r)) (Rul.q8 (bnd r)) (Rul.q9 (bnd r)) (Rul.qa (bnd
 r)) (Rul.qo (bnd r)) (List.take (10 : Nat) r.pw)) (Inn.mk (Inn.sd (few s)) (Inn.tg (few s)) (Inn.ov (few s)) (Inn.rn (few s)) (Inn.wk (few s)) (Inn.e1 (few s)) (Inn.e2 (few s)) (Inn.e3 (few s)) (Inn.e4 (few s)) (Inn.e5 (few s)) (Inn.cm (few s)) (Inn.io (few s)) (Inn.st (few s)) (Inn.ot (few s))
 (List.take (13 : Nat) s.bts) (Inn.bw (few s)) (List.take (13 : Nat) s.bws) (List.take (13 : Nat) s.bfs) (Inn.fr (few s)) (List.take (13 : Nat) s.bwd) (Inn.fh (few s)) (Inn.ba (few s)) (Inn.kp (few s)) (Inn.ou (few s)) (List.take (13 : Nat) s.sbs) (Inn.r1 (few s)) (Inn.r2 (few s)) (Inn.en (few s))))
 = Value.bool true) /\ True) /\ True))))) /\ True) /\ True))))) /\ True) /\ True)))))) /\ True)) /\ True) /\ True) /\ True)) /\ True)) := by kernel_rfl
set_option maxHeartbeats 4000000 in
theorem inningsValid_sp (r : Rul) (B : RAd) (s : Inn) (A : Adr) (hA : OkA s A) (hc : CapI s A) (hB : AOK B.a r.pw.length) (hBc : r.pw.length ≤ B.c) : SpecG Tryz.prog wE ((B.a, cP (bnd r).pw) :: rdI (few s) A) 3 #[ruV r B, inV s A] ([]) (fun _ => .bool true) := by
  refine specG_of (h := inningsValid_h r B s A) (?_ : wpG Tryz.prog wE ((B.a, cP (bnd r).pw) :: rdI (few s) A) 400 3 [ruV r B, inV s A] (inningsValid_h r B s A) ([]) (fun _ => .bool true))
  rw [inningsValid_x]
  (repeat' (first | with_reducible exact rfl | exact trivial | with_reducible assumption | (with_reducible exact aw14_sp) | (with_reducible exact few4_sp _ _ hc) | (with_reducible exact bnd4_sp _ _ hBc) | (with_reducible exact ivl_sp _ _ _ _ (aok_b hB) (bnd_pw r) (bnd_nm r) (ok_few hA) (cap_few hc)) | (with_reducible exact end_sp _ _ _ _ (aok_b hB) (bnd_pw r) (bnd_nm r) (ok_few hA) (cap_few hc)) | (with_reducible exact rvl_sp _ _ _ _ (aok_b hB) (bnd_pw r) (bnd_nm r) (ok_few hA) (cap_few hc)) | (with_reducible exact rend_sp _ _ _ _ (aok_b hB) (bnd_pw r) (bnd_nm r) (ok_few hA) (cap_few hc)) | (with_reducible exact iba2_sp _ _ _ _) | (with_reducible exact rba3_sp _ _ _ _) | exact cU_len _ | exact cI_len _ | exact cB_len _ | exact cU_one _ | exact cI_one _ | exact cB_one _ | exact (fun _ h => h) | exact (fun _ h => (List.not_mem_nil h).elim) | (with_reducible refine e1_in ?_) | (with_reducible refine e2_in ?_) | (with_reducible refine lx_in (Nat.le_of_ble_eq_true rfl) ?_) | (with_reducible refine rqx_rf ?_) | (with_reducible refine rqx_in ?_ ?_ ?_) | (with_reducible apply And.intro) | (with_reducible intro _)))
  all_goals (first | (simp only [*, Bool.and_true, Bool.true_and, Bool.and_false, Bool.false_and, Bool.or_true, Bool.true_or, Bool.or_false, Bool.false_or, Bool.not_true, Bool.not_false, cond_true, cond_false]; done) | (simp_all; done) | trace_state)
end Go.Proofs.YtnhlpgdadbjmoaaGreatDoor
