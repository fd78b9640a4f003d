/- Copies of a state: fresh.Innings, the reference's Clone. -/
import Derived.Test.YtjdldofgkhibnaaVz
import Derived.KernelRfl
import Derived.Test.YtjdldofgkhibnaaProg
import Derived.Test.YtjdldofgkhibnaaFda
set_option linter.unusedSimpArgs false
set_option linter.unusedVariables false
set_option maxRecDepth 100000
namespace Go.Proofs.Ytjdldofgkhibnaa
open Go.RowKit

def fin_h (s : Inn) (A : Adr) : Hint := .ob 5 (.specg [] [0] [cU s.bts] [RowT.mk (61 : TypeId) (1 : Nat) (s.bts.length) (cU s.bts)] (fun ads0 ads ↦ Value.slice (Prod.fst (nthA ads (0 : Nat))) (s.bts.length) (Prod.snd (nthA ads (0 : Nat)))) (ho 5 2 (.specg [] [1] [cI s.bws] [RowT.mk (3 : TypeId) (1 : Nat) (s.bws.length) (cI s.bws)] (fun
 ads0 ads ↦ Value.slice (Prod.fst (nthA ads (0 : Nat))) (s.bws.length) (Prod.snd (nthA ads (0 : Nat)))) (ho 5 2 (.specg [] [2] [cI s.bfs] [RowT.mk (3 : TypeId) (1 : Nat) (s.bfs.length) (cI s.bfs)] (fun ads0 ads ↦ Value.slice (Prod.fst (nthA ads (0 : Nat))) (s.bfs.length) (Prod.snd (nthA ads (0 :
 Nat)))) (ho 5 2 (.specg [] [3] [cI s.bwd] [RowT.mk (3 : TypeId) (1 : Nat) (s.bwd.length) (cI s.bwd)] (fun ads0 ads ↦ Value.slice (Prod.fst (nthA ads (0 : Nat))) (s.bwd.length) (Prod.snd (nthA ads (0 : Nat)))) (ho 5 2 (.specg [] [4] [cB s.sbs] [RowT.mk (4 : TypeId) (1 : Nat) (s.sbs.length) (cB
 s.sbs)] (fun ads0 ads ↦ Value.slice (Prod.fst (nthA ads (0 : Nat))) (s.sbs.length) (Prod.snd (nthA ads (0 : Nat)))) (ho 5 29 (ho 6 56 (.perm [7, 8, 9, 10, 11] .nil))))))))))))
theorem fin_x (s : Inn) (A : Adr) : wpG Try.prog [] (rdI s A) 400 15 [inV s A] (fin_h s A) (rowI s) (fun ads => inV s (adA ads)) = (∀ (b b_1 : Nat), b = b /\ cU s.bts = cU s.bts /\ (SpecG Try.prog [] [(Adr.a1 A, cU s.bts)] (22 : FuncId) #[Value.slice (Adr.a1 A) (s.bts.length) (Adr.c1 A)] [RowT.mk (61 : TypeId) (1 : Nat) (s.bts.length) (cU s.bts)] fun ads ↦ Value.slice (Prod.fst (nthA ads (0 : Nat))) (s.bts.length) (Prod.snd (nthA
 ads (0 : Nat)))) /\ (∀ (e : Ex), e ∈ [] -> e ∈ []) /\ ∀ (a : Option Addr) (cap : Nat), AOK a (s.bts.length) -> s.bts.length ≤ cap -> b = b /\ True /\ b = b /\ cI s.bws = cI s.bws /\ (SpecG Try.prog [] [(Adr.a2 A, cI s.bws)] (23 : FuncId) #[Value.slice (Adr.a2 A) (s.bws.length) (Adr.c2 A)] [RowT.mk
 (3 : TypeId) (1 : Nat) (s.bws.length) (cI s.bws)] fun ads ↦ Value.slice (Prod.fst (nthA ads (0 : Nat))) (s.bws.length) (Prod.snd (nthA ads (0 : Nat)))) /\ (∀ (e : Ex), e ∈ [] -> e ∈ []) /\ ∀ (a_1 : Option Addr) (cap_1 : Nat), AOK a_1 (s.bws.length) -> s.bws.length ≤ cap_1 -> b = b /\ True /\ b = b
 /\ cI s.bfs = cI s.bfs /\ (SpecG Try.prog [] [(Adr.a3 A, cI s.bfs)] (23 : FuncId) #[Value.slice (Adr.a3 A) (s.bfs.length) (Adr.c3 A)] [RowT.mk (3 : TypeId) (1 : Nat) (s.bfs.length) (cI s.bfs)] fun ads ↦ Value.slice (Prod.fst (nthA ads (0 : Nat))) (s.bfs.length) (Prod.snd (nthA ads (0 : Nat)))) /\ (∀
 (e : Ex), e ∈ [] -> e ∈ []) /\ ∀ (a_2 : Option Addr) (cap_2 : Nat), AOK a_2 (s.bfs.length) -> s.bfs.length ≤ cap_2 -> b = b /\ True /\ b = b /\ cI s.bwd = cI s.bwd /\ (SpecG Try.prog [] [(Adr.a4 A, cI s.bwd)] (23 : FuncId) #[Value.slice (Adr.a4 A) (s.bwd.length) (Adr.c4 A)] [RowT.mk (3 : TypeId) (1
 : Nat) (s.bwd.length) (cI s.bwd)] fun ads ↦ Value.slice (Prod.fst (nthA ads (0 : Nat))) (s.bwd.length) (Prod.snd (nthA ads (0 : Nat)))) /\ (∀ (e : Ex), e ∈ [] -> e ∈ []) /\ ∀ (a_3 : Option Addr) (cap_3 : Nat), AOK a_3 (s.bwd.length) -> s.bwd.length ≤ cap_3 -> b = b /\ True /\ b = b /\ cB s.sbs = cB
 s.sbs /\ (SpecG Try.prog [] [(Adr.a5 A, cB s.sbs)] (24 : FuncId) #[Value.slice (Adr.a5 A) (s.sbs.length) (Adr.c5 A)] [RowT.mk (4 : TypeId) (1 : Nat) (s.sbs.length) (cB s.sbs)] fun ads ↦ Value.slice (Prod.fst (nthA ads (0 : Nat))) (s.sbs.length) (Prod.snd (nthA ads (0 : Nat)))) /\ (∀ (e : Ex), e ∈ []
 -> e ∈ []) /\ ∀ (a_4 : Option Addr) (cap_4 : Nat), AOK a_4 (s.sbs.length) -> s.sbs.length ≤ cap_4 -> b = b /\ True /\ e1 b 28 (e2 b_1 28 (e1 b_1 28 (rqx cU 61 1 s.bts s.bts (rqx cI 3 1 s.bws s.bws (rqx cI 3 1 s.bfs s.bfs (rqx cI 3 1 s.bwd s.bwd (rqx cB 4 1 s.sbs s.sbs (Value.agg (Array.mk [.int .i64
 s.sd, .int .i64 s.tg, .int .i64 s.ov, .int .i64 s.rn, .int .i64 s.wk, .int .i64 s.e1, .int .i64 s.e2, .int .i64 s.e3, .int .i64 s.e4, .int .i64 s.e5, .int .i64 s.cm, .int .i64 s.io, .int .i64 s.st, .int .i64 s.ot, .slice a (s.bts.length) cap, .int .i64 s.bw, .slice a_1 (s.bws.length) cap_1, .slice
 a_2 (s.bfs.length) cap_2, .bool s.fr, .slice a_3 (s.bwd.length) cap_3, .bool s.fh, .int .i64 s.ba, .int .i64 s.kp, .int .i64 s.ou, .slice a_4 (s.sbs.length) cap_4, .int .i64 s.r1, .int .i64 s.r2, .int .u8 s.en]) = Value.agg (Array.mk [.int .i64 s.sd, .int .i64 s.tg, .int .i64 s.ov, .int .i64 s.rn,
 .int .i64 s.wk, .int .i64 s.e1, .int .i64 s.e2, .int .i64 s.e3, .int .i64 s.e4, .int .i64 s.e5, .int .i64 s.cm, .int .i64 s.io, .int .i64 s.st, .int .i64 s.ot, .slice a (s.bts.length) cap, .int .i64 s.bw, .slice a_1 (s.bws.length) cap_1, .slice a_2 (s.bfs.length) cap_2, .bool s.fr, .slice a_3
 (s.bwd.length) cap_3, .bool s.fh, .int .i64 s.ba, .int .i64 s.kp, .int .i64 s.ou, .slice a_4 (s.sbs.length) cap_4, .int .i64 s.r1, .int .i64 s.r2, .int .u8 s.en])))))))))) := by kernel_rfl
set_option maxHeartbeats 4000000 in
theorem fin_sp (s : Inn) (A : Adr) (hA : OkI s A) : SpecG Try.prog [] (rdI s A) 15 #[inV s A] (rowI s) (fun ads => inV s (adA ads)) := by
  refine specG_of (h := fin_h s A) (?_ : wpG Try.prog [] (rdI s A) 400 15 [inV s A] (fin_h s A) (rowI s) (fun ads => inV s (adA ads)))
  rw [fin_x]
  (repeat' (first | with_reducible exact rfl | exact trivial | with_reducible assumption | exact clU_sp _ _ _ hA.k1 hA.l1 | exact clI_sp _ _ _ hA.k2 hA.l2 | exact clI_sp _ _ _ hA.k3 hA.l3 | exact clI_sp _ _ _ hA.k4 hA.l4 | exact clB_sp _ _ _ hA.k5 hA.l5 | exact cU_len _ | exact cI_len _ | exact cB_len _ | exact cU_one _ | exact cI_one _ | exact cB_one _ | exact (fun _ h => h) | exact (fun _ h => (List.not_mem_nil h).elim) | (with_reducible refine e1_in ?_) | (with_reducible refine e2_in ?_) | (with_reducible refine lx_in (Nat.le_of_ble_eq_true rfl) ?_) | (with_reducible refine rqx_rf ?_) | (with_reducible refine rqx_in ?_ ?_ ?_) | (with_reducible apply And.intro) | (with_reducible intro _)))
end Go.Proofs.Ytjdldofgkhibnaa
