/- Layer 11 (field): parts and functions of both, that change a state. -/
import Derived.Test.YtnhlpgdadbjmoaaGreatDoorVz
import Derived.KernelRfl
import Derived.Test.YtnhlpgdadbjmoaaGreatDoorProg
import Derived.Test.YtnhlpgdadbjmoaaGreatDoorFda
import Derived.Test.YtnhlpgdadbjmoaaGreatDoorFdb
set_option linter.unusedSimpArgs false
set_option linter.unusedVariables false
set_option maxRecDepth 100000
namespace Go.Proofs.YtnhlpgdadbjmoaaGreatDoor
open Go.RowKit


def plr (s : Inn) (p : Int) : Bool := decide (1 ≤ p ∧ p ≤ s.sbs.length)
def rpl (s : Inn) (p : Int) : Bool := s.sbs.getD (p - 1).toNat false
def kpL (s : Inn) (p : Int) : Int := if plr s p = false then 3 else if rpl s p = true then 18 else if p = s.bw ∨ p = s.kp then 17 else 0
def sbL (s : Inn) (p : Int) (on : Bool) : Int := if plr s p = false then 3 else if rpl s p = on then 18 else 0
def ouL (s : Inn) (n : Int) : Int := if n < 0 ∨ n > s.sbs.length - 2 then 16 else 0
def kpS (s : Inn) (p : Int) : Inn := { s with kp := if kpL s p = 0 then p else s.kp }
def sbS (s : Inn) (p : Int) (on : Bool) : Inn := { s with sbs := if sbL s p on = 0 then s.sbs.set (p - 1).toNat on else s.sbs, kp := if sbL s p on = 0 ∧ on = true ∧ s.kp = p then 0 else s.kp, bw := if sbL s p on = 0 ∧ on = true ∧ s.bw = p then 0 else s.bw }
def ouS (s : Inn) (n : Int) : Inn := { s with ou := if ouL s n = 0 then n else s.ou }
theorem plr_in {s : Inn} {p : Int} (h : plr s p = true) : 1 ≤ p ∧ p ≤ s.sbs.length := by simpa [plr] using h
theorem wr1 {p : Int} {n : Nat} (h : 1 ≤ p ∧ p ≤ n) (hn : n ≤ 1000000) : IntKind.i64.wrap (p - 1) = p - 1 := IntWalk.i64_in _ (by omega)
theorem boolI {a b : Bool} (h : a = true ↔ b = true) : Value.bool a = Value.bool b := by rw [Bool.eq_iff_iff.2 h]
theorem intI {k : IntKind} {a b : Int} (h : a = b) : Value.int k a = Value.int k b := by rw [h]

def ex_h (s : Inn) (A : Adr) (p : Int) : Hint := Hint.nc (Hint.cut [((4 : Nat), .bool (decide (p ≥ 1) && decide (p ≤ (↑(s.sbs.length) : Int))))] (Hint.split (Hint.lit (Hint.lit (Hint.ob 0 (Hint.lit (Hint.pl (Hint.lit (Hint.lit Hint.nil))))))) (hl 4 (Hint.lit Hint.nil))) (Hint.perm [] Hint.nil))
theorem ex_x (s : Inn) (A : Adr) (p : Int) : wpG Tryz.prog [] ([]) 400 187 [inV s A, .int .i64 p] (ex_h s A p) ([]) (fun _ => .bool (plr s p)) = (∀ (b : Nat), ((decide (p ≥ 1) = true -> b = b /\ Value.bool (decide (p ≤ (↑(s.sbs.length) : Int))) = Value.bool (decide (p ≥ 1) && decide (p ≤ (↑(s.sbs.length) : Int))) /\ True) /\ (decide (p ≥ 1) = false -> Value.bool false = Value.bool (decide (p ≥ 1) && decide (p ≤ (↑(s.sbs.length) : Int))) /\
 True)) /\ ∀ (junk : Nat -> Value), .bool (decide (p ≥ 1) && decide (p ≤ (↑(s.sbs.length) : Int))) = Value.bool (plr s p)) := by kernel_rfl
set_option maxHeartbeats 4000000 in
theorem ex_sp (s : Inn) (A : Adr) (p : Int)  : SpecG Tryz.prog [] ([]) 187 #[inV s A, .int .i64 p] ([]) (fun _ => .bool (plr s p)) := by
  refine specG_of (h := ex_h s A p) (?_ : wpG Tryz.prog [] ([]) 400 187 [inV s A, .int .i64 p] (ex_h s A p) ([]) (fun _ => .bool (plr s p)))
  rw [ex_x]
  (repeat' (first | with_reducible exact rfl | exact trivial | with_reducible assumption | exact cU_len _ | exact cI_len _ | exact cB_len _ | exact cU_one _ | exact cI_one _ | exact cB_one _ | exact (fun _ h => h) | exact (fun _ h => (List.not_mem_nil h).elim) | (with_reducible refine e1_in ?_) | (with_reducible refine e2_in ?_) | (with_reducible refine lx_in (Nat.le_of_ble_eq_true rfl) ?_) | (with_reducible refine rqx_rf ?_) | (with_reducible refine rqx_in ?_ ?_ ?_) | (with_reducible apply And.intro) | (with_reducible intro _)))
  all_goals (first | (simp only [*, Bool.and_true, Bool.true_and, Bool.and_false, Bool.false_and, Bool.or_true, Bool.true_or, Bool.or_false, Bool.false_or, Bool.not_true, Bool.not_false, cond_true, cond_false]; done) | (refine boolI ?_; (try unfold plr); simp_all))
def rp_h (s : Inn) (A : Adr) (p : Int) : Hint := Hint.ob 5 (Hint.ix (Hint.lst (4 : Nat) (Int.toNat (IntKind.i64.wrap (p - 1)) * (1 : Nat)) (Value.bool (List.getD s.sbs (Int.toNat (IntKind.i64.wrap (p - 1))) false)) (Hint.perm [] Hint.nil)))
theorem rp_x (s : Inn) (A : Adr) (p : Int) : wpG Tryz.prog [] (rdI s A) 400 188 [inV s A, .int .i64 p] (rp_h s A p) ([]) (fun _ => .bool (rpl s p)) = (∀ (b : Nat), b = b /\ (((0 : Int) ≤ IntKind.i64.wrap (p - 1) /\ IntKind.i64.wrap (p - 1) < (↑(s.sbs.length) : Int)) /\ AOK (Adr.a5 A) (s.sbs.length)) /\ bk (Adr.a5 A) = bk (Adr.a5 A) /\ ofs (Adr.a5 A) + Int.toNat (IntKind.i64.wrap (p - 1)) * (1 : Nat) = ofs (Adr.a5 A) + Int.toNat (IntKind.i64.wrap (p
 - 1)) * (1 : Nat) /\ lgo (cB s.sbs) (Int.toNat (IntKind.i64.wrap (p - 1)) * (1 : Nat)) = some (Value.bool (List.getD s.sbs (Int.toNat (IntKind.i64.wrap (p - 1))) false)) /\ Value.bool (List.getD s.sbs (Int.toNat (IntKind.i64.wrap (p - 1))) false) = Value.bool (rpl s p)) := by kernel_rfl
set_option maxHeartbeats 4000000 in
theorem rp_sp (s : Inn) (A : Adr) (p : Int) (hA : OkI s A) (hp : plr s p = true) : SpecG Tryz.prog [] (rdI s A) 188 #[inV s A, .int .i64 p] ([]) (fun _ => .bool (rpl s p)) := by
  refine specG_of (h := rp_h s A p) (?_ : wpG Tryz.prog [] (rdI s A) 400 188 [inV s A, .int .i64 p] (rp_h s A p) ([]) (fun _ => .bool (rpl s p)))
  rw [rp_x]
  have h1 := plr_in hp
  have e := wr1 h1 hA.l5
  simp only [e]
  (repeat' (first | with_reducible exact rfl | exact trivial | with_reducible assumption | exact cU_len _ | exact cI_len _ | exact cB_len _ | exact cU_one _ | exact cI_one _ | exact cB_one _ | exact (fun _ h => h) | exact (fun _ h => (List.not_mem_nil h).elim) | exact hA.k5 | (with_reducible refine e1_in ?_) | (with_reducible refine e2_in ?_) | (with_reducible refine lx_in (Nat.le_of_ble_eq_true rfl) ?_) | (with_reducible refine rqx_rf ?_) | (with_reducible refine rqx_in ?_ ?_ ?_) | (with_reducible apply And.intro) | (with_reducible intro _)))
  all_goals (first | exact rfl | omega | (refine cB_get ?_; omega))
def kpl_h (s : Inn) (A : Adr) (p : Int) : Hint := ho 5 28 (Hint.specg [] [] [] [] (fun ads0 x ↦ Value.bool (plr s p)) (Hint.split (Hint.perm [] Hint.nil) (ho 5 28 (Hint.specg [] [0, 1, 2, 3, 4] [cU s.bts, cI s.bws, cI s.bfs, cI s.bwd, cB s.sbs] [] (fun ads0 x ↦ Value.bool (rpl s p)) (Hint.split (Hint.perm [] Hint.nil) (Hint.ob 5 (Hint.pl (Hint.cut
 [((14 : Nat), .bool (p == s.bw || p == s.kp))] (Hint.split Hint.nil (Hint.ob 5 (Hint.pl Hint.nil))) (Hint.split (Hint.perm [] Hint.nil) (Hint.perm [] Hint.nil))))))))))
theorem kpl_x (s : Inn) (A : Adr) (p : Int) : wpG Tryz.prog [] (rdI s A) 400 140 [inV s A, .int .i64 p] (kpl_h s A p) ([]) (fun _ => .int .i64 (kpL s p)) = (∀ (b : Nat), e1 b 28 ((SpecG Tryz.prog [] [] (187 : FuncId) #[inV s A, .int .i64 p] [] fun x ↦ Value.bool (plr s p)) /\ (∀ (e : Ex), e ∈ [] -> e ∈ []) /\ ((!plr s p) = true -> Value.int .i64 3 = Value.int .i64 (kpL s p)) /\ ((!plr s p) = false -> e1 b 28 (cU s.bts = cU s.bts /\ cI s.bws = cI s.bws /\
 cI s.bfs = cI s.bfs /\ cI s.bwd = cI s.bwd /\ cB s.sbs = cB s.sbs /\ (SpecG Tryz.prog [] (rdI s A) (188 : FuncId) #[inV s A, .int .i64 p] [] fun x ↦ Value.bool (rpl s p)) /\ (∀ (e : Ex), e ∈ [] -> e ∈ []) /\ (rpl s p = true -> Value.int .i64 18 = Value.int .i64 (kpL s p)) /\ (rpl s p = false -> b = b
 /\ (((p == s.bw) = true -> Value.bool true = Value.bool (p == s.bw || p == s.kp) /\ True) /\ ((p == s.bw) = false -> b = b /\ Value.bool (p == s.kp) = Value.bool (p == s.bw || p == s.kp) /\ True)) /\ ∀ (junk : Nat -> Value), ((p == s.bw || p == s.kp) = true -> Value.int .i64 17 = Value.int .i64 (kpL
 s p)) /\ ((p == s.bw || p == s.kp) = false -> Value.int .i64 0 = Value.int .i64 (kpL s p))))))) := by kernel_rfl
set_option maxHeartbeats 4000000 in
theorem kpl_sp (s : Inn) (A : Adr) (p : Int) (hA : OkI s A) : SpecG Tryz.prog [] (rdI s A) 140 #[inV s A, .int .i64 p] ([]) (fun _ => .int .i64 (kpL s p)) := by
  refine specG_of (h := kpl_h s A p) (?_ : wpG Tryz.prog [] (rdI s A) 400 140 [inV s A, .int .i64 p] (kpl_h s A p) ([]) (fun _ => .int .i64 (kpL s p)))
  rw [kpl_x]
  (repeat' (first | with_reducible exact rfl | exact trivial | with_reducible assumption | exact ex_sp _ _ _ | exact rp_sp _ _ _ hA (by simp_all) | exact cU_len _ | exact cI_len _ | exact cB_len _ | exact cU_one _ | exact cI_one _ | exact cB_one _ | exact (fun _ h => h) | exact (fun _ h => (List.not_mem_nil h).elim) | (with_reducible refine e1_in ?_) | (with_reducible refine e2_in ?_) | (with_reducible refine lx_in (Nat.le_of_ble_eq_true rfl) ?_) | (with_reducible refine rqx_rf ?_) | (with_reducible refine rqx_in ?_ ?_ ?_) | (with_reducible apply And.intro) | (with_reducible intro _)))
  all_goals (first | (simp only [*, Bool.and_true, Bool.true_and, Bool.and_false, Bool.false_and, Bool.or_true, Bool.true_or, Bool.or_false, Bool.false_or, Bool.not_true, Bool.not_false, cond_true, cond_false]; done) | (simp_all; done) | (unfold kpL; simp_all; done) | trace_state)
def kp_h (s : Inn) (A : Adr) (p : Int) : Hint := Hint.draw [0, 1, 2, 3, 4, 5, 6, 7] (some 5) [0, 1, 2, 3, 4, 5, 6] (Hint.take 0 (ho 5 28 (Hint.take 1 (Hint.ob 6 (Hint.take 3 (ho 5 28 (Hint.take 4 (Hint.pl (Hint.br (Hint.specg [] [0, 1, 2, 3, 4] [cU s.bts, cI s.bws, cI s.bfs, cI s.bwd, cB s.sbs] [] (fun ads0 x ↦ Value.int .i64 (kpL s p)) (Hint.pl
 (Hint.br (Hint.inl (ho 8 28 (Hint.specg [] [0, 1, 2, 3, 4] [cU s.bts, cI s.bws, cI s.bfs, cI s.bwd, cB s.sbs] (rowI s) (fun ads0 ads ↦ inV s (adA ads)) (ho 15 28 (Hint.pl (Hint.split (Hint.inl (Hint.ob 6 (ho 15 29 (ho 9 56 (Hint.take 6 (Hint.take 7 (Hint.pl (Hint.br (ho 7 28 (Hint.take 9 (ho 7 28
 (Hint.perm [10, 11, 12, 13, 14] Hint.nil)))) Hint.nil)))))))) (ho 15 28 (ho 9 56 (Hint.take 6 (Hint.take 7 (Hint.pl (Hint.br (ho 7 28 (Hint.take 9 (ho 7 28 (Hint.perm [10, 11, 12, 13, 14] Hint.nil)))) Hint.nil)))))))))))) Hint.nil))) Hint.nil)))))))))
theorem kp_x (s : Inn) (A : Adr) (p : Int) : wpG Tryz.prog [] (rdI s A) 400 85 [inV s A, .int .i64 p] (kp_h s A p) (rowI s) (fun ads => .tuple #[inV (kpS s p) (adA ads), .int .i64 (kpL s p)]) = (∀ (b b_1 b_2 : Nat), e1 b 28 (b_1 = b_1 /\ e1 b 27 (b = b /\ True /\ (cU s.bts = cU s.bts /\ cI s.bws = cI s.bws /\ cI s.bfs = cI s.bfs /\ cI s.bwd = cI s.bwd /\ cB s.sbs = cB s.sbs /\ (SpecG Tryz.prog [] (rdI s A) (140 : FuncId) #[inV s A, .int .i64 p] [] fun x ↦ Value.int .i64 (kpL s p)) /\ (∀ (e :
 Ex), e ∈ [] -> e ∈ []) /\ True /\ (∀ (b b_3 : Nat), e1 b 28 (cU s.bts = cU s.bts /\ cI s.bws = cI s.bws /\ cI s.bfs = cI s.bfs /\ cI s.bwd = cI s.bwd /\ cB s.sbs = cB s.sbs /\ (SpecG Tryz.prog [] (rdI s A) (52 : FuncId) #[inV s A] (rowI s) fun ads ↦ inV s (adA ads)) /\ (∀ (e : Ex), e ∈ [] -> e ∈ [])
 /\ ∀ (a : Option Addr) (cap : Nat), AOK a (s.bts.length) -> s.bts.length ≤ cap -> ∀ (a_1 : Option Addr) (cap_1 : Nat), AOK a_1 (s.bws.length) -> s.bws.length ≤ cap_1 -> ∀ (a_2 : Option Addr) (cap_2 : Nat), AOK a_2 (s.bfs.length) -> s.bfs.length ≤ cap_2 -> ∀ (a_3 : Option Addr) (cap_3 : Nat), AOK a_3
 (s.bwd.length) -> s.bwd.length ≤ cap_3 -> ∀ (a_4 : Option Addr) (cap_4 : Nat), AOK a_4 (s.sbs.length) -> s.sbs.length ≤ cap_4 -> ∀ (b : Nat), e2 b 28 (((kpL s p == 0) = true -> b_1 = b_1 /\ b = b /\ True /\ e1 b 28 (e2 b_3 28 (e1 b_3 27 (b_3 = b_3 /\ True /\ (e2 b_2 28 (e1 b_2 28 (rqx cU 70 1 s.bts
 s.bts (rqx cI 3 1 s.bws s.bws (rqx cI 3 1 s.bfs s.bfs (rqx cI 3 1 s.bwd s.bwd (rqx cB 4 1 s.sbs s.sbs (Value.tuple (Array.mk [.agg (Array.mk [.int .i64 s.sd, .int .i64 s.tg, .int .i64 s.ov, .int .i64 s.rn, .int .i64 s.wk, .int .i64 s.e1, .int .i64 s.e2, .int .i64 s.e3, .int .i64 s.e4, .int .i64
 s.e5, .int .i64 s.cm, .int .i64 s.io, .int .i64 s.st, .int .i64 s.ot, .slice a (s.bts.length) cap, .int .i64 s.bw, .slice a_1 (s.bws.length) cap_1, .slice a_2 (s.bfs.length) cap_2, .bool s.fr, .slice a_3 (s.bwd.length) cap_3, .bool s.fh, .int .i64 s.ba, .int .i64 p, .int .i64 s.ou, .slice a_4
 (s.sbs.length) cap_4, .int .i64 s.r1, .int .i64 s.r2, .int .u8 s.en]), .int .i64 (kpL s p)]) = Value.tuple (Array.mk [.agg (Array.mk [.int .i64 s.sd, .int .i64 s.tg, .int .i64 s.ov, .int .i64 s.rn, .int .i64 s.wk, .int .i64 s.e1, .int .i64 s.e2, .int .i64 s.e3, .int .i64 s.e4, .int .i64 s.e5, .int
 .i64 s.cm, .int .i64 s.io, .int .i64 s.st, .int .i64 s.ot, .slice a (s.bts.length) cap, .int .i64 s.bw, .slice a_1 (s.bws.length) cap_1, .slice a_2 (s.bfs.length) cap_2, .bool s.fr, .slice a_3 (s.bwd.length) cap_3, .bool s.fh, .int .i64 s.ba, .int .i64 (if kpL s p = (0 : Int) then p else s.kp), .int
 .i64 s.ou, .slice a_4 (s.sbs.length) cap_4, .int .i64 s.r1, .int .i64 s.r2, .int .u8 s.en]), .int .i64 (kpL s p)]))))))))) /\ True)))) /\ ((kpL s p == 0) = false -> e1 b 28 (e2 b_3 28 (e1 b_3 27 (b_3 = b_3 /\ True /\ (e2 b_2 28 (e1 b_2 28 (rqx cU 70 1 s.bts s.bts (rqx cI 3 1 s.bws s.bws (rqx cI 3 1
 s.bfs s.bfs (rqx cI 3 1 s.bwd s.bwd (rqx cB 4 1 s.sbs s.sbs (Value.tuple (Array.mk [.agg (Array.mk [.int .i64 s.sd, .int .i64 s.tg, .int .i64 s.ov, .int .i64 s.rn, .int .i64 s.wk, .int .i64 s.e1, .int .i64 s.e2, .int .i64 s.e3, .int .i64 s.e4, .int .i64 s.e5, .int .i64 s.cm, .int .i64 s.io, .int
 .i64 s.st, .int .i64 s.ot, .slice a (s.bts.length) cap, .int .i64 s.bw, .slice a_1 (s.bws.length) cap_1, .slice a_2 (s.bfs.length) cap_2, .bool s.fr, .slice a_3 (s.bwd.length) cap_3, .bool s.fh, .int .i64 s.ba, .int .i64 s.kp, .int .i64 s.ou, .slice a_4 (s.sbs.length) cap_4, .int .i64 s.r1, .int
 .i64 s.r2, .int .u8 s.en]), .int .i64 (kpL s p)]) = Value.tuple (Array.mk [.agg (Array.mk [.int .i64 s.sd, .int .i64 s.tg, .int .i64 s.ov, .int .i64 s.rn, .int .i64 s.wk, .int .i64 s.e1, .int .i64 s.e2, .int .i64 s.e3, .int .i64 s.e4, .int .i64 s.e5, .int .i64 s.cm, .int .i64 s.io, .int .i64 s.st,
 .int .i64 s.ot, .slice a (s.bts.length) cap, .int .i64 s.bw, .slice a_1 (s.bws.length) cap_1, .slice a_2 (s.bfs.length) cap_2, .bool s.fr, .slice a_3 (s.bwd.length) cap_3, .bool s.fh, .int .i64 s.ba, .int .i64 (if kpL s p = (0 : Int) then p else s.kp), .int .i64 s.ou, .slice a_4 (s.sbs.length)
 cap_4, .int .i64 s.r1, .int .i64 s.r2, .int .u8 s.en]), .int .i64 (kpL s p)]))))))))) /\ True))))))) /\ True) /\ True))) := by kernel_rfl
set_option maxHeartbeats 4000000 in
theorem kp_sp (s : Inn) (A : Adr) (p : Int) (hA : OkI s A) : SpecG Tryz.prog [] (rdI s A) 85 #[inV s A, .int .i64 p] (rowI s) (fun ads => .tuple #[inV (kpS s p) (adA ads), .int .i64 (kpL s p)]) := by
  refine specG_of (h := kp_h s A p) (?_ : wpG Tryz.prog [] (rdI s A) 400 85 [inV s A, .int .i64 p] (kp_h s A p) (rowI s) (fun ads => .tuple #[inV (kpS s p) (adA ads), .int .i64 (kpL s p)]))
  rw [kp_x]
  (repeat' (first | with_reducible exact rfl | exact trivial | with_reducible assumption | exact ex_sp _ _ _ | exact rp_sp _ _ _ hA (by simp_all) | exact fin_sp _ _ hA | exact kpl_sp _ _ _ hA | exact cU_len _ | exact cI_len _ | exact cB_len _ | exact cU_one _ | exact cI_one _ | exact cB_one _ | exact (fun _ h => h) | exact (fun _ h => (List.not_mem_nil h).elim) | (with_reducible refine e1_in ?_) | (with_reducible refine e2_in ?_) | (with_reducible refine lx_in (Nat.le_of_ble_eq_true rfl) ?_) | (with_reducible refine rqx_rf ?_) | (with_reducible refine rqx_in ?_ ?_ ?_) | (with_reducible apply And.intro) | (with_reducible intro _)))
  all_goals (first | (simp only [*, Bool.and_true, Bool.true_and, Bool.and_false, Bool.false_and, Bool.or_true, Bool.true_or, Bool.or_false, Bool.false_or, Bool.not_true, Bool.not_false, cond_true, cond_false]; done) | (simp_all; done) | (unfold kpL; simp_all; done) | trace_state)
end Go.Proofs.YtnhlpgdadbjmoaaGreatDoor
