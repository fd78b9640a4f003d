/- Layer 11 (field): Ready and Named of both. -/
import Derived.Test.YtnhlpgdadbjmoaaGreatDoorVz
import Derived.KernelRfl
import Derived.Test.YtnhlpgdadbjmoaaGreatDoorProg
import Derived.Test.YtnhlpgdadbjmoaaGreatDoorFda
import Derived.Test.YtnhlpgdadbjmoaaGreatDoorFdb
import Derived.Test.YtnhlpgdadbjmoaaGreatDoorFdc
import Derived.Test.YtnhlpgdadbjmoaaGreatDoorFdd
import Derived.Test.YtnhlpgdadbjmoaaGreatDoorFdf
set_option linter.unusedSimpArgs false
set_option linter.unusedVariables false
set_option maxRecDepth 100000
namespace Go.Proofs.YtnhlpgdadbjmoaaGreatDoor
open Go.RowKit


def rdy (s : Inn) (al : Int) : Int := if plr s s.kp = false ∨ rpl s s.kp = true ∨ s.kp = s.bw then 17 else if s.ou > al then 16 else 0
def nm1 (s : Inn) (p : Int) (sub : Bool) : Int := if p = 0 then 0 else if plr s p = false then 3 else if rpl s p = sub then 0 else 18
def nmd (s : Inn) (h f g : Int) (u : Bool) : Int :=
  if nm1 s (if 0 > f then 0 else f) u ≠ 0 then nm1 s (if 0 > f then 0 else f) u else if nm1 s (if 0 > g then 0 else g) false ≠ 0 then nm1 s (if 0 > g then 0 else g) false else if h = 4 ∧ (if 0 > f then 0 else f) ≠ s.kp then 17 else 0
theorem nm1_max (s : Inn) (f : Int) (u : Bool) : nm1 s (if 0 > f then 0 else f) u = if 0 < f ∧ plr s f = false then 3 else if 0 < f ∧ ¬ rpl s f = u then 18 else 0 := by
  unfold nm1
  by_cases h : 0 < f
  · have e : (if 0 > f then 0 else f) = f := if_neg (by omega)
    rw [e, if_neg (show ¬ f = 0 by omega)]
    simp only [h, true_and]
    (repeat' split) <;> simp_all
  · have e : (if 0 > f then 0 else f) = 0 := by split <;> omega
    rw [e]
    simp [h]
theorem nmd_eq (s : Inn) (h f g : Int) (u : Bool) : nmd s h f g u = if 0 < f ∧ plr s f = false then 3 else if 0 < f ∧ ¬ rpl s f = u then 18 else if 0 < g ∧ plr s g = false then 3 else if 0 < g ∧ ¬ rpl s g = false then 18 else if h = 4 ∧ (if 0 > f then 0 else f) ≠ s.kp then 17 else 0 := by
  unfold nmd
  rw [nm1_max, nm1_max]
  (repeat' split) <;> first | rfl | omega | (exfalso; simp_all; done) | (simp_all; done)

def rdp_h (r : Rul) (B : RAd) (s : Inn) (A : Adr) : Hint := ho 7 29 (Hint.specg [] [] [] [] (fun ads0 x ↦ Value.bool (plr s s.kp)) (Hint.cut [((5 : Nat), .bool (!plr s s.kp || (rpl s s.kp || s.kp == s.bw)))] (Hint.split Hint.nil (ho 7 29 (Hint.specg [] [1, 2, 3, 4, 5] [cU s.bts, cI s.bws, cI s.bfs, cI s.bwd, cB s.sbs] [] (fun ads0 x ↦ Value.bool (rpl s s.kp))
 (Hint.cut [((5 : Nat), .bool (rpl s s.kp || s.kp == s.bw))] (Hint.split Hint.nil (ho 7 2 (Hint.pl Hint.nil))) Hint.nil)))) (Hint.split (Hint.perm [] Hint.nil) (Hint.draw [0, 1, 2, 3, 4, 5, 6, 7] none [0, 1, 2, 3, 4, 5, 6, 7] (Hint.take 0 (Hint.take 1 (Hint.ob 7 (Hint.take 2 (ho 6 14 (Hint.take 3
 (Hint.take 4 (Hint.ob 7 (Hint.pl (Hint.br (Hint.specg [] [0] [cP r.pw] [] (fun ads0 x ↦ Value.int .i64 (alw r (IntKind.i64.wrap (s.cm + 1)))) (Hint.take 6 (Hint.take 7 (Hint.split (Hint.perm [] Hint.nil) (Hint.perm [] Hint.nil))))) Hint.nil))))))))))))))
theorem rdp_x (r : Rul) (B : RAd) (s : Inn) (A : Adr) : wpG Tryz.prog [] ((B.a, cP r.pw) :: rdI s A) 400 182 [ruV r B, inV s A] (rdp_h r B s A) ([]) (fun _ => .int .i64 (rdy s (alw r (IntKind.i64.wrap (s.cm + 1))))) = (∀ (b b_1 : Nat), e1 b_1 29 ((SpecG Tryz.prog [] [] (187 : FuncId) #[inV s A, .int .i64 s.kp] [] fun x ↦ Value.bool (plr s s.kp)) /\ (∀ (e : Ex), e ∈ [] -> e ∈ []) /\ (((!plr s s.kp) = true -> Value.bool true = Value.bool (!plr s s.kp || (rpl s s.kp || s.kp == s.bw)) /\ True) /\ ((!plr s s.kp) = false
 -> e1 b_1 29 (cU s.bts = cU s.bts /\ cI s.bws = cI s.bws /\ cI s.bfs = cI s.bfs /\ cI s.bwd = cI s.bwd /\ cB s.sbs = cB s.sbs /\ (SpecG Tryz.prog [] (rdI s A) (188 : FuncId) #[inV s A, .int .i64 s.kp] [] fun x ↦ Value.bool (rpl s s.kp)) /\ (∀ (e : Ex), e ∈ [] -> e ∈ []) /\ ((rpl s s.kp = true ->
 Value.bool true = Value.bool (rpl s s.kp || s.kp == s.bw) /\ True) /\ (rpl s s.kp = false -> b_1 = b_1 /\ b_1 = b_1 /\ Value.bool (s.kp == s.bw) = Value.bool (rpl s s.kp || s.kp == s.bw) /\ True)) /\ ∀ (junk : Nat -> Value), .bool (rpl s s.kp || s.kp == s.bw) = Value.bool (!plr s s.kp || (rpl s s.kp
 || s.kp == s.bw)) /\ True))) /\ ∀ (junk : Nat -> Value), ((!plr s s.kp || (rpl s s.kp || s.kp == s.bw)) = true -> Value.int .i64 17 = Value.int .i64 (rdy s (alw r (IntKind.i64.wrap (s.cm + 1))))) /\ ((!plr s s.kp || (rpl s s.kp || s.kp == s.bw)) = false -> b_1 = b_1 /\ e1 b 14 (b_1 = b_1 /\ True /\
 (cP r.pw = cP r.pw /\ (SpecG Tryz.prog [] [(RAd.a B, cP r.pw)] (200 : FuncId) #[ruV r B, .int .i64 s.cm] [] fun x ↦ Value.int .i64 (alw r (IntKind.i64.wrap (s.cm + 1)))) /\ (∀ (e : Ex), e ∈ [] -> e ∈ []) /\ (decide (s.ou > alw r (IntKind.i64.wrap (s.cm + 1))) = true -> Value.int .i64 16 = Value.int
 .i64 (rdy s (alw r (IntKind.i64.wrap (s.cm + 1))))) /\ (decide (s.ou > alw r (IntKind.i64.wrap (s.cm + 1))) = false -> Value.int .i64 0 = Value.int .i64 (rdy s (alw r (IntKind.i64.wrap (s.cm + 1)))))) /\ True)))) := by kernel_rfl
set_option maxHeartbeats 4000000 in
theorem rdp_sp (r : Rul) (B : RAd) (s : Inn) (A : Adr) (hA : OkI s A) (hB : AOK B.a r.pw.length) (hl : r.pw.length ≤ 1000000) : SpecG Tryz.prog [] ((B.a, cP r.pw) :: rdI s A) 182 #[ruV r B, inV s A] ([]) (fun _ => .int .i64 (rdy s (alw r (IntKind.i64.wrap (s.cm + 1))))) := by
  refine specG_of (h := rdp_h r B s A) (?_ : wpG Tryz.prog [] ((B.a, cP r.pw) :: rdI s A) 400 182 [ruV r B, inV s A] (rdp_h r B s A) ([]) (fun _ => .int .i64 (rdy s (alw r (IntKind.i64.wrap (s.cm + 1))))))
  rw [rdp_x]
  (repeat' (first | with_reducible exact rfl | exact trivial | with_reducible assumption | exact ex_sp _ _ _ | exact rp_sp _ _ _ hA (by simp_all) | exact alp_sp _ _ _ hB hl | exact cU_len _ | exact cI_len _ | exact cB_len _ | exact cU_one _ | exact cI_one _ | exact cB_one _ | exact (fun _ h => h) | exact (fun _ h => (List.not_mem_nil h).elim) | (with_reducible refine e1_in ?_) | (with_reducible refine e2_in ?_) | (with_reducible refine lx_in (Nat.le_of_ble_eq_true rfl) ?_) | (with_reducible refine rqx_rf ?_) | (with_reducible refine rqx_in ?_ ?_ ?_) | (with_reducible apply And.intro) | (with_reducible intro _)))
  all_goals (first | (simp only [*, Bool.and_true, Bool.true_and, Bool.and_false, Bool.false_and, Bool.or_true, Bool.true_or, Bool.or_false, Bool.false_or, Bool.not_true, Bool.not_false, cond_true, cond_false]; done) | (simp_all; done) | (unfold rdy; simp_all; done) | trace_state)
def nm1_h (s : Inn) (A : Adr) (p : Int) (sub : Bool) : Hint := Hint.pl (Hint.split (Hint.perm [] Hint.nil) (ho 5 28 (Hint.specg [] [] [] [] (fun ads0 x ↦ Value.bool (plr s p)) (Hint.split (Hint.perm [] Hint.nil) (ho 5 28 (Hint.specg [] [0, 1, 2, 3, 4] [cU s.bts, cI s.bws, cI s.bfs, cI s.bwd, cB s.sbs] [] (fun ads0 x ↦ Value.bool (rpl s p)) (Hint.pl (Hint.split
 (Hint.perm [] Hint.nil) (Hint.perm [] Hint.nil)))))))))
theorem nm1_x (s : Inn) (A : Adr) (p : Int) (sub : Bool) : wpG Tryz.prog [] (rdI s A) 400 205 [inV s A, .int .i64 p, .bool sub] (nm1_h s A p sub) ([]) (fun _ => .int .i64 (nm1 s p sub)) = (∀ (b : Nat), ((p == 0) = true -> Value.int .i64 0 = Value.int .i64 (nm1 s p sub)) /\ ((p == 0) = false -> e1 b 28 ((SpecG Tryz.prog [] [] (187 : FuncId) #[inV s A, .int .i64 p] [] fun x ↦ Value.bool (plr s p)) /\ (∀ (e : Ex), e ∈ [] -> e ∈ []) /\ ((!plr s p) = true -> Value.int .i64 3 = Value.int .i64
 (nm1 s p sub)) /\ ((!plr s p) = false -> e1 b 28 (cU s.bts = cU s.bts /\ cI s.bws = cI s.bws /\ cI s.bfs = cI s.bfs /\ cI s.bwd = cI s.bwd /\ cB s.sbs = cB s.sbs /\ (SpecG Tryz.prog [] (rdI s A) (188 : FuncId) #[inV s A, .int .i64 p] [] fun x ↦ Value.bool (rpl s p)) /\ (∀ (e : Ex), e ∈ [] -> e ∈ [])
 /\ ((!rpl s p == sub) = true -> Value.int .i64 18 = Value.int .i64 (nm1 s p sub)) /\ ((!rpl s p == sub) = false -> Value.int .i64 0 = Value.int .i64 (nm1 s p sub))))))) := by kernel_rfl
set_option maxHeartbeats 4000000 in
theorem nm1_sp (s : Inn) (A : Adr) (p : Int) (sub : Bool) (hA : OkI s A) : SpecG Tryz.prog [] (rdI s A) 205 #[inV s A, .int .i64 p, .bool sub] ([]) (fun _ => .int .i64 (nm1 s p sub)) := by
  refine specG_of (h := nm1_h s A p sub) (?_ : wpG Tryz.prog [] (rdI s A) 400 205 [inV s A, .int .i64 p, .bool sub] (nm1_h s A p sub) ([]) (fun _ => .int .i64 (nm1 s p sub)))
  rw [nm1_x]
  (repeat' (first | with_reducible exact rfl | exact trivial | with_reducible assumption | exact ex_sp _ _ _ | exact rp_sp _ _ _ hA (by simp_all) | exact cU_len _ | exact cI_len _ | exact cB_len _ | exact cU_one _ | exact cI_one _ | exact cB_one _ | exact (fun _ h => h) | exact (fun _ h => (List.not_mem_nil h).elim) | (with_reducible refine e1_in ?_) | (with_reducible refine e2_in ?_) | (with_reducible refine lx_in (Nat.le_of_ble_eq_true rfl) ?_) | (with_reducible refine rqx_rf ?_) | (with_reducible refine rqx_in ?_ ?_ ?_) | (with_reducible apply And.intro) | (with_reducible intro _)))
  all_goals (first | (simp only [*, Bool.and_true, Bool.true_and, Bool.and_false, Bool.false_and, Bool.or_true, Bool.true_or, Bool.or_false, Bool.false_or, Bool.not_true, Bool.not_false, cond_true, cond_false]; done) | (simp_all; done) | (unfold nm1; simp_all; done) | trace_state)
def nmp_h (s : Inn) (A : Adr) (t sc ru sh b : Int) (x : Bool) (h v f g : Int) (u : Bool) (z : Int) : Hint := Hint.draw [0, 1, 2, 3, 4, 5, 6] none [0, 1, 2, 3, 4, 5, 6] (Hint.take 0 (Hint.take 1 (Hint.ob 6 (Hint.take 2 (Hint.pl (Hint.take 3 (Hint.take 4 (Hint.ob 6 (Hint.take 5 (Hint.pl (Hint.take 6 (Hint.take 7 (ho 5 28 (Hint.ob 6 (Hint.specg [] [0, 1, 2, 3, 4] [cU s.bts, cI s.bws, cI s.bfs, cI s.bwd, cB
 s.sbs] [] (fun ads0 x ↦ Value.int .i64 (nm1 s (if (0 : Int) > f then (0 : Int) else f) u)) (Hint.pl (Hint.split (Hint.perm [] Hint.nil) (ho 5 28 (Hint.specg [] [0, 1, 2, 3, 4] [cU s.bts, cI s.bws, cI s.bfs, cI s.bwd, cB s.sbs] [] (fun ads0 x ↦ Value.int .i64 (nm1 s (if (0 : Int) > g then (0 : Int)
 else g) false)) (Hint.pl (Hint.split (Hint.perm [] Hint.nil) (Hint.cut [((37 : Nat), .bool (h == 4 && (if (0 : Int) > f then (0 : Int) else f) != s.kp))] (Hint.ob 6 (Hint.pl (Hint.split (Hint.lit (Hint.lit (Hint.ob 5 (Hint.lit (Hint.pl (Hint.lit Hint.nil)))))) (hl 3 (Hint.lit Hint.nil)))))
 (Hint.split (Hint.perm [] Hint.nil) (Hint.perm [] Hint.nil))))))))))))))))))))))))
theorem nmp_x (s : Inn) (A : Adr) (t sc ru sh b : Int) (x : Bool) (h v f g : Int) (u : Bool) (z : Int) : wpG Tryz.prog [] (rdI s A) 400 184 [inV s A, .agg #[.int .u8 t, .int .u8 sc, .int .i64 ru, .int .i64 sh, .int .i64 b, .bool x, .int .u8 h, .int .i64 v, .int .i64 f, .int .i64 g, .bool u, .int .i64 z]] (nmp_h s A t sc ru sh b x h v f g u z) ([]) (fun _ => .int .i64 (nmd s h f g u)) = (∀ (b b_1 : Nat), b_1 = b_1 /\ b_1 = b_1 /\ e1 b 28 (b_1 = b_1 /\ cU s.bts = cU s.bts /\ cI s.bws = cI s.bws /\ cI s.bfs = cI s.bfs /\ cI s.bwd = cI s.bwd /\ cB s.sbs = cB s.sbs /\ (SpecG Tryz.prog [] (rdI s A) (205 : FuncId) #[inV s A, .int .i64 (if (0 : Int) > f then (0 : Int) else f), .bool u] []
 fun x ↦ Value.int .i64 (nm1 s (if (0 : Int) > f then (0 : Int) else f) u)) /\ (∀ (e : Ex), e ∈ [] -> e ∈ []) /\ ((nm1 s (if (0 : Int) > f then (0 : Int) else f) u != 0) = true -> Value.int .i64 (nm1 s (if (0 : Int) > f then (0 : Int) else f) u) = Value.int .i64 (nmd s h f g u)) /\ ((nm1 s (if (0 :
 Int) > f then (0 : Int) else f) u != 0) = false -> e1 b 28 (cU s.bts = cU s.bts /\ cI s.bws = cI s.bws /\ cI s.bfs = cI s.bfs /\ cI s.bwd = cI s.bwd /\ cB s.sbs = cB s.sbs /\ (SpecG Tryz.prog [] (rdI s A) (205 : FuncId) #[inV s A, .int .i64 (if (0 : Int) > g then (0 : Int) else g), .bool false] []
 fun x ↦ Value.int .i64 (nm1 s (if (0 : Int) > g then (0 : Int) else g) false)) /\ (∀ (e : Ex), e ∈ [] -> e ∈ []) /\ ((nm1 s (if (0 : Int) > g then (0 : Int) else g) false != 0) = true -> Value.int .i64 (nm1 s (if (0 : Int) > g then (0 : Int) else g) false) = Value.int .i64 (nmd s h f g u)) /\ ((nm1
 s (if (0 : Int) > g then (0 : Int) else g) false != 0) = false -> (b_1 = b_1 /\ ((h == 4) = true -> b = b /\ Value.bool ((if (0 : Int) > f then (0 : Int) else f) != s.kp) = Value.bool (h == 4 && (if (0 : Int) > f then (0 : Int) else f) != s.kp) /\ True) /\ ((h == 4) = false -> Value.bool false =
 Value.bool (h == 4 && (if (0 : Int) > f then (0 : Int) else f) != s.kp) /\ True)) /\ ∀ (junk : Nat -> Value), ((h == 4 && (if (0 : Int) > f then (0 : Int) else f) != s.kp) = true -> Value.int .i64 17 = Value.int .i64 (nmd s h f g u)) /\ ((h == 4 && (if (0 : Int) > f then (0 : Int) else f) != s.kp) =
 false -> Value.int .i64 0 = Value.int .i64 (nmd s h f g u))))))) := by kernel_rfl
set_option maxHeartbeats 4000000 in
theorem nmp_sp (s : Inn) (A : Adr) (t sc ru sh b : Int) (x : Bool) (h v f g : Int) (u : Bool) (z : Int) (hA : OkI s A) : SpecG Tryz.prog [] (rdI s A) 184 #[inV s A, .agg #[.int .u8 t, .int .u8 sc, .int .i64 ru, .int .i64 sh, .int .i64 b, .bool x, .int .u8 h, .int .i64 v, .int .i64 f, .int .i64 g, .bool u, .int .i64 z]] ([]) (fun _ => .int .i64 (nmd s h f g u)) := by
  refine specG_of (h := nmp_h s A t sc ru sh b x h v f g u z) (?_ : wpG Tryz.prog [] (rdI s A) 400 184 [inV s A, .agg #[.int .u8 t, .int .u8 sc, .int .i64 ru, .int .i64 sh, .int .i64 b, .bool x, .int .u8 h, .int .i64 v, .int .i64 f, .int .i64 g, .bool u, .int .i64 z]] (nmp_h s A t sc ru sh b x h v f g u z) ([]) (fun _ => .int .i64 (nmd s h f g u)))
  rw [nmp_x]
  (repeat' (first | with_reducible exact rfl | exact trivial | with_reducible assumption | exact nm1_sp _ _ _ _ hA | exact cU_len _ | exact cI_len _ | exact cB_len _ | exact cU_one _ | exact cI_one _ | exact cB_one _ | exact (fun _ h => h) | exact (fun _ h => (List.not_mem_nil h).elim) | (with_reducible refine e1_in ?_) | (with_reducible refine e2_in ?_) | (with_reducible refine lx_in (Nat.le_of_ble_eq_true rfl) ?_) | (with_reducible refine rqx_rf ?_) | (with_reducible refine rqx_in ?_ ?_ ?_) | (with_reducible apply And.intro) | (with_reducible intro _)))
  all_goals (first | (simp only [*, Bool.and_true, Bool.true_and, Bool.and_false, Bool.false_and, Bool.or_true, Bool.true_or, Bool.or_false, Bool.false_or, Bool.not_true, Bool.not_false, cond_true, cond_false]; done) | (simp_all; done) | (unfold nmd; simp_all; done) | trace_state)
end Go.Proofs.YtnhlpgdadbjmoaaGreatDoor
