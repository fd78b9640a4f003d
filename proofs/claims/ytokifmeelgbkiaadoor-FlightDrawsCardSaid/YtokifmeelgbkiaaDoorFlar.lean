/- Layer 32 (flight): heights with gravity taken out, lines behind the bounce, of both. The reference. -/
import Derived.Test.YtokifmeelgbkiaaDoorVz
import Derived.KernelRfl
import Derived.Test.YtokifmeelgbkiaaDoorProg
import Derived.Test.YtokifmeelgbkiaaDoorCma
import Derived.Test.YtokifmeelgbkiaaDoorCmar
import Derived.Test.YtokifmeelgbkiaaDoorLsa
import Derived.Test.YtokifmeelgbkiaaDoorLsar
import Derived.Test.YtokifmeelgbkiaaDoorWideG
import Derived.Test.YtokifmeelgbkiaaDoorExq
import Derived.Test.YtokifmeelgbkiaaDoorExqr
import Derived.Test.YtokifmeelgbkiaaDoorFla
set_option linter.unusedSimpArgs false
set_option linter.unusedVariables false
set_option maxRecDepth 100000
namespace Go.Proofs.YtokifmeelgbkiaaDoor
open Go.RowKit

def rrse_h (t z : Int) : Hint := .nc (.cut [((18 : Nat), .bool (decide (t < 0) || (decide (t > 8000) || (decide (z < (-1000000 : Int)) || decide (z > 1000000)))))] (.split (hl 7 (.lit .nil)) (.lit (.lit (.split (hl 4 (.lit .nil)) (.lit (.lit (.split (.lit (.lit .nil)) (.lit (.lit .nil))))))))) (.split (.perm [] .nil) (.perm []
 .nil)))
theorem rrse_x (t z : Int) : wpG Tryd.prog [] ([]) 400 12 [.int .i64 t, .int .i64 z] (rrse_h t z) ([]) (fun _ => .int .i64 (rsZ t z)) = (((decide (t < 0) = true -> Value.bool true = Value.bool (decide (t < 0) || (decide (t > 8000) || (decide (z < (-1000000 : Int)) || decide (z > 1000000)))) /\ True) /\ (decide (t < 0) = false -> (decide (t > 8000) = true -> Value.bool true = Value.bool (decide (t < 0) || (decide (t > 8000) || (decide
 (z < (-1000000 : Int)) || decide (z > 1000000)))) /\ True) /\ (decide (t > 8000) = false -> (decide (z < (-1000000 : Int)) = true -> Value.bool true = Value.bool (decide (t < 0) || (decide (t > 8000) || (decide (z < (-1000000 : Int)) || decide (z > 1000000)))) /\ True) /\ (decide (z < (-1000000 :
 Int)) = false -> Value.bool (decide (z > 1000000)) = Value.bool (decide (t < 0) || (decide (t > 8000) || (decide (z < (-1000000 : Int)) || decide (z > 1000000)))) /\ True)))) /\ ∀ (junk : Nat -> Value), ((decide (t < 0) || (decide (t > 8000) || (decide (z < (-1000000 : Int)) || decide (z >
 1000000)))) = true -> Value.int .i64 0 = Value.int .i64 (rsZ t z)) /\ ((decide (t < 0) || (decide (t > 8000) || (decide (z < (-1000000 : Int)) || decide (z > 1000000)))) = false -> Value.int .i64 (IntKind.i64.wrap (IntKind.i64.wrap (z * (80000 : Int)) + IntKind.i64.wrap (IntKind.i64.wrap ((981 :
 Int) * t) * t))) = Value.int .i64 (rsZ t z))) := by kernel_rfl
set_option maxHeartbeats 4000000 in
theorem rrse_sp (t z : Int)  : SpecG Tryd.prog [] ([]) 12 #[.int .i64 t, .int .i64 z] ([]) (fun _ => .int .i64 (rsZ t z)) := by
  refine specG_of (h := rrse_h t z) (?_ : wpG Tryd.prog [] ([]) 400 12 [.int .i64 t, .int .i64 z] (rrse_h t z) ([]) (fun _ => .int .i64 (rsZ t z)))
  rw [rrse_x]
  (repeat' (first | with_reducible exact rfl | exact trivial | with_reducible assumption | exact cU_len _ | exact cI_len _ | exact cB_len _ | exact cU_one _ | exact cI_one _ | exact cB_one _ | exact (fun _ h => h) | exact (fun _ h => (List.not_mem_nil h).elim) | (with_reducible refine e1_in ?_) | (with_reducible refine e2_in ?_) | (with_reducible refine lx_in (Nat.le_of_ble_eq_true rfl) ?_) | (with_reducible refine rqx_rf ?_) | (with_reducible refine rqx_in ?_ ?_ ?_) | (with_reducible apply And.intro) | (with_reducible intro _)))
  all_goals (try (first | rfl | (simp only [*, Bool.and_true, Bool.true_and, Bool.and_false, Bool.false_and, Bool.or_true, Bool.true_or, Bool.or_false, Bool.false_or, Bool.not_true, Bool.not_false, cond_true, cond_false]; done)))
  all_goals (try simp only [ti_q] at *)
  all_goals (first | rfl | (simp only [*, Bool.and_true, Bool.true_and, Bool.and_false, Bool.false_and, Bool.or_true, Bool.true_or, Bool.or_false, Bool.false_or, Bool.not_true, Bool.not_false, cond_true, cond_false]; done) | (rw [rsZ_0 ‹_›]) | (have hh := or_f ‹(!tiB t || _) = false›; refine congrArg (Value.int .i64) (rsZ_w (by simpa using hh.1) hh.2)) | trace_state)
def rnea_h (n : Int) : Hint := .specg [] [] [] [] (fun ads0 x ↦ Value.tuple #[Value.int .i64 (flI (IntKind.i64.wrap (n + 40000)) (80000 : Int)), .int .i64 (quoE (IntKind.i64.wrap (n + 40000)) (80000 : Int))]) (.perm [] .nil)
theorem rnea_x (n : Int) : wpG Tryd.prog [] ([]) 400 32 [.int .i64 n] (rnea_h n) ([]) (fun _ => .int .i64 (unI n)) = ((SpecG Tryd.prog [] [] (49 : FuncId) #[Value.int .i64 (IntKind.i64.wrap (n + 40000)), .int .i64 80000] [] fun x ↦ Value.tuple #[Value.int .i64 (flI (IntKind.i64.wrap (n + 40000)) (80000 : Int)), .int .i64 (quoE (IntKind.i64.wrap (n + 40000)) (80000 : Int))]) /\ (∀ (e : Ex), e ∈ [] -> e ∈ []) /\
 Value.int .i64 (flI (IntKind.i64.wrap (n + 40000)) (80000 : Int)) = Value.int .i64 (unI n)) := by kernel_rfl
set_option maxHeartbeats 4000000 in
theorem rnea_sp (n : Int) (h : 0 ≤ n ∧ n ≤ 1000000000000000) : SpecG Tryd.prog [] ([]) 32 #[.int .i64 n] ([]) (fun _ => .int .i64 (unI n)) := by
  refine specG_of (h := rnea_h n) (?_ : wpG Tryd.prog [] ([]) 400 32 [.int .i64 n] (rnea_h n) ([]) (fun _ => .int .i64 (unI n)))
  rw [rnea_x]
  (repeat' (first | with_reducible exact rfl | exact trivial | with_reducible assumption | (with_reducible exact rflo_sp _ _ (i64w _)) | exact cU_len _ | exact cI_len _ | exact cB_len _ | exact cU_one _ | exact cI_one _ | exact cB_one _ | exact (fun _ h => h) | exact (fun _ h => (List.not_mem_nil h).elim) | (with_reducible refine e1_in ?_) | (with_reducible refine e2_in ?_) | (with_reducible refine lx_in (Nat.le_of_ble_eq_true rfl) ?_) | (with_reducible refine rqx_rf ?_) | (with_reducible refine rqx_in ?_ ?_ ?_) | (with_reducible apply And.intro) | (with_reducible intro _)))
  all_goals (first | rfl | (exact congrArg (Value.int .i64) (unI_f h)) | trace_state)

theorem rli_n {a : Option Addr} {c n : Nat} {L : List Pt} (h : L.length = n) (hA : AOK a n) (hn : n ≤ 9223372036854775807) : SpecG Tryd.prog [] [(a, cPt L)] 33 #[.slice a n c] [] (fun _ => fiV (liE L) (liA L) (liB L) (liD L)) := by
  subst h
  exact rli_sp a c L hA hn

def rft_h (a : Option Addr) (c : Nat) (l : List Sn) : Hint := .specg wE [0] [cSn l] [] (fun ads0 x ↦ Value.tuple #[Value.int .i64 (ckI l), .int .i64 (ckE l)]) (.pl (.split (ho 1 18 (.perm [] .nil)) (.specg wE [0] [cSn l] [RowT.mk (37 : TypeId) (5 : Nat) (List.length (bhS l)) (cSn (bhS l))] (fun ads0 ads ↦ Value.slice (Prod.fst (nthS ads (0 : Nat))) (List.length
 (bhS l)) (Prod.snd (nthS ads (0 : Nat)))) (.pl (.inv (gpL (bhS l)) fun x0 ↦ .split (.ix (.lst (2 : Nat) (Int.toNat (↑(GX.i x0) : Int) * (5 : Nat)) (Value.int .i64 (Sn.t (gSn (bhS l) (Int.toNat (↑(GX.i x0) : Int))))) (.lst (2 : Nat) (Int.toNat (↑(GX.i x0) : Int) * (5 : Nat) + (1 : Nat)) (Value.int
 .i64 (Sn.x (gSn (bhS l) (Int.toNat (↑(GX.i x0) : Int))))) (.lst (2 : Nat) (Int.toNat (↑(GX.i x0) : Int) * (5 : Nat) + (2 : Nat)) (Value.int .i64 (Sn.y (gSn (bhS l) (Int.toNat (↑(GX.i x0) : Int))))) (.lst (2 : Nat) (Int.toNat (↑(GX.i x0) : Int) * (5 : Nat) + (3 : Nat)) (Value.int .i64 (Sn.z (gSn (bhS
 l) (Int.toNat (↑(GX.i x0) : Int))))) (.lst (2 : Nat) (Int.toNat (↑(GX.i x0) : Int) * (5 : Nat) + (4 : Nat)) (Value.int .i64 (Sn.e (gSn (bhS l) (Int.toNat (↑(GX.i x0) : Int))))) (ho 6 7 (.app (3 : Nat) (7 : Nat) (ho 6 2 (.app (4 : Nat) (8 : Nat) (.drawf [10] (lminus (List.range 9) [5]) (.take 0
 (.take 1 (.take 2 (.ob 6 (.take 3 (.take 4 (.ob 6 (.take 5 (.take 6 (.ob 6 (.pl (.br (.specg [] [] [] [] (fun ads0 x ↦ Value.int .i64 (rsZ (Sn.t (gSn (bhS l) (Int.toNat (↑(GX.i x0) : Int)))) (Sn.z (gSn (bhS l) (Int.toNat (↑(GX.i x0) : Int)))))) (.pl (.br (.specg [] [] [] [] (fun ads0 x ↦ Value.int
 .i64 (unI (rsZ (Sn.t (gSn (bhS l) (Int.toNat (↑(GX.i x0) : Int)))) (Sn.z (gSn (bhS l) (Int.toNat (↑(GX.i x0) : Int))))))) (.take 9 (.take 10 (.pl (.br (.app (5 : Nat) (9 : Nat) (.take 12 (.perm [3, 4, 5] .nil))) .nil))))) .nil))) .nil))))))))))))))))))))))) (.specg [] [3] [cPt (gpP ptX (bhS l) (GX.i
 x0))] [] (fun ads0 x ↦ fiV (liE (gpP ptX (bhS l) (GX.i x0))) (liA (gpP ptX (bhS l) (GX.i x0))) (liB (gpP ptX (bhS l) (GX.i x0))) (liD (gpP ptX (bhS l) (GX.i x0)))) (ho 6 3 (.pl (.split (ho 1 18 (.perm [] .nil)) (.specg [] [4] [cPt (gpP ptY (bhS l) (GX.i x0))] [] (fun ads0 x ↦ fiV (liE (gpP ptY (bhS
 l) (GX.i x0))) (liA (gpP ptY (bhS l) (GX.i x0))) (liB (gpP ptY (bhS l) (GX.i x0))) (liD (gpP ptY (bhS l) (GX.i x0)))) (ho 7 3 (.specg [] [5] [cPt (gpP ptZ (bhS l) (GX.i x0))] [] (fun ads0 x ↦ fiV (liE (gpP ptZ (bhS l) (GX.i x0))) (liA (gpP ptZ (bhS l) (GX.i x0))) (liB (gpP ptZ (bhS l) (GX.i x0)))
 (liD (gpP ptZ (bhS l) (GX.i x0)))) (ho 8 3 (ho 6 3 (ho 7 3 (ho 8 3 (ho 1 18 (.perm [] .nil))))))))))))))))))
theorem rft_x (a : Option Addr) (c : Nat) (l : List Sn) : wpG Tryd.prog wE ([(a, cSn l)]) 400 14 [.slice a l.length c] (rft_h a c l) ([]) (fun _ => ftV (ftE l) (bhS l)) = (∀ (b : Nat), cSn l = cSn l /\ (SpecG Tryd.prog wE [(a, cSn l)] (30 : FuncId) #[Value.slice a (List.length l) c] [] fun x ↦ Value.tuple #[Value.int .i64 (ckI l), .int .i64 (ckE l)]) /\ (∀ (e : Ex), e ∈ wE -> e ∈ wE) /\ ((ckE l != 0) = true -> e2 b 9 (e1 b 9 (Value.tuple (Array.mk [.agg (Array.mk [.int
 .i64 0, .int .i64 0, .int .i64 0, .int .i64 0, .int .i64 0, .int .i64 0, .int .i64 0, .int .i64 0, .int .i64 0]), .int .i64 (ckE l)]) = Value.tuple (Array.mk [.agg (Array.mk [.int .i64 (zL (ftE l) (liA (List.map ptX (bhS l)))), .int .i64 (zL (ftE l) (liB (List.map ptX (bhS l)))), .int .i64 (zL (ftE
 l) (liD (List.map ptX (bhS l)))), .int .i64 (zL (ftE l) (liA (List.map ptY (bhS l)))), .int .i64 (zL (ftE l) (liB (List.map ptY (bhS l)))), .int .i64 (zL (ftE l) (liD (List.map ptY (bhS l)))), .int .i64 (zL (ftE l) (liA (List.map ptZ (bhS l)))), .int .i64 (zL (ftE l) (liB (List.map ptZ (bhS l)))),
 .int .i64 (zL (ftE l) (liD (List.map ptZ (bhS l))))]), .int .i64 (ftE l)])))) /\ ((ckE l != 0) = false -> cSn l = cSn l /\ (SpecG Tryd.prog wE [(a, cSn l)] (31 : FuncId) #[Value.slice a (List.length l) c] [RowT.mk (37 : TypeId) (5 : Nat) (List.length (bhS l)) (cSn (bhS l))] fun ads ↦ Value.slice
 (Prod.fst (nthS ads (0 : Nat))) (List.length (bhS l)) (Prod.snd (nthS ads (0 : Nat)))) /\ (∀ (e : Ex), e ∈ wE -> e ∈ wE) /\ ∀ (a : Option Addr) (cap : Nat), AOK a (List.length (bhS l)) -> List.length (bhS l) ≤ cap -> (∃ x, (GX.i x ≤ List.length (bhS l) /\ AOK (GX.a x) (GX.i x) /\ AOK (GX.p x) (GX.i
 x) /\ AOK (GX.q x) (GX.i x)) /\ Value.int .i64 0 = Value.int .i64 (↑(GX.i x) : Int) /\ Value.slice none (0 : Nat) (0 : Nat) = Value.slice (GX.a x) (GX.i x) (GX.c x) /\ Value.slice none (0 : Nat) (0 : Nat) = Value.slice (GX.p x) (GX.i x) (GX.d x) /\ Value.slice none (0 : Nat) (0 : Nat) = Value.slice
 (GX.q x) (GX.i x) (GX.e x) /\ ((0 : Nat) = (0 : Nat) /\ [] = cPt (gpP ptX (bhS l) (GX.i x)) /\ (57 : Nat) = (57 : Nat) /\ some (Ow.mk none (0 : Nat) (0 : Nat) (2 : Nat)) = some (Ow.mk (GX.a x) (GX.i x) (GX.c x) (2 : Nat))) /\ ((0 : Nat) = (0 : Nat) /\ [] = cPt (gpP ptY (bhS l) (GX.i x)) /\ (57 :
 Nat) = (57 : Nat) /\ some (Ow.mk none (0 : Nat) (0 : Nat) (2 : Nat)) = some (Ow.mk (GX.p x) (GX.i x) (GX.d x) (2 : Nat))) /\ ((0 : Nat) = (0 : Nat) /\ [] = cPt (gpP ptZ (bhS l) (GX.i x)) /\ (57 : Nat) = (57 : Nat) /\ some (Ow.mk none (0 : Nat) (0 : Nat) (2 : Nat)) = some (Ow.mk (GX.q x) (GX.i x)
 (GX.e x) (2 : Nat))) /\ True) /\ ∀ (x0 : GX), GX.i x0 ≤ List.length (bhS l) /\ AOK (GX.a x0) (GX.i x0) /\ AOK (GX.p x0) (GX.i x0) /\ AOK (GX.q x0) (GX.i x0) -> ∀ (junk : Nat -> Value), (decide ((↑(GX.i x0) : Int) < (↑(List.length (bhS l)) : Int)) = true -> (((0 : Int) ≤ (↑(GX.i x0) : Int) /\ (↑(GX.i
 x0) : Int) < (↑(List.length (bhS l)) : Int)) /\ AOK a (List.length (bhS l))) /\ bk a = bk a /\ ofs a + Int.toNat (↑(GX.i x0) : Int) * (5 : Nat) = ofs a + Int.toNat (↑(GX.i x0) : Int) * (5 : Nat) /\ lgo (cSn (bhS l)) (Int.toNat (↑(GX.i x0) : Int) * (5 : Nat)) = some (Value.int .i64 (Sn.t (gSn (bhS l)
 (Int.toNat (↑(GX.i x0) : Int))))) /\ bk a = bk a /\ ofs a + Int.toNat (↑(GX.i x0) : Int) * (5 : Nat) + (1 : Nat) = ofs a + (Int.toNat (↑(GX.i x0) : Int) * (5 : Nat) + (1 : Nat)) /\ lgo (cSn (bhS l)) (Int.toNat (↑(GX.i x0) : Int) * (5 : Nat) + (1 : Nat)) = some (Value.int .i64 (Sn.x (gSn (bhS l)
 (Int.toNat (↑(GX.i x0) : Int))))) /\ bk a = bk a /\ ofs a + Int.toNat (↑(GX.i x0) : Int) * (5 : Nat) + (2 : Nat) = ofs a + (Int.toNat (↑(GX.i x0) : Int) * (5 : Nat) + (2 : Nat)) /\ lgo (cSn (bhS l)) (Int.toNat (↑(GX.i x0) : Int) * (5 : Nat) + (2 : Nat)) = some (Value.int .i64 (Sn.y (gSn (bhS l)
 (Int.toNat (↑(GX.i x0) : Int))))) /\ bk a = bk a /\ ofs a + Int.toNat (↑(GX.i x0) : Int) * (5 : Nat) + (3 : Nat) = ofs a + (Int.toNat (↑(GX.i x0) : Int) * (5 : Nat) + (3 : Nat)) /\ lgo (cSn (bhS l)) (Int.toNat (↑(GX.i x0) : Int) * (5 : Nat) + (3 : Nat)) = some (Value.int .i64 (Sn.z (gSn (bhS l)
 (Int.toNat (↑(GX.i x0) : Int))))) /\ bk a = bk a /\ ofs a + Int.toNat (↑(GX.i x0) : Int) * (5 : Nat) + (4 : Nat) = ofs a + (Int.toNat (↑(GX.i x0) : Int) * (5 : Nat) + (4 : Nat)) /\ lgo (cSn (bhS l)) (Int.toNat (↑(GX.i x0) : Int) * (5 : Nat) + (4 : Nat)) = some (Value.int .i64 (Sn.e (gSn (bhS l)
 (Int.toNat (↑(GX.i x0) : Int))))) /\ ∀ (b : Nat), e2 b 5 (b = b /\ b = b /\ ∀ (b_1 : Nat), GX.a x0 = GX.a x0 /\ GX.i x0 = GX.i x0 /\ GX.c x0 = GX.c x0 /\ b_1 = b_1 /\ (GX.i x0 + (1 : Nat)) * (17 : Nat) ≤ (140737488355328 : Nat) /\ ∀ (g cap : Nat), b = b /\ b = b /\ ∀ (b_2 : Nat), GX.p x0 = GX.p x0
 /\ GX.i x0 = GX.i x0 /\ GX.d x0 = GX.d x0 /\ b_2 = b_2 /\ (GX.i x0 + (1 : Nat)) * (17 : Nat) ≤ (140737488355328 : Nat) /\ ∀ (g_1 cap_1 : Nat), e1 b 3 ((True /\ True) /\ ((SpecG Tryd.prog [] [] (12 : FuncId) #[Value.int .i64 (Sn.t (gSn (bhS l) (Int.toNat (↑(GX.i x0) : Int)))), .int .i64 (Sn.z (gSn
 (bhS l) (Int.toNat (↑(GX.i x0) : Int))))] [] fun x ↦ Value.int .i64 (rsZ (Sn.t (gSn (bhS l) (Int.toNat (↑(GX.i x0) : Int)))) (Sn.z (gSn (bhS l) (Int.toNat (↑(GX.i x0) : Int)))))) /\ (∀ (e : Ex), e ∈ [] -> e ∈ wE) /\ (True /\ True) /\ ((SpecG Tryd.prog [] [] (32 : FuncId) #[Value.int .i64 (rsZ (Sn.t
 (gSn (bhS l) (Int.toNat (↑(GX.i x0) : Int)))) (Sn.z (gSn (bhS l) (Int.toNat (↑(GX.i x0) : Int)))))] [] fun x ↦ Value.int .i64 (unI (rsZ (Sn.t (gSn (bhS l) (Int.toNat (↑(GX.i x0) : Int)))) (Sn.z (gSn (bhS l) (Int.toNat (↑(GX.i x0) : Int))))))) /\ (∀ (e : Ex), e ∈ [] -> e ∈ wE) /\ ((∀ (b : Nat), True)
 /\ True) /\ ∀ (b : Nat), (True /\ True) /\ (GX.q x0 = GX.q x0 /\ GX.i x0 = GX.i x0 /\ GX.e x0 = GX.e x0 /\ b = b /\ (GX.i x0 + (1 : Nat)) * (17 : Nat) ≤ (140737488355328 : Nat) /\ ∀ (g_2 cap_2 : Nat), ∃ y, (GX.i y ≤ List.length (bhS l) /\ AOK (GX.a y) (GX.i y) /\ AOK (GX.p y) (GX.i y) /\ AOK (GX.q
 y) (GX.i y)) /\ List.length (bhS l) - GX.i y < List.length (bhS l) - GX.i x0 /\ Value.int .i64 (IntKind.i64.wrap ((↑(GX.i x0) : Int) + (1 : Int))) = Value.int .i64 (↑(GX.i y) : Int) /\ Value.slice (some (Addr.mk g (0 : Nat) none)) (GX.i x0 + (1 : Nat)) cap = Value.slice (GX.a y) (GX.i y) (GX.c y) /\
 Value.slice (some (Addr.mk g_1 (0 : Nat) none)) (GX.i x0 + (1 : Nat)) cap_1 = Value.slice (GX.p y) (GX.i y) (GX.d y) /\ Value.slice (some (Addr.mk g_2 (0 : Nat) none)) (GX.i x0 + (1 : Nat)) cap_2 = Value.slice (GX.q y) (GX.i y) (GX.e y) /\ ((0 : Nat) = (0 : Nat) /\ lapp (cPt (gpP ptX (bhS l) (GX.i
 x0))) [Value.int .i64 (Sn.t (gSn (bhS l) (Int.toNat (↑(GX.i x0) : Int)))), .int .i64 (Sn.x (gSn (bhS l) (Int.toNat (↑(GX.i x0) : Int))))] = cPt (gpP ptX (bhS l) (GX.i y)) /\ (57 : Nat) = (57 : Nat) /\ some (Ow.mk (some (Addr.mk g (0 : Nat) none)) (GX.i x0 + (1 : Nat)) cap (2 : Nat)) = some (Ow.mk
 (GX.a y) (GX.i y) (GX.c y) (2 : Nat))) /\ ((0 : Nat) = (0 : Nat) /\ lapp (cPt (gpP ptY (bhS l) (GX.i x0))) [Value.int .i64 (Sn.t (gSn (bhS l) (Int.toNat (↑(GX.i x0) : Int)))), .int .i64 (Sn.y (gSn (bhS l) (Int.toNat (↑(GX.i x0) : Int))))] = cPt (gpP ptY (bhS l) (GX.i y)) /\ (57 : Nat) = (57 : Nat)
 /\ some (Ow.mk (some (Addr.mk g_1 (0 : Nat) none)) (GX.i x0 + (1 : Nat)) cap_1 (2 : Nat)) = some (Ow.mk (GX.p y) (GX.i y) (GX.d y) (2 : Nat))) /\ ((0 : Nat) = (0 : Nat) /\ lapp (cPt (gpP ptZ (bhS l) (GX.i x0))) [Value.int .i64 (Sn.t (gSn (bhS l) (Int.toNat (↑(GX.i x0) : Int)))), .int .i64 (unI (rsZ
 (Sn.t (gSn (bhS l) (Int.toNat (↑(GX.i x0) : Int)))) (Sn.z (gSn (bhS l) (Int.toNat (↑(GX.i x0) : Int))))))] = cPt (gpP ptZ (bhS l) (GX.i y)) /\ (57 : Nat) = (57 : Nat) /\ some (Ow.mk (some (Addr.mk g_2 (0 : Nat) none)) (GX.i x0 + (1 : Nat)) cap_2 (2 : Nat)) = some (Ow.mk (GX.q y) (GX.i y) (GX.e y) (2
 : Nat))) /\ True) /\ True) /\ True) /\ True))) /\ (decide ((↑(GX.i x0) : Int) < (↑(List.length (bhS l)) : Int)) = false -> cPt (gpP ptX (bhS l) (GX.i x0)) = cPt (gpP ptX (bhS l) (GX.i x0)) /\ (SpecG Tryd.prog [] [(GX.a x0, cPt (gpP ptX (bhS l) (GX.i x0)))] (33 : FuncId) (Array.mk [.slice (GX.a x0)
 (GX.i x0) (GX.c x0)]) [] fun x ↦ fiV (liE (gpP ptX (bhS l) (GX.i x0))) (liA (gpP ptX (bhS l) (GX.i x0))) (liB (gpP ptX (bhS l) (GX.i x0))) (liD (gpP ptX (bhS l) (GX.i x0)))) /\ (∀ (e : Ex), e ∈ [] -> e ∈ wE) /\ ∀ (b_1 : Nat), e2 b_1 3 (((liE (gpP ptX (bhS l) (GX.i x0)) != 0) = true -> e2 b 9 (e1 b 9
 (Value.tuple (Array.mk [.agg (Array.mk [.int .i64 0, .int .i64 0, .int .i64 0, .int .i64 0, .int .i64 0, .int .i64 0, .int .i64 0, .int .i64 0, .int .i64 0]), .int .i64 (liE (gpP ptX (bhS l) (GX.i x0)))]) = Value.tuple (Array.mk [.agg (Array.mk [.int .i64 (zL (ftE l) (liA (List.map ptX (bhS l)))),
 .int .i64 (zL (ftE l) (liB (List.map ptX (bhS l)))), .int .i64 (zL (ftE l) (liD (List.map ptX (bhS l)))), .int .i64 (zL (ftE l) (liA (List.map ptY (bhS l)))), .int .i64 (zL (ftE l) (liB (List.map ptY (bhS l)))), .int .i64 (zL (ftE l) (liD (List.map ptY (bhS l)))), .int .i64 (zL (ftE l) (liA
 (List.map ptZ (bhS l)))), .int .i64 (zL (ftE l) (liB (List.map ptZ (bhS l)))), .int .i64 (zL (ftE l) (liD (List.map ptZ (bhS l))))]), .int .i64 (ftE l)])))) /\ ((liE (gpP ptX (bhS l) (GX.i x0)) != 0) = false -> cPt (gpP ptY (bhS l) (GX.i x0)) = cPt (gpP ptY (bhS l) (GX.i x0)) /\ (SpecG Tryd.prog []
 [(GX.p x0, cPt (gpP ptY (bhS l) (GX.i x0)))] (33 : FuncId) (Array.mk [.slice (GX.p x0) (GX.i x0) (GX.d x0)]) [] fun x ↦ fiV (liE (gpP ptY (bhS l) (GX.i x0))) (liA (gpP ptY (bhS l) (GX.i x0))) (liB (gpP ptY (bhS l) (GX.i x0))) (liD (gpP ptY (bhS l) (GX.i x0)))) /\ (∀ (e : Ex), e ∈ [] -> e ∈ wE) /\ ∀
 (b_2 : Nat), e2 b_2 3 (cPt (gpP ptZ (bhS l) (GX.i x0)) = cPt (gpP ptZ (bhS l) (GX.i x0)) /\ (SpecG Tryd.prog [] [(GX.q x0, cPt (gpP ptZ (bhS l) (GX.i x0)))] (33 : FuncId) (Array.mk [.slice (GX.q x0) (GX.i x0) (GX.e x0)]) [] fun x ↦ fiV (liE (gpP ptZ (bhS l) (GX.i x0))) (liA (gpP ptZ (bhS l) (GX.i
 x0))) (liB (gpP ptZ (bhS l) (GX.i x0))) (liD (gpP ptZ (bhS l) (GX.i x0)))) /\ (∀ (e : Ex), e ∈ [] -> e ∈ wE) /\ ∀ (b_3 : Nat), e2 b_3 3 (e1 b_1 3 (e1 b_2 3 (e1 b_3 3 (e2 b 9 (e1 b 9 (Value.tuple (Array.mk [.agg (Array.mk [.int .i64 (zL (liE (gpP ptX (bhS l) (GX.i x0))) (liA (gpP ptX (bhS l) (GX.i
 x0)))), .int .i64 (zL (liE (gpP ptX (bhS l) (GX.i x0))) (liB (gpP ptX (bhS l) (GX.i x0)))), .int .i64 (zL (liE (gpP ptX (bhS l) (GX.i x0))) (liD (gpP ptX (bhS l) (GX.i x0)))), .int .i64 (zL (liE (gpP ptY (bhS l) (GX.i x0))) (liA (gpP ptY (bhS l) (GX.i x0)))), .int .i64 (zL (liE (gpP ptY (bhS l)
 (GX.i x0))) (liB (gpP ptY (bhS l) (GX.i x0)))), .int .i64 (zL (liE (gpP ptY (bhS l) (GX.i x0))) (liD (gpP ptY (bhS l) (GX.i x0)))), .int .i64 (zL (liE (gpP ptZ (bhS l) (GX.i x0))) (liA (gpP ptZ (bhS l) (GX.i x0)))), .int .i64 (zL (liE (gpP ptZ (bhS l) (GX.i x0))) (liB (gpP ptZ (bhS l) (GX.i x0)))),
 .int .i64 (zL (liE (gpP ptZ (bhS l) (GX.i x0))) (liD (gpP ptZ (bhS l) (GX.i x0))))]), .int .i64 0]) = Value.tuple (Array.mk [.agg (Array.mk [.int .i64 (zL (ftE l) (liA (List.map ptX (bhS l)))), .int .i64 (zL (ftE l) (liB (List.map ptX (bhS l)))), .int .i64 (zL (ftE l) (liD (List.map ptX (bhS l)))),
 .int .i64 (zL (ftE l) (liA (List.map ptY (bhS l)))), .int .i64 (zL (ftE l) (liB (List.map ptY (bhS l)))), .int .i64 (zL (ftE l) (liD (List.map ptY (bhS l)))), .int .i64 (zL (ftE l) (liA (List.map ptZ (bhS l)))), .int .i64 (zL (ftE l) (liB (List.map ptZ (bhS l)))), .int .i64 (zL (ftE l) (liD
 (List.map ptZ (bhS l))))]), .int .i64 (ftE l)]))))))))))))) := by kernel_rfl
set_option maxHeartbeats 4000000 in
theorem rft_sp (a : Option Addr) (c : Nat) (l : List Sn) (hA : AOK a l.length) (hl : l.length ≤ 9223372036854775807) (hc : l.length ≤ c) : SpecG Tryd.prog wE ([(a, cSn l)]) 14 #[.slice a l.length c] ([]) (fun _ => ftV (ftE l) (bhS l)) := by
  refine specG_of (h := rft_h a c l) (?_ : wpG Tryd.prog wE ([(a, cSn l)]) 400 14 [.slice a l.length c] (rft_h a c l) ([]) (fun _ => ftV (ftE l) (bhS l)))
  rw [rft_x]
  (repeat' (first | with_reducible exact rfl | exact trivial | with_reducible assumption | (with_reducible exact rck_sp _ _ _ hA hl) | (with_reducible exact rbeh_sp _ _ _ hA hl hc ‹_›) | (with_reducible exact rrse_sp _ _) | exact cSn_len _ | exact cSn_one _ | exact cPt_len _ | exact cPt_one _ | exact cU_len _ | exact cI_len _ | exact cB_len _ | exact cU_one _ | exact cI_one _ | exact cB_one _ | exact (fun _ h => h) | exact (fun _ h => (List.not_mem_nil h).elim) | (with_reducible refine e1_in ?_) | (with_reducible refine e2_in ?_) | (with_reducible refine lx_in (Nat.le_of_ble_eq_true rfl) ?_) | (with_reducible refine rqx_rf ?_) | (with_reducible refine rqx_in ?_ ?_ ?_) | (with_reducible apply And.intro) | (with_reducible intro _)))
  all_goals (try simp only [Int.toNat_natCast] at *)
  all_goals (try (first | rfl | (simp only [*, Bool.and_true, Bool.true_and, Bool.and_false, Bool.false_and, Bool.or_true, Bool.true_or, Bool.or_false, Bool.false_or, Bool.not_true, Bool.not_false, cond_true, cond_false]; done)))
  all_goals (try (first | (have hi := lt_s ‹_›; first | omega | exact cSn_get0 hi | exact cSn_get1 hi | exact cSn_get2 hi | exact cSn_get3 hi | exact cSn_get4 hi)))
  all_goals (try (first
    | exact ⟨⟨0, none, 0, none, 0, none, 0⟩, ⟨Nat.zero_le _, aok_0, aok_0, aok_0⟩, rfl, rfl, rfl, rfl, ⟨(by trivial), rfl, (by trivial), rfl⟩, ⟨(by trivial), rfl, (by trivial), rfl⟩, ⟨(by trivial), rfl, (by trivial), rfl⟩, trivial⟩
    | (have hi := lt_s ‹_›; have h64 := bh_64 ‹(ckE l != 0) = false›; first | omega | exact rnea_sp _ (rnea_b (bh_z ‹(ckE l != 0) = false› _ hi)) | exact ⟨⟨_ + 1, _, _, _, _, _, _⟩, ⟨hi, aok_g _ _, aok_g _ _, aok_g _ _⟩, (by show _ - (_ + 1) < _; omega), wr_s (by omega), rfl, rfl, rfl, ⟨(by trivial), gp_s hi rfl, (by trivial), rfl⟩, ⟨(by trivial), gp_s hi rfl, (by trivial), rfl⟩, ⟨(by trivial), gp_s hi rfl, (by trivial), rfl⟩, trivial⟩)))
  all_goals (try (have h64 := bh_64 ‹(ckE l != 0) = false›; have hx := ‹_ ≤ (bhS l).length ∧ _›; first | exact rli_n (gp_len _ _ hx.1) hx.2.1 (by omega) | exact rli_n (gp_len _ _ hx.1) hx.2.2.1 (by omega) | exact rli_n (gp_len _ _ hx.1) hx.2.2.2 (by omega)))
  all_goals (try (have hx := ‹_ ≤ (bhS l).length ∧ _›; have e := ge_s ‹_› hx.1; simp only [gp_all _ _ e] at *))
  all_goals (first
    | exact ft_p1 ‹_›
    | exact ft_p2 ‹_› ‹_›
    | exact (ft_p3 ‹(ckE l != 0) = false› ‹_› ‹_›).elim
    | exact (ft_p4 ‹(ckE l != 0) = false› ‹_› ‹_›).elim
    | exact ft_p5 ‹_› ‹_›
    | (simp only [*, Bool.and_true, Bool.true_and, Bool.and_false, Bool.false_and, Bool.or_true, Bool.true_or, Bool.or_false, Bool.false_or, Bool.not_true, Bool.not_false, cond_true, cond_false]; done)
    | trace_state)
end Go.Proofs.YtokifmeelgbkiaaDoor
