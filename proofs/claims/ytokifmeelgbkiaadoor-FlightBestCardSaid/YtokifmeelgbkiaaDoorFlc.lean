/- Layer 32 (flight): the laws. -/
import Derived.Test.YtokifmeelgbkiaaDoorVz
import Derived.KernelRfl
import Derived.Test.YtokifmeelgbkiaaDoorProg
import Derived.Test.YtokifmeelgbkiaaDoorCma
import Derived.Test.YtokifmeelgbkiaaDoorCmar
import Derived.Test.YtokifmeelgbkiaaDoorCmb
import Derived.Test.YtokifmeelgbkiaaDoorCmbr
import Derived.Test.YtokifmeelgbkiaaDoorLsa
import Derived.Test.YtokifmeelgbkiaaDoorLsar
import Derived.Test.YtokifmeelgbkiaaDoorFla
import Derived.Test.YtokifmeelgbkiaaDoorFlar
import Derived.Test.YtokifmeelgbkiaaDoorFlb
import Derived.Test.YtokifmeelgbkiaaDoorFlbr
import Derived.Test.YtokifmeelgbkiaaDoorExq
import Derived.Test.YtokifmeelgbkiaaDoorExqr
set_option linter.unusedSimpArgs false
set_option linter.unusedVariables false
set_option maxRecDepth 100000
namespace Go.Proofs.YtokifmeelgbkiaaDoor
open Go.RowKit


def cSn_dec : List Value → List Sn
  | .int _ t :: .int _ x :: .int _ y :: .int _ z :: .int _ e :: l => ⟨t, x, y, z, e⟩ :: cSn_dec l
  | _ => []

def law_h  : Hint := .specg wE [0] [cSn [Sn.mk (0 : Int) (1000 : Int) (10 : Int) (300 : Int) (5 : Int), Sn.mk (20 : Int) (400 : Int) (30 : Int) (300 : Int) (5 : Int)]] [] (fun ads0 x ↦ ftV (ftE [Sn.mk (0 : Int) (1000 : Int) (10 : Int) (300 : Int) (5 : Int), Sn.mk (20 : Int) (400 : Int) (30 : Int) (300 : Int) (5 : Int)])
 (bhS [Sn.mk (0 : Int) (1000 : Int) (10 : Int) (300 : Int) (5 : Int), Sn.mk (20 : Int) (400 : Int) (30 : Int) (300 : Int) (5 : Int)])) (ho 1 18 (.specg [] [] [] [] (fun ads0 x ↦ faV (400000 : Int) (-12000 : Int) (400 : Int) (4000 : Int) (400 : Int) (400 : Int) (120000 : Int) (100 : Int) (400 : Int)
 (10 : Int)) (.specg [] [] [] [] (fun ads0 x ↦ Value.int .i64 (rsZ (20 : Int) (300 : Int))) (.pl (.lit (.lit (.pl (hl 3 (.pl (hl 3 (.pl (hl 3 (.pl (hl 3 (.pl (.lit (.perm [] .nil)))))))))))))))))
theorem law_x  : wpG Tryd.prog wE ([]) 400 10 [] (law_h ) ([]) (fun _ => .bool true) = (∀ (b : Nat), [Value.int .i64 0, .int .i64 1000, .int .i64 10, .int .i64 300, .int .i64 5, .int .i64 20, .int .i64 400, .int .i64 30, .int .i64 300, .int .i64 5] = cSn [Sn.mk (0 : Int) (1000 : Int) (10 : Int) (300 : Int) (5 : Int), Sn.mk (20 : Int) (400 : Int) (30 : Int) (300 : Int) (5 : Int)] /\
 (SpecG Tryd.prog wE [(some (Addr.mk b (0 : Nat) none), cSn [Sn.mk (0 : Int) (1000 : Int) (10 : Int) (300 : Int) (5 : Int), Sn.mk (20 : Int) (400 : Int) (30 : Int) (300 : Int) (5 : Int)])] (13 : FuncId) #[Value.slice (some (Addr.mk b (0 : Nat) none)) (List.length [Sn.mk (0 : Int) (1000 : Int) (10 :
 Int) (300 : Int) (5 : Int), Sn.mk (20 : Int) (400 : Int) (30 : Int) (300 : Int) (5 : Int)]) (2 : Nat)] [] fun x ↦ ftV (ftE [Sn.mk (0 : Int) (1000 : Int) (10 : Int) (300 : Int) (5 : Int), Sn.mk (20 : Int) (400 : Int) (30 : Int) (300 : Int) (5 : Int)]) (bhS [Sn.mk (0 : Int) (1000 : Int) (10 : Int)
 (300 : Int) (5 : Int), Sn.mk (20 : Int) (400 : Int) (30 : Int) (300 : Int) (5 : Int)])) /\ (∀ (e : Ex), e ∈ wE -> e ∈ wE) /\ ∀ (b : Nat), e2 b 9 (e1 b 9 ((SpecG Tryd.prog [] [] (17 : FuncId) #[Value.agg #[Value.int .i64 400000, .int .i64 (-12000 : Int), .int .i64 400, .int .i64 4000, .int .i64 400,
 .int .i64 400, .int .i64 120000, .int .i64 100, .int .i64 400], .int .i64 10] [] fun x ↦ faV (400000 : Int) (-12000 : Int) (400 : Int) (4000 : Int) (400 : Int) (400 : Int) (120000 : Int) (100 : Int) (400 : Int) (10 : Int)) /\ (∀ (e : Ex), e ∈ [] -> e ∈ wE) /\ (SpecG Tryd.prog [] [] (11 : FuncId)
 #[Value.int .i64 20, .int .i64 300] [] fun x ↦ Value.int .i64 (rsZ (20 : Int) (300 : Int))) /\ (∀ (e : Ex), e ∈ [] -> e ∈ wE) /\ Value.bool true = Value.bool true))) := by kernel_rfl
set_option maxHeartbeats 4000000 in
theorem law_sp   : SpecG Tryd.prog wE ([]) 10 #[] ([]) (fun _ => .bool true) := by
  refine specG_of (h := law_h ) (?_ : wpG Tryd.prog wE ([]) 400 10 [] (law_h ) ([]) (fun _ => .bool true))
  rw [law_x]
  (repeat' (first | with_reducible exact rfl | exact trivial | with_reducible assumption | (with_reducible exact ftp_sp _ _ [⟨0, 1000, 10, 300, 5⟩, ⟨20, 400, 30, 300, 5⟩] (aok_g _ _) (by decide) (by decide)) | (with_reducible exact fat_sp _ _ _ _ _ _ _ _ _ _) | (with_reducible exact rse_sp _ _) | exact cSn_len _ | exact cSn_one _ | exact cPt_len _ | exact cPt_one _ | exact cU_len _ | exact cI_len _ | exact cB_len _ | exact cU_one _ | exact cI_one _ | exact cB_one _ | exact (fun _ h => h) | exact (fun _ h => (List.not_mem_nil h).elim) | (with_reducible refine e1_in ?_) | (with_reducible refine e2_in ?_) | (with_reducible refine lx_in (Nat.le_of_ble_eq_true rfl) ?_) | (with_reducible refine rqx_rf ?_) | (with_reducible refine rqx_in ?_ ?_ ?_) | (with_reducible apply And.intro) | (with_reducible intro _)))
  all_goals (first | rfl | exact aok_g _ _ | (simp only [*, Bool.and_true, Bool.true_and, Bool.and_false, Bool.false_and, Bool.or_true, Bool.true_or, Bool.or_false, Bool.false_or, Bool.not_true, Bool.not_false, cond_true, cond_false]; done) | (simp; done) | (simp at *; done) | (decide +kernel) |  omega | trace_state)
def lfr_h (t z : Int) : Hint := .specg wE [] [] [] (fun ads0 x ↦ Value.bool true) (hl 3 (.specg [] [] [] [] (fun ads0 x ↦ Value.int .i64 (rsZ t z)) (hl 3 (.specg [] [] [] [] (fun ads0 x ↦ Value.int .i64 (rsZ t z)) (.lit (.pl (.lit (.perm [] .nil))))))))
theorem lfr_x (t z : Int) : wpG Tryd.prog wE ([]) 400 3 [.int .i64 t, .int .i64 z] (lfr_h t z) ([]) (fun _ => .bool true) = ((SpecG Tryd.prog wE [] (10 : FuncId) #[] [] fun x ↦ Value.bool true) /\ (∀ (e : Ex), e ∈ wE -> e ∈ wE) /\ (SpecG Tryd.prog [] [] (11 : FuncId) #[Value.int .i64 t, .int .i64 z] [] fun x ↦ Value.int .i64 (rsZ t z)) /\ (∀ (e : Ex), e ∈ [] -> e ∈ wE) /\ (SpecG Tryd.prog [] [] (12 : FuncId) #[Value.int .i64
 t, .int .i64 z] [] fun x ↦ Value.int .i64 (rsZ t z)) /\ (∀ (e : Ex), e ∈ [] -> e ∈ wE) /\ Value.bool (rsZ t z == rsZ t z) = Value.bool true) := by kernel_rfl
set_option maxHeartbeats 4000000 in
theorem lfr_sp (t z : Int)  : SpecG Tryd.prog wE ([]) 3 #[.int .i64 t, .int .i64 z] ([]) (fun _ => .bool true) := by
  refine specG_of (h := lfr_h t z) (?_ : wpG Tryd.prog wE ([]) 400 3 [.int .i64 t, .int .i64 z] (lfr_h t z) ([]) (fun _ => .bool true))
  rw [lfr_x]
  (repeat' (first | with_reducible exact rfl | exact trivial | with_reducible assumption | (with_reducible exact law_sp) | (with_reducible exact rse_sp _ _) | (with_reducible exact rrse_sp _ _) | exact cSn_len _ | exact cSn_one _ | exact cPt_len _ | exact cPt_one _ | exact cU_len _ | exact cI_len _ | exact cB_len _ | exact cU_one _ | exact cI_one _ | exact cB_one _ | exact (fun _ h => h) | exact (fun _ h => (List.not_mem_nil h).elim) | (with_reducible refine e1_in ?_) | (with_reducible refine e2_in ?_) | (with_reducible refine lx_in (Nat.le_of_ble_eq_true rfl) ?_) | (with_reducible refine rqx_rf ?_) | (with_reducible refine rqx_in ?_ ?_ ?_) | (with_reducible apply And.intro) | (with_reducible intro _)))
  all_goals (first | rfl | exact aok_g _ _ | (simp only [*, Bool.and_true, Bool.true_and, Bool.and_false, Bool.false_and, Bool.or_true, Bool.true_or, Bool.or_false, Bool.false_or, Bool.not_true, Bool.not_false, cond_true, cond_false]; done) | (simp; done) | (simp at *; done) | (decide +kernel) |  omega | trace_state)
def lfp_h (x1 y1 d1 x2 y2 d2 x3 y3 d3 : Int) (t : Int) : Hint := .specg wE [] [] [] (fun ads0 x ↦ Value.bool true) (.lit (ho 0 9 (.specg [] [] [] [] (fun ads0 x ↦ faV x1 y1 d1 x2 y2 d2 x3 y3 d3 t) (ho 0 9 (.specg [] [] [] [] (fun ads0 x ↦ faV x1 y1 d1 x2 y2 d2 x3 y3 d3 t) (.pl (.known true (.lit (.lit (.pl (.lit (.known true (.lit (.lit (.pl (.lit (.known true
 (.lit (.lit (.pl (.lit (.perm [] .nil))))))))))))))))))))))
theorem lfp_x (x1 y1 d1 x2 y2 d2 x3 y3 d3 : Int) (t : Int) : wpG Tryd.prog wE ([]) 400 6 [.agg #[.int .i64 x1, .int .i64 y1, .int .i64 d1, .int .i64 x2, .int .i64 y2, .int .i64 d2, .int .i64 x3, .int .i64 y3, .int .i64 d3], .int .i64 t] (lfp_h x1 y1 d1 x2 y2 d2 x3 y3 d3 t) ([]) (fun _ => .bool true) = (∀ (b : Nat), (SpecG Tryd.prog wE [] (10 : FuncId) #[] [] fun x ↦ Value.bool true) /\ (∀ (e : Ex), e ∈ wE -> e ∈ wE) /\ e1 b 9 ((SpecG Tryd.prog [] [] (17 : FuncId) #[Value.agg #[Value.int .i64 x1, .int .i64 y1, .int .i64 d1, .int .i64 x2, .int .i64 y2, .int .i64 d2, .int .i64 x3, .int .i64 y3, .int
 .i64 d3], .int .i64 t] [] fun x ↦ faV x1 y1 d1 x2 y2 d2 x3 y3 d3 t) /\ (∀ (e : Ex), e ∈ [] -> e ∈ wE) /\ e1 b 9 ((SpecG Tryd.prog [] [] (18 : FuncId) #[Value.agg #[Value.int .i64 x1, .int .i64 y1, .int .i64 d1, .int .i64 x2, .int .i64 y2, .int .i64 d2, .int .i64 x3, .int .i64 y3, .int .i64 d3], .int
 .i64 t] [] fun x ↦ faV x1 y1 d1 x2 y2 d2 x3 y3 d3 t) /\ (∀ (e : Ex), e ∈ [] -> e ∈ wE) /\ (zL (faE x1 y1 d1 x2 y2 d2 x3 y3 d3 t) (atV x1 y1 d1 t) == zL (faE x1 y1 d1 x2 y2 d2 x3 y3 d3 t) (atV x1 y1 d1 t)) = true /\ (zL (faE x1 y1 d1 x2 y2 d2 x3 y3 d3 t) (atV x2 y2 d2 t) == zL (faE x1 y1 d1 x2 y2 d2
 x3 y3 d3 t) (atV x2 y2 d2 t)) = true /\ (zL (faE x1 y1 d1 x2 y2 d2 x3 y3 d3 t) (faZ x3 y3 d3 t) == zL (faE x1 y1 d1 x2 y2 d2 x3 y3 d3 t) (faZ x3 y3 d3 t)) = true /\ Value.bool (faE x1 y1 d1 x2 y2 d2 x3 y3 d3 t == faE x1 y1 d1 x2 y2 d2 x3 y3 d3 t) = Value.bool true))) := by kernel_rfl
set_option maxHeartbeats 4000000 in
theorem lfp_sp (x1 y1 d1 x2 y2 d2 x3 y3 d3 : Int) (t : Int)  : SpecG Tryd.prog wE ([]) 6 #[.agg #[.int .i64 x1, .int .i64 y1, .int .i64 d1, .int .i64 x2, .int .i64 y2, .int .i64 d2, .int .i64 x3, .int .i64 y3, .int .i64 d3], .int .i64 t] ([]) (fun _ => .bool true) := by
  refine specG_of (h := lfp_h x1 y1 d1 x2 y2 d2 x3 y3 d3 t) (?_ : wpG Tryd.prog wE ([]) 400 6 [.agg #[.int .i64 x1, .int .i64 y1, .int .i64 d1, .int .i64 x2, .int .i64 y2, .int .i64 d2, .int .i64 x3, .int .i64 y3, .int .i64 d3], .int .i64 t] (lfp_h x1 y1 d1 x2 y2 d2 x3 y3 d3 t) ([]) (fun _ => .bool true))
  rw [lfp_x]
  (repeat' (first | with_reducible exact rfl | exact trivial | with_reducible assumption | (with_reducible exact law_sp) | (with_reducible exact fat_sp _ _ _ _ _ _ _ _ _ _) | (with_reducible exact rfa_sp _ _ _ _ _ _ _ _ _ _) | exact cSn_len _ | exact cSn_one _ | exact cPt_len _ | exact cPt_one _ | exact cU_len _ | exact cI_len _ | exact cB_len _ | exact cU_one _ | exact cI_one _ | exact cB_one _ | exact (fun _ h => h) | exact (fun _ h => (List.not_mem_nil h).elim) | (with_reducible refine e1_in ?_) | (with_reducible refine e2_in ?_) | (with_reducible refine lx_in (Nat.le_of_ble_eq_true rfl) ?_) | (with_reducible refine rqx_rf ?_) | (with_reducible refine rqx_in ?_ ?_ ?_) | (with_reducible apply And.intro) | (with_reducible intro _)))
  all_goals (first | rfl | exact aok_g _ _ | (simp only [*, Bool.and_true, Bool.true_and, Bool.and_false, Bool.false_and, Bool.or_true, Bool.true_or, Bool.or_false, Bool.false_or, Bool.not_true, Bool.not_false, cond_true, cond_false]; done) | (simp; done) | (simp at *; done) | (decide +kernel) |  omega | trace_state)
def lff_h (a : Option Addr) (c : Nat) (l : List Sn) : Hint := .specg wE [] [] [] (fun ads0 x ↦ Value.bool true) (.lit (.pl (.split (.perm [] .nil) (.specg wE [0] [cSn l] [] (fun ads0 x ↦ ftV (ftE l) (bhS l)) (ho 1 9 (.specg wE [0] [cSn l] [] (fun ads0 x ↦ ftV (ftE l) (bhS l)) (ho 2 9 (.cut [((2 : Nat), .bool (zL (ftE l) (liA (List.map ptX (bhS l))) == zL (ftE
 l) (liA (List.map ptX (bhS l))) && (zL (ftE l) (liB (List.map ptX (bhS l))) == zL (ftE l) (liB (List.map ptX (bhS l))) && (zL (ftE l) (liD (List.map ptX (bhS l))) == zL (ftE l) (liD (List.map ptX (bhS l))) && true)) && (zL (ftE l) (liA (List.map ptY (bhS l))) == zL (ftE l) (liA (List.map ptY (bhS
 l))) && (zL (ftE l) (liB (List.map ptY (bhS l))) == zL (ftE l) (liB (List.map ptY (bhS l))) && (zL (ftE l) (liD (List.map ptY (bhS l))) == zL (ftE l) (liD (List.map ptY (bhS l))) && true)) && (zL (ftE l) (liA (List.map ptZ (bhS l))) == zL (ftE l) (liA (List.map ptZ (bhS l))) && (zL (ftE l) (liB
 (List.map ptZ (bhS l))) == zL (ftE l) (liB (List.map ptZ (bhS l))) && (zL (ftE l) (liD (List.map ptZ (bhS l))) == zL (ftE l) (liD (List.map ptZ (bhS l))) && true)) && true)) && ftE l == ftE l))] (ho 1 9 (ho 2 9 (.split (.lit (.lit (.pl (.lit .nil)))) (.lit (.lit (.lit .nil)))))) (.perm []
 .nil)))))))))
theorem lff_x (a : Option Addr) (c : Nat) (l : List Sn) : wpG Tryd.prog wE ([(a, cSn l)]) 400 4 [.slice a l.length c] (lff_h a c l) ([]) (fun _ => .bool true) = ((SpecG Tryd.prog wE [] (10 : FuncId) #[] [] fun x ↦ Value.bool true) /\ (∀ (e : Ex), e ∈ wE -> e ∈ wE) /\ (decide ((↑(List.length l) : Int) > (200 : Int)) = true -> Value.bool true = Value.bool true) /\ (decide ((↑(List.length l) : Int) > (200 : Int)) = false -> cSn l = cSn l /\ (SpecG Tryd.prog wE
 [(a, cSn l)] (13 : FuncId) #[Value.slice a (List.length l) c] [] fun x ↦ ftV (ftE l) (bhS l)) /\ (∀ (e : Ex), e ∈ wE -> e ∈ wE) /\ ∀ (b : Nat), e2 b 9 (cSn l = cSn l /\ (SpecG Tryd.prog wE [(a, cSn l)] (14 : FuncId) #[Value.slice a (List.length l) c] [] fun x ↦ ftV (ftE l) (bhS l)) /\ (∀ (e : Ex), e
 ∈ wE -> e ∈ wE) /\ ∀ (b_1 : Nat), e2 b_1 9 ((e1 b 9 (e1 b_1 9 (((zL (ftE l) (liA (List.map ptX (bhS l))) == zL (ftE l) (liA (List.map ptX (bhS l))) && (zL (ftE l) (liB (List.map ptX (bhS l))) == zL (ftE l) (liB (List.map ptX (bhS l))) && (zL (ftE l) (liD (List.map ptX (bhS l))) == zL (ftE l) (liD
 (List.map ptX (bhS l))) && true)) && (zL (ftE l) (liA (List.map ptY (bhS l))) == zL (ftE l) (liA (List.map ptY (bhS l))) && (zL (ftE l) (liB (List.map ptY (bhS l))) == zL (ftE l) (liB (List.map ptY (bhS l))) && (zL (ftE l) (liD (List.map ptY (bhS l))) == zL (ftE l) (liD (List.map ptY (bhS l))) &&
 true)) && (zL (ftE l) (liA (List.map ptZ (bhS l))) == zL (ftE l) (liA (List.map ptZ (bhS l))) && (zL (ftE l) (liB (List.map ptZ (bhS l))) == zL (ftE l) (liB (List.map ptZ (bhS l))) && (zL (ftE l) (liD (List.map ptZ (bhS l))) == zL (ftE l) (liD (List.map ptZ (bhS l))) && true)) && true))) = true ->
 Value.bool (ftE l == ftE l) = Value.bool (zL (ftE l) (liA (List.map ptX (bhS l))) == zL (ftE l) (liA (List.map ptX (bhS l))) && (zL (ftE l) (liB (List.map ptX (bhS l))) == zL (ftE l) (liB (List.map ptX (bhS l))) && (zL (ftE l) (liD (List.map ptX (bhS l))) == zL (ftE l) (liD (List.map ptX (bhS l)))
 && true)) && (zL (ftE l) (liA (List.map ptY (bhS l))) == zL (ftE l) (liA (List.map ptY (bhS l))) && (zL (ftE l) (liB (List.map ptY (bhS l))) == zL (ftE l) (liB (List.map ptY (bhS l))) && (zL (ftE l) (liD (List.map ptY (bhS l))) == zL (ftE l) (liD (List.map ptY (bhS l))) && true)) && (zL (ftE l) (liA
 (List.map ptZ (bhS l))) == zL (ftE l) (liA (List.map ptZ (bhS l))) && (zL (ftE l) (liB (List.map ptZ (bhS l))) == zL (ftE l) (liB (List.map ptZ (bhS l))) && (zL (ftE l) (liD (List.map ptZ (bhS l))) == zL (ftE l) (liD (List.map ptZ (bhS l))) && true)) && true)) && ftE l == ftE l) /\ True) /\ ((zL
 (ftE l) (liA (List.map ptX (bhS l))) == zL (ftE l) (liA (List.map ptX (bhS l))) && (zL (ftE l) (liB (List.map ptX (bhS l))) == zL (ftE l) (liB (List.map ptX (bhS l))) && (zL (ftE l) (liD (List.map ptX (bhS l))) == zL (ftE l) (liD (List.map ptX (bhS l))) && true)) && (zL (ftE l) (liA (List.map ptY
 (bhS l))) == zL (ftE l) (liA (List.map ptY (bhS l))) && (zL (ftE l) (liB (List.map ptY (bhS l))) == zL (ftE l) (liB (List.map ptY (bhS l))) && (zL (ftE l) (liD (List.map ptY (bhS l))) == zL (ftE l) (liD (List.map ptY (bhS l))) && true)) && (zL (ftE l) (liA (List.map ptZ (bhS l))) == zL (ftE l) (liA
 (List.map ptZ (bhS l))) && (zL (ftE l) (liB (List.map ptZ (bhS l))) == zL (ftE l) (liB (List.map ptZ (bhS l))) && (zL (ftE l) (liD (List.map ptZ (bhS l))) == zL (ftE l) (liD (List.map ptZ (bhS l))) && true)) && true))) = false -> Value.bool false = Value.bool (zL (ftE l) (liA (List.map ptX (bhS l)))
 == zL (ftE l) (liA (List.map ptX (bhS l))) && (zL (ftE l) (liB (List.map ptX (bhS l))) == zL (ftE l) (liB (List.map ptX (bhS l))) && (zL (ftE l) (liD (List.map ptX (bhS l))) == zL (ftE l) (liD (List.map ptX (bhS l))) && true)) && (zL (ftE l) (liA (List.map ptY (bhS l))) == zL (ftE l) (liA (List.map
 ptY (bhS l))) && (zL (ftE l) (liB (List.map ptY (bhS l))) == zL (ftE l) (liB (List.map ptY (bhS l))) && (zL (ftE l) (liD (List.map ptY (bhS l))) == zL (ftE l) (liD (List.map ptY (bhS l))) && true)) && (zL (ftE l) (liA (List.map ptZ (bhS l))) == zL (ftE l) (liA (List.map ptZ (bhS l))) && (zL (ftE l)
 (liB (List.map ptZ (bhS l))) == zL (ftE l) (liB (List.map ptZ (bhS l))) && (zL (ftE l) (liD (List.map ptZ (bhS l))) == zL (ftE l) (liD (List.map ptZ (bhS l))) && true)) && true)) && ftE l == ftE l) /\ True)))) /\ ∀ (junk : Nat -> Value), .bool (zL (ftE l) (liA (List.map ptX (bhS l))) == zL (ftE l)
 (liA (List.map ptX (bhS l))) && (zL (ftE l) (liB (List.map ptX (bhS l))) == zL (ftE l) (liB (List.map ptX (bhS l))) && (zL (ftE l) (liD (List.map ptX (bhS l))) == zL (ftE l) (liD (List.map ptX (bhS l))) && true)) && (zL (ftE l) (liA (List.map ptY (bhS l))) == zL (ftE l) (liA (List.map ptY (bhS l)))
 && (zL (ftE l) (liB (List.map ptY (bhS l))) == zL (ftE l) (liB (List.map ptY (bhS l))) && (zL (ftE l) (liD (List.map ptY (bhS l))) == zL (ftE l) (liD (List.map ptY (bhS l))) && true)) && (zL (ftE l) (liA (List.map ptZ (bhS l))) == zL (ftE l) (liA (List.map ptZ (bhS l))) && (zL (ftE l) (liB (List.map
 ptZ (bhS l))) == zL (ftE l) (liB (List.map ptZ (bhS l))) && (zL (ftE l) (liD (List.map ptZ (bhS l))) == zL (ftE l) (liD (List.map ptZ (bhS l))) && true)) && true)) && ftE l == ftE l) = Value.bool true)))) := by kernel_rfl
set_option maxHeartbeats 4000000 in
theorem lff_sp (a : Option Addr) (c : Nat) (l : List Sn) (hA : AOK a l.length) (hl : l.length ≤ 9223372036854775807) (hc : l.length ≤ c) : SpecG Tryd.prog wE ([(a, cSn l)]) 4 #[.slice a l.length c] ([]) (fun _ => .bool true) := by
  refine specG_of (h := lff_h a c l) (?_ : wpG Tryd.prog wE ([(a, cSn l)]) 400 4 [.slice a l.length c] (lff_h a c l) ([]) (fun _ => .bool true))
  rw [lff_x]
  (repeat' (first | with_reducible exact rfl | exact trivial | with_reducible assumption | (with_reducible exact law_sp) | (with_reducible exact ftp_sp _ _ _ hA hl hc) | (with_reducible exact rft_sp _ _ _ hA hl hc) | exact cSn_len _ | exact cSn_one _ | exact cPt_len _ | exact cPt_one _ | exact cU_len _ | exact cI_len _ | exact cB_len _ | exact cU_one _ | exact cI_one _ | exact cB_one _ | exact (fun _ h => h) | exact (fun _ h => (List.not_mem_nil h).elim) | (with_reducible refine e1_in ?_) | (with_reducible refine e2_in ?_) | (with_reducible refine lx_in (Nat.le_of_ble_eq_true rfl) ?_) | (with_reducible refine rqx_rf ?_) | (with_reducible refine rqx_in ?_ ?_ ?_) | (with_reducible apply And.intro) | (with_reducible intro _)))
  all_goals (first | rfl | exact aok_g _ _ | (simp only [*, Bool.and_true, Bool.true_and, Bool.and_false, Bool.false_and, Bool.or_true, Bool.true_or, Bool.or_false, Bool.false_or, Bool.not_true, Bool.not_false, cond_true, cond_false]; done) | (simp; done) | (simp at *; done) | (decide +kernel) |  omega | trace_state)

theorem ft_ck {l : List Sn} (h : (ftE l != 0) = false) : (ckE l != 0) = false := by
  by_cases h0 : (ckE l != 0) = true
  · have := ft_v1 h0
    rw [this.1] at h
    rw [h] at h0; cases h0
  · simpa using h0
structure BX where
  i : Nat
  a : Option Addr
  c : Nat
  p : Option Addr
  d : Nat
@[reducible] def bsL (b : List Sn) : LoopR := ⟨BX, fun x => [(27, .int .i64 x.i), (5, .slice x.a x.i x.c), (6, .slice x.p x.i x.d)], [3, 4], fun x => [⟨0, cPt (gpP ptX b x.i), 39, some ⟨x.a, x.i, x.c, 2⟩⟩, ⟨0, cPt (gpP ptY b x.i), 39, some ⟨x.p, x.i, x.d, 2⟩⟩], fun x => x.i ≤ b.length ∧ AOK x.a x.i ∧ AOK x.p x.i, fun x => b.length - x.i, [(39, 2), (39, 2)]⟩
theorem acp_n {a : Option Addr} {c n : Nat} {M : List Pt} {x y z : Int} (h : M.length = n) (hA : AOK a n) (hn : n ≤ 9223372036854775807) : SpecG Tryd.prog [] [(a, cPt M)] 16 #[.slice a n c, .agg #[.int .i64 x, .int .i64 y, .int .i64 z]] [] (fun _ => .bool (acB M x y z)) := by
  subst h
  exact acp_sp a c M x y z hA hn
theorem be_x {l : List Sn} {i : Nat} (h : (ftE l != 0) = false) (hi : i = (bhS l).length) : acB (gpP ptX (bhS l) i) (zL (ftE l) (liA ((bhS l).map ptX))) (zL (ftE l) (liB ((bhS l).map ptX))) (zL (ftE l) (liD ((bhS l).map ptX))) = true := by
  have e := ne_f h
  have hc := ft_ck h
  rw [e]
  simp only [zL_0]
  rw [gp_all _ _ hi]
  exact (acc_line (by rw [liE_X (ft_n hc), ← ft_v2 hc]; exact e)).2
theorem be_y {l : List Sn} {i : Nat} (h : (ftE l != 0) = false) (hi : i = (bhS l).length) : acB (gpP ptY (bhS l) i) (zL (ftE l) (liA ((bhS l).map ptY))) (zL (ftE l) (liB ((bhS l).map ptY))) (zL (ftE l) (liD ((bhS l).map ptY))) = true := by
  have e := ne_f h
  have hc := ft_ck h
  rw [e]
  simp only [zL_0]
  rw [gp_all _ _ hi]
  exact (acc_line (by rw [liE_Y (ft_n hc), ← ft_v2 hc]; exact e)).2

def lfb_h (a : Option Addr) (c : Nat) (l : List Sn) : Hint := .specg wE [] [] [] (fun ads0 x ↦ Value.bool true) (.lit (.pl (.split (.perm [] .nil) (.specg wE [0] [cSn l] [] (fun ads0 x ↦ ftV (ftE l) (bhS l)) (ho 1 9 (.pl (.split (ho 1 9 (.perm [] .nil)) (.specg wE [0] [cSn l] [RowT.mk (37 : TypeId) (5 : Nat) (List.length (bhS l)) (cSn (bhS l))] (fun ads0 ads ↦
 Value.slice (Prod.fst (nthS ads (0 : Nat))) (List.length (bhS l)) (Prod.snd (nthS ads (0 : Nat)))) (.pl (.inv (bsL (bhS l)) fun x0 ↦ .split (.ix (.lst (2 : Nat) (Int.toNat (↑(BX.i x0) : Int) * (5 : Nat)) (Value.int .i64 (Sn.t (gSn (bhS l) (Int.toNat (↑(BX.i x0) : Int))))) (.lst (2 : Nat) (Int.toNat
 (↑(BX.i x0) : Int) * (5 : Nat) + (1 : Nat)) (Value.int .i64 (Sn.x (gSn (bhS l) (Int.toNat (↑(BX.i x0) : Int))))) (.lst (2 : Nat) (Int.toNat (↑(BX.i x0) : Int) * (5 : Nat) + (2 : Nat)) (Value.int .i64 (Sn.y (gSn (bhS l) (Int.toNat (↑(BX.i x0) : Int))))) (.lst (2 : Nat) (Int.toNat (↑(BX.i x0) : Int) *
 (5 : Nat) + (3 : Nat)) (Value.int .i64 (Sn.z (gSn (bhS l) (Int.toNat (↑(BX.i x0) : Int))))) (.lst (2 : Nat) (Int.toNat (↑(BX.i x0) : Int) * (5 : Nat) + (4 : Nat)) (Value.int .i64 (Sn.e (gSn (bhS l) (Int.toNat (↑(BX.i x0) : Int))))) (ho 5 7 (.app (3 : Nat) (6 : Nat) (ho 5 2 (.app (4 : Nat) (7 : Nat)
 (.perm [3, 4] .nil))))))))))) (.cut [((2 : Nat), .bool (acB (gpP ptX (bhS l) (BX.i x0)) (zL (ftE l) (liA (List.map ptX (bhS l)))) (zL (ftE l) (liB (List.map ptX (bhS l)))) (zL (ftE l) (liD (List.map ptX (bhS l)))) && acB (gpP ptY (bhS l) (BX.i x0)) (zL (ftE l) (liA (List.map ptY (bhS l)))) (zL (ftE
 l) (liB (List.map ptY (bhS l)))) (zL (ftE l) (liD (List.map ptY (bhS l))))))] (ho 1 3 (.specg [] [3] [cPt (gpP ptX (bhS l) (BX.i x0))] [] (fun ads0 x ↦ Value.bool (acB (gpP ptX (bhS l) (BX.i x0)) (zL (ftE l) (liA (List.map ptX (bhS l)))) (zL (ftE l) (liB (List.map ptX (bhS l)))) (zL (ftE l) (liD
 (List.map ptX (bhS l)))))) (.split (.lit (.lit (ho 1 3 (.lit (.specg [] [4] [cPt (gpP ptY (bhS l) (BX.i x0))] [] (fun ads0 x ↦ Value.bool (acB (gpP ptY (bhS l) (BX.i x0)) (zL (ftE l) (liA (List.map ptY (bhS l)))) (zL (ftE l) (liB (List.map ptY (bhS l)))) (zL (ftE l) (liD (List.map ptY (bhS l))))))
 (.lit .nil)))))) (hl 3 (.lit .nil))))) (.perm [] .nil))))))))))))
theorem lfb_x (a : Option Addr) (c : Nat) (l : List Sn) : wpG Tryd.prog wE ([(a, cSn l)]) 400 5 [.slice a l.length c] (lfb_h a c l) ([]) (fun _ => .bool true) = ((SpecG Tryd.prog wE [] (10 : FuncId) #[] [] fun x ↦ Value.bool true) /\ (∀ (e : Ex), e ∈ wE -> e ∈ wE) /\ (decide ((↑(List.length l) : Int) > (200 : Int)) = true -> Value.bool true = Value.bool true) /\ (decide ((↑(List.length l) : Int) > (200 : Int)) = false -> cSn l = cSn l /\ (SpecG Tryd.prog wE
 [(a, cSn l)] (13 : FuncId) #[Value.slice a (List.length l) c] [] fun x ↦ ftV (ftE l) (bhS l)) /\ (∀ (e : Ex), e ∈ wE -> e ∈ wE) /\ ∀ (b : Nat), e2 b 9 (((ftE l != 0) = true -> e1 b 9 (Value.bool (zL (ftE l) (liA (List.map ptX (bhS l))) == 0 && (zL (ftE l) (liB (List.map ptX (bhS l))) == 0 && (zL
 (ftE l) (liD (List.map ptX (bhS l))) == 0 && true)) && (zL (ftE l) (liA (List.map ptY (bhS l))) == 0 && (zL (ftE l) (liB (List.map ptY (bhS l))) == 0 && (zL (ftE l) (liD (List.map ptY (bhS l))) == 0 && true)) && (zL (ftE l) (liA (List.map ptZ (bhS l))) == 0 && (zL (ftE l) (liB (List.map ptZ (bhS
 l))) == 0 && (zL (ftE l) (liD (List.map ptZ (bhS l))) == 0 && true)) && true))) = Value.bool true)) /\ ((ftE l != 0) = false -> cSn l = cSn l /\ (SpecG Tryd.prog wE [(a, cSn l)] (15 : FuncId) #[Value.slice a (List.length l) c] [RowT.mk (37 : TypeId) (5 : Nat) (List.length (bhS l)) (cSn (bhS l))] fun
 ads ↦ Value.slice (Prod.fst (nthS ads (0 : Nat))) (List.length (bhS l)) (Prod.snd (nthS ads (0 : Nat)))) /\ (∀ (e : Ex), e ∈ wE -> e ∈ wE) /\ ∀ (a : Option Addr) (cap : Nat), AOK a (List.length (bhS l)) -> List.length (bhS l) ≤ cap -> (∃ x, (BX.i x ≤ List.length (bhS l) /\ AOK (BX.a x) (BX.i x) /\
 AOK (BX.p x) (BX.i x)) /\ Value.int .i64 0 = Value.int .i64 (↑(BX.i x) : Int) /\ Value.slice none (0 : Nat) (0 : Nat) = Value.slice (BX.a x) (BX.i x) (BX.c x) /\ Value.slice none (0 : Nat) (0 : Nat) = Value.slice (BX.p x) (BX.i x) (BX.d x) /\ ((0 : Nat) = (0 : Nat) /\ [] = cPt (gpP ptX (bhS l) (BX.i
 x)) /\ (39 : Nat) = (39 : Nat) /\ some (Ow.mk none (0 : Nat) (0 : Nat) (2 : Nat)) = some (Ow.mk (BX.a x) (BX.i x) (BX.c x) (2 : Nat))) /\ ((0 : Nat) = (0 : Nat) /\ [] = cPt (gpP ptY (bhS l) (BX.i x)) /\ (39 : Nat) = (39 : Nat) /\ some (Ow.mk none (0 : Nat) (0 : Nat) (2 : Nat)) = some (Ow.mk (BX.p x)
 (BX.i x) (BX.d x) (2 : Nat))) /\ True) /\ ∀ (x0 : BX), BX.i x0 ≤ List.length (bhS l) /\ AOK (BX.a x0) (BX.i x0) /\ AOK (BX.p x0) (BX.i x0) -> ∀ (junk : Nat -> Value), (decide ((↑(BX.i x0) : Int) < (↑(List.length (bhS l)) : Int)) = true -> (((0 : Int) ≤ (↑(BX.i x0) : Int) /\ (↑(BX.i x0) : Int) <
 (↑(List.length (bhS l)) : Int)) /\ AOK a (List.length (bhS l))) /\ bk a = bk a /\ ofs a + Int.toNat (↑(BX.i x0) : Int) * (5 : Nat) = ofs a + Int.toNat (↑(BX.i x0) : Int) * (5 : Nat) /\ lgo (cSn (bhS l)) (Int.toNat (↑(BX.i x0) : Int) * (5 : Nat)) = some (Value.int .i64 (Sn.t (gSn (bhS l) (Int.toNat
 (↑(BX.i x0) : Int))))) /\ bk a = bk a /\ ofs a + Int.toNat (↑(BX.i x0) : Int) * (5 : Nat) + (1 : Nat) = ofs a + (Int.toNat (↑(BX.i x0) : Int) * (5 : Nat) + (1 : Nat)) /\ lgo (cSn (bhS l)) (Int.toNat (↑(BX.i x0) : Int) * (5 : Nat) + (1 : Nat)) = some (Value.int .i64 (Sn.x (gSn (bhS l) (Int.toNat
 (↑(BX.i x0) : Int))))) /\ bk a = bk a /\ ofs a + Int.toNat (↑(BX.i x0) : Int) * (5 : Nat) + (2 : Nat) = ofs a + (Int.toNat (↑(BX.i x0) : Int) * (5 : Nat) + (2 : Nat)) /\ lgo (cSn (bhS l)) (Int.toNat (↑(BX.i x0) : Int) * (5 : Nat) + (2 : Nat)) = some (Value.int .i64 (Sn.y (gSn (bhS l) (Int.toNat
 (↑(BX.i x0) : Int))))) /\ bk a = bk a /\ ofs a + Int.toNat (↑(BX.i x0) : Int) * (5 : Nat) + (3 : Nat) = ofs a + (Int.toNat (↑(BX.i x0) : Int) * (5 : Nat) + (3 : Nat)) /\ lgo (cSn (bhS l)) (Int.toNat (↑(BX.i x0) : Int) * (5 : Nat) + (3 : Nat)) = some (Value.int .i64 (Sn.z (gSn (bhS l) (Int.toNat
 (↑(BX.i x0) : Int))))) /\ bk a = bk a /\ ofs a + Int.toNat (↑(BX.i x0) : Int) * (5 : Nat) + (4 : Nat) = ofs a + (Int.toNat (↑(BX.i x0) : Int) * (5 : Nat) + (4 : Nat)) /\ lgo (cSn (bhS l)) (Int.toNat (↑(BX.i x0) : Int) * (5 : Nat) + (4 : Nat)) = some (Value.int .i64 (Sn.e (gSn (bhS l) (Int.toNat
 (↑(BX.i x0) : Int))))) /\ ∀ (b : Nat), e2 b 5 (b = b /\ b = b /\ ∀ (b_1 : Nat), BX.a x0 = BX.a x0 /\ BX.i x0 = BX.i x0 /\ BX.c x0 = BX.c x0 /\ b_1 = b_1 /\ (BX.i x0 + (1 : Nat)) * (17 : Nat) ≤ (140737488355328 : Nat) /\ ∀ (g cap : Nat), b = b /\ b = b /\ ∀ (b : Nat), BX.p x0 = BX.p x0 /\ BX.i x0 =
 BX.i x0 /\ BX.d x0 = BX.d x0 /\ b = b /\ (BX.i x0 + (1 : Nat)) * (17 : Nat) ≤ (140737488355328 : Nat) /\ ∀ (g_1 cap_1 : Nat), ∃ y, (BX.i y ≤ List.length (bhS l) /\ AOK (BX.a y) (BX.i y) /\ AOK (BX.p y) (BX.i y)) /\ List.length (bhS l) - BX.i y < List.length (bhS l) - BX.i x0 /\ Value.int .i64
 (IntKind.i64.wrap ((↑(BX.i x0) : Int) + (1 : Int))) = Value.int .i64 (↑(BX.i y) : Int) /\ Value.slice (some (Addr.mk g (0 : Nat) none)) (BX.i x0 + (1 : Nat)) cap = Value.slice (BX.a y) (BX.i y) (BX.c y) /\ Value.slice (some (Addr.mk g_1 (0 : Nat) none)) (BX.i x0 + (1 : Nat)) cap_1 = Value.slice
 (BX.p y) (BX.i y) (BX.d y) /\ ((0 : Nat) = (0 : Nat) /\ lapp (cPt (gpP ptX (bhS l) (BX.i x0))) [Value.int .i64 (Sn.t (gSn (bhS l) (Int.toNat (↑(BX.i x0) : Int)))), .int .i64 (Sn.x (gSn (bhS l) (Int.toNat (↑(BX.i x0) : Int))))] = cPt (gpP ptX (bhS l) (BX.i y)) /\ (39 : Nat) = (39 : Nat) /\ some
 (Ow.mk (some (Addr.mk g (0 : Nat) none)) (BX.i x0 + (1 : Nat)) cap (2 : Nat)) = some (Ow.mk (BX.a y) (BX.i y) (BX.c y) (2 : Nat))) /\ ((0 : Nat) = (0 : Nat) /\ lapp (cPt (gpP ptY (bhS l) (BX.i x0))) [Value.int .i64 (Sn.t (gSn (bhS l) (Int.toNat (↑(BX.i x0) : Int)))), .int .i64 (Sn.y (gSn (bhS l)
 (Int.toNat (↑(BX.i x0) : Int))))] = cPt (gpP ptY (bhS l) (BX.i y)) /\ (39 : Nat) = (39 : Nat) /\ some (Ow.mk (some (Addr.mk g_1 (0 : Nat) none)) (BX.i x0 + (1 : Nat)) cap_1 (2 : Nat)) = some (Ow.mk (BX.p y) (BX.i y) (BX.d y) (2 : Nat))) /\ True)) /\ (decide ((↑(BX.i x0) : Int) < (↑(List.length (bhS
 l)) : Int)) = false -> (e1 b 3 (cPt (gpP ptX (bhS l) (BX.i x0)) = cPt (gpP ptX (bhS l) (BX.i x0)) /\ (SpecG Tryd.prog [] [(BX.a x0, cPt (gpP ptX (bhS l) (BX.i x0)))] (16 : FuncId) (Array.mk [.slice (BX.a x0) (BX.i x0) (BX.c x0), .agg (Array.mk [.int .i64 (zL (ftE l) (liA (List.map ptX (bhS l)))),
 .int .i64 (zL (ftE l) (liB (List.map ptX (bhS l)))), .int .i64 (zL (ftE l) (liD (List.map ptX (bhS l))))])]) [] fun x ↦ Value.bool (acB (gpP ptX (bhS l) (BX.i x0)) (zL (ftE l) (liA (List.map ptX (bhS l)))) (zL (ftE l) (liB (List.map ptX (bhS l)))) (zL (ftE l) (liD (List.map ptX (bhS l)))))) /\ (∀ (e
 : Ex), e ∈ [] -> e ∈ wE) /\ (acB (gpP ptX (bhS l) (BX.i x0)) (zL (ftE l) (liA (List.map ptX (bhS l)))) (zL (ftE l) (liB (List.map ptX (bhS l)))) (zL (ftE l) (liD (List.map ptX (bhS l)))) = true -> e1 b 3 (cPt (gpP ptY (bhS l) (BX.i x0)) = cPt (gpP ptY (bhS l) (BX.i x0)) /\ (SpecG Tryd.prog [] [(BX.p
 x0, cPt (gpP ptY (bhS l) (BX.i x0)))] (16 : FuncId) (Array.mk [.slice (BX.p x0) (BX.i x0) (BX.d x0), .agg (Array.mk [.int .i64 (zL (ftE l) (liA (List.map ptY (bhS l)))), .int .i64 (zL (ftE l) (liB (List.map ptY (bhS l)))), .int .i64 (zL (ftE l) (liD (List.map ptY (bhS l))))])]) [] fun x ↦ Value.bool
 (acB (gpP ptY (bhS l) (BX.i x0)) (zL (ftE l) (liA (List.map ptY (bhS l)))) (zL (ftE l) (liB (List.map ptY (bhS l)))) (zL (ftE l) (liD (List.map ptY (bhS l)))))) /\ (∀ (e : Ex), e ∈ [] -> e ∈ wE) /\ Value.bool (acB (gpP ptY (bhS l) (BX.i x0)) (zL (ftE l) (liA (List.map ptY (bhS l)))) (zL (ftE l) (liB
 (List.map ptY (bhS l)))) (zL (ftE l) (liD (List.map ptY (bhS l))))) = Value.bool (acB (gpP ptX (bhS l) (BX.i x0)) (zL (ftE l) (liA (List.map ptX (bhS l)))) (zL (ftE l) (liB (List.map ptX (bhS l)))) (zL (ftE l) (liD (List.map ptX (bhS l)))) && acB (gpP ptY (bhS l) (BX.i x0)) (zL (ftE l) (liA
 (List.map ptY (bhS l)))) (zL (ftE l) (liB (List.map ptY (bhS l)))) (zL (ftE l) (liD (List.map ptY (bhS l))))) /\ True)) /\ (acB (gpP ptX (bhS l) (BX.i x0)) (zL (ftE l) (liA (List.map ptX (bhS l)))) (zL (ftE l) (liB (List.map ptX (bhS l)))) (zL (ftE l) (liD (List.map ptX (bhS l)))) = false ->
 Value.bool false = Value.bool (acB (gpP ptX (bhS l) (BX.i x0)) (zL (ftE l) (liA (List.map ptX (bhS l)))) (zL (ftE l) (liB (List.map ptX (bhS l)))) (zL (ftE l) (liD (List.map ptX (bhS l)))) && acB (gpP ptY (bhS l) (BX.i x0)) (zL (ftE l) (liA (List.map ptY (bhS l)))) (zL (ftE l) (liB (List.map ptY
 (bhS l)))) (zL (ftE l) (liD (List.map ptY (bhS l))))) /\ True))) /\ ∀ (junk : Nat -> Value), .bool (acB (gpP ptX (bhS l) (BX.i x0)) (zL (ftE l) (liA (List.map ptX (bhS l)))) (zL (ftE l) (liB (List.map ptX (bhS l)))) (zL (ftE l) (liD (List.map ptX (bhS l)))) && acB (gpP ptY (bhS l) (BX.i x0)) (zL
 (ftE l) (liA (List.map ptY (bhS l)))) (zL (ftE l) (liB (List.map ptY (bhS l)))) (zL (ftE l) (liD (List.map ptY (bhS l))))) = Value.bool true))))) := by kernel_rfl
set_option maxHeartbeats 4000000 in
theorem lfb_sp (a : Option Addr) (c : Nat) (l : List Sn) (hA : AOK a l.length) (hl : l.length ≤ 9223372036854775807) (hc : l.length ≤ c) : SpecG Tryd.prog wE ([(a, cSn l)]) 5 #[.slice a l.length c] ([]) (fun _ => .bool true) := by
  refine specG_of (h := lfb_h a c l) (?_ : wpG Tryd.prog wE ([(a, cSn l)]) 400 5 [.slice a l.length c] (lfb_h a c l) ([]) (fun _ => .bool true))
  rw [lfb_x]
  (repeat' (first | with_reducible exact rfl | exact trivial | with_reducible assumption | (with_reducible exact law_sp) | (with_reducible exact ftp_sp _ _ _ hA hl hc) | exact cSn_len _ | exact cSn_one _ | exact cPt_len _ | exact cPt_one _ | exact cU_len _ | exact cI_len _ | exact cB_len _ | exact cU_one _ | exact cI_one _ | exact cB_one _ | exact (fun _ h => h) | exact (fun _ h => (List.not_mem_nil h).elim) | (with_reducible refine e1_in ?_) | (with_reducible refine e2_in ?_) | (with_reducible refine lx_in (Nat.le_of_ble_eq_true rfl) ?_) | (with_reducible refine rqx_rf ?_) | (with_reducible refine rqx_in ?_ ?_ ?_) | (with_reducible apply And.intro) | (with_reducible intro _)))
  all_goals (try simp only [Int.toNat_natCast] at *)
  all_goals (try (first | rfl | (simp only [*, Bool.and_true, Bool.true_and, Bool.and_false, Bool.false_and, Bool.or_true, Bool.true_or, Bool.or_false, Bool.false_or, Bool.not_true, Bool.not_false, cond_true, cond_false]; done)))
  all_goals (try (first | (have hi := lt_s ‹_›; first | omega | exact cSn_get0 hi | exact cSn_get1 hi | exact cSn_get2 hi | exact cSn_get3 hi | exact cSn_get4 hi)))
  all_goals (first
    | exact beh_sp _ _ _ hA hl hc (ft_ck ‹_›)
    | (exact ⟨⟨0, none, 0, none, 0⟩, ⟨Nat.zero_le _, aok_0, aok_0⟩, rfl, rfl, rfl, ⟨(by trivial), rfl, (by trivial), rfl⟩, ⟨(by trivial), rfl, (by trivial), rfl⟩, trivial⟩)
    | (have h64 := bh_64 (ft_ck ‹(ftE l != 0) = false›); have hi := lt_s ‹_›; first | omega | exact ⟨⟨_ + 1, _, _, _, _⟩, ⟨hi, aok_g _ _, aok_g _ _⟩, (by show _ - (_ + 1) < _; omega), wr_s (by omega), rfl, rfl, ⟨(by trivial), gp_s hi rfl, (by trivial), rfl⟩, ⟨(by trivial), gp_s hi rfl, (by trivial), rfl⟩, trivial⟩)
    | (have h64 := bh_64 (ft_ck ‹(ftE l != 0) = false›); have hx := ‹_ ≤ (bhS l).length ∧ _›; first | exact acp_n (gp_len _ _ hx.1) hx.2.1 (by omega) | exact acp_n (gp_len _ _ hx.1) hx.2.2 (by omega) | (have e := ge_s ‹_› hx.1; have e1 := be_x ‹(ftE l != 0) = false› e; have e2 := be_y ‹(ftE l != 0) = false› e; simp_all; done))
    | (have e := ne_t ‹(ftE l != 0) = true›; simp only [zL_n e]; rfl)
    | (have e := ne_t ‹(ftE l != 0) = true›; simp only [zL_n e] at *; simp at *; done)
    | trace_state)

theorem sme_n {a b : Option Addr} {c d n : Nat} {M : List Sn} (h : M.length = n) (hA : AOK a n) (hB : AOK b n) (hn : n ≤ 200) : SpecG Tryd.prog [] [(a, cSn M), (b, cSn M)] 21 #[.slice a n c, .slice b n d] [] (fun _ => .bool true) := by
  subst h
  exact sme_sp a b c d M hA hB hn
theorem sme_0 : SpecG Tryd.prog [] [(none, cSn []), (none, cSn [])] 21 #[.slice none 0 0, .slice none 0 0] [] (fun _ => .bool true) := sme_sp none none 0 0 [] aok_0 aok_0 (Nat.zero_le _)
theorem dr_64 {x1 y1 d1 x2 y2 d2 x3 y3 d3 : Int} {p q s : Int} (he : drE x1 y1 d1 x2 y2 d2 x3 y3 d3 p q s = 0) : drN p q s ≤ 64 := by
  obtain ⟨h1, h2, h3, _⟩ := drE_0 he
  exact dr_6 h1 h2 h3

def lfd0_h (x1 y1 d1 x2 y2 d2 x3 y3 d3 : Int) (p q s : Int) : Hint := .specg wE [] [] [] (fun ads0 x ↦ Value.bool true) (.lit (ho 0 9 (.pl (.ob 1 (.pl (.ob 1 (.pl (.ob 1 (.specg [] [] [] [RowT.mk (37 : TypeId) (5 : Nat) (drN p q s) (cSn (drL x1 y1 d1 x2 y2 d2 x3 y3 d3 p s (drN p q s)))] (fun ads0 ads ↦ Value.tuple #[Value.slice (Prod.fst (nthS ads (0 : Nat))) (drN p q
 s) (Prod.snd (nthS ads (0 : Nat))), .int .i64 0]) (ho 0 9 (.pl (.ob 1 (.pl (.ob 1 (.pl (.ob 1 (.specg [] [] [] [RowT.mk (37 : TypeId) (5 : Nat) (drN p q s) (cSn (drL x1 y1 d1 x2 y2 d2 x3 y3 d3 p s (drN p q s)))] (fun ads0 ads ↦ Value.tuple #[Value.slice (Prod.fst (nthS ads (0 : Nat))) (drN p q s)
 (Prod.snd (nthS ads (0 : Nat))), .int .i64 0]) (.specg [] [2, 3] [cSn (drL x1 y1 d1 x2 y2 d2 x3 y3 d3 p s (drN p q s)), cSn (drL x1 y1 d1 x2 y2 d2 x3 y3 d3 p s (drN p q s))] [] (fun ads0 x ↦ Value.bool true) (hl 3 (.pl (.lit (.perm [] .nil))))))))))))))))))))))
theorem lfd0_x (x1 y1 d1 x2 y2 d2 x3 y3 d3 : Int) (p q s : Int) : wpG Tryd.prog wE ([]) 400 7 [.agg #[.int .i64 x1, .int .i64 y1, .int .i64 d1, .int .i64 x2, .int .i64 y2, .int .i64 d2, .int .i64 x3, .int .i64 y3, .int .i64 d3], .agg #[.int .i64 p, .int .i64 q, .int .i64 s]] (lfd0_h x1 y1 d1 x2 y2 d2 x3 y3 d3 p q s) ([]) (fun _ => .bool true) = (∀ (b b_1 : Nat), (SpecG Tryd.prog wE [] (10 : FuncId) #[] [] fun x ↦ Value.bool true) /\ (∀ (e : Ex), e ∈ wE -> e ∈ wE) /\ e1 b 9 (e1 b_1 3 ((SpecG Tryd.prog [] [] (19 : FuncId) #[Value.agg #[Value.int .i64 x1, .int .i64 y1, .int .i64 d1, .int .i64 x2, .int .i64 y2, .int .i64 d2, .int .i64 x3, .int
 .i64 y3, .int .i64 d3], .int .i64 p, .int .i64 q, .int .i64 s] [RowT.mk (37 : TypeId) (5 : Nat) (drN p q s) (cSn (drL x1 y1 d1 x2 y2 d2 x3 y3 d3 p s (drN p q s)))] fun ads ↦ Value.tuple #[Value.slice (Prod.fst (nthS ads (0 : Nat))) (drN p q s) (Prod.snd (nthS ads (0 : Nat))), .int .i64 0]) /\ (∀ (e
 : Ex), e ∈ [] -> e ∈ wE) /\ ∀ (a : Option Addr) (cap : Nat), AOK a (drN p q s) -> drN p q s ≤ cap -> e1 b 9 (e1 b_1 3 ((SpecG Tryd.prog [] [] (20 : FuncId) #[Value.agg #[Value.int .i64 x1, .int .i64 y1, .int .i64 d1, .int .i64 x2, .int .i64 y2, .int .i64 d2, .int .i64 x3, .int .i64 y3, .int .i64 d3],
 .int .i64 p, .int .i64 q, .int .i64 s] [RowT.mk (37 : TypeId) (5 : Nat) (drN p q s) (cSn (drL x1 y1 d1 x2 y2 d2 x3 y3 d3 p s (drN p q s)))] fun ads ↦ Value.tuple #[Value.slice (Prod.fst (nthS ads (0 : Nat))) (drN p q s) (Prod.snd (nthS ads (0 : Nat))), .int .i64 0]) /\ (∀ (e : Ex), e ∈ [] -> e ∈ wE)
 /\ ∀ (a_1 : Option Addr) (cap_1 : Nat), AOK a_1 (drN p q s) -> drN p q s ≤ cap_1 -> cSn (drL x1 y1 d1 x2 y2 d2 x3 y3 d3 p s (drN p q s)) = cSn (drL x1 y1 d1 x2 y2 d2 x3 y3 d3 p s (drN p q s)) /\ cSn (drL x1 y1 d1 x2 y2 d2 x3 y3 d3 p s (drN p q s)) = cSn (drL x1 y1 d1 x2 y2 d2 x3 y3 d3 p s (drN p q
 s)) /\ (SpecG Tryd.prog [] [(a, cSn (drL x1 y1 d1 x2 y2 d2 x3 y3 d3 p s (drN p q s))), (a_1, cSn (drL x1 y1 d1 x2 y2 d2 x3 y3 d3 p s (drN p q s)))] (21 : FuncId) (Array.mk [.slice a (drN p q s) cap, .slice a_1 (drN p q s) cap_1]) [] fun x ↦ Value.bool true) /\ (∀ (e : Ex), e ∈ [] -> e ∈ wE) /\
 Value.bool true = Value.bool true))))) := by kernel_rfl
set_option maxHeartbeats 4000000 in
theorem lfd0_sp (x1 y1 d1 x2 y2 d2 x3 y3 d3 : Int) (p q s : Int) (he : drE x1 y1 d1 x2 y2 d2 x3 y3 d3 p q s = 0) : SpecG Tryd.prog wE ([]) 7 #[.agg #[.int .i64 x1, .int .i64 y1, .int .i64 d1, .int .i64 x2, .int .i64 y2, .int .i64 d2, .int .i64 x3, .int .i64 y3, .int .i64 d3], .agg #[.int .i64 p, .int .i64 q, .int .i64 s]] ([]) (fun _ => .bool true) := by
  refine specG_of (h := lfd0_h x1 y1 d1 x2 y2 d2 x3 y3 d3 p q s) (?_ : wpG Tryd.prog wE ([]) 400 7 [.agg #[.int .i64 x1, .int .i64 y1, .int .i64 d1, .int .i64 x2, .int .i64 y2, .int .i64 d2, .int .i64 x3, .int .i64 y3, .int .i64 d3], .agg #[.int .i64 p, .int .i64 q, .int .i64 s]] (lfd0_h x1 y1 d1 x2 y2 d2 x3 y3 d3 p q s) ([]) (fun _ => .bool true))
  rw [lfd0_x]
  (repeat' (first | with_reducible exact rfl | exact trivial | with_reducible assumption | (with_reducible exact law_sp) | (with_reducible exact drw2_sp _ _ _ _ _ _ _ _ _ _ _ _ he) | (with_reducible exact rdw2_sp _ _ _ _ _ _ _ _ _ _ _ _ he) | exact cSn_len _ | exact cSn_one _ | exact cPt_len _ | exact cPt_one _ | exact cU_len _ | exact cI_len _ | exact cB_len _ | exact cU_one _ | exact cI_one _ | exact cB_one _ | exact (fun _ h => h) | exact (fun _ h => (List.not_mem_nil h).elim) | (with_reducible refine e1_in ?_) | (with_reducible refine e2_in ?_) | (with_reducible refine lx_in (Nat.le_of_ble_eq_true rfl) ?_) | (with_reducible refine rqx_rf ?_) | (with_reducible refine rqx_in ?_ ?_ ?_) | (with_reducible apply And.intro) | (with_reducible intro _)))
  all_goals (first | rfl | exact aok_g _ _ | (simp only [*, Bool.and_true, Bool.true_and, Bool.and_false, Bool.false_and, Bool.or_true, Bool.true_or, Bool.or_false, Bool.false_or, Bool.not_true, Bool.not_false, cond_true, cond_false]; done) | (simp; done) | (simp at *; done) | (decide +kernel) | exact sme_n (dr_len _) (by assumption) (by assumption) (Nat.le_trans (dr_64 he) (by decide)) | omega | trace_state)
def lfd1_h (x1 y1 d1 x2 y2 d2 x3 y3 d3 : Int) (p q s : Int) : Hint := .specg wE [] [] [] (fun ads0 x ↦ Value.bool true) (.lit (ho 0 9 (.pl (.ob 1 (.pl (.ob 1 (.pl (.ob 1 (.specg [] [] [] [] (fun ads0 ads ↦ Value.tuple #[Value.slice none (0 : Nat) (0 : Nat), .int .i64 (drE x1 y1 d1 x2 y2 d2 x3 y3 d3 p q s)]) (ho 0 9 (.pl (.ob 1 (.pl (.ob 1 (.pl (.ob 1 (.specg [] [] []
 [] (fun ads0 ads ↦ Value.tuple #[Value.slice none (0 : Nat) (0 : Nat), .int .i64 (drE x1 y1 d1 x2 y2 d2 x3 y3 d3 p q s)]) (.specg [] [1000, 1001] [cSn [], cSn []] [] (fun ads0 x ↦ Value.bool true) (hl 3 (.pl (.lit (.perm [] .nil))))))))))))))))))))))
theorem lfd1_x (x1 y1 d1 x2 y2 d2 x3 y3 d3 : Int) (p q s : Int) : wpG Tryd.prog wE ([]) 400 7 [.agg #[.int .i64 x1, .int .i64 y1, .int .i64 d1, .int .i64 x2, .int .i64 y2, .int .i64 d2, .int .i64 x3, .int .i64 y3, .int .i64 d3], .agg #[.int .i64 p, .int .i64 q, .int .i64 s]] (lfd1_h x1 y1 d1 x2 y2 d2 x3 y3 d3 p q s) ([]) (fun _ => .bool true) = (∀ (b b_1 : Nat), (SpecG Tryd.prog wE [] (10 : FuncId) #[] [] fun x ↦ Value.bool true) /\ (∀ (e : Ex), e ∈ wE -> e ∈ wE) /\ e1 b 9 (e1 b_1 3 ((SpecG Tryd.prog [] [] (19 : FuncId) #[Value.agg #[Value.int .i64 x1, .int .i64 y1, .int .i64 d1, .int .i64 x2, .int .i64 y2, .int .i64 d2, .int .i64 x3, .int
 .i64 y3, .int .i64 d3], .int .i64 p, .int .i64 q, .int .i64 s] [] fun ads ↦ Value.tuple #[Value.slice none (0 : Nat) (0 : Nat), .int .i64 (drE x1 y1 d1 x2 y2 d2 x3 y3 d3 p q s)]) /\ (∀ (e : Ex), e ∈ [] -> e ∈ wE) /\ e1 b 9 (e1 b_1 3 ((SpecG Tryd.prog [] [] (20 : FuncId) #[Value.agg #[Value.int .i64
 x1, .int .i64 y1, .int .i64 d1, .int .i64 x2, .int .i64 y2, .int .i64 d2, .int .i64 x3, .int .i64 y3, .int .i64 d3], .int .i64 p, .int .i64 q, .int .i64 s] [] fun ads ↦ Value.tuple #[Value.slice none (0 : Nat) (0 : Nat), .int .i64 (drE x1 y1 d1 x2 y2 d2 x3 y3 d3 p q s)]) /\ (∀ (e : Ex), e ∈ [] -> e
 ∈ wE) /\ cSn ([] : List Sn) = [] /\ cSn ([] : List Sn) = [] /\ (SpecG Tryd.prog [] [(none, cSn []), (none, cSn [])] (21 : FuncId) #[Value.slice none (0 : Nat) (0 : Nat), .slice none (0 : Nat) (0 : Nat)] [] fun x ↦ Value.bool true) /\ (∀ (e : Ex), e ∈ [] -> e ∈ wE) /\ Value.bool (drE x1 y1 d1 x2 y2 d2
 x3 y3 d3 p q s == drE x1 y1 d1 x2 y2 d2 x3 y3 d3 p q s) = Value.bool true))))) := by kernel_rfl
set_option maxHeartbeats 4000000 in
theorem lfd1_sp (x1 y1 d1 x2 y2 d2 x3 y3 d3 : Int) (p q s : Int) (he : ¬ drE x1 y1 d1 x2 y2 d2 x3 y3 d3 p q s = 0) : SpecG Tryd.prog wE ([]) 7 #[.agg #[.int .i64 x1, .int .i64 y1, .int .i64 d1, .int .i64 x2, .int .i64 y2, .int .i64 d2, .int .i64 x3, .int .i64 y3, .int .i64 d3], .agg #[.int .i64 p, .int .i64 q, .int .i64 s]] ([]) (fun _ => .bool true) := by
  refine specG_of (h := lfd1_h x1 y1 d1 x2 y2 d2 x3 y3 d3 p q s) (?_ : wpG Tryd.prog wE ([]) 400 7 [.agg #[.int .i64 x1, .int .i64 y1, .int .i64 d1, .int .i64 x2, .int .i64 y2, .int .i64 d2, .int .i64 x3, .int .i64 y3, .int .i64 d3], .agg #[.int .i64 p, .int .i64 q, .int .i64 s]] (lfd1_h x1 y1 d1 x2 y2 d2 x3 y3 d3 p q s) ([]) (fun _ => .bool true))
  rw [lfd1_x]
  (repeat' (first | with_reducible exact rfl | exact trivial | with_reducible assumption | (with_reducible exact law_sp) | (with_reducible exact drx_sp _ _ _ _ _ _ _ _ _ _ _ _ he) | (with_reducible exact rdx_sp _ _ _ _ _ _ _ _ _ _ _ _ he) | (with_reducible exact sme_0) | exact cSn_len _ | exact cSn_one _ | exact cPt_len _ | exact cPt_one _ | exact cU_len _ | exact cI_len _ | exact cB_len _ | exact cU_one _ | exact cI_one _ | exact cB_one _ | exact (fun _ h => h) | exact (fun _ h => (List.not_mem_nil h).elim) | (with_reducible refine e1_in ?_) | (with_reducible refine e2_in ?_) | (with_reducible refine lx_in (Nat.le_of_ble_eq_true rfl) ?_) | (with_reducible refine rqx_rf ?_) | (with_reducible refine rqx_in ?_ ?_ ?_) | (with_reducible apply And.intro) | (with_reducible intro _)))
  all_goals (first | rfl | exact aok_g _ _ | (simp only [*, Bool.and_true, Bool.true_and, Bool.and_false, Bool.false_and, Bool.or_true, Bool.true_or, Bool.or_false, Bool.false_or, Bool.not_true, Bool.not_false, cond_true, cond_false]; done) | (simp; done) | (simp at *; done) | (decide +kernel) |  omega | trace_state)

theorem dl_at {x1 y1 d1 x2 y2 d2 x3 y3 d3 : Int} {p s : Int} {n i : Nat} (h : i < n) : gSn (drL x1 y1 d1 x2 y2 d2 x3 y3 d3 p s n) i = paS x1 y1 d1 x2 y2 d2 x3 y3 d3 (p + (i : Int) * s) := by
  rw [gSn_el (by rw [dr_len]; exact h)]
  simp [drL]
@[reducible] def dnL (p q s : Int) : LoopR := ⟨Nat, fun i => [(72, .int .i64 i)], [], fun _ => [], fun i => i ≤ drN p q s, fun i => drN p q s - i, []⟩
theorem dn_t {x1 y1 d1 x2 y2 d2 x3 y3 d3 : Int} {p q s : Int} (he : drE x1 y1 d1 x2 y2 d2 x3 y3 d3 p q s = 0) {i : Nat} (hi : i < drN p q s) : (gSn (drL x1 y1 d1 x2 y2 d2 x3 y3 d3 p s (drN p q s)) i).t = p + (i : Int) * s ∧ (0 ≤ p + (i : Int) * s ∧ p + (i : Int) * s ≤ 8000) ∧ faE x1 y1 d1 x2 y2 d2 x3 y3 d3 (p + (i : Int) * s) = 0 := by
  obtain ⟨h1, h2, h3, h4⟩ := drE_0 he
  have ht := dr_t h1 h2 hi
  have h0 := dr_p h1 h2
  refine ⟨by rw [dl_at hi]; rfl, by omega, ?_⟩
  rw [← h4]
  exact faE_in (by omega) (by omega)
theorem dn_f {x1 y1 d1 x2 y2 d2 x3 y3 d3 : Int} {p q s : Int} (he : drE x1 y1 d1 x2 y2 d2 x3 y3 d3 p q s = 0) {i : Nat} (hi : i < drN p q s) : faE x1 y1 d1 x2 y2 d2 x3 y3 d3 (gSn (drL x1 y1 d1 x2 y2 d2 x3 y3 d3 p s (drN p q s)) i).t = 0 := by
  obtain ⟨e, _, h⟩ := dn_t he hi
  rw [e]; exact h


theorem dn_n (p q s : Int) : 1 ≤ drN p q s := by unfold drN; omega
theorem lt_d {p q s : Int} {i : Nat} (h : decide ((i : Int) < (drN p q s : Int)) = true) : i < drN p q s := by have := of_decide_eq_true h; omega
theorem dn_s {x1 y1 d1 x2 y2 d2 x3 y3 d3 : Int} {p q s : Int} {i : Nat} (hi : i < drN p q s) : (!((gSn (drL x1 y1 d1 x2 y2 d2 x3 y3 d3 p s (drN p q s)) i).t == (gSn (drL x1 y1 d1 x2 y2 d2 x3 y3 d3 p s (drN p q s)) i).t && ((gSn (drL x1 y1 d1 x2 y2 d2 x3 y3 d3 p s (drN p q s)) i).x == atV x1 y1 d1 (gSn (drL x1 y1 d1 x2 y2 d2 x3 y3 d3 p s (drN p q s)) i).t && ((gSn (drL x1 y1 d1 x2 y2 d2 x3 y3 d3 p s (drN p q s)) i).y == atV x2 y2 d2 (gSn (drL x1 y1 d1 x2 y2 d2 x3 y3 d3 p s (drN p q s)) i).t && ((gSn (drL x1 y1 d1 x2 y2 d2 x3 y3 d3 p s (drN p q s)) i).z == faZ x3 y3 d3 (gSn (drL x1 y1 d1 x2 y2 d2 x3 y3 d3 p s (drN p q s)) i).t && ((gSn (drL x1 y1 d1 x2 y2 d2 x3 y3 d3 p s (drN p q s)) i).e == 0 && true)))))) = false := by
  rw [dl_at hi]
  simp [paS]
theorem dn_o {x1 y1 d1 x2 y2 d2 x3 y3 d3 : Int} {p q s : Int} (he : drE x1 y1 d1 x2 y2 d2 x3 y3 d3 p q s = 0) {i : Nat} (hi : i < drN p q s) (h0 : 0 < i) : ((gSn (drL x1 y1 d1 x2 y2 d2 x3 y3 d3 p s (drN p q s)) i).t != IntKind.i64.wrap ((gSn (drL x1 y1 d1 x2 y2 d2 x3 y3 d3 p s (drN p q s)) (IntKind.i64.wrap ((i : Int) - 1)).toNat).t + s)) = false := by
  have h64 := dr_64 he
  have e : (IntKind.i64.wrap ((i : Int) - 1)).toNat = i - 1 := by rw [wm_n (by omega) h0]; omega
  have t0 := dn_t he hi
  have t1 := dn_t he (i := i - 1) (by omega)
  have ec : ((i - 1 : Nat) : Int) * s = (i : Int) * s - s := by
    have : ((i - 1 : Nat) : Int) = (i : Int) - 1 := by omega
    rw [this, Int.sub_mul]; omega
  rw [ec] at t1
  rw [e, t0.1, t1.1, q64 (by omega) (by omega)]
  simp
  omega
theorem dn_w {x1 y1 d1 x2 y2 d2 x3 y3 d3 : Int} {p q s : Int} (he : drE x1 y1 d1 x2 y2 d2 x3 y3 d3 p q s = 0) : IntKind.i64.wrap ((drN p q s : Int) - 1) = ((drN p q s - 1 : Nat) : Int) := by
  have h64 := dr_64 he
  have h1 := dn_n p q s
  rw [q64 (by omega) (by omega)]; omega
theorem dn_c {x1 y1 d1 x2 y2 d2 x3 y3 d3 : Int} {p q s : Int} (he : drE x1 y1 d1 x2 y2 d2 x3 y3 d3 p q s = 0) : ((drN p q s : Int) == 0 || ((gSn (drL x1 y1 d1 x2 y2 d2 x3 y3 d3 p s (drN p q s)) 0).t != p || (decide ((gSn (drL x1 y1 d1 x2 y2 d2 x3 y3 d3 p s (drN p q s)) (drN p q s - 1)).t > q) || decide (IntKind.i64.wrap (q - (gSn (drL x1 y1 d1 x2 y2 d2 x3 y3 d3 p s (drN p q s)) (drN p q s - 1)).t) ≥ s)))) = false := by
  have h1 := dn_n p q s
  obtain ⟨g1, g2, g3, _⟩ := drE_0 he
  have t0 := (dn_t he (i := 0) (by omega)).1
  have t1 := (dn_t he (i := drN p q s - 1) (by omega)).1
  have d := dr_q g1 g2
  have d0 := dr_p g1 g2
  have e : drN p q s - 1 = drQ p q s := by unfold drN; omega
  have hg : 0 ≤ (drQ p q s : Int) * s := Int.mul_nonneg (by omega) (by simp at g2; omega)
  rw [t0, t1, e]
  rw [q64 (by omega) (by omega)]
  simp
  omega

def lfn0_h (x1 y1 d1 x2 y2 d2 x3 y3 d3 : Int) (p q s : Int) : Hint := .specg wE [] [] [] (fun ads0 x ↦ Value.bool true) (.lit (ho 0 9 (.pl (.ob 1 (.pl (.ob 1 (.pl (.ob 1 (.specg [] [] [] [RowT.mk (37 : TypeId) (5 : Nat) (drN p q s) (cSn (drL x1 y1 d1 x2 y2 d2 x3 y3 d3 p s (drN p q s)))] (fun ads0 ads ↦ Value.tuple #[Value.slice (Prod.fst (nthS ads (0 : Nat))) (drN p q
 s) (Prod.snd (nthS ads (0 : Nat))), .int .i64 0]) (.pl (.lit (.cut [((69 : Nat), .bool ((↑(drN p q s) : Int) == (0 : Int) || (Sn.t (gSn (drL x1 y1 d1 x2 y2 d2 x3 y3 d3 p s (drN p q s)) (0 : Nat)) != p || (decide (Sn.t (gSn (drL x1 y1 d1 x2 y2 d2 x3 y3 d3 p s (drN p q s)) (Int.toNat (IntKind.i64.wrap
 ((↑(drN p q s) : Int) - (1 : Int))))) > q) || decide (IntKind.i64.wrap (q - Sn.t (gSn (drL x1 y1 d1 x2 y2 d2 x3 y3 d3 p s (drN p q s)) (Int.toNat (IntKind.i64.wrap ((↑(drN p q s) : Int) - (1 : Int)))))) ≥ s)))))] (.draw [0, 1, 2] none [0, 1, 2] (.take 0 (.take 1 (.pl (.take 2 (.pl (.take 3 (.take 4
 (.split (.take 5 (.lit (.take 6 (.lit (.take 7 (.lit (.take 8 (.lit (.take 9 (.lit (.take 10 (.lit (.take 11 (.lit (.take 12 (.take 13 (.lit (.take 14 (.lit (.take 15 (.lit (.take 16 (.lit (.take 17 (.lit (.take 18 (.lit (.take 19 (.lit (.take 20 (.lit (.take 21 (.lit (.take 22 (.lit (.take 23 (.lit
 (.take 24 (.take 25 (.lit (.take 26 (.lit (.take 27 (.lit (.take 28 (.lit (.take 29 (.lit (.take 30 (.lit (.take 31 (.lit (.take 32 (.lit (.take 33 (.lit (.take 34 (.lit (.take 35 (.lit (.take 36 (.lit (.take 37 (.lit (.take 38 (.lit
 .nil)))))))))))))))))))))))))))))))))))))))))))))))))))))))))))))))))) (.take 5 (.lit (.ix (.take 6 (.lit (.take 7 (.lit (.lst (2 : Nat) (0 : Nat) (Value.int .i64 (Sn.t (gSn (drL x1 y1 d1 x2 y2 d2 x3 y3 d3 p s (drN p q s)) (0 : Nat)))) (.take 8 (.lit (.pl (.take 9 (.lit (.ob 1 (.take 10 (.lit (.pl
 (.take 11 (.lit (.take 12 (.take 13 (.split (.take 14 (.lit (.take 15 (.lit (.take 16 (.lit (.take 17 (.lit (.take 18 (.lit (.take 19 (.lit (.take 20 (.lit (.take 21 (.lit (.take 22 (.lit (.take 23 (.lit (.take 24 (.take 25 (.lit (.take 26 (.lit (.take 27 (.lit (.take 28 (.lit (.take 29 (.lit (.take
 30 (.lit (.take 31 (.lit (.take 32 (.lit (.take 33 (.lit (.take 34 (.lit (.take 35 (.lit (.take 36 (.lit (.take 37 (.lit (.take 38 (.lit .nil))))))))))))))))))))))))))))))))))))))))))))))))) (.take 14 (.lit (.take 15 (.lit (.pl (.take 16 (.lit (.take 17 (.lit (.ix (.take 18 (.lit (.take 19 (.lit
 (.lst (2 : Nat) (Int.toNat (IntKind.i64.wrap ((↑(drN p q s) : Int) - (1 : Int))) * (5 : Nat)) (Value.int .i64 (Sn.t (gSn (drL x1 y1 d1 x2 y2 d2 x3 y3 d3 p s (drN p q s)) (Int.toNat (IntKind.i64.wrap ((↑(drN p q s) : Int) - (1 : Int))))))) (.take 20 (.lit (.pl (.take 21 (.lit (.ob 1 (.take 22 (.lit
 (.take 23 (.lit (.take 24 (.take 25 (.split (.take 26 (.lit (.take 27 (.lit (.take 28 (.lit (.take 29 (.lit (.take 30 (.lit (.take 31 (.lit (.take 32 (.lit (.take 33 (.lit (.take 34 (.lit (.take 35 (.lit (.take 36 (.lit (.take 37 (.lit (.take 38 (.lit .nil)))))))))))))))))))))))))) (.pl (.take 26
 (.lit (.ob 1 (.take 27 (.lit (.take 28 (.lit (.take 29 (.lit (.pl (.take 30 (.lit (.take 31 (.lit (.ix (.take 32 (.lit (.take 33 (.lit (.lst (2 : Nat) (Int.toNat (IntKind.i64.wrap ((↑(drN p q s) : Int) - (1 : Int))) * (5 : Nat)) (Value.int .i64 (Sn.t (gSn (drL x1 y1 d1 x2 y2 d2 x3 y3 d3 p s (drN p q
 s)) (Int.toNat (IntKind.i64.wrap ((↑(drN p q s) : Int) - (1 : Int))))))) (.take 34 (.lit (.take 35 (.lit (.pl (.take 36 (.lit (.ob 1 (.take 37 (.lit (.take 38 (.lit .nil)))))))))))))))))))))))))))))))))))))))))))))))))))))))))))))))))))))))))))))))))))))))))))) (.split (.perm [] .nil) (.pl (.inv
 (dnL p q s) fun x0 ↦ .split (.ix (.lst (2 : Nat) (x0 * (5 : Nat)) (Value.int .i64 (Sn.t (gSn (drL x1 y1 d1 x2 y2 d2 x3 y3 d3 p s (drN p q s)) x0))) (.lst (2 : Nat) (x0 * (5 : Nat) + (1 : Nat)) (Value.int .i64 (Sn.x (gSn (drL x1 y1 d1 x2 y2 d2 x3 y3 d3 p s (drN p q s)) x0))) (.lst (2 : Nat) (x0 * (5
 : Nat) + (2 : Nat)) (Value.int .i64 (Sn.y (gSn (drL x1 y1 d1 x2 y2 d2 x3 y3 d3 p s (drN p q s)) x0))) (.lst (2 : Nat) (x0 * (5 : Nat) + (3 : Nat)) (Value.int .i64 (Sn.z (gSn (drL x1 y1 d1 x2 y2 d2 x3 y3 d3 p s (drN p q s)) x0))) (.lst (2 : Nat) (x0 * (5 : Nat) + (4 : Nat)) (Value.int .i64 (Sn.e (gSn
 (drL x1 y1 d1 x2 y2 d2 x3 y3 d3 p s (drN p q s)) x0))) (ho 3 5 (ho 0 9 (.ob 3 (.specg [] [] [] [] (fun ads0 x ↦ Value.tuple #[Value.int .i64 (atV x1 y1 d1 (Sn.t (gSn (drL x1 y1 d1 x2 y2 d2 x3 y3 d3 p s (drN p q s)) x0))), .int .i64 (atV x2 y2 d2 (Sn.t (gSn (drL x1 y1 d1 x2 y2 d2 x3 y3 d3 p s (drN p
 q s)) x0))), .int .i64 (faZ x3 y3 d3 (Sn.t (gSn (drL x1 y1 d1 x2 y2 d2 x3 y3 d3 p s (drN p q s)) x0))), .int .i64 0]) (.cut [((115 : Nat), .bool (!(Sn.t (gSn (drL x1 y1 d1 x2 y2 d2 x3 y3 d3 p s (drN p q s)) x0) == Sn.t (gSn (drL x1 y1 d1 x2 y2 d2 x3 y3 d3 p s (drN p q s)) x0) && (Sn.x (gSn (drL x1
 y1 d1 x2 y2 d2 x3 y3 d3 p s (drN p q s)) x0) == atV x1 y1 d1 (Sn.t (gSn (drL x1 y1 d1 x2 y2 d2 x3 y3 d3 p s (drN p q s)) x0)) && (Sn.y (gSn (drL x1 y1 d1 x2 y2 d2 x3 y3 d3 p s (drN p q s)) x0) == atV x2 y2 d2 (Sn.t (gSn (drL x1 y1 d1 x2 y2 d2 x3 y3 d3 p s (drN p q s)) x0)) && (Sn.z (gSn (drL x1 y1
 d1 x2 y2 d2 x3 y3 d3 p s (drN p q s)) x0) == faZ x3 y3 d3 (Sn.t (gSn (drL x1 y1 d1 x2 y2 d2 x3 y3 d3 p s (drN p q s)) x0)) && (Sn.e (gSn (drL x1 y1 d1 x2 y2 d2 x3 y3 d3 p s (drN p q s)) x0) == 0 && true))))) || decide ((↑x0 : Int) > (0 : Int)) && Sn.t (gSn (drL x1 y1 d1 x2 y2 d2 x3 y3 d3 p s (drN p
 q s)) x0) != IntKind.i64.wrap (Sn.t (gSn (drL x1 y1 d1 x2 y2 d2 x3 y3 d3 p s (drN p q s)) (Int.toNat (IntKind.i64.wrap ((↑x0 : Int) - (1 : Int))))) + s)))] (.draw [0, 1, 2, 3] none [0, 1, 2, 3] (.take 0 (.take 1 (.pl (.take 2 (.take 3 (.lit (ho 3 5 (.take 4 (.lit (.take 5 (.lit (.ob 3 (.take 6 (.lit
 (.take 7 (.lit (.take 8 (.lit (.take 9 (.lit (.take 10 (.lit (.take 11 (.lit (.take 12 (.take 13 (.split (.take 14 (.lit (.take 15 (.lit (.take 16 (.take 17 (.take 18 (.take 19 (.take 20 (.take 21 (.take 22 (.take 23 (.take 24 (.take 25 (.take 26 (.take 27 (.take 28 (.lit (.take 29 (.lit
 .nil)))))))))))))))))))) (.take 14 (.lit (.take 15 (.lit (.take 16 (.split (.take 17 (.lit (.ob 3 (.take 18 (.lit (.take 19 (.lit (.take 20 (.lit (.take 21 (.lit (.ix (.take 22 (.lit (.take 23 (.lit (.lst (2 : Nat) (Int.toNat (IntKind.i64.wrap ((↑x0 : Int) - (1 : Int))) * (5 : Nat)) (Value.int .i64
 (Sn.t (gSn (drL x1 y1 d1 x2 y2 d2 x3 y3 d3 p s (drN p q s)) (Int.toNat (IntKind.i64.wrap ((↑x0 : Int) - (1 : Int))))))) (.take 24 (.lit (.pl (.take 25 (.lit (.ob 1 (.take 26 (.lit (.take 27 (.lit (.pl (.take 28 (.lit (.lit (.take 29 (.lit .nil))))))))))))))))))))))))))))))))) (.take 17 (.lit (.take
 18 (.lit (.take 19 (.lit (.take 20 (.lit (.take 21 (.lit (.take 22 (.lit (.take 23 (.lit (.take 24 (.lit (.take 25 (.lit (.take 26 (.lit (.take 27 (.lit (.take 28 (.lit (.lit (.take 29 (.lit .nil))))))))))))))))))))))))))))))))))))))))))))))))))))))))))))) (.split (.perm [] .nil) (.perm []
 .nil))))))))))))) (.perm [] .nil))))))))))))))))
theorem lfn0_x (x1 y1 d1 x2 y2 d2 x3 y3 d3 : Int) (p q s : Int) : wpG Tryd.prog wE ([]) 400 8 [.agg #[.int .i64 x1, .int .i64 y1, .int .i64 d1, .int .i64 x2, .int .i64 y2, .int .i64 d2, .int .i64 x3, .int .i64 y3, .int .i64 d3], .agg #[.int .i64 p, .int .i64 q, .int .i64 s]] (lfn0_h x1 y1 d1 x2 y2 d2 x3 y3 d3 p q s) ([]) (fun _ => .bool true) = (∀ (b b_1 : Nat), (SpecG Tryd.prog wE [] (10 : FuncId) #[] [] fun x ↦ Value.bool true) /\ (∀ (e : Ex), e ∈ wE -> e ∈ wE) /\ e1 b 9 (e1 b_1 3 ((SpecG Tryd.prog [] [] (19 : FuncId) #[Value.agg #[Value.int .i64 x1, .int .i64 y1, .int .i64 d1, .int .i64 x2, .int .i64 y2, .int .i64 d2, .int .i64 x3, .int
 .i64 y3, .int .i64 d3], .int .i64 p, .int .i64 q, .int .i64 s] [RowT.mk (37 : TypeId) (5 : Nat) (drN p q s) (cSn (drL x1 y1 d1 x2 y2 d2 x3 y3 d3 p s (drN p q s)))] fun ads ↦ Value.tuple #[Value.slice (Prod.fst (nthS ads (0 : Nat))) (drN p q s) (Prod.snd (nthS ads (0 : Nat))), .int .i64 0]) /\ (∀ (e
 : Ex), e ∈ [] -> e ∈ wE) /\ ∀ (a : Option Addr) (cap : Nat), AOK a (drN p q s) -> drN p q s ≤ cap -> ((((↑(drN p q s) : Int) == (0 : Int)) = true -> Value.bool true = Value.bool ((↑(drN p q s) : Int) == (0 : Int) || (Sn.t (gSn (drL x1 y1 d1 x2 y2 d2 x3 y3 d3 p s (drN p q s)) (0 : Nat)) != p ||
 (decide (Sn.t (gSn (drL x1 y1 d1 x2 y2 d2 x3 y3 d3 p s (drN p q s)) (Int.toNat (IntKind.i64.wrap ((↑(drN p q s) : Int) - (1 : Int))))) > q) || decide (IntKind.i64.wrap (q - Sn.t (gSn (drL x1 y1 d1 x2 y2 d2 x3 y3 d3 p s (drN p q s)) (Int.toNat (IntKind.i64.wrap ((↑(drN p q s) : Int) - (1 : Int))))))
 ≥ s)))) /\ True) /\ (((↑(drN p q s) : Int) == (0 : Int)) = false -> (((0 : Int) ≤ (0 : Int) /\ (0 : Int) < (↑(drN p q s) : Int)) /\ AOK a (drN p q s)) /\ bk a = bk a /\ ofs a + (0 : Nat) = ofs a + (0 : Nat) /\ lgo (cSn (drL x1 y1 d1 x2 y2 d2 x3 y3 d3 p s (drN p q s))) (0 : Nat) = some (Value.int
 .i64 (Sn.t (gSn (drL x1 y1 d1 x2 y2 d2 x3 y3 d3 p s (drN p q s)) (0 : Nat)))) /\ b_1 = b_1 /\ ((Sn.t (gSn (drL x1 y1 d1 x2 y2 d2 x3 y3 d3 p s (drN p q s)) (0 : Nat)) != p) = true -> Value.bool true = Value.bool ((↑(drN p q s) : Int) == (0 : Int) || (Sn.t (gSn (drL x1 y1 d1 x2 y2 d2 x3 y3 d3 p s (drN
 p q s)) (0 : Nat)) != p || (decide (Sn.t (gSn (drL x1 y1 d1 x2 y2 d2 x3 y3 d3 p s (drN p q s)) (Int.toNat (IntKind.i64.wrap ((↑(drN p q s) : Int) - (1 : Int))))) > q) || decide (IntKind.i64.wrap (q - Sn.t (gSn (drL x1 y1 d1 x2 y2 d2 x3 y3 d3 p s (drN p q s)) (Int.toNat (IntKind.i64.wrap ((↑(drN p q
 s) : Int) - (1 : Int)))))) ≥ s)))) /\ True) /\ ((Sn.t (gSn (drL x1 y1 d1 x2 y2 d2 x3 y3 d3 p s (drN p q s)) (0 : Nat)) != p) = false -> (((0 : Int) ≤ IntKind.i64.wrap ((↑(drN p q s) : Int) - (1 : Int)) /\ IntKind.i64.wrap ((↑(drN p q s) : Int) - (1 : Int)) < (↑(drN p q s) : Int)) /\ AOK a (drN p q
 s)) /\ bk a = bk a /\ ofs a + Int.toNat (IntKind.i64.wrap ((↑(drN p q s) : Int) - (1 : Int))) * (5 : Nat) = ofs a + Int.toNat (IntKind.i64.wrap ((↑(drN p q s) : Int) - (1 : Int))) * (5 : Nat) /\ lgo (cSn (drL x1 y1 d1 x2 y2 d2 x3 y3 d3 p s (drN p q s))) (Int.toNat (IntKind.i64.wrap ((↑(drN p q s) :
 Int) - (1 : Int))) * (5 : Nat)) = some (Value.int .i64 (Sn.t (gSn (drL x1 y1 d1 x2 y2 d2 x3 y3 d3 p s (drN p q s)) (Int.toNat (IntKind.i64.wrap ((↑(drN p q s) : Int) - (1 : Int))))))) /\ b_1 = b_1 /\ (decide (Sn.t (gSn (drL x1 y1 d1 x2 y2 d2 x3 y3 d3 p s (drN p q s)) (Int.toNat (IntKind.i64.wrap
 ((↑(drN p q s) : Int) - (1 : Int))))) > q) = true -> Value.bool true = Value.bool ((↑(drN p q s) : Int) == (0 : Int) || (Sn.t (gSn (drL x1 y1 d1 x2 y2 d2 x3 y3 d3 p s (drN p q s)) (0 : Nat)) != p || (decide (Sn.t (gSn (drL x1 y1 d1 x2 y2 d2 x3 y3 d3 p s (drN p q s)) (Int.toNat (IntKind.i64.wrap
 ((↑(drN p q s) : Int) - (1 : Int))))) > q) || decide (IntKind.i64.wrap (q - Sn.t (gSn (drL x1 y1 d1 x2 y2 d2 x3 y3 d3 p s (drN p q s)) (Int.toNat (IntKind.i64.wrap ((↑(drN p q s) : Int) - (1 : Int)))))) ≥ s)))) /\ True) /\ (decide (Sn.t (gSn (drL x1 y1 d1 x2 y2 d2 x3 y3 d3 p s (drN p q s))
 (Int.toNat (IntKind.i64.wrap ((↑(drN p q s) : Int) - (1 : Int))))) > q) = false -> b_1 = b_1 /\ (((0 : Int) ≤ IntKind.i64.wrap ((↑(drN p q s) : Int) - (1 : Int)) /\ IntKind.i64.wrap ((↑(drN p q s) : Int) - (1 : Int)) < (↑(drN p q s) : Int)) /\ AOK a (drN p q s)) /\ bk a = bk a /\ ofs a + Int.toNat
 (IntKind.i64.wrap ((↑(drN p q s) : Int) - (1 : Int))) * (5 : Nat) = ofs a + Int.toNat (IntKind.i64.wrap ((↑(drN p q s) : Int) - (1 : Int))) * (5 : Nat) /\ lgo (cSn (drL x1 y1 d1 x2 y2 d2 x3 y3 d3 p s (drN p q s))) (Int.toNat (IntKind.i64.wrap ((↑(drN p q s) : Int) - (1 : Int))) * (5 : Nat)) = some
 (Value.int .i64 (Sn.t (gSn (drL x1 y1 d1 x2 y2 d2 x3 y3 d3 p s (drN p q s)) (Int.toNat (IntKind.i64.wrap ((↑(drN p q s) : Int) - (1 : Int))))))) /\ b_1 = b_1 /\ Value.bool (decide (IntKind.i64.wrap (q - Sn.t (gSn (drL x1 y1 d1 x2 y2 d2 x3 y3 d3 p s (drN p q s)) (Int.toNat (IntKind.i64.wrap ((↑(drN p
 q s) : Int) - (1 : Int)))))) ≥ s)) = Value.bool ((↑(drN p q s) : Int) == (0 : Int) || (Sn.t (gSn (drL x1 y1 d1 x2 y2 d2 x3 y3 d3 p s (drN p q s)) (0 : Nat)) != p || (decide (Sn.t (gSn (drL x1 y1 d1 x2 y2 d2 x3 y3 d3 p s (drN p q s)) (Int.toNat (IntKind.i64.wrap ((↑(drN p q s) : Int) - (1 : Int)))))
 > q) || decide (IntKind.i64.wrap (q - Sn.t (gSn (drL x1 y1 d1 x2 y2 d2 x3 y3 d3 p s (drN p q s)) (Int.toNat (IntKind.i64.wrap ((↑(drN p q s) : Int) - (1 : Int)))))) ≥ s)))) /\ True)))) /\ ∀ (junk : Nat -> Value), (((↑(drN p q s) : Int) == (0 : Int) || (Sn.t (gSn (drL x1 y1 d1 x2 y2 d2 x3 y3 d3 p s
 (drN p q s)) (0 : Nat)) != p || (decide (Sn.t (gSn (drL x1 y1 d1 x2 y2 d2 x3 y3 d3 p s (drN p q s)) (Int.toNat (IntKind.i64.wrap ((↑(drN p q s) : Int) - (1 : Int))))) > q) || decide (IntKind.i64.wrap (q - Sn.t (gSn (drL x1 y1 d1 x2 y2 d2 x3 y3 d3 p s (drN p q s)) (Int.toNat (IntKind.i64.wrap ((↑(drN
 p q s) : Int) - (1 : Int)))))) ≥ s)))) = true -> Value.bool false = Value.bool true) /\ (((↑(drN p q s) : Int) == (0 : Int) || (Sn.t (gSn (drL x1 y1 d1 x2 y2 d2 x3 y3 d3 p s (drN p q s)) (0 : Nat)) != p || (decide (Sn.t (gSn (drL x1 y1 d1 x2 y2 d2 x3 y3 d3 p s (drN p q s)) (Int.toNat
 (IntKind.i64.wrap ((↑(drN p q s) : Int) - (1 : Int))))) > q) || decide (IntKind.i64.wrap (q - Sn.t (gSn (drL x1 y1 d1 x2 y2 d2 x3 y3 d3 p s (drN p q s)) (Int.toNat (IntKind.i64.wrap ((↑(drN p q s) : Int) - (1 : Int)))))) ≥ s)))) = false -> (∃ x, x ≤ drN p q s /\ Value.int .i64 0 = Value.int .i64 (↑x
 : Int) /\ True) /\ ∀ (x0 : Nat), x0 ≤ drN p q s -> ∀ (junk : Nat -> Value), (decide ((↑x0 : Int) < (↑(drN p q s) : Int)) = true -> (((0 : Int) ≤ (↑x0 : Int) /\ (↑x0 : Int) < (↑(drN p q s) : Int)) /\ AOK a (drN p q s)) /\ bk a = bk a /\ ofs a + x0 * (5 : Nat) = ofs a + x0 * (5 : Nat) /\ lgo (cSn (drL
 x1 y1 d1 x2 y2 d2 x3 y3 d3 p s (drN p q s))) (x0 * (5 : Nat)) = some (Value.int .i64 (Sn.t (gSn (drL x1 y1 d1 x2 y2 d2 x3 y3 d3 p s (drN p q s)) x0))) /\ bk a = bk a /\ ofs a + x0 * (5 : Nat) + (1 : Nat) = ofs a + (x0 * (5 : Nat) + (1 : Nat)) /\ lgo (cSn (drL x1 y1 d1 x2 y2 d2 x3 y3 d3 p s (drN p q
 s))) (x0 * (5 : Nat) + (1 : Nat)) = some (Value.int .i64 (Sn.x (gSn (drL x1 y1 d1 x2 y2 d2 x3 y3 d3 p s (drN p q s)) x0))) /\ bk a = bk a /\ ofs a + x0 * (5 : Nat) + (2 : Nat) = ofs a + (x0 * (5 : Nat) + (2 : Nat)) /\ lgo (cSn (drL x1 y1 d1 x2 y2 d2 x3 y3 d3 p s (drN p q s))) (x0 * (5 : Nat) + (2 :
 Nat)) = some (Value.int .i64 (Sn.y (gSn (drL x1 y1 d1 x2 y2 d2 x3 y3 d3 p s (drN p q s)) x0))) /\ bk a = bk a /\ ofs a + x0 * (5 : Nat) + (3 : Nat) = ofs a + (x0 * (5 : Nat) + (3 : Nat)) /\ lgo (cSn (drL x1 y1 d1 x2 y2 d2 x3 y3 d3 p s (drN p q s))) (x0 * (5 : Nat) + (3 : Nat)) = some (Value.int .i64
 (Sn.z (gSn (drL x1 y1 d1 x2 y2 d2 x3 y3 d3 p s (drN p q s)) x0))) /\ bk a = bk a /\ ofs a + x0 * (5 : Nat) + (4 : Nat) = ofs a + (x0 * (5 : Nat) + (4 : Nat)) /\ lgo (cSn (drL x1 y1 d1 x2 y2 d2 x3 y3 d3 p s (drN p q s))) (x0 * (5 : Nat) + (4 : Nat)) = some (Value.int .i64 (Sn.e (gSn (drL x1 y1 d1 x2
 y2 d2 x3 y3 d3 p s (drN p q s)) x0))) /\ ∀ (b_2 : Nat), e2 b_2 5 (e1 b 9 (b_2 = b_2 /\ (SpecG Tryd.prog [] [] (17 : FuncId) #[Value.agg #[Value.int .i64 x1, .int .i64 y1, .int .i64 d1, .int .i64 x2, .int .i64 y2, .int .i64 d2, .int .i64 x3, .int .i64 y3, .int .i64 d3], .int .i64 (Sn.t (gSn (drL x1 y1
 d1 x2 y2 d2 x3 y3 d3 p s (drN p q s)) x0))] [] fun x ↦ Value.tuple #[Value.int .i64 (atV x1 y1 d1 (Sn.t (gSn (drL x1 y1 d1 x2 y2 d2 x3 y3 d3 p s (drN p q s)) x0))), .int .i64 (atV x2 y2 d2 (Sn.t (gSn (drL x1 y1 d1 x2 y2 d2 x3 y3 d3 p s (drN p q s)) x0))), .int .i64 (faZ x3 y3 d3 (Sn.t (gSn (drL x1
 y1 d1 x2 y2 d2 x3 y3 d3 p s (drN p q s)) x0))), .int .i64 0]) /\ (∀ (e : Ex), e ∈ [] -> e ∈ wE) /\ (e1 b_2 6 (((!(Sn.t (gSn (drL x1 y1 d1 x2 y2 d2 x3 y3 d3 p s (drN p q s)) x0) == Sn.t (gSn (drL x1 y1 d1 x2 y2 d2 x3 y3 d3 p s (drN p q s)) x0) && (Sn.x (gSn (drL x1 y1 d1 x2 y2 d2 x3 y3 d3 p s (drN p
 q s)) x0) == atV x1 y1 d1 (Sn.t (gSn (drL x1 y1 d1 x2 y2 d2 x3 y3 d3 p s (drN p q s)) x0)) && (Sn.y (gSn (drL x1 y1 d1 x2 y2 d2 x3 y3 d3 p s (drN p q s)) x0) == atV x2 y2 d2 (Sn.t (gSn (drL x1 y1 d1 x2 y2 d2 x3 y3 d3 p s (drN p q s)) x0)) && (Sn.z (gSn (drL x1 y1 d1 x2 y2 d2 x3 y3 d3 p s (drN p q
 s)) x0) == faZ x3 y3 d3 (Sn.t (gSn (drL x1 y1 d1 x2 y2 d2 x3 y3 d3 p s (drN p q s)) x0)) && (Sn.e (gSn (drL x1 y1 d1 x2 y2 d2 x3 y3 d3 p s (drN p q s)) x0) == 0 && true)))))) = true -> Value.bool true = Value.bool (!(Sn.t (gSn (drL x1 y1 d1 x2 y2 d2 x3 y3 d3 p s (drN p q s)) x0) == Sn.t (gSn (drL x1
 y1 d1 x2 y2 d2 x3 y3 d3 p s (drN p q s)) x0) && (Sn.x (gSn (drL x1 y1 d1 x2 y2 d2 x3 y3 d3 p s (drN p q s)) x0) == atV x1 y1 d1 (Sn.t (gSn (drL x1 y1 d1 x2 y2 d2 x3 y3 d3 p s (drN p q s)) x0)) && (Sn.y (gSn (drL x1 y1 d1 x2 y2 d2 x3 y3 d3 p s (drN p q s)) x0) == atV x2 y2 d2 (Sn.t (gSn (drL x1 y1 d1
 x2 y2 d2 x3 y3 d3 p s (drN p q s)) x0)) && (Sn.z (gSn (drL x1 y1 d1 x2 y2 d2 x3 y3 d3 p s (drN p q s)) x0) == faZ x3 y3 d3 (Sn.t (gSn (drL x1 y1 d1 x2 y2 d2 x3 y3 d3 p s (drN p q s)) x0)) && (Sn.e (gSn (drL x1 y1 d1 x2 y2 d2 x3 y3 d3 p s (drN p q s)) x0) == 0 && true))))) || decide ((↑x0 : Int) > (0
 : Int)) && Sn.t (gSn (drL x1 y1 d1 x2 y2 d2 x3 y3 d3 p s (drN p q s)) x0) != IntKind.i64.wrap (Sn.t (gSn (drL x1 y1 d1 x2 y2 d2 x3 y3 d3 p s (drN p q s)) (Int.toNat (IntKind.i64.wrap ((↑x0 : Int) - (1 : Int))))) + s)) /\ True) /\ ((!(Sn.t (gSn (drL x1 y1 d1 x2 y2 d2 x3 y3 d3 p s (drN p q s)) x0) ==
 Sn.t (gSn (drL x1 y1 d1 x2 y2 d2 x3 y3 d3 p s (drN p q s)) x0) && (Sn.x (gSn (drL x1 y1 d1 x2 y2 d2 x3 y3 d3 p s (drN p q s)) x0) == atV x1 y1 d1 (Sn.t (gSn (drL x1 y1 d1 x2 y2 d2 x3 y3 d3 p s (drN p q s)) x0)) && (Sn.y (gSn (drL x1 y1 d1 x2 y2 d2 x3 y3 d3 p s (drN p q s)) x0) == atV x2 y2 d2 (Sn.t
 (gSn (drL x1 y1 d1 x2 y2 d2 x3 y3 d3 p s (drN p q s)) x0)) && (Sn.z (gSn (drL x1 y1 d1 x2 y2 d2 x3 y3 d3 p s (drN p q s)) x0) == faZ x3 y3 d3 (Sn.t (gSn (drL x1 y1 d1 x2 y2 d2 x3 y3 d3 p s (drN p q s)) x0)) && (Sn.e (gSn (drL x1 y1 d1 x2 y2 d2 x3 y3 d3 p s (drN p q s)) x0) == 0 && true)))))) = false
 -> (decide ((↑x0 : Int) > (0 : Int)) = true -> b_2 = b_2 /\ (((0 : Int) ≤ IntKind.i64.wrap ((↑x0 : Int) - (1 : Int)) /\ IntKind.i64.wrap ((↑x0 : Int) - (1 : Int)) < (↑(drN p q s) : Int)) /\ AOK a (drN p q s)) /\ bk a = bk a /\ ofs a + Int.toNat (IntKind.i64.wrap ((↑x0 : Int) - (1 : Int))) * (5 :
 Nat) = ofs a + Int.toNat (IntKind.i64.wrap ((↑x0 : Int) - (1 : Int))) * (5 : Nat) /\ lgo (cSn (drL x1 y1 d1 x2 y2 d2 x3 y3 d3 p s (drN p q s))) (Int.toNat (IntKind.i64.wrap ((↑x0 : Int) - (1 : Int))) * (5 : Nat)) = some (Value.int .i64 (Sn.t (gSn (drL x1 y1 d1 x2 y2 d2 x3 y3 d3 p s (drN p q s))
 (Int.toNat (IntKind.i64.wrap ((↑x0 : Int) - (1 : Int))))))) /\ b_1 = b_1 /\ Value.bool (Sn.t (gSn (drL x1 y1 d1 x2 y2 d2 x3 y3 d3 p s (drN p q s)) x0) != IntKind.i64.wrap (Sn.t (gSn (drL x1 y1 d1 x2 y2 d2 x3 y3 d3 p s (drN p q s)) (Int.toNat (IntKind.i64.wrap ((↑x0 : Int) - (1 : Int))))) + s)) =
 Value.bool (!(Sn.t (gSn (drL x1 y1 d1 x2 y2 d2 x3 y3 d3 p s (drN p q s)) x0) == Sn.t (gSn (drL x1 y1 d1 x2 y2 d2 x3 y3 d3 p s (drN p q s)) x0) && (Sn.x (gSn (drL x1 y1 d1 x2 y2 d2 x3 y3 d3 p s (drN p q s)) x0) == atV x1 y1 d1 (Sn.t (gSn (drL x1 y1 d1 x2 y2 d2 x3 y3 d3 p s (drN p q s)) x0)) && (Sn.y
 (gSn (drL x1 y1 d1 x2 y2 d2 x3 y3 d3 p s (drN p q s)) x0) == atV x2 y2 d2 (Sn.t (gSn (drL x1 y1 d1 x2 y2 d2 x3 y3 d3 p s (drN p q s)) x0)) && (Sn.z (gSn (drL x1 y1 d1 x2 y2 d2 x3 y3 d3 p s (drN p q s)) x0) == faZ x3 y3 d3 (Sn.t (gSn (drL x1 y1 d1 x2 y2 d2 x3 y3 d3 p s (drN p q s)) x0)) && (Sn.e (gSn
 (drL x1 y1 d1 x2 y2 d2 x3 y3 d3 p s (drN p q s)) x0) == 0 && true))))) || decide ((↑x0 : Int) > (0 : Int)) && Sn.t (gSn (drL x1 y1 d1 x2 y2 d2 x3 y3 d3 p s (drN p q s)) x0) != IntKind.i64.wrap (Sn.t (gSn (drL x1 y1 d1 x2 y2 d2 x3 y3 d3 p s (drN p q s)) (Int.toNat (IntKind.i64.wrap ((↑x0 : Int) - (1
 : Int))))) + s)) /\ True) /\ (decide ((↑x0 : Int) > (0 : Int)) = false -> Value.bool false = Value.bool (!(Sn.t (gSn (drL x1 y1 d1 x2 y2 d2 x3 y3 d3 p s (drN p q s)) x0) == Sn.t (gSn (drL x1 y1 d1 x2 y2 d2 x3 y3 d3 p s (drN p q s)) x0) && (Sn.x (gSn (drL x1 y1 d1 x2 y2 d2 x3 y3 d3 p s (drN p q s))
 x0) == atV x1 y1 d1 (Sn.t (gSn (drL x1 y1 d1 x2 y2 d2 x3 y3 d3 p s (drN p q s)) x0)) && (Sn.y (gSn (drL x1 y1 d1 x2 y2 d2 x3 y3 d3 p s (drN p q s)) x0) == atV x2 y2 d2 (Sn.t (gSn (drL x1 y1 d1 x2 y2 d2 x3 y3 d3 p s (drN p q s)) x0)) && (Sn.z (gSn (drL x1 y1 d1 x2 y2 d2 x3 y3 d3 p s (drN p q s)) x0)
 == faZ x3 y3 d3 (Sn.t (gSn (drL x1 y1 d1 x2 y2 d2 x3 y3 d3 p s (drN p q s)) x0)) && (Sn.e (gSn (drL x1 y1 d1 x2 y2 d2 x3 y3 d3 p s (drN p q s)) x0) == 0 && true))))) || decide ((↑x0 : Int) > (0 : Int)) && Sn.t (gSn (drL x1 y1 d1 x2 y2 d2 x3 y3 d3 p s (drN p q s)) x0) != IntKind.i64.wrap (Sn.t (gSn
 (drL x1 y1 d1 x2 y2 d2 x3 y3 d3 p s (drN p q s)) (Int.toNat (IntKind.i64.wrap ((↑x0 : Int) - (1 : Int))))) + s)) /\ True)))) /\ ∀ (junk : Nat -> Value), ((!(Sn.t (gSn (drL x1 y1 d1 x2 y2 d2 x3 y3 d3 p s (drN p q s)) x0) == Sn.t (gSn (drL x1 y1 d1 x2 y2 d2 x3 y3 d3 p s (drN p q s)) x0) && (Sn.x (gSn
 (drL x1 y1 d1 x2 y2 d2 x3 y3 d3 p s (drN p q s)) x0) == atV x1 y1 d1 (Sn.t (gSn (drL x1 y1 d1 x2 y2 d2 x3 y3 d3 p s (drN p q s)) x0)) && (Sn.y (gSn (drL x1 y1 d1 x2 y2 d2 x3 y3 d3 p s (drN p q s)) x0) == atV x2 y2 d2 (Sn.t (gSn (drL x1 y1 d1 x2 y2 d2 x3 y3 d3 p s (drN p q s)) x0)) && (Sn.z (gSn (drL
 x1 y1 d1 x2 y2 d2 x3 y3 d3 p s (drN p q s)) x0) == faZ x3 y3 d3 (Sn.t (gSn (drL x1 y1 d1 x2 y2 d2 x3 y3 d3 p s (drN p q s)) x0)) && (Sn.e (gSn (drL x1 y1 d1 x2 y2 d2 x3 y3 d3 p s (drN p q s)) x0) == 0 && true))))) || decide ((↑x0 : Int) > (0 : Int)) && Sn.t (gSn (drL x1 y1 d1 x2 y2 d2 x3 y3 d3 p s
 (drN p q s)) x0) != IntKind.i64.wrap (Sn.t (gSn (drL x1 y1 d1 x2 y2 d2 x3 y3 d3 p s (drN p q s)) (Int.toNat (IntKind.i64.wrap ((↑x0 : Int) - (1 : Int))))) + s)) = true -> Value.bool false = Value.bool true) /\ ((!(Sn.t (gSn (drL x1 y1 d1 x2 y2 d2 x3 y3 d3 p s (drN p q s)) x0) == Sn.t (gSn (drL x1 y1
 d1 x2 y2 d2 x3 y3 d3 p s (drN p q s)) x0) && (Sn.x (gSn (drL x1 y1 d1 x2 y2 d2 x3 y3 d3 p s (drN p q s)) x0) == atV x1 y1 d1 (Sn.t (gSn (drL x1 y1 d1 x2 y2 d2 x3 y3 d3 p s (drN p q s)) x0)) && (Sn.y (gSn (drL x1 y1 d1 x2 y2 d2 x3 y3 d3 p s (drN p q s)) x0) == atV x2 y2 d2 (Sn.t (gSn (drL x1 y1 d1 x2
 y2 d2 x3 y3 d3 p s (drN p q s)) x0)) && (Sn.z (gSn (drL x1 y1 d1 x2 y2 d2 x3 y3 d3 p s (drN p q s)) x0) == faZ x3 y3 d3 (Sn.t (gSn (drL x1 y1 d1 x2 y2 d2 x3 y3 d3 p s (drN p q s)) x0)) && (Sn.e (gSn (drL x1 y1 d1 x2 y2 d2 x3 y3 d3 p s (drN p q s)) x0) == 0 && true))))) || decide ((↑x0 : Int) > (0 :
 Int)) && Sn.t (gSn (drL x1 y1 d1 x2 y2 d2 x3 y3 d3 p s (drN p q s)) x0) != IntKind.i64.wrap (Sn.t (gSn (drL x1 y1 d1 x2 y2 d2 x3 y3 d3 p s (drN p q s)) (Int.toNat (IntKind.i64.wrap ((↑x0 : Int) - (1 : Int))))) + s)) = false -> ∃ y, y ≤ drN p q s /\ drN p q s - y < drN p q s - x0 /\ Value.int .i64
 (IntKind.i64.wrap ((↑x0 : Int) + (1 : Int))) = Value.int .i64 (↑y : Int) /\ True)))) /\ (decide ((↑x0 : Int) < (↑(drN p q s) : Int)) = false -> Value.bool true = Value.bool true))))) := by kernel_rfl
set_option maxHeartbeats 4000000 in
theorem lfn0_sp (x1 y1 d1 x2 y2 d2 x3 y3 d3 : Int) (p q s : Int) (he : drE x1 y1 d1 x2 y2 d2 x3 y3 d3 p q s = 0) : SpecG Tryd.prog wE ([]) 8 #[.agg #[.int .i64 x1, .int .i64 y1, .int .i64 d1, .int .i64 x2, .int .i64 y2, .int .i64 d2, .int .i64 x3, .int .i64 y3, .int .i64 d3], .agg #[.int .i64 p, .int .i64 q, .int .i64 s]] ([]) (fun _ => .bool true) := by
  refine specG_of (h := lfn0_h x1 y1 d1 x2 y2 d2 x3 y3 d3 p q s) (?_ : wpG Tryd.prog wE ([]) 400 8 [.agg #[.int .i64 x1, .int .i64 y1, .int .i64 d1, .int .i64 x2, .int .i64 y2, .int .i64 d2, .int .i64 x3, .int .i64 y3, .int .i64 d3], .agg #[.int .i64 p, .int .i64 q, .int .i64 s]] (lfn0_h x1 y1 d1 x2 y2 d2 x3 y3 d3 p q s) ([]) (fun _ => .bool true))
  rw [lfn0_x]
  (repeat' (first | with_reducible exact rfl | exact trivial | with_reducible assumption | (with_reducible exact law_sp) | (with_reducible exact drw2_sp _ _ _ _ _ _ _ _ _ _ _ _ he) | exact cSn_len _ | exact cSn_one _ | exact cPt_len _ | exact cPt_one _ | exact cU_len _ | exact cI_len _ | exact cB_len _ | exact cU_one _ | exact cI_one _ | exact cB_one _ | exact (fun _ h => h) | exact (fun _ h => (List.not_mem_nil h).elim) | (with_reducible refine e1_in ?_) | (with_reducible refine e2_in ?_) | (with_reducible refine lx_in (Nat.le_of_ble_eq_true rfl) ?_) | (with_reducible refine rqx_rf ?_) | (with_reducible refine rqx_in ?_ ?_ ?_) | (with_reducible apply And.intro) | (with_reducible intro _)))
  all_goals (try (first | rfl | (simp only [*, Bool.and_true, Bool.true_and, Bool.and_false, Bool.false_and, Bool.or_true, Bool.true_or, Bool.or_false, Bool.false_or, Bool.not_true, Bool.not_false, cond_true, cond_false]; done)))
  all_goals (have h64 := dr_64 he; have h1 := dn_n p q s; have hc := dn_c he)
  all_goals (try simp only [dn_w he, Int.toNat_natCast] at *)
  all_goals (first
    | rfl
    | omega
    | exact cSn_get0 (m := 0) (by rw [dr_len]; omega)
    | exact cSn_get0 (by rw [dr_len]; omega)
    | (exact ⟨0, Nat.zero_le _, rfl, trivial⟩)
    | (rw [hc] at *; contradiction)
    | (have hi := lt_d ‹_›; first | omega | exact cSn_get0 (by rw [dr_len]; exact hi) | exact cSn_get1 (by rw [dr_len]; exact hi) | exact cSn_get2 (by rw [dr_len]; exact hi) | exact cSn_get3 (by rw [dr_len]; exact hi) | exact cSn_get4 (by rw [dr_len]; exact hi) | exact fat0_sp _ _ _ _ _ _ _ _ _ _ (dn_f he hi) | exact ⟨_ + 1, hi, (by show _ - (_ + 1) < _; omega), wr_s (by omega), trivial⟩)
    | (have hi := lt_d ‹_›; have h0 := of_decide_eq_true ‹decide ((_ : Int) > 0) = true›; first | (rw [wm_n (by omega) (by omega)]; omega) | (rw [wm_t (by omega) ‹_›]; exact cSn_get0 (by rw [dr_len]; omega)))
    | (have hi := lt_d ‹_›; have hs := dn_s (x1 := x1) (y1 := y1) (d1 := d1) (x2 := x2) (y2 := y2) (d2 := d2) (x3 := x3) (y3 := y3) (d3 := d3) hi; simp only [hs, Bool.false_or] at *; first | rfl | contradiction | (have hh := ‹decide ((_ : Int) > 0) = _›; rw [hh]; rfl) | (have hh := ‹(decide ((_ : Int) > 0) && _) = true›; rw [Bool.and_eq_true] at hh; have h0 := of_decide_eq_true hh.1; rw [dn_o he hi (by omega)] at hh; cases hh.2))
    | trace_state)
def lfn1_h (x1 y1 d1 x2 y2 d2 x3 y3 d3 : Int) (p q s : Int) : Hint := .specg wE [] [] [] (fun ads0 x ↦ Value.bool true) (.lit (ho 0 9 (.pl (.ob 1 (.pl (.ob 1 (.pl (.ob 1 (.specg [] [] [] [] (fun ads0 ads ↦ Value.tuple #[Value.slice none (0 : Nat) (0 : Nat), .int .i64 (drE x1 y1 d1 x2 y2 d2 x3 y3 d3 p q s)]) (.pl (.split (.pl (.pl (.perm [] .nil))) (.draw [0, 1] none
 [0, 1] (.take 0 (.take 1 (.pl (.take 2 (.pl (.take 3 (.take 4 (.lit (.take 5 (.lit (.take 6 (.lit (.take 7 (.lit (.take 8 (.lit (.take 9 (.lit (.take 10 (.lit (.take 11 (.lit (.take 12 (.take 13 (.lit (.take 14 (.lit (.take 15 (.lit (.take 16 (.lit (.take 17 (.lit (.take 18 (.lit (.take 19 (.lit
 (.take 20 (.lit (.take 21 (.lit (.take 22 (.lit (.take 23 (.lit (.take 24 (.take 25 (.lit (.take 26 (.lit (.take 27 (.lit (.take 28 (.lit (.take 29 (.lit (.take 30 (.lit (.take 31 (.lit (.take 32 (.lit (.take 33 (.lit (.take 34 (.lit (.take 35 (.lit (.take 36 (.lit (.take 37 (.lit (.take 38 (.lit
 (.lit (.perm [] .nil))))))))))))))))))))))))))))))))))))))))))))))))))))))))))))))))))))))))))))))))))))))))
theorem lfn1_x (x1 y1 d1 x2 y2 d2 x3 y3 d3 : Int) (p q s : Int) : wpG Tryd.prog wE ([]) 400 8 [.agg #[.int .i64 x1, .int .i64 y1, .int .i64 d1, .int .i64 x2, .int .i64 y2, .int .i64 d2, .int .i64 x3, .int .i64 y3, .int .i64 d3], .agg #[.int .i64 p, .int .i64 q, .int .i64 s]] (lfn1_h x1 y1 d1 x2 y2 d2 x3 y3 d3 p q s) ([]) (fun _ => .bool true) = (∀ (b b_1 : Nat), (SpecG Tryd.prog wE [] (10 : FuncId) #[] [] fun x ↦ Value.bool true) /\ (∀ (e : Ex), e ∈ wE -> e ∈ wE) /\ e1 b 9 (e1 b_1 3 ((SpecG Tryd.prog [] [] (19 : FuncId) #[Value.agg #[Value.int .i64 x1, .int .i64 y1, .int .i64 d1, .int .i64 x2, .int .i64 y2, .int .i64 d2, .int .i64 x3, .int
 .i64 y3, .int .i64 d3], .int .i64 p, .int .i64 q, .int .i64 s] [] fun ads ↦ Value.tuple #[Value.slice none (0 : Nat) (0 : Nat), .int .i64 (drE x1 y1 d1 x2 y2 d2 x3 y3 d3 p q s)]) /\ (∀ (e : Ex), e ∈ [] -> e ∈ wE) /\ ((drE x1 y1 d1 x2 y2 d2 x3 y3 d3 p q s != 0) = true -> Value.bool true = Value.bool
 true) /\ ((drE x1 y1 d1 x2 y2 d2 x3 y3 d3 p q s != 0) = false -> Value.bool false = Value.bool true)))) := by kernel_rfl
set_option maxHeartbeats 4000000 in
theorem lfn1_sp (x1 y1 d1 x2 y2 d2 x3 y3 d3 : Int) (p q s : Int) (he : ¬ drE x1 y1 d1 x2 y2 d2 x3 y3 d3 p q s = 0) : SpecG Tryd.prog wE ([]) 8 #[.agg #[.int .i64 x1, .int .i64 y1, .int .i64 d1, .int .i64 x2, .int .i64 y2, .int .i64 d2, .int .i64 x3, .int .i64 y3, .int .i64 d3], .agg #[.int .i64 p, .int .i64 q, .int .i64 s]] ([]) (fun _ => .bool true) := by
  refine specG_of (h := lfn1_h x1 y1 d1 x2 y2 d2 x3 y3 d3 p q s) (?_ : wpG Tryd.prog wE ([]) 400 8 [.agg #[.int .i64 x1, .int .i64 y1, .int .i64 d1, .int .i64 x2, .int .i64 y2, .int .i64 d2, .int .i64 x3, .int .i64 y3, .int .i64 d3], .agg #[.int .i64 p, .int .i64 q, .int .i64 s]] (lfn1_h x1 y1 d1 x2 y2 d2 x3 y3 d3 p q s) ([]) (fun _ => .bool true))
  rw [lfn1_x]
  (repeat' (first | with_reducible exact rfl | exact trivial | with_reducible assumption | (with_reducible exact law_sp) | (with_reducible exact drx_sp _ _ _ _ _ _ _ _ _ _ _ _ he) | exact cSn_len _ | exact cSn_one _ | exact cPt_len _ | exact cPt_one _ | exact cU_len _ | exact cI_len _ | exact cB_len _ | exact cU_one _ | exact cI_one _ | exact cB_one _ | exact (fun _ h => h) | exact (fun _ h => (List.not_mem_nil h).elim) | (with_reducible refine e1_in ?_) | (with_reducible refine e2_in ?_) | (with_reducible refine lx_in (Nat.le_of_ble_eq_true rfl) ?_) | (with_reducible refine rqx_rf ?_) | (with_reducible refine rqx_in ?_ ?_ ?_) | (with_reducible apply And.intro) | (with_reducible intro _)))
  all_goals (first | rfl | exact aok_g _ _ | (simp only [*, Bool.and_true, Bool.true_and, Bool.and_false, Bool.false_and, Bool.or_true, Bool.true_or, Bool.or_false, Bool.false_or, Bool.not_true, Bool.not_false, cond_true, cond_false]; done) | (simp; done) | (simp at *; done) | (decide +kernel) | (exact absurd (ne_f ‹(drE _ _ _ _ _ _ _ _ _ _ _ _ != 0) = false›) he) | omega | trace_state)

/-! The other side of the pitch: only the line of Y turns. -/
def yOK (l : List Sn) : Prop := ∀ e ∈ l, -9223372036854775808 ≤ e.y ∧ e.y ≤ 9223372036854775807
theorem ng_i {y : Int} (h : -9223372036854775807 ≤ y ∧ y ≤ 9223372036854775807) : IntKind.i64.wrap (0 - y) = -y := by rw [q64 (by omega) (by omega)]; omega
theorem mir_rng {s : Sn} (h : -9223372036854775808 ≤ s.y ∧ s.y ≤ 9223372036854775807) : sRng (mirF s) = sRng s := by
  by_cases e : s.y = -9223372036854775808
  · unfold sRng mirF
    rw [e]
    have : IntKind.i64.wrap (0 - -9223372036854775808) = -9223372036854775808 := by decide
    rw [this]
  · unfold sRng mirF
    simp only [ng_i (show -9223372036854775807 ≤ s.y ∧ s.y ≤ 9223372036854775807 by omega)]
    rw [Bool.eq_iff_iff]
    simp
    omega
theorem mir_bad {l : List Sn} (h : yOK l) {i : Nat} (hi : i < l.length) : badS (mirS l) i = badS l i := by
  unfold badS
  rw [mir_at hi, mir_rng (h _ (gSn_in hi))]
  by_cases h0 : 0 < i
  · rw [mir_at (show i - 1 < l.length by omega)]; rfl
  · rw [decide_eq_false h0, Bool.false_and, Bool.false_and]
theorem mir_fb {l : List Sn} (h : yOK l) : fbad (mirS l) = fbad l := by
  unfold fbad
  rw [mir_len]
  have : ∀ k, k ≤ l.length → (List.range k).find? (badS (mirS l)) = (List.range k).find? (badS l) := by
    intro k
    induction k with
    | zero => intro _; rfl
    | succ k ih =>
      intro hk
      rw [List.range_succ, List.find?_append, List.find?_append, ih (by omega)]
      simp only [List.find?_singleton, mir_bad h (show k < l.length by omega)]
  exact this _ (Nat.le_refl _)
theorem mir_rg {l : List Sn} (h : yOK l) {i : Nat} (hi : i < l.length) : sRng (gSn (mirS l) i) = sRng (gSn l i) := by rw [mir_at hi, mir_rng (h _ (gSn_in hi))]
theorem fb_lt {l : List Sn} {i : Nat} (h : fbad l = some i) : i < l.length := by
  unfold fbad at h
  exact List.mem_range.1 (List.mem_of_find?_eq_some h)
theorem mir_ckE {l : List Sn} (h : yOK l) : ckE (mirS l) = ckE l := by
  unfold ckE
  rw [mir_len, mir_fb h]
  cases hf : fbad l with
  | none => rfl
  | some i => simp only [mir_rg h (fb_lt hf)]
theorem mir_ckI {l : List Sn} (h : yOK l) : ckI (mirS l) = ckI l := by
  unfold ckI
  rw [mir_len, mir_fb h]
theorem mir_z {l : List Sn} {i : Nat} (hi : i < l.length) : (gSn (mirS l) i).z = (gSn l i).z := by rw [mir_at hi]; rfl
theorem mir_low (l : List Sn) : ∀ k, k ≤ l.length → lowI (mirS l) k = lowI l k := by
  intro k
  induction k with
  | zero => intro _; rfl
  | succ k ih =>
    intro hk
    have e := ih (by omega)
    simp only [lowI]
    rw [e, mir_z (show k < l.length by omega), mir_z (low_len (by omega) (by omega))]
theorem mir_buB {l : List Sn} (h : yOK l) : buB (mirS l) = buB l := by
  by_cases h0 : l.length = 0
  · have := nil_of h0; subst this; rfl
  · unfold buB
    rw [mir_ckE h, mir_len, mir_low l _ (Nat.le_refl _), mir_z (low_len (Nat.le_refl _) (by omega))]
theorem mir_buN {l : List Sn} (h : yOK l) : buN (mirS l) = buN l := by
  unfold buN
  rw [mir_buB h, mir_len, mir_low l _ (Nat.le_refl _)]
theorem mir_bh {l : List Sn} (h : yOK l) : bhS (mirS l) = mirS (bhS l) := by
  unfold bhS
  rw [mir_buN h]
  unfold mirS
  rw [List.map_drop]
theorem mir_sg (b : List Sn) : sgB (mirS b) = sgB b := by
  unfold sgB mirS
  rw [List.all_map]
  cases b with
  | nil => rfl
  | cons p b => rfl
theorem mir_ftE {l : List Sn} (h : yOK l) : ftE (mirS l) = ftE l := by
  unfold ftE seE
  rw [mir_ckE h, mir_bh h, mir_len, mir_sg]
theorem mir_X (b : List Sn) : (mirS b).map ptX = b.map ptX := by unfold mirS; rw [List.map_map]; rfl
theorem mir_Z (b : List Sn) : (mirS b).map ptZ = b.map ptZ := by unfold mirS; rw [List.map_map]; rfl
theorem mir_pY {b : List Sn} (h : ∀ m, m < b.length → sRng (gSn b m) = true) {m : Nat} (hm : m < b.length) : gPt ((mirS b).map ptY) m = ⟨(gPt (b.map ptY) m).t, -(gPt (b.map ptY) m).v⟩ := by
  rw [map_at (by rw [mir_len]; exact hm), map_at hm, mir_at hm]
  have hb := sRng_b (h m hm)
  show Pt.mk _ (IntKind.i64.wrap (0 - (gSn b m).y)) = _
  rw [ng_i (by omega)]; rfl
theorem mir_sums {b : List Sn} (h : ∀ m, m < b.length → sRng (gSn b m) = true) : ∀ k, k ≤ b.length → sS ((mirS b).map ptY) k = sS (b.map ptY) k ∧ sQ ((mirS b).map ptY) k = sQ (b.map ptY) k ∧ sU ((mirS b).map ptY) k = -sU (b.map ptY) k ∧ sW ((mirS b).map ptY) k = -sW (b.map ptY) k := by
  intro k
  induction k with
  | zero => intro _; simp [sS, sQ, sU, sW]
  | succ k ih =>
    intro hk
    obtain ⟨h1, h2, h3, h4⟩ := ih (by omega)
    simp only [sS, sQ, sU, sW, h1, h2, h3, h4, mir_pY h (show k < b.length by omega)]
    refine ⟨trivial, trivial, by omega, ?_⟩
    rw [Int.mul_neg]; omega
theorem mir_Y {b : List Sn} (h : ∀ m, m < b.length → sRng (gSn b m) = true) : liA ((mirS b).map ptY) = -liA (b.map ptY) ∧ liB ((mirS b).map ptY) = -liB (b.map ptY) ∧ liD ((mirS b).map ptY) = liD (b.map ptY) := by
  have e : ((mirS b).map ptY).length = (b.map ptY).length := by rw [List.length_map, List.length_map, mir_len]
  have e2 : (b.map ptY).length = b.length := List.length_map _
  obtain ⟨h1, h2, h3, h4⟩ := mir_sums h b.length (Nat.le_refl _)
  unfold liA liB liD
  rw [e, e2, h1, h2, h3, h4]
  refine ⟨?_, ?_, rfl⟩
  · rw [Int.mul_neg, Int.mul_neg]; omega
  · rw [Int.mul_neg, Int.mul_neg]; omega


theorem mz {l : List Sn} (hy : yOK l) : zL (ftE l) (liA ((mirS (bhS l)).map ptY)) = IntKind.i64.wrap (0 - zL (ftE l) (liA ((bhS l).map ptY))) ∧ zL (ftE l) (liB ((mirS (bhS l)).map ptY)) = IntKind.i64.wrap (0 - zL (ftE l) (liB ((bhS l).map ptY))) ∧ zL (ftE l) (liD ((mirS (bhS l)).map ptY)) = zL (ftE l) (liD ((bhS l).map ptY)) := by
  by_cases h : ftE l = 0
  · have h1 : (ftE l != 0) = false := by simpa using h
    have hc := ft_ck h1
    have hE : liE ((bhS l).map ptY) = 0 := by rw [liE_Y (ft_n hc), ← ft_v2 hc]; exact h
    obtain ⟨_, _, _, b1, b2, _⟩ := li_w (liE_0 hE).1
    obtain ⟨e1, e2, e3⟩ := mir_Y (bh_ok (ft_n hc)).2
    rw [h]
    simp only [zL_0]
    rw [e1, e2, e3, ng_i (by omega), ng_i (by omega)]
    exact ⟨rfl, rfl, rfl⟩
  · simp only [zL_n h]
    exact ⟨by decide, by decide, trivial⟩


theorem ftp_n {a : Option Addr} {c n : Nat} {M : List Sn} (h : M.length = n) (hA : AOK a n) (hn : n ≤ 9223372036854775807) (hc : n ≤ c) : SpecG Tryd.prog wE [(a, cSn M)] 13 #[.slice a n c] [] (fun _ => ftV (ftE M) (bhS M)) := by
  subst h
  exact ftp_sp a c M hA hn hc

def lfm_h (a : Option Addr) (c : Nat) (l : List Sn) : Hint := .specg wE [] [] [] (fun ads0 x ↦ Value.bool true) (.lit (.pl (.split (.perm [] .nil) (.specg wE [0] [cSn l] [] (fun ads0 x ↦ ftV (ftE l) (bhS l)) (ho 1 9 (.specg [] [0] [cSn l] [RowT.mk (37 : TypeId) (5 : Nat) (List.length l) (cSn (mirS l))] (fun ads0 ads ↦ Value.slice (Prod.fst (nthS ads (0 : Nat)))
 (List.length l) (Prod.snd (nthS ads (0 : Nat)))) (.specg wE [2] [cSn (mirS l)] [] (fun ads0 x ↦ ftV (ftE (mirS l)) (bhS (mirS l))) (ho 3 9 (.pl (.split (.perm [] .nil) (.cut [((2 : Nat), .bool (zL (ftE l) (liA (List.map ptX (bhS l))) == zL (ftE (mirS l)) (liA (List.map ptX (bhS (mirS l)))) && (zL
 (ftE l) (liB (List.map ptX (bhS l))) == zL (ftE (mirS l)) (liB (List.map ptX (bhS (mirS l)))) && (zL (ftE l) (liD (List.map ptX (bhS l))) == zL (ftE (mirS l)) (liD (List.map ptX (bhS (mirS l)))) && true)) && (zL (ftE l) (liA (List.map ptZ (bhS l))) == zL (ftE (mirS l)) (liA (List.map ptZ (bhS (mirS
 l)))) && (zL (ftE l) (liB (List.map ptZ (bhS l))) == zL (ftE (mirS l)) (liB (List.map ptZ (bhS (mirS l)))) && (zL (ftE l) (liD (List.map ptZ (bhS l))) == zL (ftE (mirS l)) (liD (List.map ptZ (bhS (mirS l)))) && true)) && (zL (ftE (mirS l)) (liA (List.map ptY (bhS (mirS l)))) == IntKind.i64.wrap ((0
 : Int) - zL (ftE l) (liA (List.map ptY (bhS l)))) && (zL (ftE (mirS l)) (liB (List.map ptY (bhS (mirS l)))) == IntKind.i64.wrap ((0 : Int) - zL (ftE l) (liB (List.map ptY (bhS l)))) && (zL (ftE (mirS l)) (liD (List.map ptY (bhS (mirS l)))) == zL (ftE l) (liD (List.map ptY (bhS l))) && true))))))]
 (ho 1 3 (ho 3 3 (.split (.lit (ho 1 3 (.lit (.lit (ho 3 3 (.lit (.lit (.split (.lit (ho 3 3 (hl 3 (.ob 1 (hl 4 (.ob 1 (hl 4 (.ob 1 (.lit (.lit (.lit .nil))))))))))) (hl 14 (.lit .nil)))))))))) (hl 20 (.lit .nil))))) (.perm [] .nil))))))))))))
theorem lfm_x (a : Option Addr) (c : Nat) (l : List Sn) : wpG Tryd.prog wE ([(a, cSn l)]) 400 9 [.slice a l.length c] (lfm_h a c l) ([]) (fun _ => .bool true) = ((SpecG Tryd.prog wE [] (10 : FuncId) #[] [] fun x ↦ Value.bool true) /\ (∀ (e : Ex), e ∈ wE -> e ∈ wE) /\ (decide ((↑(List.length l) : Int) > (200 : Int)) = true -> Value.bool true = Value.bool true) /\ (decide ((↑(List.length l) : Int) > (200 : Int)) = false -> cSn l = cSn l /\ (SpecG Tryd.prog wE
 [(a, cSn l)] (13 : FuncId) #[Value.slice a (List.length l) c] [] fun x ↦ ftV (ftE l) (bhS l)) /\ (∀ (e : Ex), e ∈ wE -> e ∈ wE) /\ ∀ (b : Nat), e2 b 9 (cSn l = cSn l /\ (SpecG Tryd.prog [] [(a, cSn l)] (22 : FuncId) #[Value.slice a (List.length l) c] [RowT.mk (37 : TypeId) (5 : Nat) (List.length l)
 (cSn (mirS l))] fun ads ↦ Value.slice (Prod.fst (nthS ads (0 : Nat))) (List.length l) (Prod.snd (nthS ads (0 : Nat)))) /\ (∀ (e : Ex), e ∈ [] -> e ∈ wE) /\ ∀ (a : Option Addr) (cap : Nat), AOK a (List.length l) -> List.length l ≤ cap -> cSn (mirS l) = cSn (mirS l) /\ (SpecG Tryd.prog wE [(a, cSn
 (mirS l))] (13 : FuncId) (Array.mk [.slice a (List.length l) cap]) [] fun x ↦ ftV (ftE (mirS l)) (bhS (mirS l))) /\ (∀ (e : Ex), e ∈ wE -> e ∈ wE) /\ ∀ (b_1 : Nat), e2 b_1 9 (((ftE l != ftE (mirS l)) = true -> Value.bool false = Value.bool true) /\ ((ftE l != ftE (mirS l)) = false -> (e1 b 3 (e1 b_1
 3 (((zL (ftE l) (liA (List.map ptX (bhS l))) == zL (ftE (mirS l)) (liA (List.map ptX (bhS (mirS l)))) && (zL (ftE l) (liB (List.map ptX (bhS l))) == zL (ftE (mirS l)) (liB (List.map ptX (bhS (mirS l)))) && (zL (ftE l) (liD (List.map ptX (bhS l))) == zL (ftE (mirS l)) (liD (List.map ptX (bhS (mirS
 l)))) && true))) = true -> e1 b 3 (e1 b_1 3 (((zL (ftE l) (liA (List.map ptZ (bhS l))) == zL (ftE (mirS l)) (liA (List.map ptZ (bhS (mirS l)))) && (zL (ftE l) (liB (List.map ptZ (bhS l))) == zL (ftE (mirS l)) (liB (List.map ptZ (bhS (mirS l)))) && (zL (ftE l) (liD (List.map ptZ (bhS l))) == zL (ftE
 (mirS l)) (liD (List.map ptZ (bhS (mirS l)))) && true))) = true -> e1 b_1 3 (e1 b 3 (Value.bool (zL (ftE (mirS l)) (liA (List.map ptY (bhS (mirS l)))) == IntKind.i64.wrap ((0 : Int) - zL (ftE l) (liA (List.map ptY (bhS l)))) && (zL (ftE (mirS l)) (liB (List.map ptY (bhS (mirS l)))) ==
 IntKind.i64.wrap ((0 : Int) - zL (ftE l) (liB (List.map ptY (bhS l)))) && (zL (ftE (mirS l)) (liD (List.map ptY (bhS (mirS l)))) == zL (ftE l) (liD (List.map ptY (bhS l))) && true))) = Value.bool (zL (ftE l) (liA (List.map ptX (bhS l))) == zL (ftE (mirS l)) (liA (List.map ptX (bhS (mirS l)))) && (zL
 (ftE l) (liB (List.map ptX (bhS l))) == zL (ftE (mirS l)) (liB (List.map ptX (bhS (mirS l)))) && (zL (ftE l) (liD (List.map ptX (bhS l))) == zL (ftE (mirS l)) (liD (List.map ptX (bhS (mirS l)))) && true)) && (zL (ftE l) (liA (List.map ptZ (bhS l))) == zL (ftE (mirS l)) (liA (List.map ptZ (bhS (mirS
 l)))) && (zL (ftE l) (liB (List.map ptZ (bhS l))) == zL (ftE (mirS l)) (liB (List.map ptZ (bhS (mirS l)))) && (zL (ftE l) (liD (List.map ptZ (bhS l))) == zL (ftE (mirS l)) (liD (List.map ptZ (bhS (mirS l)))) && true)) && (zL (ftE (mirS l)) (liA (List.map ptY (bhS (mirS l)))) == IntKind.i64.wrap ((0
 : Int) - zL (ftE l) (liA (List.map ptY (bhS l)))) && (zL (ftE (mirS l)) (liB (List.map ptY (bhS (mirS l)))) == IntKind.i64.wrap ((0 : Int) - zL (ftE l) (liB (List.map ptY (bhS l)))) && (zL (ftE (mirS l)) (liD (List.map ptY (bhS (mirS l)))) == zL (ftE l) (liD (List.map ptY (bhS l))) && true))))) /\
 True))) /\ ((zL (ftE l) (liA (List.map ptZ (bhS l))) == zL (ftE (mirS l)) (liA (List.map ptZ (bhS (mirS l)))) && (zL (ftE l) (liB (List.map ptZ (bhS l))) == zL (ftE (mirS l)) (liB (List.map ptZ (bhS (mirS l)))) && (zL (ftE l) (liD (List.map ptZ (bhS l))) == zL (ftE (mirS l)) (liD (List.map ptZ (bhS
 (mirS l)))) && true))) = false -> Value.bool false = Value.bool (zL (ftE l) (liA (List.map ptX (bhS l))) == zL (ftE (mirS l)) (liA (List.map ptX (bhS (mirS l)))) && (zL (ftE l) (liB (List.map ptX (bhS l))) == zL (ftE (mirS l)) (liB (List.map ptX (bhS (mirS l)))) && (zL (ftE l) (liD (List.map ptX
 (bhS l))) == zL (ftE (mirS l)) (liD (List.map ptX (bhS (mirS l)))) && true)) && (zL (ftE l) (liA (List.map ptZ (bhS l))) == zL (ftE (mirS l)) (liA (List.map ptZ (bhS (mirS l)))) && (zL (ftE l) (liB (List.map ptZ (bhS l))) == zL (ftE (mirS l)) (liB (List.map ptZ (bhS (mirS l)))) && (zL (ftE l) (liD
 (List.map ptZ (bhS l))) == zL (ftE (mirS l)) (liD (List.map ptZ (bhS (mirS l)))) && true)) && (zL (ftE (mirS l)) (liA (List.map ptY (bhS (mirS l)))) == IntKind.i64.wrap ((0 : Int) - zL (ftE l) (liA (List.map ptY (bhS l)))) && (zL (ftE (mirS l)) (liB (List.map ptY (bhS (mirS l)))) == IntKind.i64.wrap
 ((0 : Int) - zL (ftE l) (liB (List.map ptY (bhS l)))) && (zL (ftE (mirS l)) (liD (List.map ptY (bhS (mirS l)))) == zL (ftE l) (liD (List.map ptY (bhS l))) && true))))) /\ True)))) /\ ((zL (ftE l) (liA (List.map ptX (bhS l))) == zL (ftE (mirS l)) (liA (List.map ptX (bhS (mirS l)))) && (zL (ftE l)
 (liB (List.map ptX (bhS l))) == zL (ftE (mirS l)) (liB (List.map ptX (bhS (mirS l)))) && (zL (ftE l) (liD (List.map ptX (bhS l))) == zL (ftE (mirS l)) (liD (List.map ptX (bhS (mirS l)))) && true))) = false -> Value.bool false = Value.bool (zL (ftE l) (liA (List.map ptX (bhS l))) == zL (ftE (mirS l))
 (liA (List.map ptX (bhS (mirS l)))) && (zL (ftE l) (liB (List.map ptX (bhS l))) == zL (ftE (mirS l)) (liB (List.map ptX (bhS (mirS l)))) && (zL (ftE l) (liD (List.map ptX (bhS l))) == zL (ftE (mirS l)) (liD (List.map ptX (bhS (mirS l)))) && true)) && (zL (ftE l) (liA (List.map ptZ (bhS l))) == zL
 (ftE (mirS l)) (liA (List.map ptZ (bhS (mirS l)))) && (zL (ftE l) (liB (List.map ptZ (bhS l))) == zL (ftE (mirS l)) (liB (List.map ptZ (bhS (mirS l)))) && (zL (ftE l) (liD (List.map ptZ (bhS l))) == zL (ftE (mirS l)) (liD (List.map ptZ (bhS (mirS l)))) && true)) && (zL (ftE (mirS l)) (liA (List.map
 ptY (bhS (mirS l)))) == IntKind.i64.wrap ((0 : Int) - zL (ftE l) (liA (List.map ptY (bhS l)))) && (zL (ftE (mirS l)) (liB (List.map ptY (bhS (mirS l)))) == IntKind.i64.wrap ((0 : Int) - zL (ftE l) (liB (List.map ptY (bhS l)))) && (zL (ftE (mirS l)) (liD (List.map ptY (bhS (mirS l)))) == zL (ftE l)
 (liD (List.map ptY (bhS l))) && true))))) /\ True)))) /\ ∀ (junk : Nat -> Value), .bool (zL (ftE l) (liA (List.map ptX (bhS l))) == zL (ftE (mirS l)) (liA (List.map ptX (bhS (mirS l)))) && (zL (ftE l) (liB (List.map ptX (bhS l))) == zL (ftE (mirS l)) (liB (List.map ptX (bhS (mirS l)))) && (zL (ftE
 l) (liD (List.map ptX (bhS l))) == zL (ftE (mirS l)) (liD (List.map ptX (bhS (mirS l)))) && true)) && (zL (ftE l) (liA (List.map ptZ (bhS l))) == zL (ftE (mirS l)) (liA (List.map ptZ (bhS (mirS l)))) && (zL (ftE l) (liB (List.map ptZ (bhS l))) == zL (ftE (mirS l)) (liB (List.map ptZ (bhS (mirS l))))
 && (zL (ftE l) (liD (List.map ptZ (bhS l))) == zL (ftE (mirS l)) (liD (List.map ptZ (bhS (mirS l)))) && true)) && (zL (ftE (mirS l)) (liA (List.map ptY (bhS (mirS l)))) == IntKind.i64.wrap ((0 : Int) - zL (ftE l) (liA (List.map ptY (bhS l)))) && (zL (ftE (mirS l)) (liB (List.map ptY (bhS (mirS l))))
 == IntKind.i64.wrap ((0 : Int) - zL (ftE l) (liB (List.map ptY (bhS l)))) && (zL (ftE (mirS l)) (liD (List.map ptY (bhS (mirS l)))) == zL (ftE l) (liD (List.map ptY (bhS l))) && true))))) = Value.bool true))))) := by kernel_rfl
set_option maxHeartbeats 4000000 in
theorem lfm_sp (a : Option Addr) (c : Nat) (l : List Sn) (hA : AOK a l.length) (hl : l.length ≤ 9223372036854775807) (hc : l.length ≤ c) (hy : yOK l) : SpecG Tryd.prog wE ([(a, cSn l)]) 9 #[.slice a l.length c] ([]) (fun _ => .bool true) := by
  refine specG_of (h := lfm_h a c l) (?_ : wpG Tryd.prog wE ([(a, cSn l)]) 400 9 [.slice a l.length c] (lfm_h a c l) ([]) (fun _ => .bool true))
  rw [lfm_x]
  (repeat' (first | with_reducible exact rfl | exact trivial | with_reducible assumption | (with_reducible exact law_sp) | (with_reducible exact ftp_sp _ _ _ hA hl hc) | (with_reducible exact mir_sp _ _ _ hA (by have := ‹decide ((l.length : Int) > 200) = false›; have := of_decide_eq_false this; omega)) | exact cSn_len _ | exact cSn_one _ | exact cPt_len _ | exact cPt_one _ | exact cU_len _ | exact cI_len _ | exact cB_len _ | exact cU_one _ | exact cI_one _ | exact cB_one _ | exact (fun _ h => h) | exact (fun _ h => (List.not_mem_nil h).elim) | (with_reducible refine e1_in ?_) | (with_reducible refine e2_in ?_) | (with_reducible refine lx_in (Nat.le_of_ble_eq_true rfl) ?_) | (with_reducible refine rqx_rf ?_) | (with_reducible refine rqx_in ?_ ?_ ?_) | (with_reducible apply And.intro) | (with_reducible intro _)))
  all_goals (first | rfl | (simp only [*, Bool.and_true, Bool.true_and, Bool.and_false, Bool.false_and, Bool.or_true, Bool.true_or, Bool.or_false, Bool.false_or, Bool.not_true, Bool.not_false, cond_true, cond_false]; done) | exact ftp_n (mir_len _) (by assumption) hl (by assumption) | (obtain ⟨m1, m2, m3⟩ := mz hy; simp only [mir_ftE hy, mir_bh hy, mir_X, mir_Z, m1, m2, m3] at *; first | (simp; done) | (simp at *; done)) | trace_state)
end Go.Proofs.YtokifmeelgbkiaaDoor
