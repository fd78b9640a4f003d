/- Layer 30 (lsq): points, lines, deviations, of both. The reference. -/
import Derived.Test.YtokifmeelgbkiaaDoorVz
import Derived.KernelRfl
import Derived.Test.YtokifmeelgbkiaaDoorProg
import Derived.Test.YtokifmeelgbkiaaDoorWideG
import Derived.Test.YtokifmeelgbkiaaDoorExq
import Derived.Test.YtokifmeelgbkiaaDoorExqr
import Derived.Test.YtokifmeelgbkiaaDoorLsa
set_option linter.unusedSimpArgs false
set_option linter.unusedVariables false
set_option maxRecDepth 100000
namespace Go.Proofs.YtokifmeelgbkiaaDoor
open Go.RowKit

def rby_h (n m : Int) : Hint := .nc (.cut [((4 : Nat), .bool (decide (n > m) || decide (n < IntKind.i64.wrap ((0 : Int) - m))))] (.split (hl 3 (.lit .nil)) (hl 3 (.lit .nil))) (.perm [] .nil))
theorem rby_x (n m : Int) : wpG Tryd.prog [] ([]) 400 62 [.int .i64 n, .int .i64 m] (rby_h n m) ([]) (fun _ => .bool (byB n m)) = (((decide (n > m) = true -> Value.bool true = Value.bool (decide (n > m) || decide (n < IntKind.i64.wrap ((0 : Int) - m))) /\ True) /\ (decide (n > m) = false -> Value.bool (decide (n < IntKind.i64.wrap ((0 : Int) - m))) = Value.bool (decide (n > m) || decide (n < IntKind.i64.wrap ((0 : Int) - m))) /\
 True)) /\ ∀ (junk : Nat -> Value), .bool (decide (n > m) || decide (n < IntKind.i64.wrap ((0 : Int) - m))) = Value.bool (byB n m)) := by kernel_rfl
set_option maxHeartbeats 4000000 in
theorem rby_sp (n m : Int) (hm : 0 ≤ m ∧ m ≤ 9223372036854775807) : SpecG Tryd.prog [] ([]) 62 #[.int .i64 n, .int .i64 m] ([]) (fun _ => .bool (byB n m)) := by
  refine specG_of (h := rby_h n m) (?_ : wpG Tryd.prog [] ([]) 400 62 [.int .i64 n, .int .i64 m] (rby_h n m) ([]) (fun _ => .bool (byB n m)))
  rw [rby_x]
  have e : IntKind.i64.wrap (0 - m) = -m := by rw [IntWalk.i64_in _ (by omega)]; omega
  (try simp only [e])
  (repeat' (first | with_reducible exact rfl | exact trivial | with_reducible assumption | exact cU_len _ | exact cI_len _ | exact cB_len _ | exact cU_one _ | exact cI_one _ | exact cB_one _ | exact (fun _ h => h) | exact (fun _ h => (List.not_mem_nil h).elim) | (with_reducible refine e1_in ?_) | (with_reducible refine e2_in ?_) | (with_reducible refine lx_in (Nat.le_of_ble_eq_true rfl) ?_) | (with_reducible refine rqx_rf ?_) | (with_reducible refine rqx_in ?_ ?_ ?_) | (with_reducible apply And.intro) | (with_reducible intro _)))
  all_goals (first | rfl | (simp only [*, Bool.and_true, Bool.true_and, Bool.and_false, Bool.false_and, Bool.or_true, Bool.true_or, Bool.or_false, Bool.false_or, Bool.not_true, Bool.not_false, cond_true, cond_false]; done) | (unfold byB; rw [Bool.or_comm]; done) | (unfold byB; simp_all; done) | trace_state)
def rpt_h (a : Option Addr) (c : Nat) (l : List Pt) : Hint := .pl (.split (.perm [] .nil) (.pl (.split (.perm [] .nil) (.pl (.inv (ptL l) fun x0 ↦ .split (.ix (.lst (0 : Nat) (x0 * (2 : Nat)) (Value.int .i64 (Pt.t (gPt l x0))) (.lst (0 : Nat) (x0 * (2 : Nat) + (1 : Nat)) (Value.int .i64 (Pt.v (gPt l x0))) (ho 1 2 (.cut [((29 : Nat), .bool (decide (Pt.t (gPt l
 x0) < 0) || (decide (Pt.t (gPt l x0) > 8000) || byB (Pt.v (gPt l x0)) (1000000 : Int))))] (.ob 1 (.split (hl 6 (.lit .nil)) (.lit (.ob 1 (.lit (.lit (.split (.lit (.lit (.lit .nil))) (.lit (.ob 1 (.lit (.specg [] [] [] [] (fun ads0 x ↦ Value.bool (byB (Pt.v (gPt l x0)) (1000000 : Int))) (.lit
 .nil)))))))))))) (.split (.perm [] .nil) (.perm [] .nil))))))) (.perm [] .nil))))))
theorem rpt_x (a : Option Addr) (c : Nat) (l : List Pt) : wpG Tryd.prog [] ([(a, cPt l)]) 400 50 [.slice a l.length c] (rpt_h a c l) ([]) (fun _ => .int .i64 (ptE l)) = ((decide ((↑(List.length l) : Int) > (64 : Int)) = true -> Value.int .i64 9 = Value.int .i64 (ptE l)) /\ (decide ((↑(List.length l) : Int) > (64 : Int)) = false -> (decide ((↑(List.length l) : Int) < (2 : Int)) = true -> Value.int .i64 1 = Value.int .i64 (ptE l)) /\ (decide ((↑(List.length l) : Int) <
 (2 : Int)) = false -> (∃ x, (x ≤ List.length l /\ ∀ (m : Nat), m < x -> ptO (gPt l m) = true) /\ Value.int .i64 0 = Value.int .i64 (↑x : Int) /\ True) /\ ∀ (x0 : Nat), (x0 ≤ List.length l /\ ∀ (m : Nat), m < x0 -> ptO (gPt l m) = true) -> ∀ (junk : Nat -> Value), (decide ((↑x0 : Int) <
 (↑(List.length l) : Int)) = true -> (((0 : Int) ≤ (↑x0 : Int) /\ (↑x0 : Int) < (↑(List.length l) : Int)) /\ AOK a (List.length l)) /\ bk a = bk a /\ ofs a + x0 * (2 : Nat) = ofs a + x0 * (2 : Nat) /\ lgo (cPt l) (x0 * (2 : Nat)) = some (Value.int .i64 (Pt.t (gPt l x0))) /\ bk a = bk a /\ ofs a + x0
 * (2 : Nat) + (1 : Nat) = ofs a + (x0 * (2 : Nat) + (1 : Nat)) /\ lgo (cPt l) (x0 * (2 : Nat) + (1 : Nat)) = some (Value.int .i64 (Pt.v (gPt l x0))) /\ ∀ (b : Nat), b = b /\ True /\ b = b /\ True /\ (b = b /\ (decide (Pt.t (gPt l x0) < 0) = true -> Value.bool true = Value.bool (decide (Pt.t (gPt l
 x0) < 0) || (decide (Pt.t (gPt l x0) > 8000) || byB (Pt.v (gPt l x0)) (1000000 : Int))) /\ True) /\ (decide (Pt.t (gPt l x0) < 0) = false -> b = b /\ (decide (Pt.t (gPt l x0) > 8000) = true -> Value.bool true = Value.bool (decide (Pt.t (gPt l x0) < 0) || (decide (Pt.t (gPt l x0) > 8000) || byB (Pt.v
 (gPt l x0)) (1000000 : Int))) /\ True) /\ (decide (Pt.t (gPt l x0) > 8000) = false -> b = b /\ (SpecG Tryd.prog [] [] (62 : FuncId) #[Value.int .i64 (Pt.v (gPt l x0)), .int .i64 1000000] [] fun x ↦ Value.bool (byB (Pt.v (gPt l x0)) (1000000 : Int))) /\ (∀ (e : Ex), e ∈ [] -> e ∈ []) /\ Value.bool
 (byB (Pt.v (gPt l x0)) (1000000 : Int)) = Value.bool (decide (Pt.t (gPt l x0) < 0) || (decide (Pt.t (gPt l x0) > 8000) || byB (Pt.v (gPt l x0)) (1000000 : Int))) /\ True))) /\ ∀ (junk : Nat -> Value), ((decide (Pt.t (gPt l x0) < 0) || (decide (Pt.t (gPt l x0) > 8000) || byB (Pt.v (gPt l x0))
 (1000000 : Int))) = true -> Value.int .i64 2 = Value.int .i64 (ptE l)) /\ ((decide (Pt.t (gPt l x0) < 0) || (decide (Pt.t (gPt l x0) > 8000) || byB (Pt.v (gPt l x0)) (1000000 : Int))) = false -> ∃ y, (y ≤ List.length l /\ ∀ (m : Nat), m < y -> ptO (gPt l m) = true) /\ List.length l - y < List.length
 l - x0 /\ Value.int .i64 (IntKind.i64.wrap ((↑x0 : Int) + (1 : Int))) = Value.int .i64 (↑y : Int) /\ True)) /\ (decide ((↑x0 : Int) < (↑(List.length l) : Int)) = false -> Value.int .i64 0 = Value.int .i64 (ptE l))))) := by kernel_rfl
set_option maxHeartbeats 4000000 in
theorem rpt_sp (a : Option Addr) (c : Nat) (l : List Pt) (hA : AOK a l.length) (hl : l.length ≤ 9223372036854775807) : SpecG Tryd.prog [] ([(a, cPt l)]) 50 #[.slice a l.length c] ([]) (fun _ => .int .i64 (ptE l)) := by
  refine specG_of (h := rpt_h a c l) (?_ : wpG Tryd.prog [] ([(a, cPt l)]) 400 50 [.slice a l.length c] (rpt_h a c l) ([]) (fun _ => .int .i64 (ptE l)))
  rw [rpt_x]
  (repeat' (first | with_reducible exact rfl | exact trivial | with_reducible assumption | (with_reducible exact rby_sp _ _ (by decide)) | exact cPt_len _ | exact cPt_one _ | exact cU_len _ | exact cI_len _ | exact cB_len _ | exact cU_one _ | exact cI_one _ | exact cB_one _ | exact (fun _ h => h) | exact (fun _ h => (List.not_mem_nil h).elim) | (with_reducible refine e1_in ?_) | (with_reducible refine e2_in ?_) | (with_reducible refine lx_in (Nat.le_of_ble_eq_true rfl) ?_) | (with_reducible refine rqx_rf ?_) | (with_reducible refine rqx_in ?_ ?_ ?_) | (with_reducible apply And.intro) | (with_reducible intro _)))
  all_goals (try simp only [Int.toNat_natCast] at *)
  all_goals (try (first | exact ⟨0, ptI_0 _, rfl, trivial⟩ | (simp only [*, Bool.and_true, Bool.true_and, Bool.and_false, Bool.false_and, Bool.or_true, Bool.true_or, Bool.or_false, Bool.false_or, Bool.not_true, Bool.not_false, cond_true, cond_false]; done)))
  all_goals (try (first | (have hi := lt_n ‹_›; first | omega | exact hA | exact cPt_get0 hi | exact cPt_get1 hi)))
  all_goals (try simp only [ptO_r] at *)
  all_goals (first
    | (rw [ptE_9 ‹_›])
    | (rw [ptE_1 ‹_› ‹_›])
    | (have hc := ‹(!ptO _) = true›; rw [ptE_2 ‹_› ‹_› (lt_n ‹_›) (by simpa using hc)])
    | (have hx := ‹ptI _ _›; have hc := ‹(!ptO _) = false›; exact ⟨_, ptI_step hx (lt_n ‹_›) (by simpa using hc), (by have := lt_n ‹_›; show _ - (_ + 1) < _; omega), wr_n (by have := lt_n ‹_›; omega), trivial⟩)
    | (have hx := ‹ptI _ _›; have e := ge_n ‹_› hx.1; rw [e] at hx; rw [ptE_3 ‹_› ‹_› hx])
    | trace_state)
def rli_h (a : Option Addr) (c : Nat) (l : List Pt) : Hint := .specg [] [0] [cPt l] [] (fun ads0 x ↦ Value.int .i64 (ptE l)) (.pl (.split (ho 1 6 (.perm [] .nil)) (.pl (.pl (.inv (liL l (23 : Nat)) fun x0 ↦ .split (.ix (.lst (0 : Nat) (x0 * (2 : Nat)) (Value.int .i64 (Pt.t (gPt l x0))) (.lst (0 : Nat) (x0 * (2 : Nat) + (1 : Nat)) (Value.int .i64 (Pt.v (gPt l
 x0))) (ho 2 8 (.perm [] .nil))))) (.pl (.split (ho 1 6 (.perm [] .nil)) (ho 1 6 (.perm [] .nil)))))))))
theorem rli_x (a : Option Addr) (c : Nat) (l : List Pt) : wpG Tryd.prog [] ([(a, cPt l)]) 400 33 [.slice a l.length c] (rli_h a c l) ([]) (fun _ => fiV (liE l) (liA l) (liB l) (liD l)) = (∀ (b : Nat), cPt l = cPt l /\ (SpecG Tryd.prog [] [(a, cPt l)] (50 : FuncId) #[Value.slice a (List.length l) c] [] fun x ↦ Value.int .i64 (ptE l)) /\ (∀ (e : Ex), e ∈ [] -> e ∈ []) /\ ((ptE l != 0) = true -> e2 b 3 (e1 b 3 (Value.tuple (Array.mk [.agg (Array.mk [.int .i64 0, .int .i64 0, .int .i64
 0]), .int .i64 (ptE l)]) = Value.tuple (Array.mk [.agg (Array.mk [.int .i64 (zL (liE l) (liA l)), .int .i64 (zL (liE l) (liB l)), .int .i64 (zL (liE l) (liD l))]), .int .i64 (liE l)])))) /\ ((ptE l != 0) = false -> (∃ x, x ≤ List.length l /\ Value.int .i64 0 = Value.int .i64 (↑x : Int) /\ Value.int
 .i64 0 = Value.int .i64 (sS l x) /\ Value.int .i64 0 = Value.int .i64 (sQ l x) /\ Value.int .i64 0 = Value.int .i64 (sU l x) /\ Value.int .i64 0 = Value.int .i64 (sW l x) /\ True) /\ ∀ (x0 : Nat), x0 ≤ List.length l -> ∀ (junk : Nat -> Value), (decide ((↑x0 : Int) < (↑(List.length l) : Int)) = true
 -> (((0 : Int) ≤ (↑x0 : Int) /\ (↑x0 : Int) < (↑(List.length l) : Int)) /\ AOK a (List.length l)) /\ bk a = bk a /\ ofs a + x0 * (2 : Nat) = ofs a + x0 * (2 : Nat) /\ lgo (cPt l) (x0 * (2 : Nat)) = some (Value.int .i64 (Pt.t (gPt l x0))) /\ bk a = bk a /\ ofs a + x0 * (2 : Nat) + (1 : Nat) = ofs a +
 (x0 * (2 : Nat) + (1 : Nat)) /\ lgo (cPt l) (x0 * (2 : Nat) + (1 : Nat)) = some (Value.int .i64 (Pt.v (gPt l x0))) /\ ∀ (b : Nat), b = b /\ True /\ b = b /\ True /\ e1 b 6 (∃ y, y ≤ List.length l /\ List.length l - y < List.length l - x0 /\ Value.int .i64 (IntKind.i64.wrap ((↑x0 : Int) + (1 : Int)))
 = Value.int .i64 (↑y : Int) /\ Value.int .i64 (IntKind.i64.wrap (sS l x0 + Pt.t (gPt l x0))) = Value.int .i64 (sS l y) /\ Value.int .i64 (IntKind.i64.wrap (sQ l x0 + IntKind.i64.wrap (Pt.t (gPt l x0) * Pt.t (gPt l x0)))) = Value.int .i64 (sQ l y) /\ Value.int .i64 (IntKind.i64.wrap (sU l x0 + Pt.v
 (gPt l x0))) = Value.int .i64 (sU l y) /\ Value.int .i64 (IntKind.i64.wrap (sW l x0 + IntKind.i64.wrap (Pt.t (gPt l x0) * Pt.v (gPt l x0)))) = Value.int .i64 (sW l y) /\ True)) /\ (decide ((↑x0 : Int) < (↑(List.length l) : Int)) = false -> ((IntKind.i64.wrap (IntKind.i64.wrap ((↑(List.length l) :
 Int) * sQ l x0) - IntKind.i64.wrap (sS l x0 * sS l x0)) == 0) = true -> e2 b 3 (e1 b 3 (Value.tuple (Array.mk [.agg (Array.mk [.int .i64 0, .int .i64 0, .int .i64 0]), .int .i64 14]) = Value.tuple (Array.mk [.agg (Array.mk [.int .i64 (zL (liE l) (liA l)), .int .i64 (zL (liE l) (liB l)), .int .i64
 (zL (liE l) (liD l))]), .int .i64 (liE l)])))) /\ ((IntKind.i64.wrap (IntKind.i64.wrap ((↑(List.length l) : Int) * sQ l x0) - IntKind.i64.wrap (sS l x0 * sS l x0)) == 0) = false -> e2 b 3 (e1 b 3 (Value.tuple (Array.mk [.agg (Array.mk [.int .i64 (IntKind.i64.wrap (IntKind.i64.wrap (sQ l x0 * sU l
 x0) - IntKind.i64.wrap (sS l x0 * sW l x0))), .int .i64 (IntKind.i64.wrap (IntKind.i64.wrap ((↑(List.length l) : Int) * sW l x0) - IntKind.i64.wrap (sS l x0 * sU l x0))), .int .i64 (IntKind.i64.wrap (IntKind.i64.wrap ((↑(List.length l) : Int) * sQ l x0) - IntKind.i64.wrap (sS l x0 * sS l x0)))]),
 .int .i64 0]) = Value.tuple (Array.mk [.agg (Array.mk [.int .i64 (zL (liE l) (liA l)), .int .i64 (zL (liE l) (liB l)), .int .i64 (zL (liE l) (liD l))]), .int .i64 (liE l)]))))))) := by kernel_rfl
set_option maxHeartbeats 4000000 in
theorem rli_sp (a : Option Addr) (c : Nat) (l : List Pt) (hA : AOK a l.length) (hl : l.length ≤ 9223372036854775807) : SpecG Tryd.prog [] ([(a, cPt l)]) 33 #[.slice a l.length c] ([]) (fun _ => fiV (liE l) (liA l) (liB l) (liD l)) := by
  refine specG_of (h := rli_h a c l) (?_ : wpG Tryd.prog [] ([(a, cPt l)]) 400 33 [.slice a l.length c] (rli_h a c l) ([]) (fun _ => fiV (liE l) (liA l) (liB l) (liD l)))
  rw [rli_x]
  (repeat' (first | with_reducible exact rfl | exact trivial | with_reducible assumption | (with_reducible exact rpt_sp _ _ _ hA hl) | exact cPt_len _ | exact cPt_one _ | exact cU_len _ | exact cI_len _ | exact cB_len _ | exact cU_one _ | exact cI_one _ | exact cB_one _ | exact (fun _ h => h) | exact (fun _ h => (List.not_mem_nil h).elim) | (with_reducible refine e1_in ?_) | (with_reducible refine e2_in ?_) | (with_reducible refine lx_in (Nat.le_of_ble_eq_true rfl) ?_) | (with_reducible refine rqx_rf ?_) | (with_reducible refine rqx_in ?_ ?_ ?_) | (with_reducible apply And.intro) | (with_reducible intro _)))
  all_goals (try simp only [Int.toNat_natCast] at *)
  all_goals (try (first | exact ⟨0, Nat.zero_le _, rfl, rfl, rfl, rfl, rfl, trivial⟩ | (simp only [*, Bool.and_true, Bool.true_and, Bool.and_false, Bool.false_and, Bool.or_true, Bool.true_or, Bool.or_false, Bool.false_or, Bool.not_true, Bool.not_false, cond_true, cond_false]; done)))
  all_goals (try (first | (have hi := lt_n ‹_›; first | omega | exact hA | exact cPt_get0 hi | exact cPt_get1 hi)))
  all_goals (first
    | (have he := ‹(ptE l != 0) = true›; have he2 : ¬ ptE l = 0 := (by simpa using he); refine fiV_eq ?_ ?_ ?_ ?_ <;> simp [zL, liE, he2])
    | (have he := ptE_n ‹(ptE l != 0) = false›; have hs := ‹samB l = true›; refine fiV_eq ?_ ?_ ?_ ?_ <;> simp [zL, liE, he, hs])
    | (obtain ⟨h1, h2, h3⟩ := ptE_0 (ptE_n ‹(ptE l != 0) = false›); have hi := lt_n ‹_›; obtain ⟨e1, e2, e3, e4⟩ := s_w h3 h1 hi; exact ⟨_, (show _ + 1 ≤ _ by omega), (by show _ - (_ + 1) < _; omega), wr_n (by omega), e1, e2, e3, e4, trivial⟩)
    | (have he := ptE_n ‹(ptE l != 0) = false›; obtain ⟨e1, e2, e3, _⟩ := li_w he; have e := ge_n ‹decide (_ < (l.length : Int)) = false› ‹_›; subst e; have hs := sam_iff l; (try rw [e1]); (try rw [e2]); (try rw [e3] at *); refine fiV_eq ?_ ?_ ?_ ?_ <;> simp_all [zL, liE]; done)
    | trace_state)
def rac_h (x y z : Int) : Hint := .nc (.cut [((2 : Nat), .bool (decide (z ≥ 1) && (decide (z ≤ 1099511627776) && (!byB x (1152921504606846976 : Int) && !byB y (70368744177664 : Int)))))] (.ob 0 (.split (.lit (.ob 0 (.lit (.lit (.split (.lit (.ob 0 (.lit (.specg [] [] [] [] (fun ads0 x_1 ↦ Value.bool (byB x (1152921504606846976 :
 Int))) (.lit (.lit (.split (.lit (.ob 0 (.lit (.specg [] [] [] [] (fun ads0 x ↦ Value.bool (byB y (70368744177664 : Int))) (.lit (.lit .nil)))))) (hl 3 (.lit .nil))))))))) (hl 8 (.lit .nil))))))) (hl 12 (.lit .nil)))) (.perm [] .nil))
theorem rac_x (x y z : Int) : wpG Tryd.prog [] ([]) 400 60 [.agg #[.int .i64 x, .int .i64 y, .int .i64 z]] (rac_h x y z) ([]) (fun _ => .bool (accB x y z)) = (∀ (b : Nat), (b = b /\ (decide (z ≥ 1) = true -> b = b /\ (decide (z ≤ 1099511627776) = true -> b = b /\ (SpecG Tryd.prog [] [] (62 : FuncId) #[Value.int .i64 x, .int .i64 1152921504606846976] [] fun x_3 ↦ Value.bool (byB x (1152921504606846976 : Int))) /\ (∀ (e : Ex), e ∈ [] -> e ∈ []) /\ ((!byB x
 (1152921504606846976 : Int)) = true -> b = b /\ (SpecG Tryd.prog [] [] (62 : FuncId) #[Value.int .i64 y, .int .i64 70368744177664] [] fun x ↦ Value.bool (byB y (70368744177664 : Int))) /\ (∀ (e : Ex), e ∈ [] -> e ∈ []) /\ (Value.bool !byB y (70368744177664 : Int)) = Value.bool (decide (z ≥ 1) &&
 (decide (z ≤ 1099511627776) && (!byB x (1152921504606846976 : Int) && !byB y (70368744177664 : Int)))) /\ True) /\ ((!byB x (1152921504606846976 : Int)) = false -> Value.bool false = Value.bool (decide (z ≥ 1) && (decide (z ≤ 1099511627776) && (!byB x (1152921504606846976 : Int) && !byB y
 (70368744177664 : Int)))) /\ True)) /\ (decide (z ≤ 1099511627776) = false -> Value.bool false = Value.bool (decide (z ≥ 1) && (decide (z ≤ 1099511627776) && (!byB x (1152921504606846976 : Int) && !byB y (70368744177664 : Int)))) /\ True)) /\ (decide (z ≥ 1) = false -> Value.bool false = Value.bool
 (decide (z ≥ 1) && (decide (z ≤ 1099511627776) && (!byB x (1152921504606846976 : Int) && !byB y (70368744177664 : Int)))) /\ True)) /\ ∀ (junk : Nat -> Value), .bool (decide (z ≥ 1) && (decide (z ≤ 1099511627776) && (!byB x (1152921504606846976 : Int) && !byB y (70368744177664 : Int)))) = Value.bool
 (accB x y z)) := by kernel_rfl
set_option maxHeartbeats 4000000 in
theorem rac_sp (x y z : Int)  : SpecG Tryd.prog [] ([]) 60 #[.agg #[.int .i64 x, .int .i64 y, .int .i64 z]] ([]) (fun _ => .bool (accB x y z)) := by
  refine specG_of (h := rac_h x y z) (?_ : wpG Tryd.prog [] ([]) 400 60 [.agg #[.int .i64 x, .int .i64 y, .int .i64 z]] (rac_h x y z) ([]) (fun _ => .bool (accB x y z)))
  rw [rac_x]
  (repeat' (first | with_reducible exact rfl | exact trivial | with_reducible assumption | (with_reducible exact rby_sp _ _ (by decide)) | exact cU_len _ | exact cI_len _ | exact cB_len _ | exact cU_one _ | exact cI_one _ | exact cB_one _ | exact (fun _ h => h) | exact (fun _ h => (List.not_mem_nil h).elim) | (with_reducible refine e1_in ?_) | (with_reducible refine e2_in ?_) | (with_reducible refine lx_in (Nat.le_of_ble_eq_true rfl) ?_) | (with_reducible refine rqx_rf ?_) | (with_reducible refine rqx_in ?_ ?_ ?_) | (with_reducible apply And.intro) | (with_reducible intro _)))
  all_goals (first | (simp only [*, Bool.and_true, Bool.true_and, Bool.and_false, Bool.false_and, Bool.or_true, Bool.true_or, Bool.or_false, Bool.false_or, Bool.not_true, Bool.not_false, cond_true, cond_false]; done) | (unfold accB; simp_all; done) | trace_state)
def rat_h (x y z t : Int) : Hint := ho 0 3 (.specg [] [] [] [] (fun ads0 x_1 ↦ Value.bool (accB x y z)) (.split (.perm [] .nil) (.cut [((14 : Nat), .bool (decide (t < 0) || decide (t > 8000)))] (.split (.lit (.lit .nil)) (.lit (.lit .nil))) (.split (.perm [] .nil) (ho 0 4 (.specg [] [] [] [] (fun ads0 x_1 ↦ Value.tuple #[Value.int .i64
 (flI (IntKind.i64.wrap (IntKind.i64.wrap ((2 : Int) * IntKind.i64.wrap (x + IntKind.i64.wrap (y * t))) + z)) (IntKind.i64.wrap ((2 : Int) * z))), .int .i64 (quoE (IntKind.i64.wrap (IntKind.i64.wrap ((2 : Int) * IntKind.i64.wrap (x + IntKind.i64.wrap (y * t))) + z)) (IntKind.i64.wrap ((2 : Int) *
 z)))]) (.perm [] .nil)))))))
theorem rat_x (x y z t : Int) : wpG Tryd.prog [] ([]) 400 43 [.agg #[.int .i64 x, .int .i64 y, .int .i64 z], .int .i64 t] (rat_h x y z t) ([]) (fun _ => .tuple #[.int .i64 (atV x y z t), .int .i64 (atE x y z t)]) = (∀ (b : Nat), e1 b 3 ((SpecG Tryd.prog [] [] (60 : FuncId) #[Value.agg #[Value.int .i64 x, .int .i64 y, .int .i64 z]] [] fun x_1 ↦ Value.bool (accB x y z)) /\ (∀ (e : Ex), e ∈ [] -> e ∈ []) /\ ((!accB x y z) = true -> Value.tuple (Array.mk [.int .i64 0, .int .i64 1]) = Value.tuple (Array.mk [.int .i64
 (atV x y z t), .int .i64 (atE x y z t)])) /\ ((!accB x y z) = false -> ((decide (t < 0) = true -> Value.bool true = Value.bool (decide (t < 0) || decide (t > 8000)) /\ True) /\ (decide (t < 0) = false -> Value.bool (decide (t > 8000)) = Value.bool (decide (t < 0) || decide (t > 8000)) /\ True)) /\ ∀
 (junk : Nat -> Value), ((decide (t < 0) || decide (t > 8000)) = true -> Value.tuple (Array.mk [.int .i64 0, .int .i64 2]) = Value.tuple (Array.mk [.int .i64 (atV x y z t), .int .i64 (atE x y z t)])) /\ ((decide (t < 0) || decide (t > 8000)) = false -> e1 b 4 ((SpecG Tryd.prog [] [] (49 : FuncId)
 #[Value.int .i64 (IntKind.i64.wrap (IntKind.i64.wrap ((2 : Int) * IntKind.i64.wrap (x + IntKind.i64.wrap (y * t))) + z)), .int .i64 (IntKind.i64.wrap ((2 : Int) * z))] [] fun x_3 ↦ Value.tuple #[Value.int .i64 (flI (IntKind.i64.wrap (IntKind.i64.wrap ((2 : Int) * IntKind.i64.wrap (x +
 IntKind.i64.wrap (y * t))) + z)) (IntKind.i64.wrap ((2 : Int) * z))), .int .i64 (quoE (IntKind.i64.wrap (IntKind.i64.wrap ((2 : Int) * IntKind.i64.wrap (x + IntKind.i64.wrap (y * t))) + z)) (IntKind.i64.wrap ((2 : Int) * z)))]) /\ (∀ (e : Ex), e ∈ [] -> e ∈ []) /\ Value.tuple (Array.mk [.int .i64
 (flI (IntKind.i64.wrap (IntKind.i64.wrap ((2 : Int) * IntKind.i64.wrap (x + IntKind.i64.wrap (y * t))) + z)) (IntKind.i64.wrap ((2 : Int) * z))), .int .i64 (quoE (IntKind.i64.wrap (IntKind.i64.wrap ((2 : Int) * IntKind.i64.wrap (x + IntKind.i64.wrap (y * t))) + z)) (IntKind.i64.wrap ((2 : Int) *
 z)))]) = Value.tuple (Array.mk [.int .i64 (atV x y z t), .int .i64 (atE x y z t)])))))) := by kernel_rfl
set_option maxHeartbeats 4000000 in
theorem rat_sp (x y z t : Int)  : SpecG Tryd.prog [] ([]) 43 #[.agg #[.int .i64 x, .int .i64 y, .int .i64 z], .int .i64 t] ([]) (fun _ => .tuple #[.int .i64 (atV x y z t), .int .i64 (atE x y z t)]) := by
  refine specG_of (h := rat_h x y z t) (?_ : wpG Tryd.prog [] ([]) 400 43 [.agg #[.int .i64 x, .int .i64 y, .int .i64 z], .int .i64 t] (rat_h x y z t) ([]) (fun _ => .tuple #[.int .i64 (atV x y z t), .int .i64 (atE x y z t)]))
  rw [rat_x]
  (repeat' (first | with_reducible exact rfl | exact trivial | with_reducible assumption | (with_reducible exact rac_sp _ _ _) | (with_reducible exact rflo_sp _ _ (i64w _)) | exact cU_len _ | exact cI_len _ | exact cB_len _ | exact cU_one _ | exact cI_one _ | exact cB_one _ | exact (fun _ h => h) | exact (fun _ h => (List.not_mem_nil h).elim) | (with_reducible refine e1_in ?_) | (with_reducible refine e2_in ?_) | (with_reducible refine lx_in (Nat.le_of_ble_eq_true rfl) ?_) | (with_reducible refine rqx_rf ?_) | (with_reducible refine rqx_in ?_ ?_ ?_) | (with_reducible apply And.intro) | (with_reducible intro _)))
  all_goals (try simp only [ti_r] at *)
  all_goals (first | (simp only [*, Bool.and_true, Bool.true_and, Bool.and_false, Bool.false_and, Bool.or_true, Bool.true_or, Bool.or_false, Bool.false_or, Bool.not_true, Bool.not_false, cond_true, cond_false]; done) | (refine congrArg Value.bool ?_; rw [← ti_r]; have hh := ‹decide (t < 0) = _›; rw [hh]; rfl) | (refine tu2 ?_ ?_ <;> simp_all [atE, atV, atX]; done) | trace_state)
end Go.Proofs.YtokifmeelgbkiaaDoor
