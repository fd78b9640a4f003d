/- Layer 32 (flight): the place at a time, the places of a path, of both; the other side of the pitch. The reference. -/
import Derived.Test.YtokifmeelgbkiaaDoorVz
import Derived.KernelRfl
import Derived.Test.YtokifmeelgbkiaaDoorProg
import Derived.Test.YtokifmeelgbkiaaDoorCma
import Derived.Test.YtokifmeelgbkiaaDoorCmar
import Derived.Test.YtokifmeelgbkiaaDoorCmb
import Derived.Test.YtokifmeelgbkiaaDoorCmbr
import Derived.Test.YtokifmeelgbkiaaDoorLsa
import Derived.Test.YtokifmeelgbkiaaDoorLsar
import Derived.Test.YtokifmeelgbkiaaDoorFla
import Derived.Test.YtokifmeelgbkiaaDoorFlar
import Derived.Test.YtokifmeelgbkiaaDoorExq
import Derived.Test.YtokifmeelgbkiaaDoorExqr
import Derived.Test.YtokifmeelgbkiaaDoorFlb
set_option linter.unusedSimpArgs false
set_option linter.unusedVariables false
set_option maxRecDepth 100000
namespace Go.Proofs.YtokifmeelgbkiaaDoor
open Go.RowKit

def rfa_h (x1 y1 d1 x2 y2 d2 x3 y3 d3 : Int) (t : Int) : Hint := ho 0 3 (.specg [] [] [] [] (fun ads0 x ↦ Value.tuple #[Value.int .i64 (atV x1 y1 d1 t), .int .i64 (atE x1 y1 d1 t)]) (.pl (.split (.perm [] .nil) (ho 0 3 (.specg [] [] [] [] (fun ads0 x ↦ Value.tuple #[Value.int .i64 (atV x2 y2 d2 t), .int .i64 (atE x2 y2 d2 t)]) (.pl (.split (.perm [] .nil) (ho 0 3
 (.specg [] [] [] [] (fun ads0 x ↦ Value.tuple #[Value.int .i64 (atV x3 y3 d3 t), .int .i64 (atE x3 y3 d3 t)]) (.pl (.split (.perm [] .nil) (.specg [] [] [] [] (fun ads0 x ↦ Value.int .i64 (unI (IntKind.i64.wrap (IntKind.i64.wrap ((981 : Int) * t) * t)))) (.perm [] .nil)))))))))))))
theorem rfa_x (x1 y1 d1 x2 y2 d2 x3 y3 d3 : Int) (t : Int) : wpG Tryd.prog [] ([]) 400 18 [.agg #[.int .i64 x1, .int .i64 y1, .int .i64 d1, .int .i64 x2, .int .i64 y2, .int .i64 d2, .int .i64 x3, .int .i64 y3, .int .i64 d3], .int .i64 t] (rfa_h x1 y1 d1 x2 y2 d2 x3 y3 d3 t) ([]) (fun _ => faV x1 y1 d1 x2 y2 d2 x3 y3 d3 t) = (∀ (b : Nat), e1 b 3 ((SpecG Tryd.prog [] [] (43 : FuncId) #[Value.agg #[Value.int .i64 x1, .int .i64 y1, .int .i64 d1], .int .i64 t] [] fun x ↦ Value.tuple #[Value.int .i64 (atV x1 y1 d1 t), .int .i64 (atE x1 y1 d1 t)]) /\ (∀ (e : Ex), e ∈ [] -> e ∈ []) /\ ((atE x1 y1 d1 t != 0) = true -> Value.tuple
 (Array.mk [.int .i64 0, .int .i64 0, .int .i64 0, .int .i64 (atE x1 y1 d1 t)]) = Value.tuple (Array.mk [.int .i64 (zL (faE x1 y1 d1 x2 y2 d2 x3 y3 d3 t) (atV x1 y1 d1 t)), .int .i64 (zL (faE x1 y1 d1 x2 y2 d2 x3 y3 d3 t) (atV x2 y2 d2 t)), .int .i64 (zL (faE x1 y1 d1 x2 y2 d2 x3 y3 d3 t) (faZ x3 y3
 d3 t)), .int .i64 (faE x1 y1 d1 x2 y2 d2 x3 y3 d3 t)])) /\ ((atE x1 y1 d1 t != 0) = false -> e1 b 3 ((SpecG Tryd.prog [] [] (43 : FuncId) #[Value.agg #[Value.int .i64 x2, .int .i64 y2, .int .i64 d2], .int .i64 t] [] fun x ↦ Value.tuple #[Value.int .i64 (atV x2 y2 d2 t), .int .i64 (atE x2 y2 d2 t)])
 /\ (∀ (e : Ex), e ∈ [] -> e ∈ []) /\ ((atE x2 y2 d2 t != 0) = true -> Value.tuple (Array.mk [.int .i64 0, .int .i64 0, .int .i64 0, .int .i64 (atE x2 y2 d2 t)]) = Value.tuple (Array.mk [.int .i64 (zL (faE x1 y1 d1 x2 y2 d2 x3 y3 d3 t) (atV x1 y1 d1 t)), .int .i64 (zL (faE x1 y1 d1 x2 y2 d2 x3 y3 d3
 t) (atV x2 y2 d2 t)), .int .i64 (zL (faE x1 y1 d1 x2 y2 d2 x3 y3 d3 t) (faZ x3 y3 d3 t)), .int .i64 (faE x1 y1 d1 x2 y2 d2 x3 y3 d3 t)])) /\ ((atE x2 y2 d2 t != 0) = false -> e1 b 3 ((SpecG Tryd.prog [] [] (43 : FuncId) #[Value.agg #[Value.int .i64 x3, .int .i64 y3, .int .i64 d3], .int .i64 t] [] fun
 x ↦ Value.tuple #[Value.int .i64 (atV x3 y3 d3 t), .int .i64 (atE x3 y3 d3 t)]) /\ (∀ (e : Ex), e ∈ [] -> e ∈ []) /\ ((atE x3 y3 d3 t != 0) = true -> Value.tuple (Array.mk [.int .i64 0, .int .i64 0, .int .i64 0, .int .i64 (atE x3 y3 d3 t)]) = Value.tuple (Array.mk [.int .i64 (zL (faE x1 y1 d1 x2 y2
 d2 x3 y3 d3 t) (atV x1 y1 d1 t)), .int .i64 (zL (faE x1 y1 d1 x2 y2 d2 x3 y3 d3 t) (atV x2 y2 d2 t)), .int .i64 (zL (faE x1 y1 d1 x2 y2 d2 x3 y3 d3 t) (faZ x3 y3 d3 t)), .int .i64 (faE x1 y1 d1 x2 y2 d2 x3 y3 d3 t)])) /\ ((atE x3 y3 d3 t != 0) = false -> (SpecG Tryd.prog [] [] (32 : FuncId)
 #[Value.int .i64 (IntKind.i64.wrap (IntKind.i64.wrap ((981 : Int) * t) * t))] [] fun x ↦ Value.int .i64 (unI (IntKind.i64.wrap (IntKind.i64.wrap ((981 : Int) * t) * t)))) /\ (∀ (e : Ex), e ∈ [] -> e ∈ []) /\ Value.tuple (Array.mk [.int .i64 (atV x1 y1 d1 t), .int .i64 (atV x2 y2 d2 t), .int .i64
 (IntKind.i64.wrap (atV x3 y3 d3 t - unI (IntKind.i64.wrap (IntKind.i64.wrap ((981 : Int) * t) * t)))), .int .i64 0]) = Value.tuple (Array.mk [.int .i64 (zL (faE x1 y1 d1 x2 y2 d2 x3 y3 d3 t) (atV x1 y1 d1 t)), .int .i64 (zL (faE x1 y1 d1 x2 y2 d2 x3 y3 d3 t) (atV x2 y2 d2 t)), .int .i64 (zL (faE x1
 y1 d1 x2 y2 d2 x3 y3 d3 t) (faZ x3 y3 d3 t)), .int .i64 (faE x1 y1 d1 x2 y2 d2 x3 y3 d3 t)])))))))) := by kernel_rfl
set_option maxHeartbeats 4000000 in
theorem rfa_sp (x1 y1 d1 x2 y2 d2 x3 y3 d3 : Int) (t : Int)  : SpecG Tryd.prog [] ([]) 18 #[.agg #[.int .i64 x1, .int .i64 y1, .int .i64 d1, .int .i64 x2, .int .i64 y2, .int .i64 d2, .int .i64 x3, .int .i64 y3, .int .i64 d3], .int .i64 t] ([]) (fun _ => faV x1 y1 d1 x2 y2 d2 x3 y3 d3 t) := by
  refine specG_of (h := rfa_h x1 y1 d1 x2 y2 d2 x3 y3 d3 t) (?_ : wpG Tryd.prog [] ([]) 400 18 [.agg #[.int .i64 x1, .int .i64 y1, .int .i64 d1, .int .i64 x2, .int .i64 y2, .int .i64 d2, .int .i64 x3, .int .i64 y3, .int .i64 d3], .int .i64 t] (rfa_h x1 y1 d1 x2 y2 d2 x3 y3 d3 t) ([]) (fun _ => faV x1 y1 d1 x2 y2 d2 x3 y3 d3 t))
  rw [rfa_x]
  (repeat' (first | with_reducible exact rfl | exact trivial | with_reducible assumption | (with_reducible exact rat_sp _ _ _ _) | exact cU_len _ | exact cI_len _ | exact cB_len _ | exact cU_one _ | exact cI_one _ | exact cB_one _ | exact (fun _ h => h) | exact (fun _ h => (List.not_mem_nil h).elim) | (with_reducible refine e1_in ?_) | (with_reducible refine e2_in ?_) | (with_reducible refine lx_in (Nat.le_of_ble_eq_true rfl) ?_) | (with_reducible refine rqx_rf ?_) | (with_reducible refine rqx_in ?_ ?_ ?_) | (with_reducible apply And.intro) | (with_reducible intro _)))
  all_goals (first
    | rfl
    | (simp only [*, Bool.and_true, Bool.true_and, Bool.and_false, Bool.false_and, Bool.or_true, Bool.true_or, Bool.or_false, Bool.false_or, Bool.not_true, Bool.not_false, cond_true, cond_false]; done)
    | exact fa_1 ‹_›
    | exact fa_2 ‹_› ‹_›
    | exact fa_3 ‹_› ‹_› ‹_›
    | exact fa_4 ‹_› ‹_› ‹_›
    | (rw [gr_z ‹(atE x1 y1 d1 t != 0) = false›]; first | exact rnea_sp _ (gr_b t) | exact fa_4 ‹_› ‹_› ‹_›)
    | trace_state)

theorem rfa0_sp (x1 y1 d1 x2 y2 d2 x3 y3 d3 : Int) (t : Int) (he : faE x1 y1 d1 x2 y2 d2 x3 y3 d3 t = 0) : SpecG Tryd.prog [] [] 18 #[.agg #[.int .i64 x1, .int .i64 y1, .int .i64 d1, .int .i64 x2, .int .i64 y2, .int .i64 d2, .int .i64 x3, .int .i64 y3, .int .i64 d3], .int .i64 t] [] (fun _ => .tuple #[.int .i64 (atV x1 y1 d1 t), .int .i64 (atV x2 y2 d2 t), .int .i64 (faZ x3 y3 d3 t), .int .i64 0]) := by
  have h := rfa_sp x1 y1 d1 x2 y2 d2 x3 y3 d3 t
  unfold faV at h
  rw [he] at h
  simpa only [zL_0] using h

def rdw_h (x1 y1 d1 x2 y2 d2 x3 y3 d3 : Int) (p q s : Int) : Hint := .nc (.cut [((22 : Nat), .bool (decide (p < 0) || decide (q > 8000)))] (.split (.lit (.lit .nil)) (.lit (.lit .nil))) (.known false (.cut [((29 : Nat), .bool (decide (s < 1) || decide (p > q)))] (.split (.lit (.lit (.lit .nil))) (.lit (.lit (.lit .nil)))) (.known false (.ix (.known false (.inv (rdW x1
 y1 d1 x2 y2 d2 x3 y3 d3 p q s) fun x0 ↦ .ix (.split (ho 0 9 (.specg [] [] [] [] (fun ads0 x ↦ Value.tuple #[Value.int .i64 (atV x1 y1 d1 (IntKind.i64.wrap (p + IntKind.i64.wrap ((↑(DX.i x0) : Int) * s)))), .int .i64 (atV x2 y2 d2 (IntKind.i64.wrap (p + IntKind.i64.wrap ((↑(DX.i x0) : Int) * s)))),
 .int .i64 (faZ x3 y3 d3 (IntKind.i64.wrap (p + IntKind.i64.wrap ((↑(DX.i x0) : Int) * s)))), .int .i64 0]) (.pl (.lit (.app (1 : Nat) (2 : Nat) (.perm [1] .nil)))))) (.perm [1] .nil)))))))))
theorem rdw_x (x1 y1 d1 x2 y2 d2 x3 y3 d3 : Int) (p q s : Int) : wpG Tryd.prog [] ([]) 400 20 [.agg #[.int .i64 x1, .int .i64 y1, .int .i64 d1, .int .i64 x2, .int .i64 y2, .int .i64 d2, .int .i64 x3, .int .i64 y3, .int .i64 d3], .int .i64 p, .int .i64 q, .int .i64 s] (rdw_h x1 y1 d1 x2 y2 d2 x3 y3 d3 p q s) ([⟨37, 5, drN p q s, cSn (drL x1 y1 d1 x2 y2 d2 x3 y3 d3 p s (drN p q s))⟩]) (fun ads => .tuple #[.slice (nthS ads 0).1 (drN p q s) (nthS ads 0).2, .int .i64 0]) = (∀ (b : Nat), ((decide (p < 0) = true -> Value.bool true = Value.bool (decide (p < 0) || decide (q > 8000)) /\ True) /\ (decide (p < 0) = false -> Value.bool (decide (q > 8000)) = Value.bool (decide (p < 0) || decide (q > 8000)) /\ True)) /\ ∀ (junk : Nat -> Value), (decide (p < 0) || decide (q >
 8000)) = false /\ ((decide (s < 1) = true -> Value.bool true = Value.bool (decide (s < 1) || decide (p > q)) /\ True) /\ (decide (s < 1) = false -> Value.bool (decide (p > q)) = Value.bool (decide (s < 1) || decide (p > q)) /\ True)) /\ ∀ (junk : Nat -> Value), (decide (s < 1) || decide (p > q)) =
 false /\ s ≠ (0 : Int) /\ decide (IntKind.i64.wrap (IntKind.i64.wrap (Int.tdiv (IntKind.i64.wrap (q - p)) s) + 1) > 64) = false /\ (∃ x, (DX.i x ≤ drN p q s /\ AOK (DX.a x) (DX.i x)) /\ Value.int .i64 0 = Value.int .i64 (↑(DX.i x) : Int) /\ Value.slice none (0 : Nat) (0 : Nat) = Value.slice (DX.a x)
 (DX.i x) (DX.c x) /\ ((0 : Nat) = (0 : Nat) /\ [] = cSn (drL x1 y1 d1 x2 y2 d2 x3 y3 d3 p s (DX.i x)) /\ (37 : Nat) = (37 : Nat) /\ some (Ow.mk none (0 : Nat) (0 : Nat) (5 : Nat)) = some (Ow.mk (DX.a x) (DX.i x) (DX.c x) (5 : Nat))) /\ True) /\ ∀ (x0 : DX), DX.i x0 ≤ drN p q s /\ AOK (DX.a x0) (DX.i
 x0) -> ∀ (junk : Nat -> Value), s ≠ (0 : Int) /\ (decide ((↑(DX.i x0) : Int) ≤ IntKind.i64.wrap (Int.tdiv (IntKind.i64.wrap (q - p)) s)) = true -> e1 b 9 ((SpecG Tryd.prog [] [] (18 : FuncId) #[Value.agg #[Value.int .i64 x1, .int .i64 y1, .int .i64 d1, .int .i64 x2, .int .i64 y2, .int .i64 d2, .int
 .i64 x3, .int .i64 y3, .int .i64 d3], .int .i64 (IntKind.i64.wrap (p + IntKind.i64.wrap ((↑(DX.i x0) : Int) * s)))] [] fun x ↦ Value.tuple #[Value.int .i64 (atV x1 y1 d1 (IntKind.i64.wrap (p + IntKind.i64.wrap ((↑(DX.i x0) : Int) * s)))), .int .i64 (atV x2 y2 d2 (IntKind.i64.wrap (p +
 IntKind.i64.wrap ((↑(DX.i x0) : Int) * s)))), .int .i64 (faZ x3 y3 d3 (IntKind.i64.wrap (p + IntKind.i64.wrap ((↑(DX.i x0) : Int) * s)))), .int .i64 0]) /\ (∀ (e : Ex), e ∈ [] -> e ∈ []) /\ ∀ (b : Nat), DX.a x0 = DX.a x0 /\ DX.i x0 = DX.i x0 /\ DX.c x0 = DX.c x0 /\ b = b /\ (DX.i x0 + (1 : Nat)) *
 (41 : Nat) ≤ (140737488355328 : Nat) /\ ∀ (g cap : Nat), ∃ y, (DX.i y ≤ drN p q s /\ AOK (DX.a y) (DX.i y)) /\ drN p q s - DX.i y < drN p q s - DX.i x0 /\ Value.int .i64 (IntKind.i64.wrap ((↑(DX.i x0) : Int) + (1 : Int))) = Value.int .i64 (↑(DX.i y) : Int) /\ Value.slice (some (Addr.mk g (0 : Nat)
 none)) (DX.i x0 + (1 : Nat)) cap = Value.slice (DX.a y) (DX.i y) (DX.c y) /\ ((0 : Nat) = (0 : Nat) /\ lapp (cSn (drL x1 y1 d1 x2 y2 d2 x3 y3 d3 p s (DX.i x0))) [Value.int .i64 (IntKind.i64.wrap (p + IntKind.i64.wrap ((↑(DX.i x0) : Int) * s))), .int .i64 (atV x1 y1 d1 (IntKind.i64.wrap (p +
 IntKind.i64.wrap ((↑(DX.i x0) : Int) * s)))), .int .i64 (atV x2 y2 d2 (IntKind.i64.wrap (p + IntKind.i64.wrap ((↑(DX.i x0) : Int) * s)))), .int .i64 (faZ x3 y3 d3 (IntKind.i64.wrap (p + IntKind.i64.wrap ((↑(DX.i x0) : Int) * s)))), .int .i64 0] = cSn (drL x1 y1 d1 x2 y2 d2 x3 y3 d3 p s (DX.i y)) /\
 (37 : Nat) = (37 : Nat) /\ some (Ow.mk (some (Addr.mk g (0 : Nat) none)) (DX.i x0 + (1 : Nat)) cap (5 : Nat)) = some (Ow.mk (DX.a y) (DX.i y) (DX.c y) (5 : Nat))) /\ True)) /\ (decide ((↑(DX.i x0) : Int) ≤ IntKind.i64.wrap (Int.tdiv (IntKind.i64.wrap (q - p)) s)) = false -> (37 : Nat) = (37 : Nat)
 /\ (5 : Nat) = (5 : Nat) /\ DX.i x0 = drN p q s /\ cSn (drL x1 y1 d1 x2 y2 d2 x3 y3 d3 p s (DX.i x0)) = cSn (drL x1 y1 d1 x2 y2 d2 x3 y3 d3 p s (drN p q s)) /\ Value.tuple (Array.mk [.slice (DX.a x0) (DX.i x0) (DX.c x0), .int .i64 0]) = Value.tuple (Array.mk [.slice (DX.a x0) (drN p q s) (DX.c x0),
 .int .i64 0]))) := by kernel_rfl
set_option maxHeartbeats 4000000 in
theorem rdw_sp (x1 y1 d1 x2 y2 d2 x3 y3 d3 : Int) (p q s : Int) (h1 : (decide (p < 0) || decide (q > 8000)) = false) (h2 : (decide (s < 1) || decide (p > q)) = false) (h3 : decide ((IntKind.i64.wrap ((IntKind.i64.wrap (Int.tdiv (IntKind.i64.wrap (q - p)) s)) + 1)) > 64) = false) (he : faE x1 y1 d1 x2 y2 d2 x3 y3 d3 p = 0) : SpecG Tryd.prog [] ([]) 20 #[.agg #[.int .i64 x1, .int .i64 y1, .int .i64 d1, .int .i64 x2, .int .i64 y2, .int .i64 d2, .int .i64 x3, .int .i64 y3, .int .i64 d3], .int .i64 p, .int .i64 q, .int .i64 s] ([⟨37, 5, drN p q s, cSn (drL x1 y1 d1 x2 y2 d2 x3 y3 d3 p s (drN p q s))⟩]) (fun ads => .tuple #[.slice (nthS ads 0).1 (drN p q s) (nthS ads 0).2, .int .i64 0]) := by
  refine specG_of (h := rdw_h x1 y1 d1 x2 y2 d2 x3 y3 d3 p q s) (?_ : wpG Tryd.prog [] ([]) 400 20 [.agg #[.int .i64 x1, .int .i64 y1, .int .i64 d1, .int .i64 x2, .int .i64 y2, .int .i64 d2, .int .i64 x3, .int .i64 y3, .int .i64 d3], .int .i64 p, .int .i64 q, .int .i64 s] (rdw_h x1 y1 d1 x2 y2 d2 x3 y3 d3 p q s) ([⟨37, 5, drN p q s, cSn (drL x1 y1 d1 x2 y2 d2 x3 y3 d3 p s (drN p q s))⟩]) (fun ads => .tuple #[.slice (nthS ads 0).1 (drN p q s) (nthS ads 0).2, .int .i64 0]))
  rw [rdw_x]
  (repeat' (first | with_reducible exact rfl | exact trivial | with_reducible assumption | exact cSn_len _ | exact cSn_one _ | exact cU_len _ | exact cI_len _ | exact cB_len _ | exact cU_one _ | exact cI_one _ | exact cB_one _ | exact (fun _ h => h) | exact (fun _ h => (List.not_mem_nil h).elim) | (with_reducible refine e1_in ?_) | (with_reducible refine e2_in ?_) | (with_reducible refine lx_in (Nat.le_of_ble_eq_true rfl) ?_) | (with_reducible refine rqx_rf ?_) | (with_reducible refine rqx_in ?_ ?_ ?_) | (with_reducible apply And.intro) | (with_reducible intro _)))
  all_goals (try (first | rfl | (refine congrArg Value.bool ?_; have hh := ‹decide (p < 0) = _›; rw [hh]; rfl) | (refine congrArg Value.bool ?_; have hh := ‹decide (s < 1) = _›; rw [hh]; rfl)))
  all_goals (try simp only [Int.toNat_natCast] at *)
  all_goals (first
    | exact dr_s0 h2
    | (exact ⟨⟨0, none, 0⟩, ⟨Nat.zero_le _, aok_0⟩, rfl, rfl, ⟨(by trivial), rfl, (by trivial), rfl⟩, trivial⟩)
    | (have hx := ‹_ ≤ drN p q s ∧ AOK _ _›; have hi := rr_i h1 h2 ‹_›; have h64 := dr_6 h1 h2 h3; first | omega | exact hx.2 | exact rfa0_sp x1 y1 d1 x2 y2 d2 x3 y3 d3 _ ((fa_t h1 h2 hi).trans he) | exact ⟨⟨_ + 1, _, _⟩, ⟨hi, aok_g _ _⟩, (by show _ - (_ + 1) < _; omega), wr_s (by omega), rfl, ⟨(by trivial), rr_a x1 y1 d1 x2 y2 d2 x3 y3 d3 h1 h2 hi rfl, (by trivial), rfl⟩, trivial⟩)
    | (have hx := ‹_ ≤ drN p q s ∧ AOK _ _›; have hj := rr_j h1 h2 ‹_›; have e := Nat.le_antisymm hx.1 hj; rw [e])
    | trace_state)
def rdx_h (x1 y1 d1 x2 y2 d2 x3 y3 d3 : Int) (p q s : Int) : Hint := .nc (.cut [((22 : Nat), .bool (decide (p < 0) || decide (q > 8000)))] (.split (.lit (.lit .nil)) (.lit (.lit .nil))) (.split (.perm [] .nil) (.cut [((29 : Nat), .bool (decide (s < 1) || decide (p > q)))] (.split (.lit (.lit (.lit .nil))) (.lit (.lit (.lit .nil)))) (.split (.perm [] .nil) (.ix (.split
 (.perm [] .nil) (.inv (rdX x1 y1 d1 x2 y2 d2 x3 y3 d3 p q s) fun x0 ↦ .ix (.split (ho 0 9 (.specg [] [] [] [] (fun ads0 x ↦ faV x1 y1 d1 x2 y2 d2 x3 y3 d3 (IntKind.i64.wrap (p + IntKind.i64.wrap ((↑(DX.i x0) : Int) * s)))) (.pl (.split (.perm [] .nil) (.app (1 : Nat) (2 : Nat) (.perm [1] .nil))))))
 (.perm [] .nil)))))))))
theorem rdx_x (x1 y1 d1 x2 y2 d2 x3 y3 d3 : Int) (p q s : Int) : wpG Tryd.prog [] ([]) 400 20 [.agg #[.int .i64 x1, .int .i64 y1, .int .i64 d1, .int .i64 x2, .int .i64 y2, .int .i64 d2, .int .i64 x3, .int .i64 y3, .int .i64 d3], .int .i64 p, .int .i64 q, .int .i64 s] (rdx_h x1 y1 d1 x2 y2 d2 x3 y3 d3 p q s) ([]) (fun ads => .tuple #[.slice none 0 0, .int .i64 (drE x1 y1 d1 x2 y2 d2 x3 y3 d3 p q s)]) = (∀ (b : Nat), ((decide (p < 0) = true -> Value.bool true = Value.bool (decide (p < 0) || decide (q > 8000)) /\ True) /\ (decide (p < 0) = false -> Value.bool (decide (q > 8000)) = Value.bool (decide (p < 0) || decide (q > 8000)) /\ True)) /\ ∀ (junk : Nat -> Value), ((decide (p < 0) || decide (q >
 8000)) = true -> Value.tuple (Array.mk [.slice none (0 : Nat) (0 : Nat), .int .i64 2]) = Value.tuple (Array.mk [.slice none (0 : Nat) (0 : Nat), .int .i64 (drE x1 y1 d1 x2 y2 d2 x3 y3 d3 p q s)])) /\ ((decide (p < 0) || decide (q > 8000)) = false -> ((decide (s < 1) = true -> Value.bool true =
 Value.bool (decide (s < 1) || decide (p > q)) /\ True) /\ (decide (s < 1) = false -> Value.bool (decide (p > q)) = Value.bool (decide (s < 1) || decide (p > q)) /\ True)) /\ ∀ (junk : Nat -> Value), ((decide (s < 1) || decide (p > q)) = true -> Value.tuple (Array.mk [.slice none (0 : Nat) (0 : Nat),
 .int .i64 1]) = Value.tuple (Array.mk [.slice none (0 : Nat) (0 : Nat), .int .i64 (drE x1 y1 d1 x2 y2 d2 x3 y3 d3 p q s)])) /\ ((decide (s < 1) || decide (p > q)) = false -> s ≠ (0 : Int) /\ (decide (IntKind.i64.wrap (IntKind.i64.wrap (Int.tdiv (IntKind.i64.wrap (q - p)) s) + 1) > 64) = true ->
 Value.tuple (Array.mk [.slice none (0 : Nat) (0 : Nat), .int .i64 9]) = Value.tuple (Array.mk [.slice none (0 : Nat) (0 : Nat), .int .i64 (drE x1 y1 d1 x2 y2 d2 x3 y3 d3 p q s)])) /\ (decide (IntKind.i64.wrap (IntKind.i64.wrap (Int.tdiv (IntKind.i64.wrap (q - p)) s) + 1) > 64) = false -> (∃ x, (DX.i
 x = (0 : Nat) /\ AOK (DX.a x) (DX.i x)) /\ Value.int .i64 0 = Value.int .i64 (↑(DX.i x) : Int) /\ Value.slice none (0 : Nat) (0 : Nat) = Value.slice (DX.a x) (DX.i x) (DX.c x) /\ ((0 : Nat) = (0 : Nat) /\ [] = cSn (drL x1 y1 d1 x2 y2 d2 x3 y3 d3 p s (DX.i x)) /\ (37 : Nat) = (37 : Nat) /\ some
 (Ow.mk none (0 : Nat) (0 : Nat) (5 : Nat)) = some (Ow.mk (DX.a x) (DX.i x) (DX.c x) (5 : Nat))) /\ True) /\ ∀ (x0 : DX), DX.i x0 = (0 : Nat) /\ AOK (DX.a x0) (DX.i x0) -> ∀ (junk : Nat -> Value), s ≠ (0 : Int) /\ (decide ((↑(DX.i x0) : Int) ≤ IntKind.i64.wrap (Int.tdiv (IntKind.i64.wrap (q - p)) s))
 = true -> e1 b 9 ((SpecG Tryd.prog [] [] (18 : FuncId) #[Value.agg #[Value.int .i64 x1, .int .i64 y1, .int .i64 d1, .int .i64 x2, .int .i64 y2, .int .i64 d2, .int .i64 x3, .int .i64 y3, .int .i64 d3], .int .i64 (IntKind.i64.wrap (p + IntKind.i64.wrap ((↑(DX.i x0) : Int) * s)))] [] fun x ↦ faV x1 y1
 d1 x2 y2 d2 x3 y3 d3 (IntKind.i64.wrap (p + IntKind.i64.wrap ((↑(DX.i x0) : Int) * s)))) /\ (∀ (e : Ex), e ∈ [] -> e ∈ []) /\ ((faE x1 y1 d1 x2 y2 d2 x3 y3 d3 (IntKind.i64.wrap (p + IntKind.i64.wrap ((↑(DX.i x0) : Int) * s))) != 0) = true -> Value.tuple (Array.mk [.slice none (0 : Nat) (0 : Nat),
 .int .i64 (faE x1 y1 d1 x2 y2 d2 x3 y3 d3 (IntKind.i64.wrap (p + IntKind.i64.wrap ((↑(DX.i x0) : Int) * s))))]) = Value.tuple (Array.mk [.slice none (0 : Nat) (0 : Nat), .int .i64 (drE x1 y1 d1 x2 y2 d2 x3 y3 d3 p q s)])) /\ ((faE x1 y1 d1 x2 y2 d2 x3 y3 d3 (IntKind.i64.wrap (p + IntKind.i64.wrap
 ((↑(DX.i x0) : Int) * s))) != 0) = false -> ∀ (b : Nat), DX.a x0 = DX.a x0 /\ DX.i x0 = DX.i x0 /\ DX.c x0 = DX.c x0 /\ b = b /\ (DX.i x0 + (1 : Nat)) * (41 : Nat) ≤ (140737488355328 : Nat) /\ ∀ (g cap : Nat), ∃ y, (DX.i y = (0 : Nat) /\ AOK (DX.a y) (DX.i y)) /\ drN p q s - DX.i y < drN p q s -
 DX.i x0 /\ Value.int .i64 (IntKind.i64.wrap ((↑(DX.i x0) : Int) + (1 : Int))) = Value.int .i64 (↑(DX.i y) : Int) /\ Value.slice (some (Addr.mk g (0 : Nat) none)) (DX.i x0 + (1 : Nat)) cap = Value.slice (DX.a y) (DX.i y) (DX.c y) /\ ((0 : Nat) = (0 : Nat) /\ lapp (cSn (drL x1 y1 d1 x2 y2 d2 x3 y3 d3
 p s (DX.i x0))) [Value.int .i64 (IntKind.i64.wrap (p + IntKind.i64.wrap ((↑(DX.i x0) : Int) * s))), .int .i64 (zL (faE x1 y1 d1 x2 y2 d2 x3 y3 d3 (IntKind.i64.wrap (p + IntKind.i64.wrap ((↑(DX.i x0) : Int) * s)))) (atV x1 y1 d1 (IntKind.i64.wrap (p + IntKind.i64.wrap ((↑(DX.i x0) : Int) * s))))),
 .int .i64 (zL (faE x1 y1 d1 x2 y2 d2 x3 y3 d3 (IntKind.i64.wrap (p + IntKind.i64.wrap ((↑(DX.i x0) : Int) * s)))) (atV x2 y2 d2 (IntKind.i64.wrap (p + IntKind.i64.wrap ((↑(DX.i x0) : Int) * s))))), .int .i64 (zL (faE x1 y1 d1 x2 y2 d2 x3 y3 d3 (IntKind.i64.wrap (p + IntKind.i64.wrap ((↑(DX.i x0) :
 Int) * s)))) (faZ x3 y3 d3 (IntKind.i64.wrap (p + IntKind.i64.wrap ((↑(DX.i x0) : Int) * s))))), .int .i64 0] = cSn (drL x1 y1 d1 x2 y2 d2 x3 y3 d3 p s (DX.i y)) /\ (37 : Nat) = (37 : Nat) /\ some (Ow.mk (some (Addr.mk g (0 : Nat) none)) (DX.i x0 + (1 : Nat)) cap (5 : Nat)) = some (Ow.mk (DX.a y)
 (DX.i y) (DX.c y) (5 : Nat))) /\ True))) /\ (decide ((↑(DX.i x0) : Int) ≤ IntKind.i64.wrap (Int.tdiv (IntKind.i64.wrap (q - p)) s)) = false -> Value.tuple (Array.mk [.slice (DX.a x0) (DX.i x0) (DX.c x0), .int .i64 0]) = Value.tuple (Array.mk [.slice none (0 : Nat) (0 : Nat), .int .i64 (drE x1 y1 d1
 x2 y2 d2 x3 y3 d3 p q s)])))))) := by kernel_rfl
set_option maxHeartbeats 4000000 in
theorem rdx_sp (x1 y1 d1 x2 y2 d2 x3 y3 d3 : Int) (p q s : Int) (he : ¬ drE x1 y1 d1 x2 y2 d2 x3 y3 d3 p q s = 0) : SpecG Tryd.prog [] ([]) 20 #[.agg #[.int .i64 x1, .int .i64 y1, .int .i64 d1, .int .i64 x2, .int .i64 y2, .int .i64 d2, .int .i64 x3, .int .i64 y3, .int .i64 d3], .int .i64 p, .int .i64 q, .int .i64 s] ([]) (fun ads => .tuple #[.slice none 0 0, .int .i64 (drE x1 y1 d1 x2 y2 d2 x3 y3 d3 p q s)]) := by
  refine specG_of (h := rdx_h x1 y1 d1 x2 y2 d2 x3 y3 d3 p q s) (?_ : wpG Tryd.prog [] ([]) 400 20 [.agg #[.int .i64 x1, .int .i64 y1, .int .i64 d1, .int .i64 x2, .int .i64 y2, .int .i64 d2, .int .i64 x3, .int .i64 y3, .int .i64 d3], .int .i64 p, .int .i64 q, .int .i64 s] (rdx_h x1 y1 d1 x2 y2 d2 x3 y3 d3 p q s) ([]) (fun ads => .tuple #[.slice none 0 0, .int .i64 (drE x1 y1 d1 x2 y2 d2 x3 y3 d3 p q s)]))
  rw [rdx_x]
  (repeat' (first | with_reducible exact rfl | exact trivial | with_reducible assumption | (with_reducible exact rfa_sp _ _ _ _ _ _ _ _ _ _) | exact cSn_len _ | exact cSn_one _ | exact cU_len _ | exact cI_len _ | exact cB_len _ | exact cU_one _ | exact cI_one _ | exact cB_one _ | exact (fun _ h => h) | exact (fun _ h => (List.not_mem_nil h).elim) | (with_reducible refine e1_in ?_) | (with_reducible refine e2_in ?_) | (with_reducible refine lx_in (Nat.le_of_ble_eq_true rfl) ?_) | (with_reducible refine rqx_rf ?_) | (with_reducible refine rqx_in ?_ ?_ ?_) | (with_reducible apply And.intro) | (with_reducible intro _)))
  all_goals (try (first | rfl | (simp only [*, Bool.and_true, Bool.true_and, Bool.and_false, Bool.false_and, Bool.or_true, Bool.true_or, Bool.or_false, Bool.false_or, Bool.not_true, Bool.not_false, cond_true, cond_false]; done) | (refine congrArg Value.bool ?_; have hh := ‹decide (p < 0) = _›; rw [hh]; rfl) | (refine congrArg Value.bool ?_; have hh := ‹decide (s < 1) = _›; rw [hh]; rfl)))
  all_goals (try (first
    | (rw [dx_1 ‹_›])
    | (rw [dx_2 ‹_› ‹_›])
    | (rw [dx_3 ‹_› ‹_› ‹_›])
    | exact dr_s0 ‹_›
    | exact dr_c0 ‹_› ‹_›
    | exact dr_c1 ‹_› ‹_›))
  all_goals (have h1 := ‹(decide (p < 0) || decide (q > 8000)) = false›; have h2 := ‹(decide (s < 1) || decide (p > q)) = false›; have h3 := ‹decide ((IntKind.i64.wrap ((IntKind.i64.wrap (Int.tdiv (IntKind.i64.wrap (q - p)) s)) + 1)) > 64) = false›)
  all_goals (try simp only [Int.toNat_natCast, dr_f h1 h2] at *)
  all_goals (first
    | (exact ⟨⟨0, none, 0⟩, ⟨rfl, aok_0⟩, rfl, rfl, ⟨(by trivial), rfl, (by trivial), rfl⟩, trivial⟩)
    | (have hx := ‹_ = 0 ∧ AOK _ _›; have h64 := dr_6 h1 h2 h3; omega)
    | exact aok_0
    | (exact ⟨⟨0, _, _⟩, ⟨rfl, (by assumption)⟩, rfl, rfl, ⟨(by trivial), (by rw [df_0]), (by trivial), rfl⟩, trivial⟩)
    | (have hx := ‹_ = 0 ∧ AOK _ _›; have hi : _ < drN p q s := rr_i h1 h2 ‹decide (((DX.i _ : Nat) : Int) ≤ _) = true›; have hf := ‹(faE x1 y1 d1 x2 y2 d2 x3 y3 d3 _ != 0) = false›; exact (he (dx_4 h1 h2 h3 hi hf)).elim)
    | (have hx := ‹_ = 0 ∧ AOK _ _›; have hi : _ < drN p q s := rr_i h1 h2 ‹decide (((DX.i _ : Nat) : Int) ≤ _) = true›; have hf := ‹(faE x1 y1 d1 x2 y2 d2 x3 y3 d3 _ != 0) = true›; rw [dx_5 h1 h2 h3 hi hf, fa_t h1 h2 hi])
    | (have hx := ‹_ = 0 ∧ AOK _ _›; have hj := rr_j h1 h2 ‹decide (((DX.i _ : Nat) : Int) ≤ _) = false›; rw [hx.1] at hj; exact absurd hj (by unfold drN; omega))
    | trace_state)

theorem rdw2_sp (x1 y1 d1 x2 y2 d2 x3 y3 d3 : Int) (p q s : Int) (he : drE x1 y1 d1 x2 y2 d2 x3 y3 d3 p q s = 0) : SpecG Tryd.prog [] [] 20 #[.agg #[.int .i64 x1, .int .i64 y1, .int .i64 d1, .int .i64 x2, .int .i64 y2, .int .i64 d2, .int .i64 x3, .int .i64 y3, .int .i64 d3], .int .i64 p, .int .i64 q, .int .i64 s] [⟨37, 5, drN p q s, cSn (drL x1 y1 d1 x2 y2 d2 x3 y3 d3 p s (drN p q s))⟩] (fun ads => .tuple #[.slice (nthS ads 0).1 (drN p q s) (nthS ads 0).2, .int .i64 0]) := by
  obtain ⟨h1, h2, h3, h4⟩ := drE_0 he
  exact rdw_sp x1 y1 d1 x2 y2 d2 x3 y3 d3 p q s h1 h2 h3 h4

end Go.Proofs.YtokifmeelgbkiaaDoor
