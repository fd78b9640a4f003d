/- Quotients that are rounded down and up (exact), of both. The reference. -/
import Derived.Test.YtokifmeelgbkiaaDoorVz
import Derived.KernelRfl
import Derived.Test.YtokifmeelgbkiaaDoorProg
import Derived.Test.YtokifmeelgbkiaaDoorWideE
import Derived.Test.YtokifmeelgbkiaaDoorExq
set_option linter.unusedSimpArgs false
set_option linter.unusedVariables false
set_option maxRecDepth 100000
namespace Go.Proofs.YtokifmeelgbkiaaDoor
open Go.RowKit

def rflo_h (n d : Int) : Hint := .pl (.split (.perm [] .nil) (.cut [((15 : Nat), .bool (n == (-9223372036854775808 : Int) && d == (-1 : Int)))] (.pl (.split (.lit (.pl (.lit .nil))) (.lit (.lit .nil)))) (.split (.perm [] .nil) (.draw [] none [] (.take 0 (.take 1 (.take 2 (.ix (.take 3 (.take 4 (.take 5 (.ix (.take 6 (.take 7 (.cut
 [((30 : Nat), .bool (Int.tmod n d != 0 && !decide (Int.tmod n d < 0) == decide (d < 0)))] (.pl (.split (hl 4 (.pl (.lit .nil))) (hl 4 (.lit .nil)))) (.cut [((6 : Nat), .int .i64 (bif Int.tmod n d != 0 && !decide (Int.tmod n d < 0) == decide (d < 0) then IntKind.i64.wrap (IntKind.i64.wrap (Int.tdiv n
 d) - 1) else IntKind.i64.wrap (Int.tdiv n d)))] (.split .nil .nil) (.perm [] .nil)))))))))))))))))
theorem rflo_x (n d : Int) : wpG Tryd.prog [] ([]) 400 49 [.int .i64 n, .int .i64 d] (rflo_h n d) ([]) (fun _ => .tuple #[.int .i64 (flI n d), .int .i64 (quoE n d)]) = (((d == 0) = true -> Value.tuple (Array.mk [.int .i64 0, .int .i64 1]) = Value.tuple (Array.mk [.int .i64 (flI n d), .int .i64 (quoE n d)])) /\ ((d == 0) = false -> (((n == (-9223372036854775808 : Int)) = true -> Value.bool (d == (-1 : Int)) = Value.bool (n == (-9223372036854775808 : Int) && d == (-1
 : Int)) /\ True) /\ ((n == (-9223372036854775808 : Int)) = false -> Value.bool false = Value.bool (n == (-9223372036854775808 : Int) && d == (-1 : Int)) /\ True)) /\ ∀ (junk : Nat -> Value), ((n == (-9223372036854775808 : Int) && d == (-1 : Int)) = true -> Value.tuple (Array.mk [.int .i64 0, .int
 .i64 2]) = Value.tuple (Array.mk [.int .i64 (flI n d), .int .i64 (quoE n d)])) /\ ((n == (-9223372036854775808 : Int) && d == (-1 : Int)) = false -> d ≠ (0 : Int) /\ d ≠ (0 : Int) /\ (((Int.tmod n d != 0) = true -> (Value.bool !decide (Int.tmod n d < 0) == decide (d < 0)) = Value.bool (Int.tmod n d
 != 0 && !decide (Int.tmod n d < 0) == decide (d < 0)) /\ True) /\ ((Int.tmod n d != 0) = false -> Value.bool false = Value.bool (Int.tmod n d != 0 && !decide (Int.tmod n d < 0) == decide (d < 0)) /\ True)) /\ ∀ (junk : Nat -> Value), (((Int.tmod n d != 0 && !decide (Int.tmod n d < 0) == decide (d <
 0)) = true -> Value.int .i64 (IntKind.i64.wrap (IntKind.i64.wrap (Int.tdiv n d) - 1)) = Value.int .i64 (bif Int.tmod n d != 0 && !decide (Int.tmod n d < 0) == decide (d < 0) then IntKind.i64.wrap (IntKind.i64.wrap (Int.tdiv n d) - 1) else IntKind.i64.wrap (Int.tdiv n d)) /\ True) /\ ((Int.tmod n d
 != 0 && !decide (Int.tmod n d < 0) == decide (d < 0)) = false -> Value.int .i64 (IntKind.i64.wrap (Int.tdiv n d)) = Value.int .i64 (bif Int.tmod n d != 0 && !decide (Int.tmod n d < 0) == decide (d < 0) then IntKind.i64.wrap (IntKind.i64.wrap (Int.tdiv n d) - 1) else IntKind.i64.wrap (Int.tdiv n d))
 /\ True)) /\ ∀ (junk : Nat -> Value), Value.tuple (Array.mk [.int .i64 (bif Int.tmod n d != 0 && !decide (Int.tmod n d < 0) == decide (d < 0) then IntKind.i64.wrap (IntKind.i64.wrap (Int.tdiv n d) - 1) else IntKind.i64.wrap (Int.tdiv n d)), .int .i64 0]) = Value.tuple (Array.mk [.int .i64 (flI n d),
 .int .i64 (quoE n d)])))) := by kernel_rfl
set_option maxHeartbeats 4000000 in
theorem rflo_sp (n d : Int) (hn : I64 n) : SpecG Tryd.prog [] ([]) 49 #[.int .i64 n, .int .i64 d] ([]) (fun _ => .tuple #[.int .i64 (flI n d), .int .i64 (quoE n d)]) := by
  refine specG_of (h := rflo_h n d) (?_ : wpG Tryd.prog [] ([]) 400 49 [.int .i64 n, .int .i64 d] (rflo_h n d) ([]) (fun _ => .tuple #[.int .i64 (flI n d), .int .i64 (quoE n d)]))
  rw [rflo_x]
  (repeat' (first | with_reducible exact rfl | exact trivial | with_reducible assumption | exact cU_len _ | exact cI_len _ | exact cB_len _ | exact cU_one _ | exact cI_one _ | exact cB_one _ | exact (fun _ h => h) | exact (fun _ h => (List.not_mem_nil h).elim) | (with_reducible refine e1_in ?_) | (with_reducible refine e2_in ?_) | (with_reducible refine lx_in (Nat.le_of_ble_eq_true rfl) ?_) | (with_reducible refine rqx_rf ?_) | (with_reducible refine rqx_in ?_ ?_ ?_) | (with_reducible apply And.intro) | (with_reducible intro _)))
  all_goals (first | (simp only [*, Bool.and_true, Bool.true_and, Bool.and_false, Bool.false_and, Bool.or_true, Bool.true_or, Bool.or_false, Bool.false_or, Bool.not_true, Bool.not_false, cond_true, cond_false]; done) | (rcases Bool.eq_false_or_eq_true (d == -1) with hd1 | hd1 <;> simp_all; done) | (simpa using ‹(d == 0) = false›) | (have hd : ¬ d = 0 := (by simpa using ‹(d == 0) = false›); have hl : ¬ (n = -9223372036854775808 ∧ d = -1) := (by simpa using ‹(n == -9223372036854775808 && d == -1) = false›); have hq := quo_00 hd hl; refine tu2 (fl_eq hn hq hd _ ?_) hq.symm; by_cases h3 : n.tmod d = 0; (focus (simp [h3])); have e3 : (n.tmod d != 0) = true := (by simpa using h3); have hs : decide (n.tmod d < 0) = decide (n < 0) := decide_eq_decide.2 (tmod_sign hd h3); rw [e3, hs]; by_cases h1 : n < 0 <;> by_cases h2 : d < 0 <;> simp [h1, h2, h3]) | (refine tu2 ?_ ?_ <;> simp_all [flI, quoE, leastI]; done) | trace_state)
end Go.Proofs.YtokifmeelgbkiaaDoor
