/- Quotients that are rounded down and up (exact), of both. -/
import Derived.Test.YtokifmeelgbkiaaDoorVz
import Derived.KernelRfl
import Derived.Test.YtokifmeelgbkiaaDoorProg
import Derived.Test.YtokifmeelgbkiaaDoorWideE
set_option linter.unusedSimpArgs false
set_option linter.unusedVariables false
set_option maxRecDepth 100000
namespace Go.Proofs.YtokifmeelgbkiaaDoor
open Go.RowKit


def leastI : Int := -9223372036854775808
/-- The error of a rounded quotient. -/
def quoE (n d : Int) : Int := if d = 0 then 1 else if n = leastI ∧ d = -1 then 2 else 0
def flI (n d : Int) : Int := if quoE n d = 0 then Int.fdiv n d else 0
def ceI (n d : Int) : Int := if quoE n d = 0 then (if Int.tmod n d = 0 then Int.fdiv n d else Int.fdiv n d + 1) else 0
theorem fdiv_0 (n d : Int) (h : n.tmod d = 0) : n.fdiv d = n.tdiv d := by
  have hd : d ∣ n := Int.dvd_of_tmod_eq_zero h
  rw [Int.fdiv_eq_tdiv, if_pos hd]; omega
theorem fdiv_1 (n d : Int) (h : ¬ n.tmod d = 0) (hs : (n < 0 ∧ 0 < d) ∨ (¬ n < 0 ∧ d < 0)) : n.fdiv d = n.tdiv d - 1 := by
  have hd' : ¬ d ∣ n := fun hx => h (Int.tmod_eq_zero_of_dvd hx)
  rw [Int.fdiv_eq_tdiv, if_neg hd']
  rcases hs with ⟨h1, h2⟩ | ⟨h1, h2⟩
  · rw [if_neg (by omega), if_pos (by omega), Int.sign_eq_one_of_pos h2]
  · rw [if_pos (by omega), if_neg (by omega)]
theorem fdiv_2 (n d : Int) (h : ¬ n.tmod d = 0) (hs : (n < 0 ∧ d < 0) ∨ (¬ n < 0 ∧ 0 < d)) : n.fdiv d = n.tdiv d := by
  have hd' : ¬ d ∣ n := fun hx => h (Int.tmod_eq_zero_of_dvd hx)
  rw [Int.fdiv_eq_tdiv, if_neg hd']
  rcases hs with ⟨h1, h2⟩ | ⟨h1, h2⟩
  · rw [if_neg (by omega), if_neg (by omega), Int.sign_eq_neg_one_of_neg h2]; omega
  · rw [if_pos (by omega), if_pos (by omega)]; omega
theorem tdiv_range (n d : Int) (hn : I64 n) (hd : d ≠ 0) (hq : quoE n d = 0) : -9223372036854775808 ≤ n.tdiv d ∧ n.tdiv d ≤ 9223372036854775807 ∧ (¬ n.tmod d = 0 → -9223372036854775807 ≤ n.tdiv d ∧ n.tdiv d ≤ 9223372036854775806) := by
  have h0 : ¬ (n = -9223372036854775808 ∧ d = -1) := by
    intro h; unfold quoE leastI at hq; rw [if_neg hd, if_pos h] at hq; omega
  have h1 := Int.natAbs_tdiv_le_natAbs n d
  have h2 := Int.mul_tdiv_add_tmod n d
  have h3 : (n.tmod d).natAbs < d.natAbs := by rw [Int.natAbs_tmod]; exact Nat.mod_lt _ (by omega)
  unfold I64 at hn
  generalize n.tmod d = r at *
  refine ⟨by omega, ?_, ?_⟩
  · by_cases h : n.tdiv d = 9223372036854775808
    · rw [h] at h2; omega
    · omega
  · intro hr
    refine ⟨?_, ?_⟩
    · by_cases h : n.tdiv d = -9223372036854775808
      · rw [h] at h2; omega
      · omega
    · by_cases h : n.tdiv d = 9223372036854775808
      · rw [h] at h2; omega
      · by_cases h : n.tdiv d = 9223372036854775807
        · rw [h] at h2; omega
        · omega
theorem q64 {x : Int} (h0 : -9223372036854775808 ≤ x) (h1 : x ≤ 9223372036854775807) : IntKind.i64.wrap x = x := IntWalk.i64_in _ ⟨h0, h1⟩
theorem tu2 {a b c d : Int} (h1 : a = c) (h2 : b = d) : Value.tuple #[.int .i64 a, .int .i64 b] = Value.tuple #[.int .i64 c, .int .i64 d] := by rw [h1, h2]
/-- The quotient without its rest, turned by one where it has to be. -/
def flW (n d : Int) (b : Bool) : Int := bif b then IntKind.i64.wrap (IntKind.i64.wrap (n.tdiv d) - 1) else IntKind.i64.wrap (n.tdiv d)
def ceW (n d : Int) (b : Bool) : Int := bif b then IntKind.i64.wrap (IntKind.i64.wrap (n.tdiv d) + 1) else IntKind.i64.wrap (n.tdiv d)
theorem tmod_sign {n d : Int} (hd : d ≠ 0) (h : ¬ n.tmod d = 0) : (n.tmod d < 0 ↔ n < 0) := by
  have h1 := Int.tmod_nonneg (a := n) d
  have h2 : n ≤ 0 → n.tmod d ≤ 0 := fun hn => by have h3 := Int.tmod_nonneg (a := -n) d (by omega); rw [Int.neg_tmod] at h3; omega
  constructor
  · intro h3
    by_cases hn : 0 ≤ n
    · have := h1 hn; omega
    · omega
  · intro h3
    have := h2 (by omega)
    omega
theorem fl_eq {n d : Int} (hn : I64 n) (hq : quoE n d = 0) (hd : d ≠ 0) (b : Bool) (hb : b = (decide (¬ n.tmod d = 0) && (decide (n < 0) != decide (d < 0)))) : flW n d b = flI n d := by
  obtain ⟨t0, t1, t2⟩ := tdiv_range n d hn hd hq
  unfold flW flI
  rw [if_pos hq, q64 t0 t1]
  by_cases hr : n.tmod d = 0
  · rw [fdiv_0 n d hr]; simp [hb, hr]
  · have := t2 hr
    by_cases h1 : n < 0 <;> by_cases h2 : d < 0
    · rw [fdiv_2 n d hr (by omega)]; simp [hb, hr, h1, h2]
    · rw [fdiv_1 n d hr (by omega)]; simp [hb, hr, h1, h2]; rw [q64 (by omega) (by omega)]
    · rw [fdiv_1 n d hr (by omega)]; simp [hb, hr, h1, h2]; rw [q64 (by omega) (by omega)]
    · rw [fdiv_2 n d hr (by omega)]; simp [hb, hr, h1, h2]
theorem ce_eq {n d : Int} (hn : I64 n) (hq : quoE n d = 0) (hd : d ≠ 0) (b : Bool) (hb : b = (decide (¬ n.tmod d = 0) && (decide (n < 0) == decide (d < 0)))) : ceW n d b = ceI n d := by
  obtain ⟨t0, t1, t2⟩ := tdiv_range n d hn hd hq
  unfold ceW ceI
  rw [if_pos hq, q64 t0 t1]
  by_cases hr : n.tmod d = 0
  · rw [if_pos hr, fdiv_0 n d hr]; simp [hb, hr]
  · have := t2 hr
    rw [if_neg hr]
    by_cases h1 : n < 0 <;> by_cases h2 : d < 0
    · rw [fdiv_2 n d hr (by omega)]; simp [hb, hr, h1, h2]; rw [q64 (by omega) (by omega)]
    · rw [fdiv_1 n d hr (by omega)]; simp [hb, hr, h1, h2]
    · rw [fdiv_1 n d hr (by omega)]; simp [hb, hr, h1, h2]
    · rw [fdiv_2 n d hr (by omega)]; simp [hb, hr, h1, h2]; rw [q64 (by omega) (by omega)]
theorem fl_i64 (n d : Int) (hn : I64 n) : I64 (flI n d) := by
  by_cases hq : quoE n d = 0
  · have hd : d ≠ 0 := by intro h; simp [quoE, h] at hq
    obtain ⟨t0, t1, t2⟩ := tdiv_range n d hn hd hq
    unfold flI
    rw [if_pos hq]
    by_cases hr : n.tmod d = 0
    · rw [fdiv_0 n d hr]; exact ⟨t0, t1⟩
    · have := t2 hr
      by_cases h1 : n < 0 <;> by_cases h2 : d < 0
      · rw [fdiv_2 n d hr (by omega)]; exact ⟨t0, t1⟩
      · rw [fdiv_1 n d hr (by omega)]; exact ⟨by omega, by omega⟩
      · rw [fdiv_1 n d hr (by omega)]; exact ⟨by omega, by omega⟩
      · rw [fdiv_2 n d hr (by omega)]; exact ⟨t0, t1⟩
  · unfold flI; rw [if_neg hq]; exact ⟨by decide, by decide⟩
theorem ceR_eq {n d : Int} (hn : I64 n) (hq : quoE n d = 0) : (if n.tmod d = 0 then flI n d else IntKind.i64.wrap (flI n d + 1)) = ceI n d := by
  have hd : d ≠ 0 := by intro h; simp [quoE, h] at hq
  obtain ⟨t0, t1, t2⟩ := tdiv_range n d hn hd hq
  unfold ceI flI
  rw [if_pos hq, if_pos hq]
  by_cases hr : n.tmod d = 0
  · rw [if_pos hr, if_pos hr]
  · have := t2 hr
    rw [if_neg hr, if_neg hr]
    refine q64 ?_ ?_ <;> (by_cases h1 : n < 0 <;> by_cases h2 : d < 0)
    · rw [fdiv_2 n d hr (by omega)]; omega
    · rw [fdiv_1 n d hr (by omega)]; omega
    · rw [fdiv_1 n d hr (by omega)]; omega
    · rw [fdiv_2 n d hr (by omega)]; omega
    · rw [fdiv_2 n d hr (by omega)]; omega
    · rw [fdiv_1 n d hr (by omega)]; omega
    · rw [fdiv_1 n d hr (by omega)]; omega
    · rw [fdiv_2 n d hr (by omega)]; omega


theorem quo_0 {n d : Int} (h : (quoE n d != 0) = false) : quoE n d = 0 ∧ d ≠ 0 := by
  have hq : quoE n d = 0 := by simpa using h
  exact ⟨hq, fun hd => by simp [quoE, hd] at hq⟩
theorem quo_00 {n d : Int} (h1 : ¬ d = 0) (h2 : ¬ (n = -9223372036854775808 ∧ d = -1)) : quoE n d = 0 := by unfold quoE leastI; rw [if_neg h1, if_neg h2]

def quo_h (n d : Int) : Hint := .pl (.split (.perm [] .nil) (.cut [((12 : Nat), .bool (n == (-9223372036854775808 : Int) && d == (-1 : Int)))] (.pl (.split (.lit (.pl (.lit .nil))) (.lit (.lit .nil)))) (.split (.perm [] .nil) (.perm [] .nil))))
theorem quo_x (n d : Int) : wpG Tryd.prog [] ([]) 400 67 [.int .i64 n, .int .i64 d] (quo_h n d) ([]) (fun _ => .int .i64 (quoE n d)) = (((d == 0) = true -> Value.int .i64 1 = Value.int .i64 (quoE n d)) /\ ((d == 0) = false -> (((n == (-9223372036854775808 : Int)) = true -> Value.bool (d == (-1 : Int)) = Value.bool (n == (-9223372036854775808 : Int) && d == (-1 : Int)) /\ True) /\ ((n == (-9223372036854775808 : Int)) = false ->
 Value.bool false = Value.bool (n == (-9223372036854775808 : Int) && d == (-1 : Int)) /\ True)) /\ ∀ (junk : Nat -> Value), ((n == (-9223372036854775808 : Int) && d == (-1 : Int)) = true -> Value.int .i64 2 = Value.int .i64 (quoE n d)) /\ ((n == (-9223372036854775808 : Int) && d == (-1 : Int)) =
 false -> Value.int .i64 0 = Value.int .i64 (quoE n d)))) := by kernel_rfl
set_option maxHeartbeats 4000000 in
theorem quo_sp (n d : Int)  : SpecG Tryd.prog [] ([]) 67 #[.int .i64 n, .int .i64 d] ([]) (fun _ => .int .i64 (quoE n d)) := by
  refine specG_of (h := quo_h n d) (?_ : wpG Tryd.prog [] ([]) 400 67 [.int .i64 n, .int .i64 d] (quo_h n d) ([]) (fun _ => .int .i64 (quoE n d)))
  rw [quo_x]
  (repeat' (first | with_reducible exact rfl | exact trivial | with_reducible assumption | exact cU_len _ | exact cI_len _ | exact cB_len _ | exact cU_one _ | exact cI_one _ | exact cB_one _ | exact (fun _ h => h) | exact (fun _ h => (List.not_mem_nil h).elim) | (with_reducible refine e1_in ?_) | (with_reducible refine e2_in ?_) | (with_reducible refine lx_in (Nat.le_of_ble_eq_true rfl) ?_) | (with_reducible refine rqx_rf ?_) | (with_reducible refine rqx_in ?_ ?_ ?_) | (with_reducible apply And.intro) | (with_reducible intro _)))
  all_goals (first | (simp_all; done) | (refine congrArg (Value.int .i64) ?_; (try (simp only [Bool.not_eq_true', Bool.not_eq_false', Bool.or_eq_true, Bool.or_eq_false_iff, Bool.and_eq_true, Bool.and_eq_false_iff, decide_eq_true_eq, decide_eq_false_iff_not, bne_iff_ne, bne_eq_false_iff_eq, beq_iff_eq, beq_eq_false_iff_ne, ne_eq, Decidable.not_not] at *)); unfold quoE leastI; (repeat' split) <;> first | rfl | omega) | trace_state)
def flo_h (n d : Int) : Hint := .specg [] [] [] [] (fun ads0 x ↦ Value.int .i64 (quoE n d)) (.pl (.split (.perm [] .nil) (.ix (.cut [((27 : Nat), .bool (Int.tmod n d != 0 && !decide (n < 0) == decide (d < 0)))] (.ix (.pl (.split (hl 4 (.pl (.lit .nil))) (hl 4 (.lit .nil))))) (.cut [((7 : Nat), .int .i64 (bif Int.tmod n d != 0 &&
 !decide (n < 0) == decide (d < 0) then IntKind.i64.wrap (IntKind.i64.wrap (Int.tdiv n d) - 1) else IntKind.i64.wrap (Int.tdiv n d)))] (.split .nil .nil) (.perm [] .nil))))))
theorem flo_x (n d : Int) : wpG Tryd.prog [] ([]) 400 59 [.int .i64 n, .int .i64 d] (flo_h n d) ([]) (fun _ => .tuple #[.int .i64 (flI n d), .int .i64 (quoE n d)]) = ((SpecG Tryd.prog [] [] (67 : FuncId) #[Value.int .i64 n, .int .i64 d] [] fun x ↦ Value.int .i64 (quoE n d)) /\ (∀ (e : Ex), e ∈ [] -> e ∈ []) /\ ((quoE n d != 0) = true -> Value.tuple (Array.mk [.int .i64 0, .int .i64 (quoE n d)]) = Value.tuple (Array.mk [.int .i64 (flI n d), .int .i64 (quoE n d)]))
 /\ ((quoE n d != 0) = false -> d ≠ (0 : Int) /\ (d ≠ (0 : Int) /\ ((Int.tmod n d != 0) = true -> (Value.bool !decide (n < 0) == decide (d < 0)) = Value.bool (Int.tmod n d != 0 && !decide (n < 0) == decide (d < 0)) /\ True) /\ ((Int.tmod n d != 0) = false -> Value.bool false = Value.bool (Int.tmod n
 d != 0 && !decide (n < 0) == decide (d < 0)) /\ True)) /\ ∀ (junk : Nat -> Value), (((Int.tmod n d != 0 && !decide (n < 0) == decide (d < 0)) = true -> Value.int .i64 (IntKind.i64.wrap (IntKind.i64.wrap (Int.tdiv n d) - 1)) = Value.int .i64 (bif Int.tmod n d != 0 && !decide (n < 0) == decide (d < 0)
 then IntKind.i64.wrap (IntKind.i64.wrap (Int.tdiv n d) - 1) else IntKind.i64.wrap (Int.tdiv n d)) /\ True) /\ ((Int.tmod n d != 0 && !decide (n < 0) == decide (d < 0)) = false -> Value.int .i64 (IntKind.i64.wrap (Int.tdiv n d)) = Value.int .i64 (bif Int.tmod n d != 0 && !decide (n < 0) == decide (d
 < 0) then IntKind.i64.wrap (IntKind.i64.wrap (Int.tdiv n d) - 1) else IntKind.i64.wrap (Int.tdiv n d)) /\ True)) /\ ∀ (junk : Nat -> Value), Value.tuple (Array.mk [.int .i64 (bif Int.tmod n d != 0 && !decide (n < 0) == decide (d < 0) then IntKind.i64.wrap (IntKind.i64.wrap (Int.tdiv n d) - 1) else
 IntKind.i64.wrap (Int.tdiv n d)), .int .i64 0]) = Value.tuple (Array.mk [.int .i64 (flI n d), .int .i64 (quoE n d)]))) := by kernel_rfl
set_option maxHeartbeats 4000000 in
theorem flo_sp (n d : Int) (hn : I64 n) : SpecG Tryd.prog [] ([]) 59 #[.int .i64 n, .int .i64 d] ([]) (fun _ => .tuple #[.int .i64 (flI n d), .int .i64 (quoE n d)]) := by
  refine specG_of (h := flo_h n d) (?_ : wpG Tryd.prog [] ([]) 400 59 [.int .i64 n, .int .i64 d] (flo_h n d) ([]) (fun _ => .tuple #[.int .i64 (flI n d), .int .i64 (quoE n d)]))
  rw [flo_x]
  (repeat' (first | with_reducible exact rfl | exact trivial | with_reducible assumption | (with_reducible exact quo_sp _ _) | exact cU_len _ | exact cI_len _ | exact cB_len _ | exact cU_one _ | exact cI_one _ | exact cB_one _ | exact (fun _ h => h) | exact (fun _ h => (List.not_mem_nil h).elim) | (with_reducible refine e1_in ?_) | (with_reducible refine e2_in ?_) | (with_reducible refine lx_in (Nat.le_of_ble_eq_true rfl) ?_) | (with_reducible refine rqx_rf ?_) | (with_reducible refine rqx_in ?_ ?_ ?_) | (with_reducible apply And.intro) | (with_reducible intro _)))
  all_goals (first | (simp only [*, Bool.and_true, Bool.true_and, Bool.and_false, Bool.false_and, Bool.or_true, Bool.true_or, Bool.or_false, Bool.false_or, Bool.not_true, Bool.not_false, cond_true, cond_false]; done) | exact (quo_0 ‹_›).2 | (have hq := quo_0 ‹_›; refine tu2 (fl_eq hn hq.1 hq.2 _ ?_) hq.1.symm; by_cases h1 : n < 0 <;> by_cases h2 : d < 0 <;> by_cases h3 : n.tmod d = 0 <;> simp [h1, h2, h3]) | (refine tu2 ?_ rfl; have hq : ¬ quoE n d = 0 := (by simpa using ‹(quoE n d != 0) = true›); unfold flI; rw [if_neg hq]) | trace_state)
end Go.Proofs.YtokifmeelgbkiaaDoor
