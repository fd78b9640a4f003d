/- The law of layer 9 on the list of all deliveries returns true. -/
import Derived.Test.YtkakhaedipjodaaSy
import Derived.KernelRfl
import Derived.Test.YtkakhaedipjodaaProg
import Derived.Test.YtkakhaedipjodaaDvd
set_option linter.unusedSimpArgs false
set_option linter.unusedVariables false
namespace Go.Proofs.Ytkakhaedipjodaa
open Go.RowKit


def alI (runs : Int) (k j : Nat) : Int := intOf ((allC runs).getD (k * 12 + j) undef)
def allC_rd (runs : Int) (k j : Nat) : Value :=
  match j with
  | 0 => .int .u8 (alI runs k 0)
  | 1 => .int .u8 (alI runs k 1)
  | 2 => .int .i64 (alI runs k 2)
  | 3 => .int .i64 0
  | 4 => .int .i64 (alI runs k 4)
  | 5 => .bool false
  | 6 => .int .u8 0
  | 7 => .int .i64 0
  | 8 => .int .i64 0
  | 9 => .int .i64 0
  | 10 => .bool false
  | 11 => .int .i64 0
  | _ => undef
def dq (q : Int × Int × Int × Int) : List Value := dc q.1 q.2.1 q.2.2.1 q.2.2.2
def Blk (l : List Value) : Prop := ∃ Q : List (Int × Int × Int × Int), l = Q.flatMap dq
theorem Blk.nil : Blk [] := ⟨[], rfl⟩
theorem Blk.app {a b : List Value} (h : Blk a) (k : Blk b) : Blk (a ++ b) := by
  obtain ⟨p, rfl⟩ := h
  obtain ⟨q, rfl⟩ := k
  exact ⟨p ++ q, by simp⟩
theorem blk_cb (t s n b : Int) : Blk (cb t s n b) := by
  unfold cb
  split
  · exact ⟨[(t, s, n, b)], by simp [dq]⟩
  · exact Blk.nil
theorem blk_xn (t s : Int) (k : Nat) : Blk (xn t s k) := by
  induction k with
  | zero => exact Blk.nil
  | succ k ih => exact ih.app (((blk_cb _ _ _ _).app (blk_cb _ _ _ _)).app (blk_cb _ _ _ _))
theorem blk_xs (t : Int) (m j : Nat) : Blk (xs t m j) := by
  induction j with
  | zero => exact Blk.nil
  | succ k ih => exact ih.app (blk_xn _ _ _)
theorem blk_xt (m i : Nat) : Blk (xt m i) := by
  induction i with
  | zero => exact Blk.nil
  | succ k ih => exact ih.app (blk_xs _ _ _)
theorem dq_len (q : Int × Int × Int × Int) : (dq q).length = 12 := rfl
theorem flat_len (Q : List (Int × Int × Int × Int)) : (Q.flatMap dq).length = 12 * Q.length := by
  induction Q with
  | nil => rfl
  | cons q Q ih => simp only [List.flatMap_cons, List.length_append, dq_len, List.length_cons, ih]; omega
theorem flat_get (Q : List (Int × Int × Int × Int)) (k j : Nat) (hj : j < 12) : (Q.flatMap dq)[k * 12 + j]? = (Q[k]?).bind fun q => (dq q)[j]? := by
  induction Q generalizing k with
  | nil => simp
  | cons q Q ih =>
    simp only [List.flatMap_cons]
    cases k with
    | zero => rw [List.getElem?_append_left (by rw [dq_len]; omega)]; simp
    | succ k =>
      rw [List.getElem?_append_right (by rw [dq_len]; omega), dq_len]
      rw [show (k + 1) * 12 + j - 12 = k * 12 + j by omega, ih]
      simp
theorem allC_get (runs : Int) {k : Nat} (j : Nat) (hk : k < allN runs) (hj : j < 12) : lgo (allC runs) (k * 12 + j) = some (allC_rd runs k j) := by
  obtain ⟨Q, hQ⟩ := blk_xt (allM runs) 3
  have hQ : allC runs = Q.flatMap dq := hQ
  have hn : allN runs = Q.length := by unfold allN; rw [hQ, flat_len]; omega
  have g : ∀ i, i < 12 → (allC runs)[k * 12 + i]? = (dq Q[k])[i]? := fun i hi => by
    rw [hQ, flat_get Q k i hi]
    simp [show k < Q.length by omega]
  have e : ∀ i, i < 12 → alI runs k i = intOf ((dq Q[k]).getD i undef) := fun i hi => by
    unfold alI
    rw [List.getD_eq_getElem?_getD, g i hi, ← List.getD_eq_getElem?_getD]
  rw [lgo_eq, g j hj]
  have hd : j = 0 ∨ j = 1 ∨ j = 2 ∨ j = 3 ∨ j = 4 ∨ j = 5 ∨ j = 6 ∨ j = 7 ∨ j = 8 ∨ j = 9 ∨ j = 10 ∨ j = 11 := by omega
  rcases hd with rfl | rfl | rfl | rfl | rfl | rfl | rfl | rfl | rfl | rfl | rfl | rfl <;> simp only [allC_rd] <;> (try rw [e _ hj]) <;> rfl
def bx (runs : Int) (x : Int) : Prop := 0 ≤ x ∧ x ≤ allN runs
theorem bx0 (runs : Int) : bx runs 0 := ⟨by simp, by omega⟩
theorem allN_le (runs : Int) : allN runs ≤ 300 := by
  unfold allN allC
  have := xt_len (allM runs) (allM_le runs) 3
  omega
theorem bxs {runs x : Int} (h : bx runs x) (h2 : decide (x < (allN runs : Int)) = true) : bx runs (IntKind.i64.wrap (x + 1)) ∧ ((allN runs : Int) - IntKind.i64.wrap (x + 1)).toNat < ((allN runs : Int) - x).toNat := by
  rw [decide_eq_true_eq] at h2
  have := allN_le runs
  have h1 := h.1
  have e : IntKind.i64.wrap (x + 1) = x + 1 := w64 (by omega) (by omega)
  rw [e]
  exact ⟨⟨by omega, by omega⟩, by omega⟩
theorem rdg {runs x : Int} {j o : Nat} (h : bx runs x) (h2 : decide (x < (allN runs : Int)) = true) (hj : j < 12) (ho : o = x.toNat * 12 + j) : lgo (allC runs) o = some (allC_rd runs x.toNat j) := by
  rw [decide_eq_true_eq] at h2
  rw [ho]
  exact allC_get runs j (by have := h.1; omega) hj
theorem ixb {runs x : Int} (h : bx runs x) (h2 : decide (x < (allN runs : Int)) = true) : 0 ≤ x ∧ x < (allN runs : Int) := ⟨h.1, by simpa using h2⟩
@[reducible] def dl0 (runs : Int) : LoopR := ⟨Int, fun x => [(19, .int .i64 x)], [], fun _ => [], bx runs, fun x => (allN runs - x).toNat, []⟩

def deliveryAll_h (runs : Int) : Hint := Hint.spec (Value.bool true) (Hint.lit (Hint.specs (26 : TypeId) (12 : Nat) (allN runs) (allC runs) (Hint.specs (26 : TypeId) (12 : Nat) (allN runs) (allC runs) (Hint.pl (Hint.pl (Hint.pl (Hint.lit (Hint.pl (Hint.inv (dl0 runs) fun x0 ↦ Hint.split Hint.no Hint.nil)))))) (Hint.pl (Hint.pl (Hint.pl (Hint.split Hint.nil (Hint.pl (Hint.inv (dl0 runs) fun x0 ↦ Hint.split Hint.no Hint.nil))))))) (Hint.specs (26 : TypeId) (12 : Nat) (allN runs) (allC runs) (Hint.pl (Hint.pl (Hint.pl (Hint.split Hint.nil (Hint.pl (Hint.inv (dl0 runs) fun x0 ↦ Hint.split Hint.no Hint.nil)))))) (Hint.pl (Hint.pl (Hint.pl (Hint.split Hint.nil (Hint.pl (Hint.inv (dl0 runs) fun x0 ↦ Hint.split (Hint.draw [(0 : Nat), (1 : Nat)] (Hint.take (0 : Nat) (Hint.take (1 : Nat) (Hint.take (2 : Nat) (Hint.ix (Hint.take (3 : Nat) (Hint.obv (0 : Nat) (allC_rd runs (Int.toNat x0) (0 : Nat)) (Hint.obv (0 : Nat) (allC_rd runs (Int.toNat x0) (1 : Nat)) (Hint.obv (0 : Nat) (allC_rd runs (Int.toNat x0) (2 : Nat)) (Hint.obv (0 : Nat) (allC_rd runs (Int.toNat x0) (3 : Nat)) (Hint.obv (0 : Nat) (allC_rd runs (Int.toNat x0) (4 : Nat)) (Hint.obv (0 : Nat) (allC_rd runs (Int.toNat x0) (5 : Nat)) (Hint.obv (0 : Nat) (allC_rd runs (Int.toNat x0) (6 : Nat)) (Hint.obv (0 : Nat) (allC_rd runs (Int.toNat x0) (7 : Nat)) (Hint.obv (0 : Nat) (allC_rd runs (Int.toNat x0) (8 : Nat)) (Hint.obv (0 : Nat) (allC_rd runs (Int.toNat x0) (9 : Nat)) (Hint.obv (0 : Nat) (allC_rd runs (Int.toNat x0) (10 : Nat)) (Hint.obv (0 : Nat) (allC_rd runs (Int.toNat x0) (11 : Nat)) (Hint.take (4 : Nat) (Hint.take (5 : Nat) (Hint.take (6 : Nat) (Hint.ix (Hint.take (7 : Nat) (Hint.obv (1 : Nat) (allC_rd runs (Int.toNat x0) (0 : Nat)) (Hint.obv (1 : Nat) (allC_rd runs (Int.toNat x0) (1 : Nat)) (Hint.obv (1 : Nat) (allC_rd runs (Int.toNat x0) (2 : Nat)) (Hint.obv (1 : Nat) (allC_rd runs (Int.toNat x0) (3 : Nat)) (Hint.obv (1 : Nat) (allC_rd runs (Int.toNat x0) (4 : Nat)) (Hint.obv (1 : Nat) (allC_rd runs (Int.toNat x0) (5 : Nat)) (Hint.obv (1 : Nat) (allC_rd runs (Int.toNat x0) (6 : Nat)) (Hint.obv (1 : Nat) (allC_rd runs (Int.toNat x0) (7 : Nat)) (Hint.obv (1 : Nat) (allC_rd runs (Int.toNat x0) (8 : Nat)) (Hint.obv (1 : Nat) (allC_rd runs (Int.toNat x0) (9 : Nat)) (Hint.obv (1 : Nat) (allC_rd runs (Int.toNat x0) (10 : Nat)) (Hint.obv (1 : Nat) (allC_rd runs (Int.toNat x0) (11 : Nat)) (Hint.take (8 : Nat) (Hint.split Hint.nil Hint.nil))))))))))))))))))))))))))))))))))))) Hint.nil)))))))))
theorem deliveryAll_x (runs : Int) : wpF Try.prog [] 400 6 [.int .i64 runs] (deliveryAll_h runs) (fun rv _ => rv = .bool true) = (SpecP Try.prog 9 (Array.mk []) (Value.bool true) ∧ SpecL Try.prog 18 (Array.mk [Value.int IntKind.i64 runs]) (26 : TypeId) (12 : Nat) (allN runs) (allC runs) ∧ (allN runs = (0 : Nat) → SpecL Try.prog 19 (Array.mk [Value.int IntKind.i64 runs]) (26 : TypeId) (12 : Nat) (allN runs) (allC runs) ∧ (allN runs = (0 : Nat) → (∃ x, bx runs x ∧ Value.int IntKind.i64 (0 : Int) = Value.int IntKind.i64 x ∧ True) ∧ ∀ (x0 : Int), bx runs x0 → ∀ (junk : Nat → Value), (decide (x0 < (↑(0 : Nat) : Int)) = true → False) ∧ (decide (x0 < (↑(0 : Nat) : Int)) = false → Value.bool true = Value.bool true)) ∧ ∀ (g cap : Nat), (((0 : Int) != (↑(allN runs) : Int)) = true → Value.bool false = Value.bool true) ∧ (((0 : Int) != (↑(allN runs) : Int)) = false → (∃ x, bx runs x ∧ Value.int IntKind.i64 (0 : Int) = Value.int IntKind.i64 x ∧ True) ∧ ∀ (x0 : Int), bx runs x0 → ∀ (junk : Nat → Value), (decide (x0 < (↑(0 : Nat) : Int)) = true → False) ∧ (decide (x0 < (↑(0 : Nat) : Int)) = false → Value.bool true = Value.bool true))) ∧ ∀ (g cap : Nat), SpecL Try.prog 19 (Array.mk [Value.int IntKind.i64 runs]) (26 : TypeId) (12 : Nat) (allN runs) (allC runs) ∧ (allN runs = (0 : Nat) → (((↑(allN runs) : Int) != (0 : Int)) = true → Value.bool false = Value.bool true) ∧ (((↑(allN runs) : Int) != (0 : Int)) = false → (∃ x, bx runs x ∧ Value.int IntKind.i64 (0 : Int) = Value.int IntKind.i64 x ∧ True) ∧ ∀ (x0 : Int), bx runs x0 → ∀ (junk : Nat → Value), (decide (x0 < (↑(allN runs) : Int)) = true → False) ∧ (decide (x0 < (↑(allN runs) : Int)) = false → Value.bool true = Value.bool true))) ∧ ∀ (g_1 cap : Nat), (((↑(allN runs) : Int) != (↑(allN runs) : Int)) = true → Value.bool false = Value.bool true) ∧ (((↑(allN runs) : Int) != (↑(allN runs) : Int)) = false → (∃ x, bx runs x ∧ Value.int IntKind.i64 (0 : Int) = Value.int IntKind.i64 x ∧ True) ∧ ∀ (x0 : Int), bx runs x0 → ∀ (junk : Nat → Value), (decide (x0 < (↑(allN runs) : Int)) = true → ((0 : Int) ≤ x0 ∧ x0 < (↑(allN runs) : Int)) ∧ g = g ∧ lgo (allC runs) ((0 : Nat) + Int.toNat x0 * (12 : Nat)) = some (allC_rd runs (Int.toNat x0) (0 : Nat)) ∧ g = g ∧ lgo (allC runs) ((0 : Nat) + Int.toNat x0 * (12 : Nat) + (1 : Nat)) = some (allC_rd runs (Int.toNat x0) (1 : Nat)) ∧ g = g ∧ lgo (allC runs) ((0 : Nat) + Int.toNat x0 * (12 : Nat) + (2 : Nat)) = some (allC_rd runs (Int.toNat x0) (2 : Nat)) ∧ g = g ∧ lgo (allC runs) ((0 : Nat) + Int.toNat x0 * (12 : Nat) + (3 : Nat)) = some (allC_rd runs (Int.toNat x0) (3 : Nat)) ∧ g = g ∧ lgo (allC runs) ((0 : Nat) + Int.toNat x0 * (12 : Nat) + (4 : Nat)) = some (allC_rd runs (Int.toNat x0) (4 : Nat)) ∧ g = g ∧ lgo (allC runs) ((0 : Nat) + Int.toNat x0 * (12 : Nat) + (5 : Nat)) = some (allC_rd runs (Int.toNat x0) (5 : Nat)) ∧ g = g ∧ lgo (allC runs) ((0 : Nat) + Int.toNat x0 * (12 : Nat) + (6 : Nat)) = some (allC_rd runs (Int.toNat x0) (6 : Nat)) ∧ g = g ∧ lgo (allC runs) ((0 : Nat) + Int.toNat x0 * (12 : Nat) + (7 : Nat)) = some (allC_rd runs (Int.toNat x0) (7 : Nat)) ∧ g = g ∧ lgo (allC runs) ((0 : Nat) + Int.toNat x0 * (12 : Nat) + (8 : Nat)) = some (allC_rd runs (Int.toNat x0) (8 : Nat)) ∧ g = g ∧ lgo (allC runs) ((0 : Nat) + Int.toNat x0 * (12 : Nat) + (9 : Nat)) = some (allC_rd runs (Int.toNat x0) (9 : Nat)) ∧ g = g ∧ lgo (allC runs) ((0 : Nat) + Int.toNat x0 * (12 : Nat) + (10 : Nat)) = some (allC_rd runs (Int.toNat x0) (10 : Nat)) ∧ g = g ∧ lgo (allC runs) ((0 : Nat) + Int.toNat x0 * (12 : Nat) + (11 : Nat)) = some (allC_rd runs (Int.toNat x0) (11 : Nat)) ∧ ((0 : Int) ≤ x0 ∧ x0 < (↑(allN runs) : Int)) ∧ g_1 = g_1 ∧ lgo (allC runs) ((0 : Nat) + Int.toNat x0 * (12 : Nat)) = some (allC_rd runs (Int.toNat x0) (0 : Nat)) ∧ g_1 = g_1 ∧ lgo (allC runs) ((0 : Nat) + Int.toNat x0 * (12 : Nat) + (1 : Nat)) = some (allC_rd runs (Int.toNat x0) (1 : Nat)) ∧ g_1 = g_1 ∧ lgo (allC runs) ((0 : Nat) + Int.toNat x0 * (12 : Nat) + (2 : Nat)) = some (allC_rd runs (Int.toNat x0) (2 : Nat)) ∧ g_1 = g_1 ∧ lgo (allC runs) ((0 : Nat) + Int.toNat x0 * (12 : Nat) + (3 : Nat)) = some (allC_rd runs (Int.toNat x0) (3 : Nat)) ∧ g_1 = g_1 ∧ lgo (allC runs) ((0 : Nat) + Int.toNat x0 * (12 : Nat) + (4 : Nat)) = some (allC_rd runs (Int.toNat x0) (4 : Nat)) ∧ g_1 = g_1 ∧ lgo (allC runs) ((0 : Nat) + Int.toNat x0 * (12 : Nat) + (5 : Nat)) = some (allC_rd runs (Int.toNat x0) (5 : Nat)) ∧ g_1 = g_1 ∧ lgo (allC runs) ((0 : Nat) + Int.toNat x0 * (12 : Nat) + (6 : Nat)) = some (allC_rd runs (Int.toNat x0) (6 : Nat)) ∧ g_1 = g_1 ∧ lgo (allC runs) ((0 : Nat) + Int.toNat x0 * (12 : Nat) + (7 : Nat)) = some (allC_rd runs (Int.toNat x0) (7 : Nat)) ∧ g_1 = g_1 ∧ lgo (allC runs) ((0 : Nat) + Int.toNat x0 * (12 : Nat) + (8 : Nat)) = some (allC_rd runs (Int.toNat x0) (8 : Nat)) ∧ g_1 = g_1 ∧ lgo (allC runs) ((0 : Nat) + Int.toNat x0 * (12 : Nat) + (9 : Nat)) = some (allC_rd runs (Int.toNat x0) (9 : Nat)) ∧ g_1 = g_1 ∧ lgo (allC runs) ((0 : Nat) + Int.toNat x0 * (12 : Nat) + (10 : Nat)) = some (allC_rd runs (Int.toNat x0) (10 : Nat)) ∧ g_1 = g_1 ∧ lgo (allC runs) ((0 : Nat) + Int.toNat x0 * (12 : Nat) + (11 : Nat)) = some (allC_rd runs (Int.toNat x0) (11 : Nat)) ∧ ((!(alI runs (Int.toNat x0) (0 : Nat) == alI runs (Int.toNat x0) (0 : Nat) && (alI runs (Int.toNat x0) (1 : Nat) == alI runs (Int.toNat x0) (1 : Nat) && (alI runs (Int.toNat x0) (2 : Nat) == alI runs (Int.toNat x0) (2 : Nat) && (true && (alI runs (Int.toNat x0) (4 : Nat) == alI runs (Int.toNat x0) (4 : Nat) && true)))))) = true → Value.bool false = Value.bool true) ∧ ((!(alI runs (Int.toNat x0) (0 : Nat) == alI runs (Int.toNat x0) (0 : Nat) && (alI runs (Int.toNat x0) (1 : Nat) == alI runs (Int.toNat x0) (1 : Nat) && (alI runs (Int.toNat x0) (2 : Nat) == alI runs (Int.toNat x0) (2 : Nat) && (true && (alI runs (Int.toNat x0) (4 : Nat) == alI runs (Int.toNat x0) (4 : Nat) && true)))))) = false → ∃ y, bx runs y ∧ Int.toNat ((↑(allN runs) : Int) - y) < Int.toNat ((↑(allN runs) : Int) - x0) ∧ Value.int IntKind.i64 (IntKind.wrap IntKind.i64 (x0 + (1 : Int))) = Value.int IntKind.i64 y ∧ True)) ∧ (decide (x0 < (↑(allN runs) : Int)) = false → Value.bool true = Value.bool true))) := by kernel_rfl
set_option maxHeartbeats 4000000 in
theorem deliveryAll_sp (runs : Int) (hr : -9223372036854775808 ≤ runs ∧ runs ≤ 9223372036854775807) : SpecP Try.prog 6 #[.int .i64 runs] (.bool true) := by
  intro w
  refine calls_val (h := deliveryAll_h runs) (?_ : wpF Try.prog [] 400 6 [.int .i64 runs] (deliveryAll_h runs) (fun rv _ => rv = .bool true))
  rw [deliveryAll_x]
  (repeat' (first | with_reducible exact rfl | exact trivial | with_reducible assumption | exact all_sp _ hr | exact rall_sp _ hr | exact awake_sp | (with_reducible apply And.intro) | (with_reducible intro _)))
  all_goals (first | (simp only [*, Bool.and_true, Bool.true_and, Bool.and_false, Bool.false_and, Bool.or_true, Bool.true_or, Bool.or_false, Bool.false_or, Bool.not_true, Bool.not_false, cond_true, cond_false]; done) | skip)
  all_goals first
    | (with_reducible refine rdg (by assumption) (by assumption) ?_ ?_; all_goals omega)
    | with_reducible exact ⟨_, bx0 runs, rfl, trivial⟩
    | with_reducible exact ⟨_, (bxs (by assumption) (by assumption)).1, (bxs (by assumption) (by assumption)).2, rfl, trivial⟩
    | (with_reducible refine (ixb (by assumption) (by assumption)).1)
    | (with_reducible refine (ixb (by assumption) (by assumption)).2)
    | (exfalso; simp only [bx, decide_eq_true_eq, bne_iff_ne, ne_eq] at *; omega)
    | (exfalso; simp_all; done)
end Go.Proofs.Ytkakhaedipjodaa
