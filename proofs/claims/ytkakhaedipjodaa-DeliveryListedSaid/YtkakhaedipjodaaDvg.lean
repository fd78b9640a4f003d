/- The law of layer 9 that a plain delivery stands in the list just once if it is legal and has few runs (DeliveryListed). -/
import Derived.Test.YtkakhaedipjodaaSy
import Derived.KernelRfl
import Derived.Test.YtkakhaedipjodaaProg
import Derived.Test.YtkakhaedipjodaaDvf
set_option linter.unusedSimpArgs false
set_option linter.unusedVariables false
set_option maxRecDepth 100000
namespace Go.Proofs.Ytkakhaedipjodaa
open Go.RowKit


abbrev Qd := Int × Int × Int × Int
def okq (q : Qd) : Bool := decide (lg ⟨q.1, q.2.1, q.2.2.1, 0, q.2.2.2, false, 0, 0, 0, 0, false, 0⟩ = 0)
def qb (q : Qd) : List Qd := if okq q = true then [q] else []
def qn (t s : Int) : Nat → List Qd
  | 0 => []
  | k + 1 => qn t s k ++ (qb (t, s, k, 0) ++ qb (t, s, k, 4) ++ qb (t, s, k, 6))
def qs (t : Int) (m : Nat) : Nat → List Qd
  | 0 => []
  | j + 1 => qs t m j ++ qn t j m
def qt (m : Nat) : Nat → List Qd
  | 0 => []
  | i + 1 => qt m i ++ qs (i + 1) m 4
theorem cb_q (q : Qd) : cb q.1 q.2.1 q.2.2.1 q.2.2.2 = (qb q).flatMap dq := by
  unfold cb qb okq
  by_cases h : lg ⟨q.1, q.2.1, q.2.2.1, 0, q.2.2.2, false, 0, 0, 0, 0, false, 0⟩ = 0
  · simp [h, dq]
  · simp [h]
theorem xn_q (t s : Int) (k : Nat) : xn t s k = (qn t s k).flatMap dq := by
  induction k with
  | zero => rfl
  | succ k ih => simp only [xn, qn, List.flatMap_append, ih, ← cb_q]
theorem xs_q (t : Int) (m j : Nat) : xs t m j = (qs t m j).flatMap dq := by
  induction j with
  | zero => rfl
  | succ k ih => simp only [xs, qs, List.flatMap_append, ih, xn_q]
theorem xt_q (m i : Nat) : xt m i = (qt m i).flatMap dq := by
  induction i with
  | zero => rfl
  | succ k ih => simp only [xt, qt, List.flatMap_append, ih, xs_q]
theorem okq_b {q : Qd} (h : okq q = true) : (q.2.2.2 = 0 ∨ q.2.2.2 = 4 ∨ q.2.2.2 = 6) ∧ (1 ≤ q.1 ∧ q.1 ≤ 3) ∧ q.2.1 ≤ 3 ∧ (0 ≤ q.2.2.1 ∧ q.2.2.1 ≤ 7) := by
  have h := of_decide_eq_true h
  have := lg_facts h
  simp only at this
  omega
theorem cnt_b (p q : Qd) : (qb p).count q = if p = q ∧ okq q = true then 1 else 0 := by
  unfold qb
  by_cases h : p = q
  · subst h
    cases okq p <;> simp
  · cases hp : okq p <;> simp [h, List.count_cons]
theorem cnt_n (t s : Int) (k : Nat) (q : Qd) : (qn t s k).count q = if q.1 = t ∧ q.2.1 = s ∧ q.2.2.1 < k ∧ okq q = true then 1 else 0 := by
  induction k with
  | zero =>
    simp only [qn, List.count_nil]
    rw [if_neg]
    rintro ⟨_, _, h, h2⟩
    have := okq_b h2
    omega
  | succ k ih =>
    simp only [qn, List.count_append, ih, cnt_b]
    obtain ⟨a, b, c, d⟩ := q
    simp only [Prod.mk.injEq]
    cases ho : okq (a, b, c, d)
    · simp
    · have hb := (okq_b ho).1
      simp only at hb
      simp only [and_true]
      by_cases h1 : a = t
      · by_cases h2 : b = s
        · by_cases h3 : c = k
          · subst h1 h2 h3
            simp only [true_and]
            rcases hb with rfl | rfl | rfl <;> simp [show (k : Int) < (k : Int) + 1 by omega]
          · subst h1 h2
            have h3' : ¬ (k : Int) = c := fun e => h3 e.symm
            simp only [h3', false_and, and_false, if_false, true_and, Nat.add_zero]
            by_cases h4 : c < (k : Int)
            · rw [if_pos h4, if_pos (by omega)]
            · rw [if_neg h4, if_neg (by omega)]
        · have h2' : ¬ s = b := fun e => h2 e.symm
          simp [h2, h2']
      · have h1' : ¬ t = a := fun e => h1 e.symm
        simp [h1, h1']
theorem cnt_s (t : Int) (m j : Nat) (q : Qd) : (qs t m j).count q = if q.1 = t ∧ (0 ≤ q.2.1 ∧ q.2.1 < j) ∧ q.2.2.1 < m ∧ okq q = true then 1 else 0 := by
  induction j with
  | zero =>
    simp only [qs, List.count_nil]
    rw [if_neg]
    omega
  | succ k ih =>
    simp only [qs, List.count_append, ih, cnt_n]
    by_cases h : q.1 = t ∧ q.2.2.1 < m ∧ okq q = true
    · obtain ⟨h1, h2, h3⟩ := h
      simp only [h1, h2, h3, true_and, and_true]
      by_cases e : q.2.1 = (k : Int)
      · rw [if_neg (by omega), if_pos e, if_pos (by omega)]
      · by_cases l : 0 ≤ q.2.1 ∧ q.2.1 < (k : Int)
        · rw [if_pos l, if_neg e, if_pos (by omega)]
        · rw [if_neg l, if_neg e, if_neg (by omega)]
    · rw [if_neg (by rintro ⟨a, _, b, c⟩; exact h ⟨a, b, c⟩), if_neg (by rintro ⟨a, _, b, c⟩; exact h ⟨a, b, c⟩), if_neg (by rintro ⟨a, _, b, c⟩; exact h ⟨a, b, c⟩)]
theorem cnt_t (m i : Nat) (q : Qd) : (qt m i).count q = if (1 ≤ q.1 ∧ q.1 ≤ i) ∧ (0 ≤ q.2.1 ∧ q.2.1 < 4) ∧ q.2.2.1 < m ∧ okq q = true then 1 else 0 := by
  induction i with
  | zero =>
    simp only [qt, List.count_nil]
    rw [if_neg]
    omega
  | succ k ih =>
    simp only [qt, List.count_append, ih, cnt_s]
    by_cases h : (0 ≤ q.2.1 ∧ q.2.1 < 4) ∧ q.2.2.1 < m ∧ okq q = true
    · obtain ⟨h1, h2, h3⟩ := h
      have h1' : 0 ≤ q.2.1 ∧ q.2.1 < ((4 : Nat) : Int) := h1
      simp only [h1, h1', h2, h3, and_true]
      by_cases e : q.1 = (k : Int) + 1
      · rw [if_neg (by omega), if_pos e, if_pos (by omega)]
      · by_cases l : 1 ≤ q.1 ∧ q.1 ≤ (k : Int)
        · rw [if_pos l, if_neg e, if_pos (by omega)]
        · rw [if_neg l, if_neg e, if_neg (by omega)]
    · rw [if_neg (by rintro ⟨_, a, b, c⟩; exact h ⟨a, b, c⟩), if_neg (by rintro ⟨_, a, b, c⟩; exact h ⟨a, b, c⟩), if_neg (by rintro ⟨_, a, b, c⟩; exact h ⟨a, b, c⟩)]


@[reducible] def nn (runs : Int) : Int := Int.tmod (IntKind.i64.wrap runs) 10
theorem allC_q (N : Int) : allC N = (qt (allM N) 3).flatMap dq := xt_q _ _
theorem allN_q (N : Int) : allN N = (qt (allM N) 3).length := by unfold allN; rw [allC_q, flat_len]; omega
theorem al_q {N : Int} {k : Nat} (hk : k < allN N) : ∃ h : k < (qt (allM N) 3).length, (qt (allM N) 3)[k] = (alI N k 0, alI N k 1, alI N k 2, alI N k 4) := by
  have h : k < (qt (allM N) 3).length := by rw [← allN_q]; exact hk
  refine ⟨h, ?_⟩
  have e : ∀ i, i < 12 → alI N k i = intOf ((dq (qt (allM N) 3)[k]).getD i undef) := fun i hi => by
    unfold alI
    rw [allC_q, List.getD_eq_getElem?_getD, flat_get _ k i hi, List.getElem?_eq_getElem h, List.getD_eq_getElem?_getD]
    rfl
  rw [e 0 (by omega), e 1 (by omega), e 2 (by omega), e 4 (by omega)]
  rfl
def lv (t s r b N : Int) (x : Int × Int) : Prop := (0 ≤ x.1 ∧ x.1 ≤ allN N) ∧ x.2 = ((qt (allM N) 3).take x.1.toNat).count (t, s, r, b)
theorem lv0 (t s r b N : Int) : lv t s r b N (0, 0) := ⟨⟨by simp, by simp⟩, by simp⟩
theorem lv_le {t s r b N : Int} {x : Int × Int} (h : lv t s r b N x) : 0 ≤ x.2 ∧ x.2 ≤ 300 := by
  have h1 := h.2
  have h2 : ((qt (allM N) 3).take x.1.toNat).count (t, s, r, b) ≤ (qt (allM N) 3).length := Nat.le_trans List.count_le_length (by simp; omega)
  rw [← allN_q] at h2
  have := allN_le N
  omega
theorem lv_step {t s r b N : Int} {x : Int × Int} (h : lv t s r b N x) (h2 : decide (x.1 < (allN N : Int)) = true) (y : Int)
    (hy : y = x.2 + if (alI N x.1.toNat 0, alI N x.1.toNat 1, alI N x.1.toNat 2, alI N x.1.toNat 4) = (t, s, r, b) then 1 else 0) :
    lv t s r b N (IntKind.i64.wrap (x.1 + 1), y) ∧ ((allN N : Int) - IntKind.i64.wrap (x.1 + 1)).toNat < ((allN N : Int) - x.1).toNat := by
  rw [decide_eq_true_eq] at h2
  have := allN_le N
  have h1 := h.1.1
  have e : IntKind.i64.wrap (x.1 + 1) = x.1 + 1 := w64 (by omega) (by omega)
  obtain ⟨hk, hq⟩ := al_q (N := N) (k := x.1.toNat) (by omega)
  rw [e]
  refine ⟨⟨⟨by omega, by simp only; omega⟩, ?_⟩, by omega⟩
  simp only
  rw [show (x.1 + 1).toNat = x.1.toNat + 1 by omega, List.take_add_one, List.getElem?_eq_getElem hk, List.count_append, hy, h.2, hq]
  simp [List.count_cons]
  split <;> rfl
theorem lv_end {t s r b N : Int} {x : Int × Int} (h : lv t s r b N x) (h2 : decide (x.1 < (allN N : Int)) = false) (hs : 0 ≤ s) (hN : 0 ≤ N) :
    x.2 = if lg ⟨t, s, r, 0, b, false, 0, 0, 0, 0, false, 0⟩ = 0 ∧ r ≤ N then 1 else 0 := by
  rw [decide_eq_false_iff_not] at h2
  have h1 := h.1.2
  have hl := allN_q N
  rw [h.2, List.take_of_length_le (by omega), cnt_t]
  have hm : (allM N : Int) = min N 7 + 1 := by unfold allM; omega
  by_cases hk : okq (t, s, r, b) = true
  · have hb := okq_b hk
    have hg : lg ⟨t, s, r, 0, b, false, 0, 0, 0, 0, false, 0⟩ = 0 := of_decide_eq_true hk
    simp only at hb
    simp only [hk, hg, and_true, true_and]
    by_cases hr : r ≤ N
    · rw [if_pos hr, if_pos (by omega)]; rfl
    · rw [if_neg hr, if_neg (by omega)]; rfl
  · have hg : ¬ lg ⟨t, s, r, 0, b, false, 0, 0, 0, 0, false, 0⟩ = 0 := fun e => hk (decide_eq_true e)
    rw [if_neg (fun e => hk e.2.2.2), if_neg (fun e => hg e.1)]; rfl
theorem rdv {t s r b N : Int} {x : Int × Int} {j o : Nat} (h : lv t s r b N x) (h2 : decide (x.1 < (allN N : Int)) = true) (hj : j < 12) (ho : o = x.1.toNat * 12 + j) : lgo (allC N) o = some (allC_rd N x.1.toNat j) := rdg (x := x.1) h.1 h2 hj ho
theorem nn_0 {runs : Int} (hr : 0 ≤ runs ∧ runs ≤ 255) : 0 ≤ nn runs := by
  unfold nn
  rw [w64 (by omega) (by omega)]
  exact Int.tmod_nonneg _ hr.1
theorem nn_b {runs : Int} (hr : 0 ≤ runs ∧ runs ≤ 255) : -9223372036854775808 ≤ nn runs ∧ nn runs ≤ 9223372036854775807 := by
  have := nn_0 hr
  unfold nn at *
  rw [w64 (by omega) (by omega)] at *
  have := Int.tmod_lt_of_pos runs (b := 10) (by omega)
  omega
theorem lvE {t s r b N : Int} {x : Int × Int} {m : Nat} (h : lv t s r b N x) (hm : allN N = m) (h2 : decide (x.1 < (m : Int)) = false) (hs : 0 ≤ s) (hN : 0 ≤ N) :
    Value.bool (x.2 == bif lg ⟨t, s, r, 0, b, false, 0, 0, 0, 0, false, 0⟩ == 0 && decide (r ≤ N) then 1 else 0) = Value.bool true := by
  subst hm
  rw [lv_end h h2 hs hN]
  refine congrArg Value.bool ?_
  by_cases h3 : lg ⟨t, s, r, 0, b, false, 0, 0, 0, 0, false, 0⟩ = 0 <;> by_cases h4 : r ≤ N <;> simp [Bool.cond_eq_ite, h3, h4]
theorem lvP {t s r b N : Int} {x : Int × Int} (h : lv t s r b N x) : 0 ≤ x.1 := h.1.1
theorem lvF {t s r b N : Int} {x : Int × Int} (h : lv t s r b N x) (h2 : decide (x.1 < ((0 : Nat) : Int)) = true) : False := by
  rw [decide_eq_true_eq] at h2
  have := h.1.1
  omega
theorem lvS {t s r b N : Int} {x : Int × Int} (h : lv t s r b N x) (h2 : decide (x.1 < (allN N : Int)) = true) :
    lv t s r b N (IntKind.i64.wrap (x.1 + 1), bif alI N x.1.toNat 0 == t && (alI N x.1.toNat 1 == s && (alI N x.1.toNat 2 == r && (true && (alI N x.1.toNat 4 == b && true)))) then IntKind.i64.wrap (x.2 + 1) else x.2) ∧ ((allN N : Int) - IntKind.i64.wrap (x.1 + 1)).toNat < ((allN N : Int) - x.1).toNat := by
  refine lv_step h h2 _ ?_
  have := lv_le h
  have e : IntKind.i64.wrap (x.2 + 1) = x.2 + 1 := w64 (by omega) (by omega)
  rw [e]
  by_cases h1 : alI N x.1.toNat 0 = t <;> by_cases h2 : alI N x.1.toNat 1 = s <;> by_cases h3 : alI N x.1.toNat 2 = r <;> by_cases h4 : alI N x.1.toNat 4 = b <;> simp [Bool.cond_eq_ite, h1, h2, h3, h4]
@[reducible] def ll0 (t s r b N : Int) : LoopR := ⟨Int × Int, fun x => [(27, .int .i64 x.1), (6, .int .i64 x.2)], [], fun _ => [], lv t s r b N, fun x => (allN N - x.1).toNat, []⟩

def deliveryListed_h (t s r sh b : Int) (x : Bool) (h v f g : Int) (u : Bool) (z runs : Int) : Hint := Hint.spec (Value.bool true) (Hint.lit (Hint.pl (Hint.pl (Hint.ob (0 : Nat) (Hint.ob (0 : Nat) (Hint.ob (0 : Nat) (Hint.ob (0 : Nat) (Hint.ob (0 : Nat) (Hint.ob (0 : Nat) (Hint.ob (0 : Nat) (Hint.ob (0 : Nat) (Hint.ob (0 : Nat) (Hint.ob (0 : Nat) (Hint.ob (0 : Nat) (Hint.ob (0 : Nat) (Hint.ob (0 : Nat) (Hint.ob (0 : Nat) (Hint.ob (0 : Nat) (Hint.ob (0 : Nat) (Hint.specs (26 : TypeId) (12 : Nat) (allN (Int.tmod (IntKind.wrap IntKind.i64 runs) (10 : Int))) (allC (Int.tmod (IntKind.wrap IntKind.i64 runs) (10 : Int))) (Hint.pl (Hint.inv (ll0 t s r b (nn runs)) fun x0 ↦ Hint.split Hint.no (Hint.nc (Hint.cut [((45 : Nat), Value.bool (lg (Dl.mk t s r (0 : Int) b false (0 : Int) (0 : Int) (0 : Int) (0 : Int) false (0 : Int)) == (0 : Int) && decide (r ≤ Int.tmod (IntKind.wrap IntKind.i64 runs) (10 : Int))))] (Hint.ob (0 : Nat) (Hint.ob (0 : Nat) (Hint.ob (0 : Nat) (Hint.ob (0 : Nat) (Hint.ob (0 : Nat) (Hint.ob (0 : Nat) (Hint.ob (0 : Nat) (Hint.ob (0 : Nat) (Hint.ob (0 : Nat) (Hint.ob (0 : Nat) (Hint.ob (0 : Nat) (Hint.ob (0 : Nat) (Hint.spec (Value.int IntKind.i64 (lg (Dl.mk t s r (0 : Int) b false (0 : Int) (0 : Int) (0 : Int) (0 : Int) false (0 : Int)))) (Hint.pl (Hint.split (Hint.lit (Hint.ob (0 : Nat) (Hint.lit (Hint.lit (Hint.lit Hint.nil))))) (Hint.lit (Hint.lit (Hint.lit (Hint.lit Hint.nil))))))))))))))))))) (Hint.cut [((9 : Nat), Value.int IntKind.i64 (bif lg (Dl.mk t s r (0 : Int) b false (0 : Int) (0 : Int) (0 : Int) (0 : Int) false (0 : Int)) == (0 : Int) && decide (r ≤ Int.tmod (IntKind.wrap IntKind.i64 runs) (10 : Int)) then (1 : Int) else (0 : Int)))] (Hint.split Hint.nil Hint.nil) (Hint.pl Hint.nil)))))) (Hint.pl (Hint.inv (ll0 t s r b (nn runs)) fun x0 ↦ Hint.split (Hint.ix (Hint.obv (1 : Nat) (allC_rd (Int.tmod (IntKind.wrap IntKind.i64 runs) (10 : Int)) (Int.toNat x0.1) (0 : Nat)) (Hint.obv (1 : Nat) (allC_rd (Int.tmod (IntKind.wrap IntKind.i64 runs) (10 : Int)) (Int.toNat x0.1) (1 : Nat)) (Hint.obv (1 : Nat) (allC_rd (Int.tmod (IntKind.wrap IntKind.i64 runs) (10 : Int)) (Int.toNat x0.1) (2 : Nat)) (Hint.obv (1 : Nat) (allC_rd (Int.tmod (IntKind.wrap IntKind.i64 runs) (10 : Int)) (Int.toNat x0.1) (3 : Nat)) (Hint.obv (1 : Nat) (allC_rd (Int.tmod (IntKind.wrap IntKind.i64 runs) (10 : Int)) (Int.toNat x0.1) (4 : Nat)) (Hint.obv (1 : Nat) (allC_rd (Int.tmod (IntKind.wrap IntKind.i64 runs) (10 : Int)) (Int.toNat x0.1) (5 : Nat)) (Hint.obv (1 : Nat) (allC_rd (Int.tmod (IntKind.wrap IntKind.i64 runs) (10 : Int)) (Int.toNat x0.1) (6 : Nat)) (Hint.obv (1 : Nat) (allC_rd (Int.tmod (IntKind.wrap IntKind.i64 runs) (10 : Int)) (Int.toNat x0.1) (7 : Nat)) (Hint.obv (1 : Nat) (allC_rd (Int.tmod (IntKind.wrap IntKind.i64 runs) (10 : Int)) (Int.toNat x0.1) (8 : Nat)) (Hint.obv (1 : Nat) (allC_rd (Int.tmod (IntKind.wrap IntKind.i64 runs) (10 : Int)) (Int.toNat x0.1) (9 : Nat)) (Hint.obv (1 : Nat) (allC_rd (Int.tmod (IntKind.wrap IntKind.i64 runs) (10 : Int)) (Int.toNat x0.1) (10 : Nat)) (Hint.obv (1 : Nat) (allC_rd (Int.tmod (IntKind.wrap IntKind.i64 runs) (10 : Int)) (Int.toNat x0.1) (11 : Nat)) (Hint.ob (2 : Nat) (Hint.ob (2 : Nat) (Hint.ob (2 : Nat) (Hint.ob (2 : Nat) (Hint.ob (2 : Nat) (Hint.ob (2 : Nat) (Hint.ob (2 : Nat) (Hint.ob (2 : Nat) (Hint.ob (2 : Nat) (Hint.ob (2 : Nat) (Hint.ob (2 : Nat) (Hint.ob (2 : Nat) (Hint.ob (2 : Nat) (Hint.ob (2 : Nat) (Hint.ob (2 : Nat) (Hint.ob (2 : Nat) (Hint.ob (2 : Nat) (Hint.ob (2 : Nat) (Hint.ob (2 : Nat) (Hint.ob (2 : Nat) (Hint.ob (2 : Nat) (Hint.ob (2 : Nat) (Hint.ob (2 : Nat) (Hint.ob (2 : Nat) (Hint.ob (0 : Nat) (Hint.ob (0 : Nat) (Hint.ob (0 : Nat) (Hint.ob (0 : Nat) (Hint.ob (0 : Nat) (Hint.ob (0 : Nat) (Hint.ob (0 : Nat) (Hint.ob (0 : Nat) (Hint.ob (0 : Nat) (Hint.ob (0 : Nat) (Hint.ob (0 : Nat) (Hint.ob (0 : Nat) (Hint.cut [((6 : Nat), Value.int IntKind.i64 (bif alI (Int.tmod (IntKind.wrap IntKind.i64 runs) (10 : Int)) (Int.toNat x0.1) (0 : Nat) == t && (alI (Int.tmod (IntKind.wrap IntKind.i64 runs) (10 : Int)) (Int.toNat x0.1) (1 : Nat) == s && (alI (Int.tmod (IntKind.wrap IntKind.i64 runs) (10 : Int)) (Int.toNat x0.1) (2 : Nat) == r && (true && (alI (Int.tmod (IntKind.wrap IntKind.i64 runs) (10 : Int)) (Int.toNat x0.1) (4 : Nat) == b && true)))) then IntKind.wrap IntKind.i64 (x0.2 + (1 : Int)) else x0.2))] (Hint.split Hint.nil Hint.nil) Hint.nil)))))))))))))))))))))))))))))))))))))))))))))))))) (Hint.nc (Hint.cut [((45 : Nat), Value.bool (lg (Dl.mk t s r (0 : Int) b false (0 : Int) (0 : Int) (0 : Int) (0 : Int) false (0 : Int)) == (0 : Int) && decide (r ≤ Int.tmod (IntKind.wrap IntKind.i64 runs) (10 : Int))))] (Hint.ob (0 : Nat) (Hint.ob (0 : Nat) (Hint.ob (0 : Nat) (Hint.ob (0 : Nat) (Hint.ob (0 : Nat) (Hint.ob (0 : Nat) (Hint.ob (0 : Nat) (Hint.ob (0 : Nat) (Hint.ob (0 : Nat) (Hint.ob (0 : Nat) (Hint.ob (0 : Nat) (Hint.ob (0 : Nat) (Hint.spec (Value.int IntKind.i64 (lg (Dl.mk t s r (0 : Int) b false (0 : Int) (0 : Int) (0 : Int) (0 : Int) false (0 : Int)))) (Hint.pl (Hint.split (Hint.lit (Hint.ob (0 : Nat) (Hint.lit (Hint.lit (Hint.lit Hint.nil))))) (Hint.lit (Hint.lit (Hint.lit (Hint.lit Hint.nil))))))))))))))))))) (Hint.cut [((9 : Nat), Value.int IntKind.i64 (bif lg (Dl.mk t s r (0 : Int) b false (0 : Int) (0 : Int) (0 : Int) (0 : Int) false (0 : Int)) == (0 : Int) && decide (r ≤ Int.tmod (IntKind.wrap IntKind.i64 runs) (10 : Int)) then (1 : Int) else (0 : Int)))] (Hint.split Hint.nil Hint.nil) (Hint.pl Hint.nil))))))))))))))))))))))))))
theorem deliveryListed_x (t s r sh b : Int) (x : Bool) (h v f g : Int) (u : Bool) (z runs : Int) : wpF Try.prog [] 400 7 [.agg #[.int .u8 t, .int .u8 s, .int .i64 r, .int .i64 sh, .int .i64 b, .bool x, .int .u8 h, .int .i64 v, .int .i64 f, .int .i64 g, .bool u, .int .i64 z], .int .u8 runs] (deliveryListed_h t s r sh b x h v f g u z runs) (fun rv _ => rv = .bool true) = (∀ (b_1 : Nat), SpecP Try.prog 9 (Array.mk []) (Value.bool true) ∧ b_1 = b_1 ∧ b_1 = b_1 ∧ b_1 = b_1 ∧ b_1 = b_1 ∧ b_1 = b_1 ∧ True ∧ b_1 = b_1 ∧ True ∧ b_1 = b_1 ∧ True ∧ b_1 = b_1 ∧ True ∧ b_1 = b_1 ∧ True ∧ b_1 = b_1 ∧ True ∧ b_1 = b_1 ∧ True ∧ b_1 = b_1 ∧ True ∧ b_1 = b_1 ∧ True ∧ b_1 = b_1 ∧ True ∧ b_1 = b_1 ∧ True ∧ b_1 = b_1 ∧ True ∧ SpecL Try.prog 18 (Array.mk [Value.int IntKind.i64 (Int.tmod (IntKind.wrap IntKind.i64 runs) (10 : Int))]) (26 : TypeId) (12 : Nat) (allN (Int.tmod (IntKind.wrap IntKind.i64 runs) (10 : Int))) (allC (Int.tmod (IntKind.wrap IntKind.i64 runs) (10 : Int))) ∧ (allN (Int.tmod (IntKind.wrap IntKind.i64 runs) (10 : Int)) = (0 : Nat) → (∃ x, lv t s r b (Int.tmod (IntKind.wrap IntKind.i64 runs) (10 : Int)) x ∧ Value.int IntKind.i64 (0 : Int) = Value.int IntKind.i64 x.1 ∧ Value.int IntKind.i64 (0 : Int) = Value.int IntKind.i64 x.2 ∧ True) ∧ ∀ (x0 : Int × Int), lv t s r b (Int.tmod (IntKind.wrap IntKind.i64 runs) (10 : Int)) x0 → ∀ (junk : Nat → Value), (decide (Prod.fst x0 < (↑(0 : Nat) : Int)) = true → False) ∧ (decide (Prod.fst x0 < (↑(0 : Nat) : Int)) = false → (b_1 = b_1 ∧ b_1 = b_1 ∧ b_1 = b_1 ∧ b_1 = b_1 ∧ b_1 = b_1 ∧ b_1 = b_1 ∧ b_1 = b_1 ∧ b_1 = b_1 ∧ b_1 = b_1 ∧ b_1 = b_1 ∧ b_1 = b_1 ∧ b_1 = b_1 ∧ SpecP Try.prog 10 (Array.mk [Value.agg (Array.mk [Value.int IntKind.u8 t, Value.int IntKind.u8 s, Value.int IntKind.i64 r, Value.int IntKind.i64 (0 : Int), Value.int IntKind.i64 b, Value.bool false, Value.int IntKind.u8 (0 : Int), Value.int IntKind.i64 (0 : Int), Value.int IntKind.i64 (0 : Int), Value.int IntKind.i64 (0 : Int), Value.bool false, Value.int IntKind.i64 (0 : Int)])]) (Value.int IntKind.i64 (lg (Dl.mk t s r (0 : Int) b false (0 : Int) (0 : Int) (0 : Int) (0 : Int) false (0 : Int)))) ∧ ((lg (Dl.mk t s r (0 : Int) b false (0 : Int) (0 : Int) (0 : Int) (0 : Int) false (0 : Int)) == (0 : Int)) = true → b_1 = b_1 ∧ Value.bool (decide (r ≤ Int.tmod (IntKind.wrap IntKind.i64 runs) (10 : Int))) = Value.bool (lg (Dl.mk t s r (0 : Int) b false (0 : Int) (0 : Int) (0 : Int) (0 : Int) false (0 : Int)) == (0 : Int) && decide (r ≤ Int.tmod (IntKind.wrap IntKind.i64 runs) (10 : Int))) ∧ True) ∧ ((lg (Dl.mk t s r (0 : Int) b false (0 : Int) (0 : Int) (0 : Int) (0 : Int) false (0 : Int)) == (0 : Int)) = false → Value.bool false = Value.bool (lg (Dl.mk t s r (0 : Int) b false (0 : Int) (0 : Int) (0 : Int) (0 : Int) false (0 : Int)) == (0 : Int) && decide (r ≤ Int.tmod (IntKind.wrap IntKind.i64 runs) (10 : Int))) ∧ True)) ∧ ∀ (junk : Nat → Value), (((lg (Dl.mk t s r (0 : Int) b false (0 : Int) (0 : Int) (0 : Int) (0 : Int) false (0 : Int)) == (0 : Int) && decide (r ≤ Int.tmod (IntKind.wrap IntKind.i64 runs) (10 : Int))) = true → Value.int IntKind.i64 (1 : Int) = Value.int IntKind.i64 (bif lg (Dl.mk t s r (0 : Int) b false (0 : Int) (0 : Int) (0 : Int) (0 : Int) false (0 : Int)) == (0 : Int) && decide (r ≤ Int.tmod (IntKind.wrap IntKind.i64 runs) (10 : Int)) then (1 : Int) else (0 : Int)) ∧ True) ∧ ((lg (Dl.mk t s r (0 : Int) b false (0 : Int) (0 : Int) (0 : Int) (0 : Int) false (0 : Int)) == (0 : Int) && decide (r ≤ Int.tmod (IntKind.wrap IntKind.i64 runs) (10 : Int))) = false → Value.int IntKind.i64 (0 : Int) = Value.int IntKind.i64 (bif lg (Dl.mk t s r (0 : Int) b false (0 : Int) (0 : Int) (0 : Int) (0 : Int) false (0 : Int)) == (0 : Int) && decide (r ≤ Int.tmod (IntKind.wrap IntKind.i64 runs) (10 : Int)) then (1 : Int) else (0 : Int)) ∧ True)) ∧ ∀ (junk : Nat → Value), Value.bool (x0.2 == bif lg (Dl.mk t s r (0 : Int) b false (0 : Int) (0 : Int) (0 : Int) (0 : Int) false (0 : Int)) == (0 : Int) && decide (r ≤ Int.tmod (IntKind.wrap IntKind.i64 runs) (10 : Int)) then (1 : Int) else (0 : Int)) = Value.bool true)) ∧ ∀ (g cap : Nat), (∃ x, lv t s r b (Int.tmod (IntKind.wrap IntKind.i64 runs) (10 : Int)) x ∧ Value.int IntKind.i64 (0 : Int) = Value.int IntKind.i64 x.1 ∧ Value.int IntKind.i64 (0 : Int) = Value.int IntKind.i64 x.2 ∧ True) ∧ ∀ (x0 : Int × Int), lv t s r b (Int.tmod (IntKind.wrap IntKind.i64 runs) (10 : Int)) x0 → ∀ (junk : Nat → Value), (decide (Prod.fst x0 < (↑(allN (Int.tmod (IntKind.wrap IntKind.i64 runs) (10 : Int))) : Int)) = true → ((0 : Int) ≤ Prod.fst x0 ∧ Prod.fst x0 < (↑(allN (Int.tmod (IntKind.wrap IntKind.i64 runs) (10 : Int))) : Int)) ∧ g = g ∧ lgo (allC (Int.tmod (IntKind.wrap IntKind.i64 runs) (10 : Int))) ((0 : Nat) + Int.toNat x0.1 * (12 : Nat)) = some (allC_rd (Int.tmod (IntKind.wrap IntKind.i64 runs) (10 : Int)) (Int.toNat x0.1) (0 : Nat)) ∧ g = g ∧ lgo (allC (Int.tmod (IntKind.wrap IntKind.i64 runs) (10 : Int))) ((0 : Nat) + Int.toNat x0.1 * (12 : Nat) + (1 : Nat)) = some (allC_rd (Int.tmod (IntKind.wrap IntKind.i64 runs) (10 : Int)) (Int.toNat x0.1) (1 : Nat)) ∧ g = g ∧ lgo (allC (Int.tmod (IntKind.wrap IntKind.i64 runs) (10 : Int))) ((0 : Nat) + Int.toNat x0.1 * (12 : Nat) + (2 : Nat)) = some (allC_rd (Int.tmod (IntKind.wrap IntKind.i64 runs) (10 : Int)) (Int.toNat x0.1) (2 : Nat)) ∧ g = g ∧ lgo (allC (Int.tmod (IntKind.wrap IntKind.i64 runs) (10 : Int))) ((0 : Nat) + Int.toNat x0.1 * (12 : Nat) + (3 : Nat)) = some (allC_rd (Int.tmod (IntKind.wrap IntKind.i64 runs) (10 : Int)) (Int.toNat x0.1) (3 : Nat)) ∧ g = g ∧ lgo (allC (Int.tmod (IntKind.wrap IntKind.i64 runs) (10 : Int))) ((0 : Nat) + Int.toNat x0.1 * (12 : Nat) + (4 : Nat)) = some (allC_rd (Int.tmod (IntKind.wrap IntKind.i64 runs) (10 : Int)) (Int.toNat x0.1) (4 : Nat)) ∧ g = g ∧ lgo (allC (Int.tmod (IntKind.wrap IntKind.i64 runs) (10 : Int))) ((0 : Nat) + Int.toNat x0.1 * (12 : Nat) + (5 : Nat)) = some (allC_rd (Int.tmod (IntKind.wrap IntKind.i64 runs) (10 : Int)) (Int.toNat x0.1) (5 : Nat)) ∧ g = g ∧ lgo (allC (Int.tmod (IntKind.wrap IntKind.i64 runs) (10 : Int))) ((0 : Nat) + Int.toNat x0.1 * (12 : Nat) + (6 : Nat)) = some (allC_rd (Int.tmod (IntKind.wrap IntKind.i64 runs) (10 : Int)) (Int.toNat x0.1) (6 : Nat)) ∧ g = g ∧ lgo (allC (Int.tmod (IntKind.wrap IntKind.i64 runs) (10 : Int))) ((0 : Nat) + Int.toNat x0.1 * (12 : Nat) + (7 : Nat)) = some (allC_rd (Int.tmod (IntKind.wrap IntKind.i64 runs) (10 : Int)) (Int.toNat x0.1) (7 : Nat)) ∧ g = g ∧ lgo (allC (Int.tmod (IntKind.wrap IntKind.i64 runs) (10 : Int))) ((0 : Nat) + Int.toNat x0.1 * (12 : Nat) + (8 : Nat)) = some (allC_rd (Int.tmod (IntKind.wrap IntKind.i64 runs) (10 : Int)) (Int.toNat x0.1) (8 : Nat)) ∧ g = g ∧ lgo (allC (Int.tmod (IntKind.wrap IntKind.i64 runs) (10 : Int))) ((0 : Nat) + Int.toNat x0.1 * (12 : Nat) + (9 : Nat)) = some (allC_rd (Int.tmod (IntKind.wrap IntKind.i64 runs) (10 : Int)) (Int.toNat x0.1) (9 : Nat)) ∧ g = g ∧ lgo (allC (Int.tmod (IntKind.wrap IntKind.i64 runs) (10 : Int))) ((0 : Nat) + Int.toNat x0.1 * (12 : Nat) + (10 : Nat)) = some (allC_rd (Int.tmod (IntKind.wrap IntKind.i64 runs) (10 : Int)) (Int.toNat x0.1) (10 : Nat)) ∧ g = g ∧ lgo (allC (Int.tmod (IntKind.wrap IntKind.i64 runs) (10 : Int))) ((0 : Nat) + Int.toNat x0.1 * (12 : Nat) + (11 : Nat)) = some (allC_rd (Int.tmod (IntKind.wrap IntKind.i64 runs) (10 : Int)) (Int.toNat x0.1) (11 : Nat)) ∧ ∀ (b_2 : Nat), b_2 = b_2 ∧ True ∧ b_2 = b_2 ∧ True ∧ b_2 = b_2 ∧ True ∧ b_2 = b_2 ∧ True ∧ b_2 = b_2 ∧ True ∧ b_2 = b_2 ∧ True ∧ b_2 = b_2 ∧ True ∧ b_2 = b_2 ∧ True ∧ b_2 = b_2 ∧ True ∧ b_2 = b_2 ∧ True ∧ b_2 = b_2 ∧ True ∧ b_2 = b_2 ∧ True ∧ b_2 = b_2 ∧ b_2 = b_2 ∧ b_2 = b_2 ∧ b_2 = b_2 ∧ b_2 = b_2 ∧ b_2 = b_2 ∧ b_2 = b_2 ∧ b_2 = b_2 ∧ b_2 = b_2 ∧ b_2 = b_2 ∧ b_2 = b_2 ∧ b_2 = b_2 ∧ b_1 = b_1 ∧ b_1 = b_1 ∧ b_1 = b_1 ∧ b_1 = b_1 ∧ b_1 = b_1 ∧ b_1 = b_1 ∧ b_1 = b_1 ∧ b_1 = b_1 ∧ b_1 = b_1 ∧ b_1 = b_1 ∧ b_1 = b_1 ∧ b_1 = b_1 ∧ (((alI (Int.tmod (IntKind.wrap IntKind.i64 runs) (10 : Int)) (Int.toNat x0.1) (0 : Nat) == t && (alI (Int.tmod (IntKind.wrap IntKind.i64 runs) (10 : Int)) (Int.toNat x0.1) (1 : Nat) == s && (alI (Int.tmod (IntKind.wrap IntKind.i64 runs) (10 : Int)) (Int.toNat x0.1) (2 : Nat) == r && (true && (alI (Int.tmod (IntKind.wrap IntKind.i64 runs) (10 : Int)) (Int.toNat x0.1) (4 : Nat) == b && true))))) = true → Value.int IntKind.i64 (IntKind.wrap IntKind.i64 (x0.2 + (1 : Int))) = Value.int IntKind.i64 (bif alI (Int.tmod (IntKind.wrap IntKind.i64 runs) (10 : Int)) (Int.toNat x0.1) (0 : Nat) == t && (alI (Int.tmod (IntKind.wrap IntKind.i64 runs) (10 : Int)) (Int.toNat x0.1) (1 : Nat) == s && (alI (Int.tmod (IntKind.wrap IntKind.i64 runs) (10 : Int)) (Int.toNat x0.1) (2 : Nat) == r && (true && (alI (Int.tmod (IntKind.wrap IntKind.i64 runs) (10 : Int)) (Int.toNat x0.1) (4 : Nat) == b && true)))) then IntKind.wrap IntKind.i64 (x0.2 + (1 : Int)) else x0.2) ∧ True) ∧ ((alI (Int.tmod (IntKind.wrap IntKind.i64 runs) (10 : Int)) (Int.toNat x0.1) (0 : Nat) == t && (alI (Int.tmod (IntKind.wrap IntKind.i64 runs) (10 : Int)) (Int.toNat x0.1) (1 : Nat) == s && (alI (Int.tmod (IntKind.wrap IntKind.i64 runs) (10 : Int)) (Int.toNat x0.1) (2 : Nat) == r && (true && (alI (Int.tmod (IntKind.wrap IntKind.i64 runs) (10 : Int)) (Int.toNat x0.1) (4 : Nat) == b && true))))) = false → Value.int IntKind.i64 x0.2 = Value.int IntKind.i64 (bif alI (Int.tmod (IntKind.wrap IntKind.i64 runs) (10 : Int)) (Int.toNat x0.1) (0 : Nat) == t && (alI (Int.tmod (IntKind.wrap IntKind.i64 runs) (10 : Int)) (Int.toNat x0.1) (1 : Nat) == s && (alI (Int.tmod (IntKind.wrap IntKind.i64 runs) (10 : Int)) (Int.toNat x0.1) (2 : Nat) == r && (true && (alI (Int.tmod (IntKind.wrap IntKind.i64 runs) (10 : Int)) (Int.toNat x0.1) (4 : Nat) == b && true)))) then IntKind.wrap IntKind.i64 (x0.2 + (1 : Int)) else x0.2) ∧ True)) ∧ ∀ (junk : Nat → Value), ∃ y, lv t s r b (Int.tmod (IntKind.wrap IntKind.i64 runs) (10 : Int)) y ∧ Int.toNat ((↑(allN (Int.tmod (IntKind.wrap IntKind.i64 runs) (10 : Int))) : Int) - y.1) < Int.toNat ((↑(allN (Int.tmod (IntKind.wrap IntKind.i64 runs) (10 : Int))) : Int) - x0.1) ∧ Value.int IntKind.i64 (IntKind.wrap IntKind.i64 (x0.1 + (1 : Int))) = Value.int IntKind.i64 y.1 ∧ Value.int IntKind.i64 (bif alI (Int.tmod (IntKind.wrap IntKind.i64 runs) (10 : Int)) (Int.toNat x0.1) (0 : Nat) == t && (alI (Int.tmod (IntKind.wrap IntKind.i64 runs) (10 : Int)) (Int.toNat x0.1) (1 : Nat) == s && (alI (Int.tmod (IntKind.wrap IntKind.i64 runs) (10 : Int)) (Int.toNat x0.1) (2 : Nat) == r && (true && (alI (Int.tmod (IntKind.wrap IntKind.i64 runs) (10 : Int)) (Int.toNat x0.1) (4 : Nat) == b && true)))) then IntKind.wrap IntKind.i64 (x0.2 + (1 : Int)) else x0.2) = Value.int IntKind.i64 y.2 ∧ True) ∧ (decide (Prod.fst x0 < (↑(allN (Int.tmod (IntKind.wrap IntKind.i64 runs) (10 : Int))) : Int)) = false → (b_1 = b_1 ∧ b_1 = b_1 ∧ b_1 = b_1 ∧ b_1 = b_1 ∧ b_1 = b_1 ∧ b_1 = b_1 ∧ b_1 = b_1 ∧ b_1 = b_1 ∧ b_1 = b_1 ∧ b_1 = b_1 ∧ b_1 = b_1 ∧ b_1 = b_1 ∧ SpecP Try.prog 10 (Array.mk [Value.agg (Array.mk [Value.int IntKind.u8 t, Value.int IntKind.u8 s, Value.int IntKind.i64 r, Value.int IntKind.i64 (0 : Int), Value.int IntKind.i64 b, Value.bool false, Value.int IntKind.u8 (0 : Int), Value.int IntKind.i64 (0 : Int), Value.int IntKind.i64 (0 : Int), Value.int IntKind.i64 (0 : Int), Value.bool false, Value.int IntKind.i64 (0 : Int)])]) (Value.int IntKind.i64 (lg (Dl.mk t s r (0 : Int) b false (0 : Int) (0 : Int) (0 : Int) (0 : Int) false (0 : Int)))) ∧ ((lg (Dl.mk t s r (0 : Int) b false (0 : Int) (0 : Int) (0 : Int) (0 : Int) false (0 : Int)) == (0 : Int)) = true → b_1 = b_1 ∧ Value.bool (decide (r ≤ Int.tmod (IntKind.wrap IntKind.i64 runs) (10 : Int))) = Value.bool (lg (Dl.mk t s r (0 : Int) b false (0 : Int) (0 : Int) (0 : Int) (0 : Int) false (0 : Int)) == (0 : Int) && decide (r ≤ Int.tmod (IntKind.wrap IntKind.i64 runs) (10 : Int))) ∧ True) ∧ ((lg (Dl.mk t s r (0 : Int) b false (0 : Int) (0 : Int) (0 : Int) (0 : Int) false (0 : Int)) == (0 : Int)) = false → Value.bool false = Value.bool (lg (Dl.mk t s r (0 : Int) b false (0 : Int) (0 : Int) (0 : Int) (0 : Int) false (0 : Int)) == (0 : Int) && decide (r ≤ Int.tmod (IntKind.wrap IntKind.i64 runs) (10 : Int))) ∧ True)) ∧ ∀ (junk : Nat → Value), (((lg (Dl.mk t s r (0 : Int) b false (0 : Int) (0 : Int) (0 : Int) (0 : Int) false (0 : Int)) == (0 : Int) && decide (r ≤ Int.tmod (IntKind.wrap IntKind.i64 runs) (10 : Int))) = true → Value.int IntKind.i64 (1 : Int) = Value.int IntKind.i64 (bif lg (Dl.mk t s r (0 : Int) b false (0 : Int) (0 : Int) (0 : Int) (0 : Int) false (0 : Int)) == (0 : Int) && decide (r ≤ Int.tmod (IntKind.wrap IntKind.i64 runs) (10 : Int)) then (1 : Int) else (0 : Int)) ∧ True) ∧ ((lg (Dl.mk t s r (0 : Int) b false (0 : Int) (0 : Int) (0 : Int) (0 : Int) false (0 : Int)) == (0 : Int) && decide (r ≤ Int.tmod (IntKind.wrap IntKind.i64 runs) (10 : Int))) = false → Value.int IntKind.i64 (0 : Int) = Value.int IntKind.i64 (bif lg (Dl.mk t s r (0 : Int) b false (0 : Int) (0 : Int) (0 : Int) (0 : Int) false (0 : Int)) == (0 : Int) && decide (r ≤ Int.tmod (IntKind.wrap IntKind.i64 runs) (10 : Int)) then (1 : Int) else (0 : Int)) ∧ True)) ∧ ∀ (junk : Nat → Value), Value.bool (x0.2 == bif lg (Dl.mk t s r (0 : Int) b false (0 : Int) (0 : Int) (0 : Int) (0 : Int) false (0 : Int)) == (0 : Int) && decide (r ≤ Int.tmod (IntKind.wrap IntKind.i64 runs) (10 : Int)) then (1 : Int) else (0 : Int)) = Value.bool true)) := by kernel_rfl
set_option maxHeartbeats 4000000 in
theorem deliveryListed_sp (t s r sh b : Int) (x : Bool) (h v f g : Int) (u : Bool) (z runs : Int) (ht : 0 ≤ t ∧ t ≤ 255) (hs : 0 ≤ s ∧ s ≤ 255) (hr : 0 ≤ runs ∧ runs ≤ 255) : SpecP Try.prog 7 #[.agg #[.int .u8 t, .int .u8 s, .int .i64 r, .int .i64 sh, .int .i64 b, .bool x, .int .u8 h, .int .i64 v, .int .i64 f, .int .i64 g, .bool u, .int .i64 z], .int .u8 runs] (.bool true) := by
  intro w
  refine calls_val (h := deliveryListed_h t s r sh b x h v f g u z runs) (?_ : wpF Try.prog [] 400 7 [.agg #[.int .u8 t, .int .u8 s, .int .i64 r, .int .i64 sh, .int .i64 b, .bool x, .int .u8 h, .int .i64 v, .int .i64 f, .int .i64 g, .bool u, .int .i64 z], .int .u8 runs] (deliveryListed_h t s r sh b x h v f g u z runs) (fun rv _ => rv = .bool true))
  rw [deliveryListed_x]
  (repeat' (first | with_reducible exact rfl | exact trivial | with_reducible assumption | exact all_sp _ (nn_b hr) | exact legal_sp _ _ _ _ _ _ _ _ _ _ _ _ | exact awake_sp | (with_reducible apply And.intro) | (with_reducible intro _)))
  all_goals (first | (simp only [*, Bool.and_true, Bool.true_and, Bool.and_false, Bool.false_and, Bool.or_true, Bool.true_or, Bool.or_false, Bool.false_or, Bool.not_true, Bool.not_false, cond_true, cond_false]; done) | skip)
  all_goals first
    | exact all_sp _ (nn_b hr)
    | (with_reducible refine rdv (by assumption) (by assumption) ?_ ?_; all_goals omega)
    | with_reducible exact ⟨_, lv0 _ _ _ _ _, rfl, rfl, trivial⟩
    | with_reducible exact lvP (by assumption)
    | with_reducible exact of_decide_eq_true (by assumption)
    | with_reducible exact ⟨_, (lvS (by assumption) (by assumption)).1, (lvS (by assumption) (by assumption)).2, rfl, rfl, trivial⟩
    | with_reducible exact lvF (by assumption) (by assumption)
    | with_reducible exact lvE (by assumption) rfl (by assumption) hs.1 (nn_0 hr)
    | with_reducible exact lvE (by assumption) (by assumption) (by assumption) hs.1 (nn_0 hr)
    | (rename_i a; rw [a]; rfl)
    | trace_state
end Go.Proofs.Ytkakhaedipjodaa
