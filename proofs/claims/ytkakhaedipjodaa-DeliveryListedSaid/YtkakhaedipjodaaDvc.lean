/- Contracts of layer 9 (delivery): the list of all deliveries, of both. -/
import Derived.Test.YtkakhaedipjodaaSy
import Derived.KernelRfl
import Derived.Test.YtkakhaedipjodaaProg
import Derived.Test.YtkakhaedipjodaaDvb
set_option linter.unusedSimpArgs false
set_option linter.unusedVariables false
namespace Go.Proofs.Ytkakhaedipjodaa
open Go.RowKit


/-- A plain delivery's cells. -/
def dc (t s n b : Int) : List Value := [.int .u8 t, .int .u8 s, .int .i64 n, .int .i64 0, .int .i64 b, .bool false, .int .u8 0, .int .i64 0, .int .i64 0, .int .i64 0, .bool false, .int .i64 0]
def cb (t s n b : Int) : List Value := if lg ⟨t, s, n, 0, b, false, 0, 0, 0, 0, false, 0⟩ = 0 then dc t s n b else []
def xn (t s : Int) : Nat → List Value
  | 0 => []
  | k + 1 => xn t s k ++ (cb t s k 0 ++ cb t s k 4 ++ cb t s k 6)
def xs (t : Int) (m : Nat) : Nat → List Value
  | 0 => []
  | j + 1 => xs t m j ++ xn t j m
def xt (m : Nat) : Nat → List Value
  | 0 => []
  | i + 1 => xt m i ++ xs (i + 1) m 4
def allM (runs : Int) : Nat := (min runs 7 + 1).toNat
def allC (runs : Int) : List Value := xt (allM runs) 3
def allN (runs : Int) : Nat := (allC runs).length / 12
def xb (t s n : Int) : Nat → List Value
  | 0 => []
  | k + 1 => xb t s n k ++ cb t s n k
structure AX where
  t : Int
  n : Nat
  a : Option Addr
  cap : Nat
  C : List Value
def ai0 (runs : Int) (x : AX) : Prop := (1 ≤ x.t ∧ x.t ≤ 4) ∧ x.n * 12 = x.C.length ∧ x.C = xt (allM runs) (x.t - 1).toNat
def ai1 (runs : Int) (x0 x : AX) : Prop := (0 ≤ x.t ∧ x.t ≤ 4) ∧ x.n * 12 = x.C.length ∧ x.C = xt (allM runs) (x0.t - 1).toNat ++ xs x0.t (allM runs) x.t.toNat
def ai2 (runs : Int) (x0 x1 x : AX) : Prop := (0 ≤ x.t ∧ x.t ≤ allM runs) ∧ x.n * 12 = x.C.length ∧ x.C = xt (allM runs) (x0.t - 1).toNat ++ xs x0.t (allM runs) x1.t.toNat ++ xn x0.t x1.t x.t.toNat
def ai3 (runs : Int) (x0 x1 x2 x : AX) : Prop := (0 ≤ x.t ∧ x.t ≤ 7) ∧ x.n * 12 = x.C.length ∧ x.C = xt (allM runs) (x0.t - 1).toNat ++ xs x0.t (allM runs) x1.t.toNat ++ xn x0.t x1.t x2.t.toNat ++ xb x0.t x1.t x2.t x.t.toNat
@[reducible] def al0 (runs : Int) : LoopR := ⟨AX, fun x => [(4, .int .u8 x.t), (3, .slice x.a x.n x.cap)], [0], fun x => [⟨0, x.C, 26, some ⟨x.a, x.n, x.cap, 12⟩⟩],
  ai0 runs, fun x => (4 - x.t).toNat, [(26, 12)]⟩
@[reducible] def al1 (runs : Int) (x0 : AX) : LoopR := ⟨AX, fun x => [(5, .int .u8 x.t), (3, .slice x.a x.n x.cap)], [0], fun x => [⟨0, x.C, 26, some ⟨x.a, x.n, x.cap, 12⟩⟩],
  ai1 runs x0, fun x => (4 - x.t).toNat, []⟩
@[reducible] def al2 (runs : Int) (x0 x1 : AX) : LoopR := ⟨AX, fun x => [(18, .int .i64 x.t), (3, .slice x.a x.n x.cap)], [0], fun x => [⟨0, x.C, 26, some ⟨x.a, x.n, x.cap, 12⟩⟩],
  ai2 runs x0 x1, fun x => (allM runs - x.t).toNat, []⟩
@[reducible] def bl0 (runs : Int) : LoopR := ⟨AX, fun x => [(4, .int .u8 x.t), (3, .slice x.a x.n x.cap)], [0], fun x => [⟨0, x.C, 26, some ⟨x.a, x.n, x.cap, 12⟩⟩],
  ai0 runs, fun x => (4 - x.t).toNat, [(26, 12)]⟩
@[reducible] def bl1 (runs : Int) (x0 : AX) : LoopR := ⟨AX, fun x => [(5, .int .u8 x.t), (3, .slice x.a x.n x.cap)], [0], fun x => [⟨0, x.C, 26, some ⟨x.a, x.n, x.cap, 12⟩⟩],
  ai1 runs x0, fun x => (4 - x.t).toNat, []⟩
@[reducible] def bl2 (runs : Int) (x0 x1 : AX) : LoopR := ⟨AX, fun x => [(6, .int .i64 x.t), (3, .slice x.a x.n x.cap)], [0], fun x => [⟨0, x.C, 26, some ⟨x.a, x.n, x.cap, 12⟩⟩],
  ai2 runs x0 x1, fun x => (allM runs - x.t).toNat, []⟩
@[reducible] def bl3 (runs : Int) (x0 x1 x2 : AX) : LoopR := ⟨AX, fun x => [(7, .int .i64 x.t), (3, .slice x.a x.n x.cap)], [0], fun x => [⟨0, x.C, 26, some ⟨x.a, x.n, x.cap, 12⟩⟩],
  ai3 runs x0 x1 x2, fun x => (7 - x.t).toNat, []⟩


theorem w8 {n : Int} (h : 0 ≤ n) (h2 : n ≤ 255) : IntKind.u8.wrap n = n := IntWalk.u8_in n ⟨h, h2⟩
theorem w64 {n : Int} (h : -9223372036854775808 ≤ n) (h2 : n ≤ 9223372036854775807) : IntKind.i64.wrap n = n := IntWalk.i64_in n ⟨h, h2⟩
theorem cb_len (t s n b : Int) : (cb t s n b).length = 0 ∨ (cb t s n b).length = 12 := by unfold cb; split <;> simp [dc]
theorem xn_len (t s : Int) (k : Nat) : (xn t s k).length ≤ 36 * k := by
  induction k with
  | zero => simp [xn]
  | succ k ih =>
    simp only [xn, List.length_append]
    have := cb_len t s k 0; have := cb_len t s k 4; have := cb_len t s k 6
    omega
theorem xs_len (t : Int) (m : Nat) (hm : m ≤ 8) (j : Nat) : (xs t m j).length ≤ 288 * j := by
  induction j with
  | zero => simp [xs]
  | succ k ih =>
    simp only [xs, List.length_append]
    have := xn_len t k m
    omega
theorem xt_len (m : Nat) (hm : m ≤ 8) (i : Nat) : (xt m i).length ≤ 1152 * i := by
  induction i with
  | zero => simp [xt]
  | succ k ih =>
    simp only [xt, List.length_append]
    have := xs_len (k + 1) m hm 4
    omega
theorem allM_le (runs : Int) : allM runs ≤ 8 := by unfold allM; omega
theorem tn {a : Int} {k : Nat} (h : a = k) : a.toNat = k := by omega
theorem cb_yes {t s n b : Int} (h : (lg ⟨t, s, n, 0, b, false, 0, 0, 0, 0, false, 0⟩ == 0) = true) : cb t s n b = dc t s n b := by unfold cb; rw [if_pos (by simpa using h)]
theorem cb_no {t s n b : Int} (h : (lg ⟨t, s, n, 0, b, false, 0, 0, 0, 0, false, 0⟩ == 0) = false) : cb t s n b = [] := by unfold cb; rw [if_neg (by simpa using h)]
theorem xn_step (t s : Int) {n : Int} (h : 0 ≤ n) : xn t s (n + 1).toNat = xn t s n.toNat ++ (cb t s n 0 ++ cb t s n 4 ++ cb t s n 6) := by
  have e : (n + 1).toNat = n.toNat + 1 := by omega
  have e2 : ((n.toNat : Nat) : Int) = n := by omega
  rw [e]
  simp only [xn, e2]
theorem xs_step (t : Int) (m : Nat) {s : Int} (h : 0 ≤ s) : xs t m (s + 1).toNat = xs t m s.toNat ++ xn t s m := by
  have e : (s + 1).toNat = s.toNat + 1 := by omega
  have e2 : ((s.toNat : Nat) : Int) = s := by omega
  rw [e]
  simp only [xs, e2]
theorem xt_step (m : Nat) {t : Int} (h : 1 ≤ t) : xt m (t + 1 - 1).toNat = xt m (t - 1).toNat ++ xs t m 4 := by
  have e : (t + 1 - 1).toNat = (t - 1).toNat + 1 := by omega
  have e2 : (((t - 1).toNat : Nat) : Int) + 1 = t := by omega
  rw [e]
  simp only [xt, e2]
theorem wrapM {runs : Int} (hr : -9223372036854775808 ≤ runs ∧ runs ≤ 9223372036854775807) : IntKind.i64.wrap ((if 7 < runs then 7 else runs) + 1) = min runs 7 + 1 := by
  rw [w64] <;> (split <;> omega)
theorem in2 {runs : Int} {x0 x1 x : AX} (h : ai2 runs x0 x1 x) (h1 : ai1 runs x0 x1) (h0 : ai0 runs x0) : (x.n + 3) * 81 ≤ 140737488355328 := by
  obtain ⟨h2, h3, h4⟩ := h
  have a := congrArg List.length h4
  simp only [List.length_append] at a
  have := allM_le runs
  have b := xt_len (allM runs) this (x0.t - 1).toNat
  have c := xs_len x0.t (allM runs) this x1.t.toNat
  have d := xn_len x0.t x1.t x.t.toNat
  have e := h1.1
  have f := h0.1
  omega
theorem st2 {runs : Int} {x0 x1 x : AX} {k cap : Nat} {a : Option Addr} {C : List Value} (hr : -9223372036854775808 ≤ runs ∧ runs ≤ 9223372036854775807) (h : ai2 runs x0 x1 x) (hlt : decide (x.t < IntKind.i64.wrap ((if 7 < runs then 7 else runs) + 1)) = true)
    (hC : C = x.C ++ (cb x0.t x1.t x.t 0 ++ cb x0.t x1.t x.t 4 ++ cb x0.t x1.t x.t 6)) (hk : k * 12 = C.length) : ai2 runs x0 x1 ⟨IntKind.i64.wrap (x.t + 1), k, a, cap, C⟩ ∧ ((allM runs : Int) - IntKind.i64.wrap (x.t + 1)).toNat < ((allM runs : Int) - x.t).toNat := by
  obtain ⟨h2, h3, h4⟩ := h
  rw [wrapM hr, decide_eq_true_eq] at hlt
  have hm := allM_le runs
  have hm2 : allM runs = (min runs 7 + 1).toNat := rfl
  have e : IntKind.i64.wrap (x.t + 1) = x.t + 1 := w64 (by omega) (by omega)
  rw [e]
  refine ⟨⟨⟨?_, ?_⟩, hk, ?_⟩, ?_⟩
  · simp only; omega
  · simp only; omega
  · simp only
    rw [hC, h4, xn_step _ _ h2.1]
    simp only [List.append_assoc]
  · omega
theorem st2m {runs : Int} {x0 x1 x : AX} (hr : -9223372036854775808 ≤ runs ∧ runs ≤ 9223372036854775807) (h : ai2 runs x0 x1 x) (hlt : decide (x.t < IntKind.i64.wrap ((if 7 < runs then 7 else runs) + 1)) = true) : ((allM runs : Int) - IntKind.i64.wrap (x.t + 1)).toNat < ((allM runs : Int) - x.t).toNat := by
  obtain ⟨h2, h3, h4⟩ := h
  rw [wrapM hr, decide_eq_true_eq] at hlt
  have hm := allM_le runs
  have hm2 : allM runs = (min runs 7 + 1).toNat := rfl
  have e : IntKind.i64.wrap (x.t + 1) = x.t + 1 := w64 (by omega) (by omega)
  rw [e]
  omega
theorem st1 {runs : Int} {x0 x1 x : AX} (hr : -9223372036854775808 ≤ runs ∧ runs ≤ 9223372036854775807) (h : ai2 runs x0 x1 x) (h1 : ai1 runs x0 x1) (hl1 : decide (x1.t ≤ 3) = true) (hlt : decide (x.t < IntKind.i64.wrap ((if 7 < runs then 7 else runs) + 1)) = false) :
    ai1 runs x0 ⟨IntKind.u8.wrap (x1.t + 1), x.n, x.a, x.cap, x.C⟩ ∧ ((4 : Int) - IntKind.u8.wrap (x1.t + 1)).toNat < ((4 : Int) - x1.t).toNat := by
  obtain ⟨h2, h3, h4⟩ := h
  rw [wrapM hr, decide_eq_false_iff_not] at hlt
  rw [decide_eq_true_eq] at hl1
  have hm2 : allM runs = (min runs 7 + 1).toNat := rfl
  have e : IntKind.u8.wrap (x1.t + 1) = x1.t + 1 := w8 (by have := h1.1; omega) (by omega)
  have e2 : x.t.toNat = allM runs := by omega
  rw [e]
  refine ⟨⟨⟨?_, ?_⟩, h3, ?_⟩, ?_⟩
  · simp only; have := h1.1; omega
  · simp only; omega
  · simp only
    rw [h4, xs_step _ _ h1.1.1, e2]
    simp only [List.append_assoc]
  · have := h1.1; omega
theorem st0 {runs : Int} {x0 x : AX} (h : ai1 runs x0 x) (h0 : ai0 runs x0) (hl0 : decide (x0.t ≤ 3) = true) (hlt : decide (x.t ≤ 3) = false) :
    ai0 runs ⟨IntKind.u8.wrap (x0.t + 1), x.n, x.a, x.cap, x.C⟩ ∧ ((4 : Int) - IntKind.u8.wrap (x0.t + 1)).toNat < ((4 : Int) - x0.t).toNat := by
  obtain ⟨h2, h3, h4⟩ := h
  rw [decide_eq_false_iff_not] at hlt
  rw [decide_eq_true_eq] at hl0
  have e : IntKind.u8.wrap (x0.t + 1) = x0.t + 1 := w8 (by have := h0.1; omega) (by omega)
  have e2 : x.t.toNat = 4 := by omega
  rw [e]
  refine ⟨⟨⟨?_, ?_⟩, h3, ?_⟩, ?_⟩
  · simp only; have := h0.1; omega
  · simp only; omega
  · simp only
    rw [h4, xt_step _ h0.1.1, e2]
  · have := h0.1; omega
theorem en0 {runs : Int} : ai0 runs ⟨1, 0, none, 0, []⟩ := ⟨⟨by simp, by simp⟩, rfl, rfl⟩
theorem en1 {runs : Int} {x0 : AX} (h : ai0 runs x0) : ai1 runs x0 ⟨0, x0.n, x0.a, x0.cap, x0.C⟩ := by
  obtain ⟨h1, h2, h3⟩ := h
  refine ⟨⟨by simp, by simp⟩, h2, ?_⟩
  rw [h3]; simp [xs]
theorem en2 {runs : Int} {x0 x1 : AX} (h : ai1 runs x0 x1) : ai2 runs x0 x1 ⟨0, x1.n, x1.a, x1.cap, x1.C⟩ := by
  obtain ⟨h1, h2, h3⟩ := h
  refine ⟨⟨by simp, by simp⟩, h2, ?_⟩
  rw [h3]; simp [xn]
theorem endC {runs : Int} {x : AX} (h : ai0 runs x) (hl : decide (x.t ≤ 3) = false) : x.C = allC runs ∧ x.n = allN runs := by
  obtain ⟨h2, h3, h4⟩ := h
  rw [decide_eq_false_iff_not] at hl
  have e2 : (x.t - 1).toNat = 3 := by omega
  rw [e2] at h4
  refine ⟨h4, ?_⟩
  unfold allN allC
  rw [← h4]
  omega
theorem cb_out {t s n b : Int} (h : ¬ (b = 0 ∨ b = 4 ∨ b = 6)) : cb t s n b = [] := by
  unfold cb
  rw [if_neg]
  intro e
  exact h (lg_facts e).2.2.2.2.2
theorem xb_all (t s n : Int) : xb t s n 7 = cb t s n 0 ++ cb t s n 4 ++ cb t s n 6 := by
  simp only [xb]
  rw [cb_out (b := ((1 : Nat) : Int)) (by decide), cb_out (b := ((2 : Nat) : Int)) (by decide), cb_out (b := ((3 : Nat) : Int)) (by decide), cb_out (b := ((5 : Nat) : Int)) (by decide)]
  simp
theorem xb_len (t s n : Int) (k : Nat) : (xb t s n k).length ≤ 12 * k := by
  induction k with
  | zero => simp [xb]
  | succ k ih =>
    simp only [xb, List.length_append]
    have := cb_len t s n k
    omega
theorem xb_step (t s n : Int) {b : Int} (h : 0 ≤ b) : xb t s n (b + 1).toNat = xb t s n b.toNat ++ cb t s n b := by
  have e : (b + 1).toNat = b.toNat + 1 := by omega
  have e2 : ((b.toNat : Nat) : Int) = b := by omega
  rw [e]
  simp only [xb, e2]
theorem in3 {runs : Int} {x0 x1 x2 x : AX} (h : ai3 runs x0 x1 x2 x) (hx : ai2 runs x0 x1 x2) (h1 : ai1 runs x0 x1) (h0 : ai0 runs x0) : (x.n + 3) * 81 ≤ 140737488355328 := by
  obtain ⟨h2, h3, h4⟩ := h
  have a := congrArg List.length h4
  simp only [List.length_append] at a
  have := allM_le runs
  have b := xt_len (allM runs) this (x0.t - 1).toNat
  have c := xs_len x0.t (allM runs) this x1.t.toNat
  have d := xn_len x0.t x1.t x2.t.toNat
  have d2 := xb_len x0.t x1.t x2.t x.t.toNat
  have e := h1.1
  have f := h0.1
  have g := hx.1
  omega
theorem en3 {runs : Int} {x0 x1 x2 : AX} (h : ai2 runs x0 x1 x2) : ai3 runs x0 x1 x2 ⟨0, x2.n, x2.a, x2.cap, x2.C⟩ := by
  obtain ⟨h1, h2, h3⟩ := h
  refine ⟨⟨by simp, by simp⟩, h2, ?_⟩
  rw [h3]; simp [xb]
theorem st3m {runs : Int} {x0 x1 x2 x : AX} (h : ai3 runs x0 x1 x2 x) (hlt : decide (x.t ≤ 6) = true) : ((7 : Int) - IntKind.i64.wrap (x.t + 1)).toNat < ((7 : Int) - x.t).toNat := by
  rw [decide_eq_true_eq] at hlt
  have := h.1
  have e : IntKind.i64.wrap (x.t + 1) = x.t + 1 := w64 (by omega) (by omega)
  rw [e]
  omega
theorem st3 {runs : Int} {x0 x1 x2 x : AX} {k cap : Nat} {a : Option Addr} {C : List Value} (h : ai3 runs x0 x1 x2 x) (hlt : decide (x.t ≤ 6) = true) (hC : C = x.C ++ cb x0.t x1.t x2.t x.t) (hk : k * 12 = C.length) :
    ai3 runs x0 x1 x2 ⟨IntKind.i64.wrap (x.t + 1), k, a, cap, C⟩ := by
  obtain ⟨h2, h3, h4⟩ := h
  rw [decide_eq_true_eq] at hlt
  have e : IntKind.i64.wrap (x.t + 1) = x.t + 1 := w64 (by omega) (by omega)
  rw [e]
  refine ⟨⟨?_, ?_⟩, hk, ?_⟩
  · simp only; omega
  · simp only; omega
  · simp only
    rw [hC, h4, xb_step _ _ _ h2.1]
    simp only [List.append_assoc]
theorem st2r {runs : Int} {x0 x1 x2 x : AX} (hx : ai2 runs x0 x1 x2) (h : ai3 runs x0 x1 x2 x) (hl : (decide (x2.t ≤ runs) && decide (x2.t ≤ 7)) = true) (hlt : decide (x.t ≤ 6) = false) :
    ai2 runs x0 x1 ⟨IntKind.i64.wrap (x2.t + 1), x.n, x.a, x.cap, x.C⟩ ∧ ((allM runs : Int) - IntKind.i64.wrap (x2.t + 1)).toNat < ((allM runs : Int) - x2.t).toNat := by
  obtain ⟨h2, h3, h4⟩ := h
  rw [decide_eq_false_iff_not] at hlt
  simp only [Bool.and_eq_true, decide_eq_true_eq] at hl
  have hm2 : allM runs = (min runs 7 + 1).toNat := rfl
  have := hx.1
  have e : IntKind.i64.wrap (x2.t + 1) = x2.t + 1 := w64 (by omega) (by omega)
  have e2 : x.t.toNat = 7 := by omega
  rw [e]
  refine ⟨⟨⟨?_, ?_⟩, h3, ?_⟩, ?_⟩
  · simp only; omega
  · simp only; omega
  · simp only
    rw [h4, xn_step _ _ hx.1.1, e2, xb_all]
    simp only [List.append_assoc]
  · omega
theorem st1r {runs : Int} {x0 x1 x : AX} (h : ai2 runs x0 x1 x) (h1 : ai1 runs x0 x1) (hl1 : decide (x1.t ≤ 3) = true) (hlt : (decide (x.t ≤ runs) && decide (x.t ≤ 7)) = false) :
    ai1 runs x0 ⟨IntKind.u8.wrap (x1.t + 1), x.n, x.a, x.cap, x.C⟩ ∧ ((4 : Int) - IntKind.u8.wrap (x1.t + 1)).toNat < ((4 : Int) - x1.t).toNat := by
  obtain ⟨h2, h3, h4⟩ := h
  rw [Bool.and_eq_false_iff, decide_eq_false_iff_not, decide_eq_false_iff_not] at hlt
  rw [decide_eq_true_eq] at hl1
  have hm2 : allM runs = (min runs 7 + 1).toNat := rfl
  have e : IntKind.u8.wrap (x1.t + 1) = x1.t + 1 := w8 (by have := h1.1; omega) (by omega)
  have e2 : x.t.toNat = allM runs := by omega
  rw [e]
  refine ⟨⟨⟨?_, ?_⟩, h3, ?_⟩, ?_⟩
  · simp only; have := h1.1; omega
  · simp only; omega
  · simp only
    rw [h4, xs_step _ _ h1.1.1, e2]
    simp only [List.append_assoc]
  · have := h1.1; omega

def all_h (runs : Int) : Hint := Hint.inv (al0 runs) fun x0 ↦ Hint.split (Hint.inv (al1 runs x0) fun x1 ↦ Hint.split (Hint.pl (Hint.inv (al2 runs x0 x1) fun x2 ↦ Hint.split (Hint.inl (Hint.pl (Hint.rounds (64 : Nat) (Hint.lit (Hint.pl (Hint.ob (2 : Nat) (Hint.ob (1 : Nat) (Hint.ob (1 : Nat) (Hint.ob (1 : Nat) (Hint.ob (1 : Nat) (Hint.ob (1 : Nat) (Hint.ob (1 : Nat) (Hint.ob (1 : Nat) (Hint.ob (1 : Nat) (Hint.ob (1 : Nat) (Hint.ob (1 : Nat) (Hint.ob (1 : Nat) (Hint.ob (1 : Nat) (Hint.ob (1 : Nat) (Hint.spec (Value.int IntKind.i64 (lg (Dl.mk x0.1 x1.1 x2.1 (0 : Int) (0 : Int) false (0 : Int) (0 : Int) (0 : Int) (0 : Int) false (0 : Int)))) (Hint.pl (Hint.split (Hint.ob (1 : Nat) (Hint.ob (1 : Nat) (Hint.ob (1 : Nat) (Hint.ob (1 : Nat) (Hint.ob (1 : Nat) (Hint.ob (1 : Nat) (Hint.ob (1 : Nat) (Hint.ob (1 : Nat) (Hint.ob (1 : Nat) (Hint.ob (1 : Nat) (Hint.ob (1 : Nat) (Hint.ob (1 : Nat) (Hint.app (0 : Nat) (3 : Nat) (Hint.lit (Hint.pl (Hint.ob (2 : Nat) (Hint.ob (1 : Nat) (Hint.ob (1 : Nat) (Hint.ob (1 : Nat) (Hint.ob (1 : Nat) (Hint.ob (1 : Nat) (Hint.ob (1 : Nat) (Hint.ob (1 : Nat) (Hint.ob (1 : Nat) (Hint.ob (1 : Nat) (Hint.ob (1 : Nat) (Hint.ob (1 : Nat) (Hint.ob (1 : Nat) (Hint.ob (1 : Nat) (Hint.spec (Value.int IntKind.i64 (lg (Dl.mk x0.1 x1.1 x2.1 (0 : Int) (4 : Int) false (0 : Int) (0 : Int) (0 : Int) (0 : Int) false (0 : Int)))) (Hint.pl (Hint.split (Hint.ob (1 : Nat) (Hint.ob (1 : Nat) (Hint.ob (1 : Nat) (Hint.ob (1 : Nat) (Hint.ob (1 : Nat) (Hint.ob (1 : Nat) (Hint.ob (1 : Nat) (Hint.ob (1 : Nat) (Hint.ob (1 : Nat) (Hint.ob (1 : Nat) (Hint.ob (1 : Nat) (Hint.ob (1 : Nat) (Hint.app (0 : Nat) (4 : Nat) (Hint.lit (Hint.pl (Hint.ob (2 : Nat) (Hint.ob (1 : Nat) (Hint.ob (1 : Nat) (Hint.ob (1 : Nat) (Hint.ob (1 : Nat) (Hint.ob (1 : Nat) (Hint.ob (1 : Nat) (Hint.ob (1 : Nat) (Hint.ob (1 : Nat) (Hint.ob (1 : Nat) (Hint.ob (1 : Nat) (Hint.ob (1 : Nat) (Hint.ob (1 : Nat) (Hint.ob (1 : Nat) (Hint.spec (Value.int IntKind.i64 (lg (Dl.mk x0.1 x1.1 x2.1 (0 : Int) (6 : Int) false (0 : Int) (0 : Int) (0 : Int) (0 : Int) false (0 : Int)))) (Hint.pl (Hint.split (Hint.ob (1 : Nat) (Hint.ob (1 : Nat) (Hint.ob (1 : Nat) (Hint.ob (1 : Nat) (Hint.ob (1 : Nat) (Hint.ob (1 : Nat) (Hint.ob (1 : Nat) (Hint.ob (1 : Nat) (Hint.ob (1 : Nat) (Hint.ob (1 : Nat) (Hint.ob (1 : Nat) (Hint.ob (1 : Nat) (Hint.app (0 : Nat) (5 : Nat) (Hint.lit Hint.nil)))))))))))))) (Hint.lit Hint.nil))))))))))))))))))))))))))))))))) (Hint.lit (Hint.pl (Hint.ob (2 : Nat) (Hint.ob (1 : Nat) (Hint.ob (1 : Nat) (Hint.ob (1 : Nat) (Hint.ob (1 : Nat) (Hint.ob (1 : Nat) (Hint.ob (1 : Nat) (Hint.ob (1 : Nat) (Hint.ob (1 : Nat) (Hint.ob (1 : Nat) (Hint.ob (1 : Nat) (Hint.ob (1 : Nat) (Hint.ob (1 : Nat) (Hint.ob (1 : Nat) (Hint.spec (Value.int IntKind.i64 (lg (Dl.mk x0.1 x1.1 x2.1 (0 : Int) (6 : Int) false (0 : Int) (0 : Int) (0 : Int) (0 : Int) false (0 : Int)))) (Hint.pl (Hint.split (Hint.ob (1 : Nat) (Hint.ob (1 : Nat) (Hint.ob (1 : Nat) (Hint.ob (1 : Nat) (Hint.ob (1 : Nat) (Hint.ob (1 : Nat) (Hint.ob (1 : Nat) (Hint.ob (1 : Nat) (Hint.ob (1 : Nat) (Hint.ob (1 : Nat) (Hint.ob (1 : Nat) (Hint.ob (1 : Nat) (Hint.app (0 : Nat) (4 : Nat) (Hint.lit Hint.nil)))))))))))))) (Hint.lit Hint.nil)))))))))))))))))))))))))))))))))))))))))))))))))))) (Hint.lit (Hint.pl (Hint.ob (2 : Nat) (Hint.ob (1 : Nat) (Hint.ob (1 : Nat) (Hint.ob (1 : Nat) (Hint.ob (1 : Nat) (Hint.ob (1 : Nat) (Hint.ob (1 : Nat) (Hint.ob (1 : Nat) (Hint.ob (1 : Nat) (Hint.ob (1 : Nat) (Hint.ob (1 : Nat) (Hint.ob (1 : Nat) (Hint.ob (1 : Nat) (Hint.ob (1 : Nat) (Hint.spec (Value.int IntKind.i64 (lg (Dl.mk x0.1 x1.1 x2.1 (0 : Int) (4 : Int) false (0 : Int) (0 : Int) (0 : Int) (0 : Int) false (0 : Int)))) (Hint.pl (Hint.split (Hint.ob (1 : Nat) (Hint.ob (1 : Nat) (Hint.ob (1 : Nat) (Hint.ob (1 : Nat) (Hint.ob (1 : Nat) (Hint.ob (1 : Nat) (Hint.ob (1 : Nat) (Hint.ob (1 : Nat) (Hint.ob (1 : Nat) (Hint.ob (1 : Nat) (Hint.ob (1 : Nat) (Hint.ob (1 : Nat) (Hint.app (0 : Nat) (3 : Nat) (Hint.lit (Hint.pl (Hint.ob (2 : Nat) (Hint.ob (1 : Nat) (Hint.ob (1 : Nat) (Hint.ob (1 : Nat) (Hint.ob (1 : Nat) (Hint.ob (1 : Nat) (Hint.ob (1 : Nat) (Hint.ob (1 : Nat) (Hint.ob (1 : Nat) (Hint.ob (1 : Nat) (Hint.ob (1 : Nat) (Hint.ob (1 : Nat) (Hint.ob (1 : Nat) (Hint.ob (1 : Nat) (Hint.spec (Value.int IntKind.i64 (lg (Dl.mk x0.1 x1.1 x2.1 (0 : Int) (6 : Int) false (0 : Int) (0 : Int) (0 : Int) (0 : Int) false (0 : Int)))) (Hint.pl (Hint.split (Hint.ob (1 : Nat) (Hint.ob (1 : Nat) (Hint.ob (1 : Nat) (Hint.ob (1 : Nat) (Hint.ob (1 : Nat) (Hint.ob (1 : Nat) (Hint.ob (1 : Nat) (Hint.ob (1 : Nat) (Hint.ob (1 : Nat) (Hint.ob (1 : Nat) (Hint.ob (1 : Nat) (Hint.ob (1 : Nat) (Hint.app (0 : Nat) (4 : Nat) (Hint.lit Hint.nil)))))))))))))) (Hint.lit Hint.nil))))))))))))))))))))))))))))))))) (Hint.lit (Hint.pl (Hint.ob (2 : Nat) (Hint.ob (1 : Nat) (Hint.ob (1 : Nat) (Hint.ob (1 : Nat) (Hint.ob (1 : Nat) (Hint.ob (1 : Nat) (Hint.ob (1 : Nat) (Hint.ob (1 : Nat) (Hint.ob (1 : Nat) (Hint.ob (1 : Nat) (Hint.ob (1 : Nat) (Hint.ob (1 : Nat) (Hint.ob (1 : Nat) (Hint.ob (1 : Nat) (Hint.spec (Value.int IntKind.i64 (lg (Dl.mk x0.1 x1.1 x2.1 (0 : Int) (6 : Int) false (0 : Int) (0 : Int) (0 : Int) (0 : Int) false (0 : Int)))) (Hint.pl (Hint.split (Hint.ob (1 : Nat) (Hint.ob (1 : Nat) (Hint.ob (1 : Nat) (Hint.ob (1 : Nat) (Hint.ob (1 : Nat) (Hint.ob (1 : Nat) (Hint.ob (1 : Nat) (Hint.ob (1 : Nat) (Hint.ob (1 : Nat) (Hint.ob (1 : Nat) (Hint.ob (1 : Nat) (Hint.ob (1 : Nat) (Hint.app (0 : Nat) (3 : Nat) (Hint.lit Hint.nil)))))))))))))) (Hint.lit Hint.nil))))))))))))))))))))))))))))))))))))))))))))))))))))))))))))) Hint.nil)) Hint.nil) Hint.nil
theorem all_x (runs : Int) : wpF Try.prog [] 400 18 [.int .i64 runs] (all_h runs) (fun u os => ∃ (a : Option Addr) (cap : Nat), lgo os 0 = some (Ob.mk 0 (allC runs) 26 (some ⟨a, allN runs, cap, 12⟩)) ∧ u = .slice a (allN runs) cap) = ((∃ x, ai0 runs x ∧ Value.int IntKind.u8 (1 : Int) = Value.int IntKind.u8 x.1 ∧ Value.slice none (0 : Nat) (0 : Nat) = Value.slice x.3 x.2 x.4 ∧ ((0 : Nat) = (0 : Nat) ∧ [] = x.5 ∧ (26 : Nat) = (26 : TypeId) ∧ some (Ow.mk none (0 : Nat) (0 : Nat) (12 : Nat)) = some (Ow.mk x.3 x.2 x.4 (12 : Nat))) ∧ True) ∧ ∀ (x0 : AX), ai0 runs x0 → ∀ (junk : Nat → Value), (decide (AX.t x0 ≤ (3 : Int)) = true → (∃ x, ai1 runs x0 x ∧ Value.int IntKind.u8 (0 : Int) = Value.int IntKind.u8 x.1 ∧ Value.slice x0.3 x0.2 x0.4 = Value.slice x.3 x.2 x.4 ∧ ((0 : Nat) = (0 : Nat) ∧ x0.5 = x.5 ∧ (26 : TypeId) = (26 : TypeId) ∧ some (Ow.mk x0.3 x0.2 x0.4 (12 : Nat)) = some (Ow.mk x.3 x.2 x.4 (12 : Nat))) ∧ True) ∧ ∀ (x1 : AX), ai1 runs x0 x1 → ∀ (junk : Nat → Value), (decide (AX.t x1 ≤ (3 : Int)) = true → (∃ x, ai2 runs x0 x1 x ∧ Value.int IntKind.i64 (0 : Int) = Value.int IntKind.i64 x.1 ∧ Value.slice x1.3 x1.2 x1.4 = Value.slice x.3 x.2 x.4 ∧ ((0 : Nat) = (0 : Nat) ∧ x1.5 = x.5 ∧ (26 : TypeId) = (26 : TypeId) ∧ some (Ow.mk x1.3 x1.2 x1.4 (12 : Nat)) = some (Ow.mk x.3 x.2 x.4 (12 : Nat))) ∧ True) ∧ ∀ (x2 : AX), ai2 runs x0 x1 x2 → ∀ (junk : Nat → Value), (decide (AX.t x2 < IntKind.wrap IntKind.i64 ((if (7 : Int) < runs then (7 : Int) else runs) + (1 : Int))) = true → ∀ (b b_1 : Nat), b_1 = b_1 ∧ b = b ∧ True ∧ b = b ∧ b = b ∧ b = b ∧ b = b ∧ b = b ∧ b = b ∧ b = b ∧ b = b ∧ b = b ∧ b = b ∧ b = b ∧ b = b ∧ SpecP Try.prog 10 (Array.mk [Value.agg (Array.mk [Value.int IntKind.u8 x0.1, Value.int IntKind.u8 x1.1, Value.int IntKind.i64 x2.1, Value.int IntKind.i64 (0 : Int), Value.int IntKind.i64 (0 : Int), Value.bool false, Value.int IntKind.u8 (0 : Int), Value.int IntKind.i64 (0 : Int), Value.int IntKind.i64 (0 : Int), Value.int IntKind.i64 (0 : Int), Value.bool false, Value.int IntKind.i64 (0 : Int)])]) (Value.int IntKind.i64 (lg (Dl.mk x0.1 x1.1 x2.1 (0 : Int) (0 : Int) false (0 : Int) (0 : Int) (0 : Int) (0 : Int) false (0 : Int)))) ∧ ((lg (Dl.mk x0.1 x1.1 x2.1 (0 : Int) (0 : Int) false (0 : Int) (0 : Int) (0 : Int) (0 : Int) false (0 : Int)) == (0 : Int)) = true → b = b ∧ b = b ∧ b = b ∧ b = b ∧ b = b ∧ b = b ∧ b = b ∧ b = b ∧ b = b ∧ b = b ∧ b = b ∧ b = b ∧ ∀ (b_2 : Nat), x2.3 = x2.3 ∧ x2.2 = x2.2 ∧ x2.4 = x2.4 ∧ b_2 = b_2 ∧ (x2.2 + (1 : Nat)) * (81 : Nat) ≤ (140737488355328 : Nat) ∧ ∀ (g cap : Nat), b_1 = b_1 ∧ b = b ∧ True ∧ b = b ∧ b = b ∧ b = b ∧ b = b ∧ b = b ∧ b = b ∧ b = b ∧ b = b ∧ b = b ∧ b = b ∧ b = b ∧ b = b ∧ SpecP Try.prog 10 (Array.mk [Value.agg (Array.mk [Value.int IntKind.u8 x0.1, Value.int IntKind.u8 x1.1, Value.int IntKind.i64 x2.1, Value.int IntKind.i64 (0 : Int), Value.int IntKind.i64 (4 : Int), Value.bool false, Value.int IntKind.u8 (0 : Int), Value.int IntKind.i64 (0 : Int), Value.int IntKind.i64 (0 : Int), Value.int IntKind.i64 (0 : Int), Value.bool false, Value.int IntKind.i64 (0 : Int)])]) (Value.int IntKind.i64 (lg (Dl.mk x0.1 x1.1 x2.1 (0 : Int) (4 : Int) false (0 : Int) (0 : Int) (0 : Int) (0 : Int) false (0 : Int)))) ∧ ((lg (Dl.mk x0.1 x1.1 x2.1 (0 : Int) (4 : Int) false (0 : Int) (0 : Int) (0 : Int) (0 : Int) false (0 : Int)) == (0 : Int)) = true → b = b ∧ b = b ∧ b = b ∧ b = b ∧ b = b ∧ b = b ∧ b = b ∧ b = b ∧ b = b ∧ b = b ∧ b = b ∧ b = b ∧ ∀ (b_3 : Nat), some (Addr.mk g (0 : Nat) none) = some (Addr.mk g (0 : Nat) none) ∧ x2.2 + (1 : Nat) = x2.2 + (1 : Nat) ∧ cap = cap ∧ b_3 = b_3 ∧ (x2.2 + (1 : Nat) + (1 : Nat)) * (81 : Nat) ≤ (140737488355328 : Nat) ∧ ∀ (g cap : Nat), b_1 = b_1 ∧ b = b ∧ True ∧ b = b ∧ b = b ∧ b = b ∧ b = b ∧ b = b ∧ b = b ∧ b = b ∧ b = b ∧ b = b ∧ b = b ∧ b = b ∧ b = b ∧ SpecP Try.prog 10 (Array.mk [Value.agg (Array.mk [Value.int IntKind.u8 x0.1, Value.int IntKind.u8 x1.1, Value.int IntKind.i64 x2.1, Value.int IntKind.i64 (0 : Int), Value.int IntKind.i64 (6 : Int), Value.bool false, Value.int IntKind.u8 (0 : Int), Value.int IntKind.i64 (0 : Int), Value.int IntKind.i64 (0 : Int), Value.int IntKind.i64 (0 : Int), Value.bool false, Value.int IntKind.i64 (0 : Int)])]) (Value.int IntKind.i64 (lg (Dl.mk x0.1 x1.1 x2.1 (0 : Int) (6 : Int) false (0 : Int) (0 : Int) (0 : Int) (0 : Int) false (0 : Int)))) ∧ ((lg (Dl.mk x0.1 x1.1 x2.1 (0 : Int) (6 : Int) false (0 : Int) (0 : Int) (0 : Int) (0 : Int) false (0 : Int)) == (0 : Int)) = true → b = b ∧ b = b ∧ b = b ∧ b = b ∧ b = b ∧ b = b ∧ b = b ∧ b = b ∧ b = b ∧ b = b ∧ b = b ∧ b = b ∧ ∀ (b : Nat), some (Addr.mk g (0 : Nat) none) = some (Addr.mk g (0 : Nat) none) ∧ x2.2 + (1 : Nat) + (1 : Nat) = x2.2 + (1 : Nat) + (1 : Nat) ∧ cap = cap ∧ b = b ∧ (x2.2 + (1 : Nat) + (1 : Nat) + (1 : Nat)) * (81 : Nat) ≤ (140737488355328 : Nat) ∧ ∀ (g cap : Nat), ∃ y, ai2 runs x0 x1 y ∧ Int.toNat (↑(allM runs) - y.1) < Int.toNat (↑(allM runs) - x2.1) ∧ Value.int IntKind.i64 (IntKind.wrap IntKind.i64 (x2.1 + (1 : Int))) = Value.int IntKind.i64 y.1 ∧ Value.slice (some (Addr.mk g (0 : Nat) none)) (x2.2 + (1 : Nat) + (1 : Nat) + (1 : Nat)) cap = Value.slice y.3 y.2 y.4 ∧ ((0 : Nat) = (0 : Nat) ∧ lapp (lapp (lapp x2.5 [Value.int IntKind.u8 x0.1, Value.int IntKind.u8 x1.1, Value.int IntKind.i64 x2.1, Value.int IntKind.i64 (0 : Int), Value.int IntKind.i64 (0 : Int), Value.bool false, Value.int IntKind.u8 (0 : Int), Value.int IntKind.i64 (0 : Int), Value.int IntKind.i64 (0 : Int), Value.int IntKind.i64 (0 : Int), Value.bool false, Value.int IntKind.i64 (0 : Int)]) [Value.int IntKind.u8 x0.1, Value.int IntKind.u8 x1.1, Value.int IntKind.i64 x2.1, Value.int IntKind.i64 (0 : Int), Value.int IntKind.i64 (4 : Int), Value.bool false, Value.int IntKind.u8 (0 : Int), Value.int IntKind.i64 (0 : Int), Value.int IntKind.i64 (0 : Int), Value.int IntKind.i64 (0 : Int), Value.bool false, Value.int IntKind.i64 (0 : Int)]) [Value.int IntKind.u8 x0.1, Value.int IntKind.u8 x1.1, Value.int IntKind.i64 x2.1, Value.int IntKind.i64 (0 : Int), Value.int IntKind.i64 (6 : Int), Value.bool false, Value.int IntKind.u8 (0 : Int), Value.int IntKind.i64 (0 : Int), Value.int IntKind.i64 (0 : Int), Value.int IntKind.i64 (0 : Int), Value.bool false, Value.int IntKind.i64 (0 : Int)] = y.5 ∧ (26 : Nat) = (26 : TypeId) ∧ some (Ow.mk (some (Addr.mk g (0 : Nat) none)) (x2.2 + (1 : Nat) + (1 : Nat) + (1 : Nat)) cap (12 : Nat)) = some (Ow.mk y.3 y.2 y.4 (12 : Nat))) ∧ True) ∧ ((lg (Dl.mk x0.1 x1.1 x2.1 (0 : Int) (6 : Int) false (0 : Int) (0 : Int) (0 : Int) (0 : Int) false (0 : Int)) == (0 : Int)) = false → ∃ y, ai2 runs x0 x1 y ∧ Int.toNat (↑(allM runs) - y.1) < Int.toNat (↑(allM runs) - x2.1) ∧ Value.int IntKind.i64 (IntKind.wrap IntKind.i64 (x2.1 + (1 : Int))) = Value.int IntKind.i64 y.1 ∧ Value.slice (some (Addr.mk g (0 : Nat) none)) (x2.2 + (1 : Nat) + (1 : Nat)) cap = Value.slice y.3 y.2 y.4 ∧ ((0 : Nat) = (0 : Nat) ∧ lapp (lapp x2.5 [Value.int IntKind.u8 x0.1, Value.int IntKind.u8 x1.1, Value.int IntKind.i64 x2.1, Value.int IntKind.i64 (0 : Int), Value.int IntKind.i64 (0 : Int), Value.bool false, Value.int IntKind.u8 (0 : Int), Value.int IntKind.i64 (0 : Int), Value.int IntKind.i64 (0 : Int), Value.int IntKind.i64 (0 : Int), Value.bool false, Value.int IntKind.i64 (0 : Int)]) [Value.int IntKind.u8 x0.1, Value.int IntKind.u8 x1.1, Value.int IntKind.i64 x2.1, Value.int IntKind.i64 (0 : Int), Value.int IntKind.i64 (4 : Int), Value.bool false, Value.int IntKind.u8 (0 : Int), Value.int IntKind.i64 (0 : Int), Value.int IntKind.i64 (0 : Int), Value.int IntKind.i64 (0 : Int), Value.bool false, Value.int IntKind.i64 (0 : Int)] = y.5 ∧ (26 : Nat) = (26 : TypeId) ∧ some (Ow.mk (some (Addr.mk g (0 : Nat) none)) (x2.2 + (1 : Nat) + (1 : Nat)) cap (12 : Nat)) = some (Ow.mk y.3 y.2 y.4 (12 : Nat))) ∧ True)) ∧ ((lg (Dl.mk x0.1 x1.1 x2.1 (0 : Int) (4 : Int) false (0 : Int) (0 : Int) (0 : Int) (0 : Int) false (0 : Int)) == (0 : Int)) = false → b_1 = b_1 ∧ b = b ∧ True ∧ b = b ∧ b = b ∧ b = b ∧ b = b ∧ b = b ∧ b = b ∧ b = b ∧ b = b ∧ b = b ∧ b = b ∧ b = b ∧ b = b ∧ SpecP Try.prog 10 (Array.mk [Value.agg (Array.mk [Value.int IntKind.u8 x0.1, Value.int IntKind.u8 x1.1, Value.int IntKind.i64 x2.1, Value.int IntKind.i64 (0 : Int), Value.int IntKind.i64 (6 : Int), Value.bool false, Value.int IntKind.u8 (0 : Int), Value.int IntKind.i64 (0 : Int), Value.int IntKind.i64 (0 : Int), Value.int IntKind.i64 (0 : Int), Value.bool false, Value.int IntKind.i64 (0 : Int)])]) (Value.int IntKind.i64 (lg (Dl.mk x0.1 x1.1 x2.1 (0 : Int) (6 : Int) false (0 : Int) (0 : Int) (0 : Int) (0 : Int) false (0 : Int)))) ∧ ((lg (Dl.mk x0.1 x1.1 x2.1 (0 : Int) (6 : Int) false (0 : Int) (0 : Int) (0 : Int) (0 : Int) false (0 : Int)) == (0 : Int)) = true → b = b ∧ b = b ∧ b = b ∧ b = b ∧ b = b ∧ b = b ∧ b = b ∧ b = b ∧ b = b ∧ b = b ∧ b = b ∧ b = b ∧ ∀ (b : Nat), some (Addr.mk g (0 : Nat) none) = some (Addr.mk g (0 : Nat) none) ∧ x2.2 + (1 : Nat) = x2.2 + (1 : Nat) ∧ cap = cap ∧ b = b ∧ (x2.2 + (1 : Nat) + (1 : Nat)) * (81 : Nat) ≤ (140737488355328 : Nat) ∧ ∀ (g cap : Nat), ∃ y, ai2 runs x0 x1 y ∧ Int.toNat (↑(allM runs) - y.1) < Int.toNat (↑(allM runs) - x2.1) ∧ Value.int IntKind.i64 (IntKind.wrap IntKind.i64 (x2.1 + (1 : Int))) = Value.int IntKind.i64 y.1 ∧ Value.slice (some (Addr.mk g (0 : Nat) none)) (x2.2 + (1 : Nat) + (1 : Nat)) cap = Value.slice y.3 y.2 y.4 ∧ ((0 : Nat) = (0 : Nat) ∧ lapp (lapp x2.5 [Value.int IntKind.u8 x0.1, Value.int IntKind.u8 x1.1, Value.int IntKind.i64 x2.1, Value.int IntKind.i64 (0 : Int), Value.int IntKind.i64 (0 : Int), Value.bool false, Value.int IntKind.u8 (0 : Int), Value.int IntKind.i64 (0 : Int), Value.int IntKind.i64 (0 : Int), Value.int IntKind.i64 (0 : Int), Value.bool false, Value.int IntKind.i64 (0 : Int)]) [Value.int IntKind.u8 x0.1, Value.int IntKind.u8 x1.1, Value.int IntKind.i64 x2.1, Value.int IntKind.i64 (0 : Int), Value.int IntKind.i64 (6 : Int), Value.bool false, Value.int IntKind.u8 (0 : Int), Value.int IntKind.i64 (0 : Int), Value.int IntKind.i64 (0 : Int), Value.int IntKind.i64 (0 : Int), Value.bool false, Value.int IntKind.i64 (0 : Int)] = y.5 ∧ (26 : Nat) = (26 : TypeId) ∧ some (Ow.mk (some (Addr.mk g (0 : Nat) none)) (x2.2 + (1 : Nat) + (1 : Nat)) cap (12 : Nat)) = some (Ow.mk y.3 y.2 y.4 (12 : Nat))) ∧ True) ∧ ((lg (Dl.mk x0.1 x1.1 x2.1 (0 : Int) (6 : Int) false (0 : Int) (0 : Int) (0 : Int) (0 : Int) false (0 : Int)) == (0 : Int)) = false → ∃ y, ai2 runs x0 x1 y ∧ Int.toNat (↑(allM runs) - y.1) < Int.toNat (↑(allM runs) - x2.1) ∧ Value.int IntKind.i64 (IntKind.wrap IntKind.i64 (x2.1 + (1 : Int))) = Value.int IntKind.i64 y.1 ∧ Value.slice (some (Addr.mk g (0 : Nat) none)) (x2.2 + (1 : Nat)) cap = Value.slice y.3 y.2 y.4 ∧ ((0 : Nat) = (0 : Nat) ∧ lapp x2.5 [Value.int IntKind.u8 x0.1, Value.int IntKind.u8 x1.1, Value.int IntKind.i64 x2.1, Value.int IntKind.i64 (0 : Int), Value.int IntKind.i64 (0 : Int), Value.bool false, Value.int IntKind.u8 (0 : Int), Value.int IntKind.i64 (0 : Int), Value.int IntKind.i64 (0 : Int), Value.int IntKind.i64 (0 : Int), Value.bool false, Value.int IntKind.i64 (0 : Int)] = y.5 ∧ (26 : Nat) = (26 : TypeId) ∧ some (Ow.mk (some (Addr.mk g (0 : Nat) none)) (x2.2 + (1 : Nat)) cap (12 : Nat)) = some (Ow.mk y.3 y.2 y.4 (12 : Nat))) ∧ True))) ∧ ((lg (Dl.mk x0.1 x1.1 x2.1 (0 : Int) (0 : Int) false (0 : Int) (0 : Int) (0 : Int) (0 : Int) false (0 : Int)) == (0 : Int)) = false → b_1 = b_1 ∧ b = b ∧ True ∧ b = b ∧ b = b ∧ b = b ∧ b = b ∧ b = b ∧ b = b ∧ b = b ∧ b = b ∧ b = b ∧ b = b ∧ b = b ∧ b = b ∧ SpecP Try.prog 10 (Array.mk [Value.agg (Array.mk [Value.int IntKind.u8 x0.1, Value.int IntKind.u8 x1.1, Value.int IntKind.i64 x2.1, Value.int IntKind.i64 (0 : Int), Value.int IntKind.i64 (4 : Int), Value.bool false, Value.int IntKind.u8 (0 : Int), Value.int IntKind.i64 (0 : Int), Value.int IntKind.i64 (0 : Int), Value.int IntKind.i64 (0 : Int), Value.bool false, Value.int IntKind.i64 (0 : Int)])]) (Value.int IntKind.i64 (lg (Dl.mk x0.1 x1.1 x2.1 (0 : Int) (4 : Int) false (0 : Int) (0 : Int) (0 : Int) (0 : Int) false (0 : Int)))) ∧ ((lg (Dl.mk x0.1 x1.1 x2.1 (0 : Int) (4 : Int) false (0 : Int) (0 : Int) (0 : Int) (0 : Int) false (0 : Int)) == (0 : Int)) = true → b = b ∧ b = b ∧ b = b ∧ b = b ∧ b = b ∧ b = b ∧ b = b ∧ b = b ∧ b = b ∧ b = b ∧ b = b ∧ b = b ∧ ∀ (b_2 : Nat), x2.3 = x2.3 ∧ x2.2 = x2.2 ∧ x2.4 = x2.4 ∧ b_2 = b_2 ∧ (x2.2 + (1 : Nat)) * (81 : Nat) ≤ (140737488355328 : Nat) ∧ ∀ (g cap : Nat), b_1 = b_1 ∧ b = b ∧ True ∧ b = b ∧ b = b ∧ b = b ∧ b = b ∧ b = b ∧ b = b ∧ b = b ∧ b = b ∧ b = b ∧ b = b ∧ b = b ∧ b = b ∧ SpecP Try.prog 10 (Array.mk [Value.agg (Array.mk [Value.int IntKind.u8 x0.1, Value.int IntKind.u8 x1.1, Value.int IntKind.i64 x2.1, Value.int IntKind.i64 (0 : Int), Value.int IntKind.i64 (6 : Int), Value.bool false, Value.int IntKind.u8 (0 : Int), Value.int IntKind.i64 (0 : Int), Value.int IntKind.i64 (0 : Int), Value.int IntKind.i64 (0 : Int), Value.bool false, Value.int IntKind.i64 (0 : Int)])]) (Value.int IntKind.i64 (lg (Dl.mk x0.1 x1.1 x2.1 (0 : Int) (6 : Int) false (0 : Int) (0 : Int) (0 : Int) (0 : Int) false (0 : Int)))) ∧ ((lg (Dl.mk x0.1 x1.1 x2.1 (0 : Int) (6 : Int) false (0 : Int) (0 : Int) (0 : Int) (0 : Int) false (0 : Int)) == (0 : Int)) = true → b = b ∧ b = b ∧ b = b ∧ b = b ∧ b = b ∧ b = b ∧ b = b ∧ b = b ∧ b = b ∧ b = b ∧ b = b ∧ b = b ∧ ∀ (b : Nat), some (Addr.mk g (0 : Nat) none) = some (Addr.mk g (0 : Nat) none) ∧ x2.2 + (1 : Nat) = x2.2 + (1 : Nat) ∧ cap = cap ∧ b = b ∧ (x2.2 + (1 : Nat) + (1 : Nat)) * (81 : Nat) ≤ (140737488355328 : Nat) ∧ ∀ (g cap : Nat), ∃ y, ai2 runs x0 x1 y ∧ Int.toNat (↑(allM runs) - y.1) < Int.toNat (↑(allM runs) - x2.1) ∧ Value.int IntKind.i64 (IntKind.wrap IntKind.i64 (x2.1 + (1 : Int))) = Value.int IntKind.i64 y.1 ∧ Value.slice (some (Addr.mk g (0 : Nat) none)) (x2.2 + (1 : Nat) + (1 : Nat)) cap = Value.slice y.3 y.2 y.4 ∧ ((0 : Nat) = (0 : Nat) ∧ lapp (lapp x2.5 [Value.int IntKind.u8 x0.1, Value.int IntKind.u8 x1.1, Value.int IntKind.i64 x2.1, Value.int IntKind.i64 (0 : Int), Value.int IntKind.i64 (4 : Int), Value.bool false, Value.int IntKind.u8 (0 : Int), Value.int IntKind.i64 (0 : Int), Value.int IntKind.i64 (0 : Int), Value.int IntKind.i64 (0 : Int), Value.bool false, Value.int IntKind.i64 (0 : Int)]) [Value.int IntKind.u8 x0.1, Value.int IntKind.u8 x1.1, Value.int IntKind.i64 x2.1, Value.int IntKind.i64 (0 : Int), Value.int IntKind.i64 (6 : Int), Value.bool false, Value.int IntKind.u8 (0 : Int), Value.int IntKind.i64 (0 : Int), Value.int IntKind.i64 (0 : Int), Value.int IntKind.i64 (0 : Int), Value.bool false, Value.int IntKind.i64 (0 : Int)] = y.5 ∧ (26 : Nat) = (26 : TypeId) ∧ some (Ow.mk (some (Addr.mk g (0 : Nat) none)) (x2.2 + (1 : Nat) + (1 : Nat)) cap (12 : Nat)) = some (Ow.mk y.3 y.2 y.4 (12 : Nat))) ∧ True) ∧ ((lg (Dl.mk x0.1 x1.1 x2.1 (0 : Int) (6 : Int) false (0 : Int) (0 : Int) (0 : Int) (0 : Int) false (0 : Int)) == (0 : Int)) = false → ∃ y, ai2 runs x0 x1 y ∧ Int.toNat (↑(allM runs) - y.1) < Int.toNat (↑(allM runs) - x2.1) ∧ Value.int IntKind.i64 (IntKind.wrap IntKind.i64 (x2.1 + (1 : Int))) = Value.int IntKind.i64 y.1 ∧ Value.slice (some (Addr.mk g (0 : Nat) none)) (x2.2 + (1 : Nat)) cap = Value.slice y.3 y.2 y.4 ∧ ((0 : Nat) = (0 : Nat) ∧ lapp x2.5 [Value.int IntKind.u8 x0.1, Value.int IntKind.u8 x1.1, Value.int IntKind.i64 x2.1, Value.int IntKind.i64 (0 : Int), Value.int IntKind.i64 (4 : Int), Value.bool false, Value.int IntKind.u8 (0 : Int), Value.int IntKind.i64 (0 : Int), Value.int IntKind.i64 (0 : Int), Value.int IntKind.i64 (0 : Int), Value.bool false, Value.int IntKind.i64 (0 : Int)] = y.5 ∧ (26 : Nat) = (26 : TypeId) ∧ some (Ow.mk (some (Addr.mk g (0 : Nat) none)) (x2.2 + (1 : Nat)) cap (12 : Nat)) = some (Ow.mk y.3 y.2 y.4 (12 : Nat))) ∧ True)) ∧ ((lg (Dl.mk x0.1 x1.1 x2.1 (0 : Int) (4 : Int) false (0 : Int) (0 : Int) (0 : Int) (0 : Int) false (0 : Int)) == (0 : Int)) = false → b_1 = b_1 ∧ b = b ∧ True ∧ b = b ∧ b = b ∧ b = b ∧ b = b ∧ b = b ∧ b = b ∧ b = b ∧ b = b ∧ b = b ∧ b = b ∧ b = b ∧ b = b ∧ SpecP Try.prog 10 (Array.mk [Value.agg (Array.mk [Value.int IntKind.u8 x0.1, Value.int IntKind.u8 x1.1, Value.int IntKind.i64 x2.1, Value.int IntKind.i64 (0 : Int), Value.int IntKind.i64 (6 : Int), Value.bool false, Value.int IntKind.u8 (0 : Int), Value.int IntKind.i64 (0 : Int), Value.int IntKind.i64 (0 : Int), Value.int IntKind.i64 (0 : Int), Value.bool false, Value.int IntKind.i64 (0 : Int)])]) (Value.int IntKind.i64 (lg (Dl.mk x0.1 x1.1 x2.1 (0 : Int) (6 : Int) false (0 : Int) (0 : Int) (0 : Int) (0 : Int) false (0 : Int)))) ∧ ((lg (Dl.mk x0.1 x1.1 x2.1 (0 : Int) (6 : Int) false (0 : Int) (0 : Int) (0 : Int) (0 : Int) false (0 : Int)) == (0 : Int)) = true → b = b ∧ b = b ∧ b = b ∧ b = b ∧ b = b ∧ b = b ∧ b = b ∧ b = b ∧ b = b ∧ b = b ∧ b = b ∧ b = b ∧ ∀ (b : Nat), x2.3 = x2.3 ∧ x2.2 = x2.2 ∧ x2.4 = x2.4 ∧ b = b ∧ (x2.2 + (1 : Nat)) * (81 : Nat) ≤ (140737488355328 : Nat) ∧ ∀ (g cap : Nat), ∃ y, ai2 runs x0 x1 y ∧ Int.toNat (↑(allM runs) - y.1) < Int.toNat (↑(allM runs) - x2.1) ∧ Value.int IntKind.i64 (IntKind.wrap IntKind.i64 (x2.1 + (1 : Int))) = Value.int IntKind.i64 y.1 ∧ Value.slice (some (Addr.mk g (0 : Nat) none)) (x2.2 + (1 : Nat)) cap = Value.slice y.3 y.2 y.4 ∧ ((0 : Nat) = (0 : Nat) ∧ lapp x2.5 [Value.int IntKind.u8 x0.1, Value.int IntKind.u8 x1.1, Value.int IntKind.i64 x2.1, Value.int IntKind.i64 (0 : Int), Value.int IntKind.i64 (6 : Int), Value.bool false, Value.int IntKind.u8 (0 : Int), Value.int IntKind.i64 (0 : Int), Value.int IntKind.i64 (0 : Int), Value.int IntKind.i64 (0 : Int), Value.bool false, Value.int IntKind.i64 (0 : Int)] = y.5 ∧ (26 : Nat) = (26 : TypeId) ∧ some (Ow.mk (some (Addr.mk g (0 : Nat) none)) (x2.2 + (1 : Nat)) cap (12 : Nat)) = some (Ow.mk y.3 y.2 y.4 (12 : Nat))) ∧ True) ∧ ((lg (Dl.mk x0.1 x1.1 x2.1 (0 : Int) (6 : Int) false (0 : Int) (0 : Int) (0 : Int) (0 : Int) false (0 : Int)) == (0 : Int)) = false → ∃ y, ai2 runs x0 x1 y ∧ Int.toNat (↑(allM runs) - y.1) < Int.toNat (↑(allM runs) - x2.1) ∧ Value.int IntKind.i64 (IntKind.wrap IntKind.i64 (x2.1 + (1 : Int))) = Value.int IntKind.i64 y.1 ∧ Value.slice x2.3 x2.2 x2.4 = Value.slice y.3 y.2 y.4 ∧ ((0 : Nat) = (0 : Nat) ∧ x2.5 = y.5 ∧ (26 : TypeId) = (26 : TypeId) ∧ some (Ow.mk x2.3 x2.2 x2.4 (12 : Nat)) = some (Ow.mk y.3 y.2 y.4 (12 : Nat))) ∧ True)))) ∧ (decide (AX.t x2 < IntKind.wrap IntKind.i64 ((if (7 : Int) < runs then (7 : Int) else runs) + (1 : Int))) = false → ∃ y, ai1 runs x0 y ∧ Int.toNat ((4 : Int) - y.1) < Int.toNat ((4 : Int) - x1.1) ∧ Value.int IntKind.u8 (IntKind.wrap IntKind.u8 (x1.1 + (1 : Int))) = Value.int IntKind.u8 y.1 ∧ Value.slice x2.3 x2.2 x2.4 = Value.slice y.3 y.2 y.4 ∧ ((0 : Nat) = (0 : Nat) ∧ x2.5 = y.5 ∧ (26 : TypeId) = (26 : TypeId) ∧ some (Ow.mk x2.3 x2.2 x2.4 (12 : Nat)) = some (Ow.mk y.3 y.2 y.4 (12 : Nat))) ∧ True)) ∧ (decide (AX.t x1 ≤ (3 : Int)) = false → ∃ y, ai0 runs y ∧ Int.toNat ((4 : Int) - y.1) < Int.toNat ((4 : Int) - x0.1) ∧ Value.int IntKind.u8 (IntKind.wrap IntKind.u8 (x0.1 + (1 : Int))) = Value.int IntKind.u8 y.1 ∧ Value.slice x1.3 x1.2 x1.4 = Value.slice y.3 y.2 y.4 ∧ ((0 : Nat) = (0 : Nat) ∧ x1.5 = y.5 ∧ (26 : TypeId) = (26 : TypeId) ∧ some (Ow.mk x1.3 x1.2 x1.4 (12 : Nat)) = some (Ow.mk y.3 y.2 y.4 (12 : Nat))) ∧ True)) ∧ (decide (AX.t x0 ≤ (3 : Int)) = false → ∃ a cap, some (Ob.mk (0 : Nat) x0.5 (26 : Nat) (some (Ow.mk x0.3 x0.2 x0.4 (12 : Nat)))) = some (Ob.mk (0 : Nat) (allC runs) (26 : Nat) (some (Ow.mk a (allN runs) cap (12 : Nat)))) ∧ Value.slice x0.3 x0.2 x0.4 = Value.slice a (allN runs) cap)) := by kernel_rfl
set_option maxHeartbeats 4000000 in
theorem all_sp (runs : Int) (hr : -9223372036854775808 ≤ runs ∧ runs ≤ 9223372036854775807) : SpecL Try.prog 18 #[.int .i64 runs] 26 12 (allN runs) (allC runs) := by
  intro w
  refine calls_list 0 (h := all_h runs) (?_ : wpF Try.prog [] 400 18 [.int .i64 runs] (all_h runs) (fun u os => ∃ (a : Option Addr) (cap : Nat), lgo os 0 = some (Ob.mk 0 (allC runs) 26 (some ⟨a, allN runs, cap, 12⟩)) ∧ u = .slice a (allN runs) cap))
  rw [all_x]
  (repeat' (first | with_reducible exact rfl | exact trivial | with_reducible assumption | exact legal_sp _ _ _ _ _ _ _ _ _ _ _ _ | (with_reducible apply And.intro) | (with_reducible intro _)))
  all_goals first
    | (with_reducible refine Nat.le_trans ?_ (in2 (by assumption) (by assumption) (by assumption)); omega)
    | with_reducible exact ⟨_, en0, rfl, rfl, ⟨rfl, rfl, rfl, rfl⟩, trivial⟩
    | with_reducible exact ⟨_, en1 (by assumption), rfl, rfl, ⟨rfl, rfl, rfl, rfl⟩, trivial⟩
    | with_reducible exact ⟨_, en2 (by assumption), rfl, rfl, ⟨rfl, rfl, rfl, rfl⟩, trivial⟩
    | with_reducible exact ⟨_, (st1 hr (by assumption) (by assumption) (by assumption) (by assumption)).1, (st1 hr (by assumption) (by assumption) (by assumption) (by assumption)).2, rfl, rfl, ⟨rfl, rfl, rfl, rfl⟩, trivial⟩
    | with_reducible exact ⟨_, (st0 (by assumption) (by assumption) (by assumption) (by assumption)).1, (st0 (by assumption) (by assumption) (by assumption) (by assumption)).2, rfl, rfl, ⟨rfl, rfl, rfl, rfl⟩, trivial⟩
    | (have h := endC (by assumption) (by assumption); rw [h.1, h.2]; exact ⟨_, _, rfl, rfl⟩)
    | skip
  all_goals
    refine ⟨⟨_, _, _, _, _⟩, (st2 hr (by assumption) (by assumption) ?hC ?hk).1, st2m hr (by assumption) (by assumption), rfl, rfl, ⟨rfl, rfl, rfl, rfl⟩, trivial⟩
    case hC => (simp only [cb]; simp only [beq_iff_eq, beq_eq_false_iff_ne, ne_eq] at *; simp only [*, reduceIte, lapp_eq, dc, List.append_assoc, List.append_nil, List.nil_append])
    case hk => (have := (‹ai2 runs _ _ _› : ai2 _ _ _ _).2.1; (try simp only [lapp_eq, List.length_append, List.length_cons, List.length_nil]); omega)
def rall_h (runs : Int) : Hint := Hint.inv (bl0 runs) fun x0 ↦ Hint.split (Hint.inv (bl1 runs x0) fun x1 ↦ Hint.split (Hint.inv (bl2 runs x0 x1) fun x2 ↦ Hint.cut [((23 : Nat), Value.bool (decide (AX.t x2 ≤ runs) && decide (AX.t x2 ≤ (7 : Int))))] (Hint.split (Hint.lit (Hint.lit Hint.nil)) (Hint.lit (Hint.lit Hint.nil))) (Hint.split (Hint.inv (bl3 runs x0 x1 x2) fun x3 ↦ Hint.split (Hint.ob (1 : Nat) (Hint.ob (1 : Nat) (Hint.ob (1 : Nat) (Hint.ob (1 : Nat) (Hint.ob (1 : Nat) (Hint.ob (1 : Nat) (Hint.ob (1 : Nat) (Hint.ob (1 : Nat) (Hint.ob (1 : Nat) (Hint.ob (1 : Nat) (Hint.ob (1 : Nat) (Hint.ob (1 : Nat) (Hint.ob (1 : Nat) (Hint.ob (1 : Nat) (Hint.ob (1 : Nat) (Hint.ob (1 : Nat) (Hint.ob (1 : Nat) (Hint.ob (1 : Nat) (Hint.ob (1 : Nat) (Hint.ob (1 : Nat) (Hint.ob (1 : Nat) (Hint.ob (1 : Nat) (Hint.ob (1 : Nat) (Hint.ob (1 : Nat) (Hint.spec (Value.int IntKind.i64 (lg (Dl.mk x0.1 x1.1 x2.1 (0 : Int) x3.1 false (0 : Int) (0 : Int) (0 : Int) (0 : Int) false (0 : Int)))) (Hint.pl (Hint.split (Hint.ob (1 : Nat) (Hint.ob (1 : Nat) (Hint.ob (1 : Nat) (Hint.ob (1 : Nat) (Hint.ob (1 : Nat) (Hint.ob (1 : Nat) (Hint.ob (1 : Nat) (Hint.ob (1 : Nat) (Hint.ob (1 : Nat) (Hint.ob (1 : Nat) (Hint.ob (1 : Nat) (Hint.ob (1 : Nat) (Hint.app (0 : Nat) (2 : Nat) Hint.nil))))))))))))) Hint.nil))))))))))))))))))))))))))) Hint.nil) Hint.nil)) Hint.nil) Hint.nil
theorem rall_x (runs : Int) : wpF Try.prog [] 400 19 [.int .i64 runs] (rall_h runs) (fun u os => ∃ (a : Option Addr) (cap : Nat), lgo os 0 = some (Ob.mk 0 (allC runs) 26 (some ⟨a, allN runs, cap, 12⟩)) ∧ u = .slice a (allN runs) cap) = ((∃ x, ai0 runs x ∧ Value.int IntKind.u8 (1 : Int) = Value.int IntKind.u8 x.1 ∧ Value.slice none (0 : Nat) (0 : Nat) = Value.slice x.3 x.2 x.4 ∧ ((0 : Nat) = (0 : Nat) ∧ [] = x.5 ∧ (26 : Nat) = (26 : TypeId) ∧ some (Ow.mk none (0 : Nat) (0 : Nat) (12 : Nat)) = some (Ow.mk x.3 x.2 x.4 (12 : Nat))) ∧ True) ∧ ∀ (x0 : AX), ai0 runs x0 → ∀ (junk : Nat → Value), (decide (AX.t x0 ≤ (3 : Int)) = true → (∃ x, ai1 runs x0 x ∧ Value.int IntKind.u8 (0 : Int) = Value.int IntKind.u8 x.1 ∧ Value.slice x0.3 x0.2 x0.4 = Value.slice x.3 x.2 x.4 ∧ ((0 : Nat) = (0 : Nat) ∧ x0.5 = x.5 ∧ (26 : TypeId) = (26 : TypeId) ∧ some (Ow.mk x0.3 x0.2 x0.4 (12 : Nat)) = some (Ow.mk x.3 x.2 x.4 (12 : Nat))) ∧ True) ∧ ∀ (x1 : AX), ai1 runs x0 x1 → ∀ (junk : Nat → Value), (decide (AX.t x1 ≤ (3 : Int)) = true → (∃ x, ai2 runs x0 x1 x ∧ Value.int IntKind.i64 (0 : Int) = Value.int IntKind.i64 x.1 ∧ Value.slice x1.3 x1.2 x1.4 = Value.slice x.3 x.2 x.4 ∧ ((0 : Nat) = (0 : Nat) ∧ x1.5 = x.5 ∧ (26 : TypeId) = (26 : TypeId) ∧ some (Ow.mk x1.3 x1.2 x1.4 (12 : Nat)) = some (Ow.mk x.3 x.2 x.4 (12 : Nat))) ∧ True) ∧ ∀ (x2 : AX), ai2 runs x0 x1 x2 → ∀ (junk : Nat → Value), ((decide (AX.t x2 ≤ runs) = true → Value.bool (decide (AX.t x2 ≤ (7 : Int))) = Value.bool (decide (AX.t x2 ≤ runs) && decide (AX.t x2 ≤ (7 : Int))) ∧ True) ∧ (decide (AX.t x2 ≤ runs) = false → Value.bool false = Value.bool (decide (AX.t x2 ≤ runs) && decide (AX.t x2 ≤ (7 : Int))) ∧ True)) ∧ ∀ (junk : Nat → Value), ((decide (AX.t x2 ≤ runs) && decide (AX.t x2 ≤ (7 : Int))) = true → (∃ x, ai3 runs x0 x1 x2 x ∧ Value.int IntKind.i64 (0 : Int) = Value.int IntKind.i64 x.1 ∧ Value.slice x2.3 x2.2 x2.4 = Value.slice x.3 x.2 x.4 ∧ ((0 : Nat) = (0 : Nat) ∧ x2.5 = x.5 ∧ (26 : TypeId) = (26 : TypeId) ∧ some (Ow.mk x2.3 x2.2 x2.4 (12 : Nat)) = some (Ow.mk x.3 x.2 x.4 (12 : Nat))) ∧ True) ∧ ∀ (x3 : AX), ai3 runs x0 x1 x2 x3 → ∀ (junk : Nat → Value), (decide (AX.t x3 ≤ (6 : Int)) = true → ∀ (b : Nat), b = b ∧ True ∧ b = b ∧ True ∧ b = b ∧ True ∧ b = b ∧ True ∧ b = b ∧ True ∧ b = b ∧ True ∧ b = b ∧ True ∧ b = b ∧ True ∧ b = b ∧ True ∧ b = b ∧ True ∧ b = b ∧ True ∧ b = b ∧ True ∧ b = b ∧ b = b ∧ b = b ∧ b = b ∧ b = b ∧ b = b ∧ b = b ∧ b = b ∧ b = b ∧ b = b ∧ b = b ∧ b = b ∧ SpecP Try.prog 11 (Array.mk [Value.agg (Array.mk [Value.int IntKind.u8 x0.1, Value.int IntKind.u8 x1.1, Value.int IntKind.i64 x2.1, Value.int IntKind.i64 (0 : Int), Value.int IntKind.i64 x3.1, Value.bool false, Value.int IntKind.u8 (0 : Int), Value.int IntKind.i64 (0 : Int), Value.int IntKind.i64 (0 : Int), Value.int IntKind.i64 (0 : Int), Value.bool false, Value.int IntKind.i64 (0 : Int)])]) (Value.int IntKind.i64 (lg (Dl.mk x0.1 x1.1 x2.1 (0 : Int) x3.1 false (0 : Int) (0 : Int) (0 : Int) (0 : Int) false (0 : Int)))) ∧ ((lg (Dl.mk x0.1 x1.1 x2.1 (0 : Int) x3.1 false (0 : Int) (0 : Int) (0 : Int) (0 : Int) false (0 : Int)) == (0 : Int)) = true → b = b ∧ b = b ∧ b = b ∧ b = b ∧ b = b ∧ b = b ∧ b = b ∧ b = b ∧ b = b ∧ b = b ∧ b = b ∧ b = b ∧ ∀ (b : Nat), x3.3 = x3.3 ∧ x3.2 = x3.2 ∧ x3.4 = x3.4 ∧ b = b ∧ (x3.2 + (1 : Nat)) * (81 : Nat) ≤ (140737488355328 : Nat) ∧ ∀ (g cap : Nat), ∃ y, ai3 runs x0 x1 x2 y ∧ Int.toNat ((7 : Int) - y.1) < Int.toNat ((7 : Int) - x3.1) ∧ Value.int IntKind.i64 (IntKind.wrap IntKind.i64 (x3.1 + (1 : Int))) = Value.int IntKind.i64 y.1 ∧ Value.slice (some (Addr.mk g (0 : Nat) none)) (x3.2 + (1 : Nat)) cap = Value.slice y.3 y.2 y.4 ∧ ((0 : Nat) = (0 : Nat) ∧ lapp x3.5 [Value.int IntKind.u8 x0.1, Value.int IntKind.u8 x1.1, Value.int IntKind.i64 x2.1, Value.int IntKind.i64 (0 : Int), Value.int IntKind.i64 x3.1, Value.bool false, Value.int IntKind.u8 (0 : Int), Value.int IntKind.i64 (0 : Int), Value.int IntKind.i64 (0 : Int), Value.int IntKind.i64 (0 : Int), Value.bool false, Value.int IntKind.i64 (0 : Int)] = y.5 ∧ (26 : Nat) = (26 : TypeId) ∧ some (Ow.mk (some (Addr.mk g (0 : Nat) none)) (x3.2 + (1 : Nat)) cap (12 : Nat)) = some (Ow.mk y.3 y.2 y.4 (12 : Nat))) ∧ True) ∧ ((lg (Dl.mk x0.1 x1.1 x2.1 (0 : Int) x3.1 false (0 : Int) (0 : Int) (0 : Int) (0 : Int) false (0 : Int)) == (0 : Int)) = false → ∃ y, ai3 runs x0 x1 x2 y ∧ Int.toNat ((7 : Int) - y.1) < Int.toNat ((7 : Int) - x3.1) ∧ Value.int IntKind.i64 (IntKind.wrap IntKind.i64 (x3.1 + (1 : Int))) = Value.int IntKind.i64 y.1 ∧ Value.slice x3.3 x3.2 x3.4 = Value.slice y.3 y.2 y.4 ∧ ((0 : Nat) = (0 : Nat) ∧ x3.5 = y.5 ∧ (26 : TypeId) = (26 : TypeId) ∧ some (Ow.mk x3.3 x3.2 x3.4 (12 : Nat)) = some (Ow.mk y.3 y.2 y.4 (12 : Nat))) ∧ True)) ∧ (decide (AX.t x3 ≤ (6 : Int)) = false → ∃ y, ai2 runs x0 x1 y ∧ Int.toNat (↑(allM runs) - y.1) < Int.toNat (↑(allM runs) - x2.1) ∧ Value.int IntKind.i64 (IntKind.wrap IntKind.i64 (x2.1 + (1 : Int))) = Value.int IntKind.i64 y.1 ∧ Value.slice x3.3 x3.2 x3.4 = Value.slice y.3 y.2 y.4 ∧ ((0 : Nat) = (0 : Nat) ∧ x3.5 = y.5 ∧ (26 : TypeId) = (26 : TypeId) ∧ some (Ow.mk x3.3 x3.2 x3.4 (12 : Nat)) = some (Ow.mk y.3 y.2 y.4 (12 : Nat))) ∧ True)) ∧ ((decide (AX.t x2 ≤ runs) && decide (AX.t x2 ≤ (7 : Int))) = false → ∃ y, ai1 runs x0 y ∧ Int.toNat ((4 : Int) - y.1) < Int.toNat ((4 : Int) - x1.1) ∧ Value.int IntKind.u8 (IntKind.wrap IntKind.u8 (x1.1 + (1 : Int))) = Value.int IntKind.u8 y.1 ∧ Value.slice x2.3 x2.2 x2.4 = Value.slice y.3 y.2 y.4 ∧ ((0 : Nat) = (0 : Nat) ∧ x2.5 = y.5 ∧ (26 : TypeId) = (26 : TypeId) ∧ some (Ow.mk x2.3 x2.2 x2.4 (12 : Nat)) = some (Ow.mk y.3 y.2 y.4 (12 : Nat))) ∧ True)) ∧ (decide (AX.t x1 ≤ (3 : Int)) = false → ∃ y, ai0 runs y ∧ Int.toNat ((4 : Int) - y.1) < Int.toNat ((4 : Int) - x0.1) ∧ Value.int IntKind.u8 (IntKind.wrap IntKind.u8 (x0.1 + (1 : Int))) = Value.int IntKind.u8 y.1 ∧ Value.slice x1.3 x1.2 x1.4 = Value.slice y.3 y.2 y.4 ∧ ((0 : Nat) = (0 : Nat) ∧ x1.5 = y.5 ∧ (26 : TypeId) = (26 : TypeId) ∧ some (Ow.mk x1.3 x1.2 x1.4 (12 : Nat)) = some (Ow.mk y.3 y.2 y.4 (12 : Nat))) ∧ True)) ∧ (decide (AX.t x0 ≤ (3 : Int)) = false → ∃ a cap, some (Ob.mk (0 : Nat) x0.5 (26 : Nat) (some (Ow.mk x0.3 x0.2 x0.4 (12 : Nat)))) = some (Ob.mk (0 : Nat) (allC runs) (26 : Nat) (some (Ow.mk a (allN runs) cap (12 : Nat)))) ∧ Value.slice x0.3 x0.2 x0.4 = Value.slice a (allN runs) cap)) := by kernel_rfl
set_option maxHeartbeats 4000000 in
theorem rall_sp (runs : Int) (hr : -9223372036854775808 ≤ runs ∧ runs ≤ 9223372036854775807) : SpecL Try.prog 19 #[.int .i64 runs] 26 12 (allN runs) (allC runs) := by
  intro w
  refine calls_list 0 (h := rall_h runs) (?_ : wpF Try.prog [] 400 19 [.int .i64 runs] (rall_h runs) (fun u os => ∃ (a : Option Addr) (cap : Nat), lgo os 0 = some (Ob.mk 0 (allC runs) 26 (some ⟨a, allN runs, cap, 12⟩)) ∧ u = .slice a (allN runs) cap))
  rw [rall_x]
  (repeat' (first | with_reducible exact rfl | exact trivial | with_reducible assumption | exact rlegal_sp _ _ _ _ _ _ _ _ _ _ _ _ | (with_reducible apply And.intro) | (with_reducible intro _)))
  all_goals first
    | (with_reducible refine Nat.le_trans ?_ (in3 (by assumption) (by assumption) (by assumption) (by assumption)); omega)
    | with_reducible exact ⟨_, en0, rfl, rfl, ⟨rfl, rfl, rfl, rfl⟩, trivial⟩
    | with_reducible exact ⟨_, en1 (by assumption), rfl, rfl, ⟨rfl, rfl, rfl, rfl⟩, trivial⟩
    | with_reducible exact ⟨_, en2 (by assumption), rfl, rfl, ⟨rfl, rfl, rfl, rfl⟩, trivial⟩
    | with_reducible exact ⟨_, en3 (by assumption), rfl, rfl, ⟨rfl, rfl, rfl, rfl⟩, trivial⟩
    | with_reducible exact ⟨_, (st2r (by assumption) (by assumption) (by assumption) (by assumption)).1, (st2r (by assumption) (by assumption) (by assumption) (by assumption)).2, rfl, rfl, ⟨rfl, rfl, rfl, rfl⟩, trivial⟩
    | with_reducible exact ⟨_, (st1r (by assumption) (by assumption) (by assumption) (by assumption)).1, (st1r (by assumption) (by assumption) (by assumption) (by assumption)).2, rfl, rfl, ⟨rfl, rfl, rfl, rfl⟩, trivial⟩
    | with_reducible exact ⟨_, (st0 (by assumption) (by assumption) (by assumption) (by assumption)).1, (st0 (by assumption) (by assumption) (by assumption) (by assumption)).2, rfl, rfl, ⟨rfl, rfl, rfl, rfl⟩, trivial⟩
    | (have h := endC (by assumption) (by assumption); rw [h.1, h.2]; exact ⟨_, _, rfl, rfl⟩)
    | skip
  all_goals (first | (simp only [*, Bool.and_true, Bool.true_and, Bool.and_false, Bool.false_and, Bool.or_true, Bool.true_or, Bool.or_false, Bool.false_or, Bool.not_true, Bool.not_false, cond_true, cond_false]; done) | skip)
  all_goals
    refine ⟨⟨_, _, _, _, _⟩, st3 (by assumption) (by assumption) ?hC ?hk, st3m (by assumption) (by assumption), rfl, rfl, ⟨rfl, rfl, rfl, rfl⟩, trivial⟩
    case hC => (simp only [cb]; simp only [beq_iff_eq, beq_eq_false_iff_ne, ne_eq] at *; simp only [*, reduceIte, lapp_eq, dc, List.append_assoc, List.append_nil, List.nil_append])
    case hk => (have := (‹ai3 runs _ _ _ _› : ai3 _ _ _ _ _).2.1; (try simp only [lapp_eq, List.length_append, List.length_cons, List.length_nil]); omega)
end Go.Proofs.Ytkakhaedipjodaa
