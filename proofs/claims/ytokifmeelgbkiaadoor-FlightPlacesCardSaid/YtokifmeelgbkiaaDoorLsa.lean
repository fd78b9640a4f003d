/- Layer 30 (lsq): points, lines, deviations, of both. -/
import Derived.Test.YtokifmeelgbkiaaDoorVz
import Derived.KernelRfl
import Derived.Test.YtokifmeelgbkiaaDoorProg
import Derived.Test.YtokifmeelgbkiaaDoorWideG
import Derived.Test.YtokifmeelgbkiaaDoorExq
import Derived.Test.YtokifmeelgbkiaaDoorExqr
set_option linter.unusedSimpArgs false
set_option linter.unusedVariables false
set_option maxRecDepth 100000
namespace Go.Proofs.YtokifmeelgbkiaaDoor
open Go.RowKit


def nthA : List (Option Addr × Nat) → Nat → Option Addr × Nat
  | [], _ => (none, 0)
  | p :: _, 0 => p
  | _ :: l, n + 1 => nthA l n
/-- A value at a time. -/
structure Pt where
  t : Int
  v : Int
/-- The element with an index. -/
def gPt (l : List Pt) (m : Nat) : Pt := l.getD m ⟨0, 0⟩
def cPt (l : List Pt) : List Value := l.flatMap fun p => [.int .i64 p.t, .int .i64 p.v]
def cPt_rd (l : List Pt) (m : Nat) : Nat → Value
  | 0 => .int .i64 (gPt l m).t
  | _ => .int .i64 (gPt l m).v
theorem cPt_len (l : List Pt) : (cPt l).length = l.length * 2 := by
  induction l with
  | nil => rfl
  | cons p l ih => simp only [cPt, List.flatMap_cons, List.length_append] at *; rw [ih]; simp; omega
theorem cPt_at {l : List Pt} {m j : Nat} (h : m < l.length) (hj : j < 2) : (cPt l)[m * 2 + j]? = some (cPt_rd l m j) := by
  induction l generalizing m with
  | nil => simp at h
  | cons p l ih =>
    have e : cPt (p :: l) = [.int .i64 p.t, .int .i64 p.v] ++ cPt l := rfl
    rw [e]
    cases m with
    | zero =>
      rw [List.getElem?_append_left (by simp; omega)]
      have : j = 0 ∨ j = 1 := by omega
      rcases this with rfl | rfl <;> rfl
    | succ m =>
      rw [List.getElem?_append_right (by simp; omega)]
      have e2 : (m + 1) * 2 + j - ([.int .i64 p.t, .int .i64 p.v] : List Value).length = m * 2 + j := by simp; omega
      rw [e2, ih (by simpa using h)]
      have : j = 0 ∨ j = 1 := by omega
      rcases this with rfl | rfl <;> simp [cPt_rd, gPt]
theorem cPt_one (l : List Pt) : ∀ u ∈ cPt l, u.oneCell' = true := by
  intro u hu
  simp only [cPt, List.mem_flatMap, List.mem_cons, List.not_mem_nil, or_false] at hu
  obtain ⟨p, _, h | h⟩ := hu <;> (rw [h]; rfl)
theorem cPt_app (l : List Pt) (d : Pt) : lapp (cPt l) [.int .i64 d.t, .int .i64 d.v] = cPt (l ++ [d]) := by
  rw [lapp_eq]
  unfold cPt
  rw [List.flatMap_append]
  rfl
theorem cPt_get0 {l : List Pt} {m : Nat} (h : m < l.length) : lgo (cPt l) (m * 2) = some (.int .i64 (gPt l m).t) := by rw [lgo_eq]; exact cPt_at (j := 0) h (by omega)
theorem cPt_get1 {l : List Pt} {m : Nat} (h : m < l.length) : lgo (cPt l) (m * 2 + 1) = some (.int .i64 (gPt l m).v) := by rw [lgo_eq]; exact cPt_at (j := 1) h (by omega)

def tiB (t : Int) : Bool := decide (t ≥ 0) && decide (t ≤ 8000)
def byB (n m : Int) : Bool := decide (n < -m) || decide (n > m)
def ptO (p : Pt) : Bool := tiB p.t && !byB p.v 1000000
/-- The error of points. -/
def ptE (l : List Pt) : Int := if 64 < l.length then 9 else if l.length < 2 then 1 else if l.all ptO = true then 0 else 2
def ptI (l : List Pt) (i : Nat) : Prop := i ≤ l.length ∧ ∀ m, m < i → ptO (gPt l m) = true
theorem gPt_in {l : List Pt} {m : Nat} (h : m < l.length) : gPt l m ∈ l := by
  unfold gPt
  rw [List.getD_eq_getElem?_getD, List.getElem?_eq_getElem h]
  exact List.getElem_mem _
theorem ptI_0 (l : List Pt) : ptI l 0 := ⟨Nat.zero_le _, fun m h => by omega⟩
theorem ptI_step {l : List Pt} {i : Nat} (h : ptI l i) (hi : i < l.length) (hc : ptO (gPt l i) = true) : ptI l (i + 1) :=
  ⟨hi, fun m hm => by
    by_cases e : m < i
    · exact h.2 m e
    · have : m = i := by omega
      rw [this]; exact hc⟩
theorem all_of {l : List Pt} (h : ptI l l.length) : l.all ptO = true := by
  rw [List.all_eq_true]
  intro p hp
  obtain ⟨m, hm, rfl⟩ := List.mem_iff_getElem.1 hp
  have := h.2 m hm
  unfold gPt at this
  rwa [List.getD_eq_getElem?_getD, List.getElem?_eq_getElem hm] at this
theorem not_all {l : List Pt} {i : Nat} (hi : i < l.length) (hc : ptO (gPt l i) = false) : l.all ptO = false := by
  rw [List.all_eq_false]
  exact ⟨_, gPt_in hi, by rw [hc]; decide⟩
theorem ptE_0 {l : List Pt} (h : ptE l = 0) : l.length ≤ 64 ∧ 2 ≤ l.length ∧ ptI l l.length := by
  unfold ptE at h
  split at h
  · omega
  · split at h
    · omega
    · split at h
      · rename_i h1 h2 h3
        rw [List.all_eq_true] at h3
        exact ⟨by omega, by omega, Nat.le_refl _, fun m hm => h3 _ (gPt_in hm)⟩
      · omega
theorem ptE_n {l : List Pt} (h : (ptE l != 0) = false) : ptE l = 0 := by simpa using h
/-- The errors come one behind another. -/
theorem ptE_9 {l : List Pt} (h : decide ((l.length : Int) > 64) = true) : ptE l = 9 := by unfold ptE; rw [if_pos (by have := of_decide_eq_true h; omega)]
theorem ptE_1 {l : List Pt} (h : decide ((l.length : Int) > 64) = false) (h2 : decide ((l.length : Int) < 2) = true) : ptE l = 1 := by unfold ptE; rw [if_neg (by have := of_decide_eq_false h; omega), if_pos (by have := of_decide_eq_true h2; omega)]
theorem ptE_2 {l : List Pt} (h : decide ((l.length : Int) > 64) = false) (h2 : decide ((l.length : Int) < 2) = false) {i : Nat} (hi : i < l.length) (hc : ptO (gPt l i) = false) : ptE l = 2 := by
  unfold ptE; rw [if_neg (by have := of_decide_eq_false h; omega), if_neg (by have := of_decide_eq_false h2; omega), not_all hi hc]; rfl
theorem ptE_3 {l : List Pt} (h : decide ((l.length : Int) > 64) = false) (h2 : decide ((l.length : Int) < 2) = false) (hc : ptI l l.length) : ptE l = 0 := by
  unfold ptE; rw [if_neg (by have := of_decide_eq_false h; omega), if_neg (by have := of_decide_eq_false h2; omega), all_of hc]; rfl
theorem ptO_p (p : Pt) : (!tiB p.t || byB p.v 1000000) = !ptO p := by unfold ptO; cases tiB p.t <;> cases byB p.v 1000000 <;> rfl
theorem ptO_r (p : Pt) : (decide (p.t < 0) || (decide (p.t > 8000) || byB p.v 1000000)) = !ptO p := by
  have : (decide (p.t < 0) || decide (p.t > 8000)) = !tiB p.t := by unfold tiB; by_cases h1 : p.t < 0 <;> by_cases h2 : p.t > 8000 <;> simp [h1, h2] <;> omega
  rw [← ptO_p, ← Bool.or_assoc, this]
theorem ptO_b {p : Pt} (h : ptO p = true) : (0 ≤ p.t ∧ p.t ≤ 8000) ∧ -1000000 ≤ p.v ∧ p.v ≤ 1000000 := by
  unfold ptO tiB byB at h
  simp at h
  omega
theorem lt_n {l : List Pt} {i : Nat} (h : decide ((i : Int) < (l.length : Int)) = true) : i < l.length := by have := of_decide_eq_true h; omega
theorem ge_n {l : List Pt} {i : Nat} (h : decide ((i : Int) < (l.length : Int)) = false) (h2 : i ≤ l.length) : i = l.length := by have := of_decide_eq_false h; omega
theorem wr_n {i : Nat} (h : i ≤ 9223372036854775806) : Value.int IntKind.i64 (IntKind.i64.wrap ((i : Int) + 1)) = Value.int IntKind.i64 ((i + 1 : Nat) : Int) := by rw [IntWalk.i64_in _ (by omega)]; rfl
@[reducible] def ptL (l : List Pt) : LoopR := ⟨Nat, fun i => [(13, .int .i64 i)], [], fun _ => [], ptI l, fun i => l.length - i, []⟩
/-! All of the same time. -/
def samB (l : List Pt) : Bool := l.all fun p => p.t == (gPt l 0).t
def saI (l : List Pt) (i : Nat) : Prop := i ≤ l.length ∧ ∀ m, m < i → (gPt l m).t = (gPt l 0).t
theorem saI_0 (l : List Pt) : saI l 0 := ⟨Nat.zero_le _, fun m h => by omega⟩
theorem saI_step {l : List Pt} {i : Nat} (h : saI l i) (hi : i < l.length) (hc : (gPt l i).t = (gPt l 0).t) : saI l (i + 1) :=
  ⟨hi, fun m hm => by
    by_cases e : m < i
    · exact h.2 m e
    · have : m = i := by omega
      rw [this]; exact hc⟩
theorem sam_of {l : List Pt} (h : saI l l.length) : samB l = true := by
  unfold samB
  rw [List.all_eq_true]
  intro p hp
  obtain ⟨m, hm, rfl⟩ := List.mem_iff_getElem.1 hp
  have := h.2 m hm
  have e : gPt l m = l[m] := by unfold gPt; rw [List.getD_eq_getElem?_getD, List.getElem?_eq_getElem hm]; rfl
  rw [e] at this
  simpa using this
theorem sam_no {l : List Pt} {i : Nat} (hi : i < l.length) (hc : ¬ (gPt l i).t = (gPt l 0).t) : samB l = false := by
  unfold samB
  rw [List.all_eq_false]
  exact ⟨_, gPt_in hi, by simpa using hc⟩
theorem sam_i {l : List Pt} (h : samB l = true) : saI l l.length := by
  unfold samB at h
  rw [List.all_eq_true] at h
  exact ⟨Nat.le_refl _, fun m hm => by simpa using h _ (gPt_in hm)⟩
@[reducible] def saL (l : List Pt) : LoopR := ⟨Nat, fun i => [(7, .int .i64 i)], [], fun _ => [], saI l, fun i => l.length - i, []⟩


/-! Sums over the first points. -/
def sS (l : List Pt) : Nat → Int
  | 0 => 0
  | k + 1 => sS l k + (gPt l k).t
def sQ (l : List Pt) : Nat → Int
  | 0 => 0
  | k + 1 => sQ l k + (gPt l k).t * (gPt l k).t
def sU (l : List Pt) : Nat → Int
  | 0 => 0
  | k + 1 => sU l k + (gPt l k).v
def sW (l : List Pt) : Nat → Int
  | 0 => 0
  | k + 1 => sW l k + (gPt l k).t * (gPt l k).v
theorem prod_b {x y : Int} {A B : Nat} (hx : x.natAbs ≤ A) (hy : y.natAbs ≤ B) : (x * y).natAbs ≤ A * B := by rw [Int.natAbs_mul]; exact Nat.mul_le_mul hx hy
theorem ptI_le {l : List Pt} {i j : Nat} (h : ptI l i) (hj : j ≤ i) : ptI l j := ⟨by have := h.1; omega, fun m hm => h.2 m (by omega)⟩
theorem sq_n (x : Int) : 0 ≤ x * x := by
  rcases Int.le_total 0 x with h | h
  · exact Int.mul_nonneg h h
  · exact Int.mul_nonneg_of_nonpos_of_nonpos h h
theorem s_b {l : List Pt} : ∀ {k : Nat}, ptI l k → (0 ≤ sS l k ∧ sS l k ≤ 8000 * k) ∧ (0 ≤ sQ l k ∧ sQ l k ≤ 64000000 * k) ∧ (-(1000000 * (k : Int)) ≤ sU l k ∧ sU l k ≤ 1000000 * k) ∧ (-(8000000000 * (k : Int)) ≤ sW l k ∧ sW l k ≤ 8000000000 * k) := by
  intro k
  induction k with
  | zero => intro _; simp [sS, sQ, sU, sW]
  | succ k ih =>
    intro h
    have i := ih (ptI_le h (by omega))
    have b := ptO_b (h.2 k (by omega))
    have p1 := prod_b (x := (gPt l k).t) (y := (gPt l k).t) (A := 8000) (B := 8000) (by omega) (by omega)
    have p2 := prod_b (x := (gPt l k).t) (y := (gPt l k).v) (A := 8000) (B := 1000000) (by omega) (by omega)
    have p3 := sq_n (gPt l k).t
    simp only [sS, sQ, sU, sW]
    refine ⟨⟨?_, ?_⟩, ⟨?_, ?_⟩, ⟨?_, ?_⟩, ?_, ?_⟩ <;> omega
/-- One more point. -/
theorem s_w {l : List Pt} {k : Nat} (h : ptI l l.length) (h64 : l.length ≤ 64) (hk : k < l.length) :
    Value.int IntKind.i64 (IntKind.i64.wrap (sS l k + (gPt l k).t)) = .int .i64 (sS l (k + 1)) ∧ Value.int IntKind.i64 (IntKind.i64.wrap (sQ l k + IntKind.i64.wrap ((gPt l k).t * (gPt l k).t))) = .int .i64 (sQ l (k + 1)) ∧
    Value.int IntKind.i64 (IntKind.i64.wrap (sU l k + (gPt l k).v)) = .int .i64 (sU l (k + 1)) ∧ Value.int IntKind.i64 (IntKind.i64.wrap (sW l k + IntKind.i64.wrap ((gPt l k).t * (gPt l k).v))) = .int .i64 (sW l (k + 1)) := by
  have i := s_b (ptI_le h (Nat.le_of_lt hk))
  have b := ptO_b (h.2 k hk)
  have p1 := prod_b (x := (gPt l k).t) (y := (gPt l k).t) (A := 8000) (B := 8000) (by omega) (by omega)
  have p2 := prod_b (x := (gPt l k).t) (y := (gPt l k).v) (A := 8000) (B := 1000000) (by omega) (by omega)
  simp only [sS, sQ, sU, sW]
  refine ⟨?_, ?_, ?_, ?_⟩
  · rw [q64 (by omega) (by omega)]
  · rw [q64 (x := (gPt l k).t * (gPt l k).t) (by omega) (by omega), q64 (by omega) (by omega)]
  · rw [q64 (by omega) (by omega)]
  · rw [q64 (x := (gPt l k).t * (gPt l k).v) (by omega) (by omega), q64 (by omega) (by omega)]
/-- The line with the least sum of squares. -/
def liA (l : List Pt) : Int := sQ l l.length * sU l l.length - sS l l.length * sW l l.length
def liB (l : List Pt) : Int := l.length * sW l l.length - sS l l.length * sU l l.length
def liD (l : List Pt) : Int := l.length * sQ l l.length - sS l l.length * sS l l.length
def liE (l : List Pt) : Int := if ptE l ≠ 0 then ptE l else if samB l = true then 14 else 0
def zL (e x : Int) : Int := if e = 0 then x else 0
def fiV (e a b d : Int) : Value := .tuple #[.agg #[.int .i64 (zL e a), .int .i64 (zL e b), .int .i64 (zL e d)], .int .i64 e]
theorem fiV_eq {e a b d p q r s : Int} (h1 : p = zL e a) (h2 : q = zL e b) (h3 : r = zL e d) (h4 : s = e) : Value.tuple #[.agg #[.int .i64 p, .int .i64 q, .int .i64 r], .int .i64 s] = fiV e a b d := by subst h1 h2 h3 h4; rfl
theorem li_w {l : List Pt} (h : ptE l = 0) :
    IntKind.i64.wrap (IntKind.i64.wrap (sQ l l.length * sU l l.length) - IntKind.i64.wrap (sS l l.length * sW l l.length)) = liA l ∧
    IntKind.i64.wrap (IntKind.i64.wrap (l.length * sW l l.length) - IntKind.i64.wrap (sS l l.length * sU l l.length)) = liB l ∧
    IntKind.i64.wrap (IntKind.i64.wrap (l.length * sQ l l.length) - IntKind.i64.wrap (sS l l.length * sS l l.length)) = liD l ∧
    (liA l).natAbs ≤ 1152921504606846976 ∧ (liB l).natAbs ≤ 70368744177664 ∧ (liD l).natAbs ≤ 1099511627776 := by
  obtain ⟨h1, h2, h3⟩ := ptE_0 h
  have b := s_b h3
  unfold liA liB liD
  have p1 := prod_b (x := sQ l l.length) (y := sU l l.length) (A := 4096000000) (B := 64000000) (by omega) (by omega)
  have p2 := prod_b (x := sS l l.length) (y := sW l l.length) (A := 512000) (B := 512000000000) (by omega) (by omega)
  have p3 := prod_b (x := (l.length : Int)) (y := sW l l.length) (A := 64) (B := 512000000000) (by omega) (by omega)
  have p4 := prod_b (x := sS l l.length) (y := sU l l.length) (A := 512000) (B := 64000000) (by omega) (by omega)
  have p5 := prod_b (x := (l.length : Int)) (y := sQ l l.length) (A := 64) (B := 4096000000) (by omega) (by omega)
  have p6 := prod_b (x := sS l l.length) (y := sS l l.length) (A := 512000) (B := 512000) (by omega) (by omega)
  generalize sQ l l.length * sU l l.length = x1 at *
  generalize sS l l.length * sW l l.length = x2 at *
  generalize (l.length : Int) * sW l l.length = x3 at *
  generalize sS l l.length * sU l l.length = x4 at *
  generalize (l.length : Int) * sQ l l.length = x5 at *
  generalize sS l l.length * sS l l.length = x6 at *
  refine ⟨?_, ?_, ?_, by omega, by omega, by omega⟩
  · rw [q64 (x := x1) (by omega) (by omega), q64 (x := x2) (by omega) (by omega), q64 (by omega) (by omega)]
  · rw [q64 (x := x3) (by omega) (by omega), q64 (x := x4) (by omega) (by omega), q64 (by omega) (by omega)]
  · rw [q64 (x := x5) (by omega) (by omega), q64 (x := x6) (by omega) (by omega), q64 (by omega) (by omega)]
/-! The determinant is the sum of the squares of all differences of times. -/
def rR (l : List Pt) (t : Int) : Nat → Int
  | 0 => 0
  | k + 1 => rR l t k + ((gPt l k).t - t) * ((gPt l k).t - t)
def dK (l : List Pt) (k : Nat) : Int := k * sQ l k - sS l k * sS l k
theorem rR_n (l : List Pt) (t : Int) (k : Nat) : 0 ≤ rR l t k := by
  induction k with
  | zero => simp [rR]
  | succ k ih => simp only [rR]; have := sq_n ((gPt l k).t - t); omega
theorem rR_1 (l : List Pt) (t : Int) (k : Nat) : ((gPt l 0).t - t) * ((gPt l 0).t - t) ≤ rR l t (k + 1) := by
  induction k with
  | zero => simp [rR]
  | succ k ih => simp only [rR] at *; have := sq_n ((gPt l (k + 1)).t - t); omega
theorem rR_eq (l : List Pt) (t : Int) (k : Nat) : rR l t k = sQ l k - 2 * t * sS l k + k * (t * t) := by
  induction k with
  | zero => simp [rR, sQ, sS]
  | succ k ih =>
    simp only [rR, sQ, sS, ih]
    have e : ((k + 1 : Nat) : Int) = (k : Int) + 1 := by omega
    rw [e]
    grind
theorem dK_s (l : List Pt) (k : Nat) : dK l (k + 1) = dK l k + rR l (gPt l k).t k := by
  rw [rR_eq]
  unfold dK
  simp only [sQ, sS]
  have e : ((k + 1 : Nat) : Int) = (k : Int) + 1 := by omega
  rw [e]
  grind
theorem dK_n (l : List Pt) (k : Nat) : 0 ≤ dK l k := by
  induction k with
  | zero => simp [dK, sS, sQ]
  | succ k ih => rw [dK_s]; have := rR_n l (gPt l k).t k; omega
theorem sq_0 {x : Int} (h : x * x ≤ 0) : x = 0 := by
  have := sq_n x
  have : x * x = 0 := by omega
  rcases Int.mul_eq_zero.1 this with h | h <;> exact h
theorem dK_0 (l : List Pt) : ∀ k, dK l k = 0 → ∀ m, m < k → (gPt l m).t = (gPt l 0).t := by
  intro k
  induction k with
  | zero => intro _ m hm; omega
  | succ k ih =>
    intro h m hm
    rw [dK_s] at h
    have h1 := dK_n l k
    have h2 := rR_n l (gPt l k).t k
    by_cases e : m < k
    · exact ih (by omega) m e
    · have : m = k := by omega
      subst this
      cases m with
      | zero => rfl
      | succ j =>
        have h3 := rR_1 l (gPt l (j + 1)).t j
        have h4 := sq_0 (x := (gPt l 0).t - (gPt l (j + 1)).t) (by omega)
        omega
theorem sam_s {l : List Pt} (h : ∀ m, m < l.length → (gPt l m).t = (gPt l 0).t) : ∀ k, k ≤ l.length → sS l k = k * (gPt l 0).t ∧ sQ l k = k * ((gPt l 0).t * (gPt l 0).t) := by
  intro k
  induction k with
  | zero => intro _; simp [sS, sQ]
  | succ k ih =>
    intro hk
    obtain ⟨h1, h2⟩ := ih (by omega)
    have h3 := h k (by omega)
    simp only [sS, sQ, h1, h2, h3]
    have e : ((k + 1 : Nat) : Int) = (k : Int) + 1 := by omega
    rw [e]
    constructor <;> grind
/-- All have one time exactly if the determinant is 0. -/
theorem sam_iff (l : List Pt) : samB l = (liD l == 0) := by
  rw [Bool.eq_iff_iff, beq_iff_eq]
  constructor
  · intro h
    obtain ⟨h1, h2⟩ := sam_s (sam_i h).2 l.length (Nat.le_refl _)
    unfold liD
    rw [h1, h2]
    grind
  · intro h
    exact sam_of ⟨Nat.le_refl _, dK_0 l l.length h⟩
theorem liD_n (l : List Pt) : 0 ≤ liD l := dK_n l l.length
@[reducible] def liL (l : List Pt) (k : Nat) : LoopR := ⟨Nat, fun i => [(k, .int .i64 i), (6, .int .i64 (sS l i)), (7, .int .i64 (sQ l i)), (8, .int .i64 (sU l i)), (9, .int .i64 (sW l i))], [], fun _ => [], fun i => i ≤ l.length, fun i => l.length - i, []⟩


/-! Lines that are accepted, values, deviations. -/
def accB (a b d : Int) : Bool := decide (d ≥ 1) && (decide (d ≤ 1099511627776) && (!byB a 1152921504606846976 && !byB b 70368744177664))
theorem acc_b {a b d : Int} (h : accB a b d = true) : (1 ≤ d ∧ d ≤ 1099511627776) ∧ a.natAbs ≤ 1152921504606846976 ∧ b.natAbs ≤ 70368744177664 := by
  unfold accB byB at h
  simp at h
  omega
def atX (a b d t : Int) : Int := IntKind.i64.wrap (IntKind.i64.wrap (2 * IntKind.i64.wrap (a + IntKind.i64.wrap (b * t))) + d)
def atE (a b d t : Int) : Int := if accB a b d = true then (if tiB t = true then quoE (atX a b d t) (IntKind.i64.wrap (2 * d)) else 2) else 1
def atV (a b d t : Int) : Int := if accB a b d = true then (if tiB t = true then flI (atX a b d t) (IntKind.i64.wrap (2 * d)) else 0) else 0
theorem ti_r (t : Int) : (decide (t < 0) || decide (t > 8000)) = !tiB t := by unfold tiB; by_cases h1 : t < 0 <;> by_cases h2 : t > 8000 <;> simp [h1, h2] <;> omega
def dvW (t v a b d : Int) : Int := IntKind.i64.wrap (IntKind.i64.wrap (IntKind.i64.wrap (d * v) - a) - IntKind.i64.wrap (b * t))
theorem dv_64 (t v a b d : Int) : I64 (dvW t v a b d) := i64w _
theorem dv_eq {t v a b d : Int} (h : accB a b d = true) (hp : ptO ⟨t, v⟩ = true) : dvW t v a b d = d * v - a - b * t := by
  have h1 := acc_b h
  have h2 := ptO_b hp
  simp only at h2
  have p1 := prod_b (x := d) (y := v) (A := 1099511627776) (B := 1000000) (by omega) (by omega)
  have p2 := prod_b (x := b) (y := t) (A := 70368744177664) (B := 8000) (by omega) (by omega)
  unfold dvW
  rw [q64 (x := d * v) (by omega) (by omega), q64 (x := b * t) (by omega) (by omega), q64 (x := d * v - a) (by omega) (by omega), q64 (by omega) (by omega)]
/-- The sum of the squares of the first deviations; that of the deviations; that of those times the times. -/
def dvK (l : List Pt) (a b d : Int) (k : Nat) : Int := dvW (gPt l k).t (gPt l k).v a b d
def rsS (l : List Pt) (a b d : Int) : Nat → Int
  | 0 => 0
  | k + 1 => rsS l a b d k + dvK l a b d k * dvK l a b d k
def plS (l : List Pt) (a b d : Int) : Nat → Int
  | 0 => 0
  | k + 1 => plS l a b d k + dvK l a b d k
def tmS (l : List Pt) (a b d : Int) : Nat → Int
  | 0 => 0
  | k + 1 => tmS l a b d k + dvK l a b d k * (gPt l k).t
theorem rsS_n (l : List Pt) (a b d : Int) : ∀ k, 0 ≤ rsS l a b d k := by
  intro k
  induction k with
  | zero => simp [rsS]
  | succ k ih => simp only [rsS]; have := sq_n (dvK l a b d k); omega
theorem rsS_le (l : List Pt) (a b d : Int) (i k : Nat) : rsS l a b d i ≤ rsS l a b d (i + k) := by
  induction k with
  | zero => simp
  | succ k ih =>
    have e : i + (k + 1) = (i + k) + 1 := by omega
    rw [e]
    simp only [rsS]
    have := sq_n (dvK l a b d (i + k))
    omega
def rsE (l : List Pt) (a b d : Int) : Int := if ptE l ≠ 0 then ptE l else if accB a b d = false then 1 else if fitB (rsS l a b d l.length) = true then 0 else 2
def rsV (l : List Pt) (a b d : Int) : Value := .tuple #[W (zL (rsE l a b d) (rsS l a b d l.length)), .int .i64 (rsE l a b d)]
theorem fitB_p {x : Int} (h : fitB x = true) : fits x := by
  by_cases e : fits x
  · exact e
  · rw [fit_no e] at h; cases h
theorem rs_big {l : List Pt} {a b d : Int} {i : Nat} (hi : i < l.length) (h : fitB (rsS l a b d i + dvK l a b d i * dvK l a b d i) = false) : fitB (rsS l a b d l.length) = false := by
  have h1 := rsS_le l a b d (i + 1) (l.length - (i + 1))
  have e : i + 1 + (l.length - (i + 1)) = l.length := by omega
  rw [e] at h1
  have h2 := rsS_n l a b d (i + 1)
  by_cases g : fits (rsS l a b d l.length)
  · have : fits (rsS l a b d (i + 1)) := by unfold fits at *; unfold lo127 at *; omega
    have := fit_yes this
    simp only [rsS] at this
    rw [this] at h
    cases h
  · exact fit_no g
def acB (l : List Pt) (a b d : Int) : Bool := (ptE l == 0) && (accB a b d && ((plS l a b d l.length == 0) && (tmS l a b d l.length == 0)))
theorem pl_b {l : List Pt} {a b d : Int} : ∀ {k : Nat}, ptI l k → (plS l a b d k).natAbs ≤ 9223372036854775808 * k ∧ (tmS l a b d k).natAbs ≤ 73786976294838206464000 * k := by
  intro k
  induction k with
  | zero => intro _; simp [plS, tmS]
  | succ k ih =>
    intro h
    have i := ih (ptI_le h (by omega))
    have b1 := ptO_b (h.2 k (by omega))
    have b2 := dv_64 (gPt l k).t (gPt l k).v a b d
    simp only [plS, tmS]
    unfold I64 at b2
    unfold dvK
    generalize dvW (gPt l k).t (gPt l k).v a b d = x at *
    have p1 := prod_b (x := x) (y := (gPt l k).t) (A := 9223372036854775808) (B := 8000) (by omega) (by omega)
    omega
theorem pl_f {l : List Pt} {a b d : Int} (h : ptE l = 0) {k : Nat} (hk : k ≤ l.length) : fits (plS l a b d k) ∧ fits (tmS l a b d k) := by
  obtain ⟨h1, h2, h3⟩ := ptE_0 h
  have b := pl_b (a := a) (b := b) (d := d) (ptI_le h3 hk)
  unfold fits lo127 hi127
  omega
theorem W_zero (v : Int) : (wh v == 0 && (wl v == 0 && true)) = (v == 0) := by
  rw [Bool.eq_iff_iff]
  simp
  unfold wh wl
  omega
theorem cmp_zero_i (v : Int) : (cmpI v 0 == 0) = (v == 0) := by
  unfold cmpI
  rw [Bool.eq_iff_iff]
  simp
  omega
def noOw : Option Ow := none
structure RX where
  i : Nat
  b : Nat
  r : Nat
structure AX where
  i : Nat
  b : Nat
  c : Nat
def rsI (l : List Pt) (a b d : Int) (x : RX) : Prop := x.i ≤ l.length ∧ fits (rsS l a b d x.i)
def acI (l : List Pt) (x : AX) : Prop := x.i ≤ l.length
theorem pt_0 {l : List Pt} {q : Bool} (h : (ptE l != 0 || q) = false) : ptE l = 0 := by
  rw [Bool.or_eq_false_iff] at h
  exact ptE_n h.1
theorem pt_64 {l : List Pt} {q : Bool} (h : (ptE l != 0 || q) = false) {i : Nat} (hi : i < l.length) : I64 (gPt l i).t := by
  have h := (ptE_0 (pt_0 h)).2.2
  have := ptO_b (h.2 i hi)
  exact ⟨by omega, by omega⟩
theorem ac_v1 {l : List Pt} {a b d : Int} (h : (ptE l != 0 || !accB a b d) = true) : Value.bool false = Value.bool (acB l a b d) := by
  unfold acB
  cases h1 : accB a b d
  · simp
  · have : ¬ ptE l = 0 := by simpa [h1] using h
    simp [this]
theorem ac_a {l : List Pt} {a b d : Int} (h : (ptE l != 0 || !accB a b d) = false) : acB l a b d = ((plS l a b d l.length == 0) && (tmS l a b d l.length == 0)) := by
  unfold acB
  have h1 := pt_0 h
  rw [Bool.or_eq_false_iff] at h
  have h2 : accB a b d = true := by simpa using h.2
  rw [h1, h2]
  simp
theorem ac_v2 {l : List Pt} {a b d : Int} (h : (ptE l != 0 || !accB a b d) = false) {i : Nat} (e : i = l.length) : Value.bool (cmpI (plS l a b d i) 0 == 0 && cmpI (tmS l a b d i) 0 == 0) = Value.bool (acB l a b d) := by
  rw [ac_a h, e, cmp_zero_i, cmp_zero_i]
theorem ac_v3 {l : List Pt} {a b d : Int} (h : (ptE l != 0 || !accB a b d) = false) {i : Nat} (e : i = l.length) : Value.bool ((wh (plS l a b d i) == 0 && (wl (plS l a b d i) == 0 && true)) && (wh (tmS l a b d i) == 0 && (wl (tmS l a b d i) == 0 && true))) = Value.bool (acB l a b d) := by
  rw [ac_a h, e, W_zero, W_zero]
theorem ac_s {l : List Pt} {a b d : Int} (h : (ptE l != 0 || !accB a b d) = false) {i : Nat} (hi : i < l.length) :
    [Value.int IntKind.i64 (wh (clip (plS l a b d i + dvW (gPt l i).t (gPt l i).v a b d))), Value.int IntKind.u64 (wl (clip (plS l a b d i + dvW (gPt l i).t (gPt l i).v a b d)))] = [.int .i64 (wh (plS l a b d (i + 1))), .int .u64 (wl (plS l a b d (i + 1)))] ∧
    [Value.int IntKind.i64 (wh (clip (tmS l a b d i + dvW (gPt l i).t (gPt l i).v a b d * (gPt l i).t))), Value.int IntKind.u64 (wl (clip (tmS l a b d i + dvW (gPt l i).t (gPt l i).v a b d * (gPt l i).t)))] = [.int .i64 (wh (tmS l a b d (i + 1))), .int .u64 (wl (tmS l a b d (i + 1)))] := by
  have f := pl_f (a := a) (b := b) (d := d) (pt_0 h) (k := i + 1) hi
  have e1 : plS l a b d (i + 1) = plS l a b d i + dvW (gPt l i).t (gPt l i).v a b d := rfl
  have e2 : tmS l a b d (i + 1) = tmS l a b d i + dvW (gPt l i).t (gPt l i).v a b d * (gPt l i).t := rfl
  rw [← e1, ← e2, clip_yes f.1, clip_yes f.2]
  exact ⟨rfl, rfl⟩
theorem rsI_f {l : List Pt} {a b d : Int} {x : RX} (h : rsI l a b d x) : fits (rsS l a b d x.i) := h.2
theorem rsI_0 (l : List Pt) (a b d : Int) (k r : Nat) : rsI l a b d ⟨0, k, r⟩ := ⟨Nat.zero_le _, by show fits 0; unfold fits lo127 hi127; omega⟩
theorem rsI_s {l : List Pt} {a b d : Int} {i bb k r r' : Nat} (h : rsI l a b d ⟨i, bb, r⟩) (hi : i < l.length) (hf : (!fitB (rsS l a b d i + dvW (gPt l i).t (gPt l i).v a b d * dvW (gPt l i).t (gPt l i).v a b d)) = false) :
    rsI l a b d ⟨i + 1, k, r'⟩ ∧ [Value.int IntKind.i64 (wh (clip (rsS l a b d i + dvW (gPt l i).t (gPt l i).v a b d * dvW (gPt l i).t (gPt l i).v a b d))), Value.int IntKind.u64 (wl (clip (rsS l a b d i + dvW (gPt l i).t (gPt l i).v a b d * dvW (gPt l i).t (gPt l i).v a b d)))] = [.int .i64 (wh (rsS l a b d (i + 1))), .int .u64 (wl (rsS l a b d (i + 1)))] := by
  have hf : fitB (rsS l a b d i + dvW (gPt l i).t (gPt l i).v a b d * dvW (gPt l i).t (gPt l i).v a b d) = true := by simpa using hf
  have e : rsS l a b d (i + 1) = rsS l a b d i + dvW (gPt l i).t (gPt l i).v a b d * dvW (gPt l i).t (gPt l i).v a b d := rfl
  refine ⟨⟨hi, by show fits (rsS l a b d (i + 1)); rw [e]; exact fitB_p hf⟩, ?_⟩
  rw [e, clip_yes (fitB_p hf)]
theorem rs_w0 (e : Int) (h : ¬ e = 0) (x : Int) : Value.tuple #[.agg #[.int .i64 0, .int .u64 0], .int .i64 e] = .tuple #[W (zL e x), .int .i64 e] := by
  unfold zL
  rw [if_neg h, W_0]
theorem rs_v1 {l : List Pt} {a b d : Int} (h : (ptE l != 0) = true) : Value.tuple #[.agg #[.int .i64 0, .int .u64 0], .int .i64 (ptE l)] = rsV l a b d := by
  have h : ¬ ptE l = 0 := by simpa using h
  have e : rsE l a b d = ptE l := by unfold rsE; rw [if_pos h]
  unfold rsV
  rw [e]
  exact rs_w0 _ h _
theorem rs_v2 {l : List Pt} {a b d : Int} (h : (ptE l != 0) = false) (h2 : (!accB a b d) = true) : Value.tuple #[.agg #[.int .i64 0, .int .u64 0], .int .i64 1] = rsV l a b d := by
  have h := ptE_n h
  have h2 : accB a b d = false := by simpa using h2
  have e : rsE l a b d = 1 := by unfold rsE; rw [if_neg (by simp [h]), if_pos h2]
  unfold rsV
  rw [e]
  exact rs_w0 _ (by decide) _
theorem rs_v3 {l : List Pt} {a b d : Int} (h : (ptE l != 0) = false) (h2 : (!accB a b d) = false) {i : Nat} (hi : i < l.length) (hf : (!fitB (rsS l a b d i + dvW (gPt l i).t (gPt l i).v a b d * dvW (gPt l i).t (gPt l i).v a b d)) = true) : Value.tuple #[.agg #[.int .i64 0, .int .u64 0], .int .i64 2] = rsV l a b d := by
  have h := ptE_n h
  have h2 : accB a b d = true := by simpa using h2
  have hf : fitB (rsS l a b d i + dvW (gPt l i).t (gPt l i).v a b d * dvW (gPt l i).t (gPt l i).v a b d) = false := by simpa using hf
  have h3 := rs_big (a := a) (b := b) (d := d) hi hf
  have e : rsE l a b d = 2 := by unfold rsE; rw [if_neg (by simp [h]), if_neg (by simp [h2]), if_neg (by simp [h3])]
  unfold rsV
  rw [e]
  exact rs_w0 _ (by decide) _
theorem rs_v4 {l : List Pt} {a b d : Int} (h : (ptE l != 0) = false) (h2 : (!accB a b d) = false) {x : RX} (hx : rsI l a b d x) (e : x.i = l.length) : Value.tuple #[.agg #[.int .i64 (wh (rsS l a b d x.i)), .int .u64 (wl (rsS l a b d x.i))], .int .i64 0] = rsV l a b d := by
  have h := ptE_n h
  have h2 : accB a b d = true := by simpa using h2
  have h3 := hx.2
  rw [e] at h3 ⊢
  have e : rsE l a b d = 0 := by unfold rsE; rw [if_neg (by simp [h]), if_neg (by simp [h2]), if_pos (fit_yes h3)]
  unfold rsV
  rw [e]
  unfold zL
  rw [if_pos rfl]
@[reducible] def rsL (l : List Pt) (a b d : Int) : LoopR := ⟨RX, fun x => [(25, .int .i64 x.i), (7, .pointer (some ⟨x.b, 0, none⟩)), (4, .pointer (some ⟨x.r, 0, none⟩))], [2, 3], fun x => [⟨x.r, [.int .i64 0, .int .u64 0], 65, noOw⟩, ⟨x.b, [.int .i64 (wh (rsS l a b d x.i)), .int .u64 (wl (rsS l a b d x.i))], 65, noOw⟩], rsI l a b d, fun x => l.length - x.i, []⟩
@[reducible] def acL (l : List Pt) (a b d : Int) : LoopR := ⟨AX, fun x => [(20, .int .i64 x.i), (5, .pointer (some ⟨x.b, 0, none⟩)), (6, .pointer (some ⟨x.c, 0, none⟩))], [2, 3], fun x => [⟨x.b, [.int .i64 (wh (plS l a b d x.i)), .int .u64 (wl (plS l a b d x.i))], 65, noOw⟩, ⟨x.c, [.int .i64 (wh (tmS l a b d x.i)), .int .u64 (wl (tmS l a b d x.i))], 65, noOw⟩], acI l, fun x => l.length - x.i, []⟩

def tib_h (t : Int) : Hint := .nc (.cut [((2 : Nat), .bool (decide (t ≥ 0) && decide (t ≤ 8000)))] (.split (.lit (.lit .nil)) (.lit (.lit .nil))) (.perm [] .nil))
theorem tib_x (t : Int) : wpG Tryd.prog [] ([]) 400 52 [.int .i64 t] (tib_h t) ([]) (fun _ => .bool (tiB t)) = (((decide (t ≥ 0) = true -> Value.bool (decide (t ≤ 8000)) = Value.bool (decide (t ≥ 0) && decide (t ≤ 8000)) /\ True) /\ (decide (t ≥ 0) = false -> Value.bool false = Value.bool (decide (t ≥ 0) && decide (t ≤ 8000)) /\ True)) /\ ∀ (junk : Nat -> Value), .bool (decide (t ≥ 0) && decide (t ≤ 8000)) =
 Value.bool (tiB t)) := by kernel_rfl
set_option maxHeartbeats 4000000 in
theorem tib_sp (t : Int)  : SpecG Tryd.prog [] ([]) 52 #[.int .i64 t] ([]) (fun _ => .bool (tiB t)) := by
  refine specG_of (h := tib_h t) (?_ : wpG Tryd.prog [] ([]) 400 52 [.int .i64 t] (tib_h t) ([]) (fun _ => .bool (tiB t)))
  rw [tib_x]
  (repeat' (first | with_reducible exact rfl | exact trivial | with_reducible assumption | exact cU_len _ | exact cI_len _ | exact cB_len _ | exact cU_one _ | exact cI_one _ | exact cB_one _ | exact (fun _ h => h) | exact (fun _ h => (List.not_mem_nil h).elim) | (with_reducible refine e1_in ?_) | (with_reducible refine e2_in ?_) | (with_reducible refine lx_in (Nat.le_of_ble_eq_true rfl) ?_) | (with_reducible refine rqx_rf ?_) | (with_reducible refine rqx_in ?_ ?_ ?_) | (with_reducible apply And.intro) | (with_reducible intro _)))
  all_goals (first | rfl | (simp only [*, Bool.and_true, Bool.true_and, Bool.and_false, Bool.false_and, Bool.or_true, Bool.true_or, Bool.or_false, Bool.false_or, Bool.not_true, Bool.not_false, cond_true, cond_false]; done) | (unfold tiB; simp_all; done) | trace_state)
def byb_h (n m : Int) : Hint := .nc (.cut [((4 : Nat), .bool (decide (n < IntKind.i64.wrap ((0 : Int) - m)) || decide (n > m)))] (.split (.lit (.lit (.lit .nil))) (.lit (.lit (.lit .nil)))) (.perm [] .nil))
theorem byb_x (n m : Int) : wpG Tryd.prog [] ([]) 400 53 [.int .i64 n, .int .i64 m] (byb_h n m) ([]) (fun _ => .bool (byB n m)) = (((decide (n < IntKind.i64.wrap ((0 : Int) - m)) = true -> Value.bool true = Value.bool (decide (n < IntKind.i64.wrap ((0 : Int) - m)) || decide (n > m)) /\ True) /\ (decide (n < IntKind.i64.wrap ((0 : Int) - m)) = false -> Value.bool (decide (n > m)) = Value.bool (decide (n < IntKind.i64.wrap ((0 :
 Int) - m)) || decide (n > m)) /\ True)) /\ ∀ (junk : Nat -> Value), .bool (decide (n < IntKind.i64.wrap ((0 : Int) - m)) || decide (n > m)) = Value.bool (byB n m)) := by kernel_rfl
set_option maxHeartbeats 4000000 in
theorem byb_sp (n m : Int) (hm : 0 ≤ m ∧ m ≤ 9223372036854775807) : SpecG Tryd.prog [] ([]) 53 #[.int .i64 n, .int .i64 m] ([]) (fun _ => .bool (byB n m)) := by
  refine specG_of (h := byb_h n m) (?_ : wpG Tryd.prog [] ([]) 400 53 [.int .i64 n, .int .i64 m] (byb_h n m) ([]) (fun _ => .bool (byB n m)))
  rw [byb_x]
  have e : IntKind.i64.wrap (0 - m) = -m := by rw [IntWalk.i64_in _ (by omega)]; omega
  (try simp only [e])
  (repeat' (first | with_reducible exact rfl | exact trivial | with_reducible assumption | exact cU_len _ | exact cI_len _ | exact cB_len _ | exact cU_one _ | exact cI_one _ | exact cB_one _ | exact (fun _ h => h) | exact (fun _ h => (List.not_mem_nil h).elim) | (with_reducible refine e1_in ?_) | (with_reducible refine e2_in ?_) | (with_reducible refine lx_in (Nat.le_of_ble_eq_true rfl) ?_) | (with_reducible refine rqx_rf ?_) | (with_reducible refine rqx_in ?_ ?_ ?_) | (with_reducible apply And.intro) | (with_reducible intro _)))
  all_goals (first | rfl | (simp only [*, Bool.and_true, Bool.true_and, Bool.and_false, Bool.false_and, Bool.or_true, Bool.true_or, Bool.or_false, Bool.false_or, Bool.not_true, Bool.not_false, cond_true, cond_false]; done) | (unfold byB; simp_all; done) | trace_state)
def chp_h (a : Option Addr) (c : Nat) (l : List Pt) : Hint := .pl (.split (.perm [] .nil) (.pl (.split (.perm [] .nil) (.pl (.inv (ptL l) fun x0 ↦ .split (.ix (.lst (0 : Nat) (x0 * (2 : Nat)) (Value.int .i64 (Pt.t (gPt l x0))) (.lst (0 : Nat) (x0 * (2 : Nat) + (1 : Nat)) (Value.int .i64 (Pt.v (gPt l x0))) (ho 1 2 (.cut [((25 : Nat), .bool (!tiB (Pt.t (gPt l
 x0)) || byB (Pt.v (gPt l x0)) (1000000 : Int)))] (.ob 1 (.specg [] [] [] [] (fun ads0 x ↦ Value.bool (tiB (Pt.t (gPt l x0)))) (.split (.lit (.lit (.lit .nil))) (.lit (.ob 1 (.lit (.specg [] [] [] [] (fun ads0 x ↦ Value.bool (byB (Pt.v (gPt l x0)) (1000000 : Int))) (.lit .nil)))))))) (.split (.perm
 [] .nil) (.perm [] .nil))))))) (.perm [] .nil))))))
theorem chp_x (a : Option Addr) (c : Nat) (l : List Pt) : wpG Tryd.prog [] ([(a, cPt l)]) 400 35 [.slice a l.length c] (chp_h a c l) ([]) (fun _ => .int .i64 (ptE l)) = ((decide ((↑(List.length l) : Int) > (64 : Int)) = true -> Value.int .i64 9 = Value.int .i64 (ptE l)) /\ (decide ((↑(List.length l) : Int) > (64 : Int)) = false -> (decide ((↑(List.length l) : Int) < (2 : Int)) = true -> Value.int .i64 1 = Value.int .i64 (ptE l)) /\ (decide ((↑(List.length l) : Int) <
 (2 : Int)) = false -> (∃ x, (x ≤ List.length l /\ ∀ (m : Nat), m < x -> ptO (gPt l m) = true) /\ Value.int .i64 0 = Value.int .i64 (↑x : Int) /\ True) /\ ∀ (x0 : Nat), (x0 ≤ List.length l /\ ∀ (m : Nat), m < x0 -> ptO (gPt l m) = true) -> ∀ (junk : Nat -> Value), (decide ((↑x0 : Int) <
 (↑(List.length l) : Int)) = true -> (((0 : Int) ≤ (↑x0 : Int) /\ (↑x0 : Int) < (↑(List.length l) : Int)) /\ AOK a (List.length l)) /\ bk a = bk a /\ ofs a + x0 * (2 : Nat) = ofs a + x0 * (2 : Nat) /\ lgo (cPt l) (x0 * (2 : Nat)) = some (Value.int .i64 (Pt.t (gPt l x0))) /\ bk a = bk a /\ ofs a + x0
 * (2 : Nat) + (1 : Nat) = ofs a + (x0 * (2 : Nat) + (1 : Nat)) /\ lgo (cPt l) (x0 * (2 : Nat) + (1 : Nat)) = some (Value.int .i64 (Pt.v (gPt l x0))) /\ ∀ (b : Nat), b = b /\ True /\ b = b /\ True /\ (b = b /\ (SpecG Tryd.prog [] [] (52 : FuncId) #[Value.int .i64 (Pt.t (gPt l x0))] [] fun x ↦
 Value.bool (tiB (Pt.t (gPt l x0)))) /\ (∀ (e : Ex), e ∈ [] -> e ∈ []) /\ ((!tiB (Pt.t (gPt l x0))) = true -> Value.bool true = Value.bool (!tiB (Pt.t (gPt l x0)) || byB (Pt.v (gPt l x0)) (1000000 : Int)) /\ True) /\ ((!tiB (Pt.t (gPt l x0))) = false -> b = b /\ (SpecG Tryd.prog [] [] (53 : FuncId)
 #[Value.int .i64 (Pt.v (gPt l x0)), .int .i64 1000000] [] fun x ↦ Value.bool (byB (Pt.v (gPt l x0)) (1000000 : Int))) /\ (∀ (e : Ex), e ∈ [] -> e ∈ []) /\ Value.bool (byB (Pt.v (gPt l x0)) (1000000 : Int)) = Value.bool (!tiB (Pt.t (gPt l x0)) || byB (Pt.v (gPt l x0)) (1000000 : Int)) /\ True)) /\ ∀
 (junk : Nat -> Value), ((!tiB (Pt.t (gPt l x0)) || byB (Pt.v (gPt l x0)) (1000000 : Int)) = true -> Value.int .i64 2 = Value.int .i64 (ptE l)) /\ ((!tiB (Pt.t (gPt l x0)) || byB (Pt.v (gPt l x0)) (1000000 : Int)) = false -> ∃ y, (y ≤ List.length l /\ ∀ (m : Nat), m < y -> ptO (gPt l m) = true) /\
 List.length l - y < List.length l - x0 /\ Value.int .i64 (IntKind.i64.wrap ((↑x0 : Int) + (1 : Int))) = Value.int .i64 (↑y : Int) /\ True)) /\ (decide ((↑x0 : Int) < (↑(List.length l) : Int)) = false -> Value.int .i64 0 = Value.int .i64 (ptE l))))) := by kernel_rfl
set_option maxHeartbeats 4000000 in
theorem chp_sp (a : Option Addr) (c : Nat) (l : List Pt) (hA : AOK a l.length) (hl : l.length ≤ 9223372036854775807) : SpecG Tryd.prog [] ([(a, cPt l)]) 35 #[.slice a l.length c] ([]) (fun _ => .int .i64 (ptE l)) := by
  refine specG_of (h := chp_h a c l) (?_ : wpG Tryd.prog [] ([(a, cPt l)]) 400 35 [.slice a l.length c] (chp_h a c l) ([]) (fun _ => .int .i64 (ptE l)))
  rw [chp_x]
  (repeat' (first | with_reducible exact rfl | exact trivial | with_reducible assumption | (with_reducible exact tib_sp _) | (with_reducible exact byb_sp _ _ (by decide)) | exact cPt_len _ | exact cPt_one _ | exact cU_len _ | exact cI_len _ | exact cB_len _ | exact cU_one _ | exact cI_one _ | exact cB_one _ | exact (fun _ h => h) | exact (fun _ h => (List.not_mem_nil h).elim) | (with_reducible refine e1_in ?_) | (with_reducible refine e2_in ?_) | (with_reducible refine lx_in (Nat.le_of_ble_eq_true rfl) ?_) | (with_reducible refine rqx_rf ?_) | (with_reducible refine rqx_in ?_ ?_ ?_) | (with_reducible apply And.intro) | (with_reducible intro _)))
  all_goals (try simp only [Int.toNat_natCast] at *)
  all_goals (try (first | exact ⟨0, ptI_0 _, rfl, trivial⟩ | (simp only [*, Bool.and_true, Bool.true_and, Bool.and_false, Bool.false_and, Bool.or_true, Bool.true_or, Bool.or_false, Bool.false_or, Bool.not_true, Bool.not_false, cond_true, cond_false]; done)))
  all_goals (try (first | (have hi := lt_n ‹_›; first | omega | exact hA | exact cPt_get0 hi | exact cPt_get1 hi)))
  all_goals (try simp only [ptO_p] at *)
  all_goals (first
    | (rw [ptE_9 ‹_›])
    | (rw [ptE_1 ‹_› ‹_›])
    | (have hc := ‹(!ptO _) = true›; rw [ptE_2 ‹_› ‹_› (lt_n ‹_›) (by simpa using hc)])
    | (have hx := ‹ptI _ _›; have hc := ‹(!ptO _) = false›; exact ⟨_, ptI_step hx (lt_n ‹_›) (by simpa using hc), (by have := lt_n ‹_›; show _ - (_ + 1) < _; omega), wr_n (by have := lt_n ‹_›; omega), trivial⟩)
    | (have hx := ‹ptI _ _›; have e := ge_n ‹_› hx.1; rw [e] at hx; rw [ptE_3 ‹_› ‹_› hx])
    | trace_state)
def sam_h (a : Option Addr) (c : Nat) (l : List Pt) : Hint := .pl (.inv (saL l) fun x0 ↦ .split (.ix (.lst (0 : Nat) (x0 * (2 : Nat)) (Value.int .i64 (Pt.t (gPt l x0))) (.lst (0 : Nat) (x0 * (2 : Nat) + (1 : Nat)) (Value.int .i64 (Pt.v (gPt l x0))) (ho 1 2 (.draw [0, 1] none [0, 1] (.take 0 (.take 1 (.ob 1 (.take 2 (.take 3 (.ix (.take 4 (.take 5 (.lst (0 :
 Nat) (0 : Nat) (Value.int .i64 (Pt.t (gPt l (0 : Nat)))) (.take 6 (.pl (.split (.perm [] .nil) (.perm [] .nil)))))))))))))))))) (.perm [] .nil))
theorem sam_x (a : Option Addr) (c : Nat) (l : List Pt) : wpG Tryd.prog [] ([(a, cPt l)]) 400 61 [.slice a l.length c] (sam_h a c l) ([]) (fun _ => .bool (samB l)) = ((∃ x, (x ≤ List.length l /\ ∀ (m : Nat), m < x -> Pt.t (gPt l m) = Pt.t (gPt l (0 : Nat))) /\ Value.int .i64 0 = Value.int .i64 (↑x : Int) /\ True) /\ ∀ (x0 : Nat), (x0 ≤ List.length l /\ ∀ (m : Nat), m < x0 -> Pt.t (gPt l m) = Pt.t (gPt l (0 : Nat))) -> ∀ (junk : Nat -> Value), (decide ((↑x0 : Int)
 < (↑(List.length l) : Int)) = true -> (((0 : Int) ≤ (↑x0 : Int) /\ (↑x0 : Int) < (↑(List.length l) : Int)) /\ AOK a (List.length l)) /\ bk a = bk a /\ ofs a + x0 * (2 : Nat) = ofs a + x0 * (2 : Nat) /\ lgo (cPt l) (x0 * (2 : Nat)) = some (Value.int .i64 (Pt.t (gPt l x0))) /\ bk a = bk a /\ ofs a +
 x0 * (2 : Nat) + (1 : Nat) = ofs a + (x0 * (2 : Nat) + (1 : Nat)) /\ lgo (cPt l) (x0 * (2 : Nat) + (1 : Nat)) = some (Value.int .i64 (Pt.v (gPt l x0))) /\ ∀ (b : Nat), b = b /\ True /\ b = b /\ True /\ b = b /\ (((0 : Int) ≤ (0 : Int) /\ (0 : Int) < (↑(List.length l) : Int)) /\ AOK a (List.length
 l)) /\ bk a = bk a /\ ofs a + (0 : Nat) = ofs a + (0 : Nat) /\ lgo (cPt l) (0 : Nat) = some (Value.int .i64 (Pt.t (gPt l (0 : Nat)))) /\ ((Pt.t (gPt l x0) != Pt.t (gPt l (0 : Nat))) = true -> Value.bool false = Value.bool (samB l)) /\ ((Pt.t (gPt l x0) != Pt.t (gPt l (0 : Nat))) = false -> ∃ y, (y ≤
 List.length l /\ ∀ (m : Nat), m < y -> Pt.t (gPt l m) = Pt.t (gPt l (0 : Nat))) /\ List.length l - y < List.length l - x0 /\ Value.int .i64 (IntKind.i64.wrap ((↑x0 : Int) + (1 : Int))) = Value.int .i64 (↑y : Int) /\ True)) /\ (decide ((↑x0 : Int) < (↑(List.length l) : Int)) = false -> Value.bool
 true = Value.bool (samB l))) := by kernel_rfl
set_option maxHeartbeats 4000000 in
theorem sam_sp (a : Option Addr) (c : Nat) (l : List Pt) (hA : AOK a l.length) (hl : l.length ≤ 9223372036854775807) : SpecG Tryd.prog [] ([(a, cPt l)]) 61 #[.slice a l.length c] ([]) (fun _ => .bool (samB l)) := by
  refine specG_of (h := sam_h a c l) (?_ : wpG Tryd.prog [] ([(a, cPt l)]) 400 61 [.slice a l.length c] (sam_h a c l) ([]) (fun _ => .bool (samB l)))
  rw [sam_x]
  (repeat' (first | with_reducible exact rfl | exact trivial | with_reducible assumption | exact cPt_len _ | exact cPt_one _ | exact cU_len _ | exact cI_len _ | exact cB_len _ | exact cU_one _ | exact cI_one _ | exact cB_one _ | exact (fun _ h => h) | exact (fun _ h => (List.not_mem_nil h).elim) | (with_reducible refine e1_in ?_) | (with_reducible refine e2_in ?_) | (with_reducible refine lx_in (Nat.le_of_ble_eq_true rfl) ?_) | (with_reducible refine rqx_rf ?_) | (with_reducible refine rqx_in ?_ ?_ ?_) | (with_reducible apply And.intro) | (with_reducible intro _)))
  all_goals (try simp only [Int.toNat_natCast] at *)
  all_goals (try (first | exact ⟨0, saI_0 _, rfl, trivial⟩ | (simp only [*, Bool.and_true, Bool.true_and, Bool.and_false, Bool.false_and, Bool.or_true, Bool.true_or, Bool.or_false, Bool.false_or, Bool.not_true, Bool.not_false, cond_true, cond_false]; done)))
  all_goals (try (first | (have hi := lt_n ‹_›; first | omega | exact hA | exact cPt_get0 hi | exact cPt_get1 hi | exact cPt_get0 (m := 0) (by omega))))
  all_goals (first
    | (have hc := ‹((gPt _ _).t != (gPt _ 0).t) = true›; rw [sam_no (lt_n ‹_›) (by simpa using hc)])
    | (have hx := ‹saI _ _›; have hc := ‹((gPt _ _).t != (gPt _ 0).t) = false›; exact ⟨_, saI_step hx (lt_n ‹_›) (by simpa using hc), (by have := lt_n ‹_›; show _ - (_ + 1) < _; omega), wr_n (by have := lt_n ‹_›; omega), trivial⟩)
    | (have hx := ‹saI _ _›; have e := ge_n ‹_› hx.1; rw [e] at hx; rw [sam_of hx])
    | trace_state)
def lin_h (a : Option Addr) (c : Nat) (l : List Pt) : Hint := .specg [] [0] [cPt l] [] (fun ads0 x ↦ Value.int .i64 (ptE l)) (.pl (.split (ho 1 6 (.perm [] .nil)) (.specg [] [0] [cPt l] [] (fun ads0 x ↦ Value.bool (samB l)) (.split (ho 1 6 (.perm [] .nil)) (.pl (.pl (.inv (liL l (25 : Nat)) fun x0 ↦ .split (.ix (.lst (0 : Nat) (x0 * (2 : Nat)) (Value.int .i64
 (Pt.t (gPt l x0))) (.lst (0 : Nat) (x0 * (2 : Nat) + (1 : Nat)) (Value.int .i64 (Pt.v (gPt l x0))) (ho 2 8 (.perm [] .nil))))) (ho 1 6 (.perm [] .nil)))))))))
theorem lin_x (a : Option Addr) (c : Nat) (l : List Pt) : wpG Tryd.prog [] ([(a, cPt l)]) 400 46 [.slice a l.length c] (lin_h a c l) ([]) (fun _ => fiV (liE l) (liA l) (liB l) (liD l)) = (∀ (b : Nat), cPt l = cPt l /\ (SpecG Tryd.prog [] [(a, cPt l)] (35 : FuncId) #[Value.slice a (List.length l) c] [] fun x ↦ Value.int .i64 (ptE l)) /\ (∀ (e : Ex), e ∈ [] -> e ∈ []) /\ ((ptE l != 0) = true -> e2 b 3 (e1 b 3 (Value.tuple (Array.mk [.agg (Array.mk [.int .i64 0, .int .i64 0, .int .i64
 0]), .int .i64 (ptE l)]) = Value.tuple (Array.mk [.agg (Array.mk [.int .i64 (zL (liE l) (liA l)), .int .i64 (zL (liE l) (liB l)), .int .i64 (zL (liE l) (liD l))]), .int .i64 (liE l)])))) /\ ((ptE l != 0) = false -> cPt l = cPt l /\ (SpecG Tryd.prog [] [(a, cPt l)] (61 : FuncId) #[Value.slice a
 (List.length l) c] [] fun x ↦ Value.bool (samB l)) /\ (∀ (e : Ex), e ∈ [] -> e ∈ []) /\ (samB l = true -> e2 b 3 (e1 b 3 (Value.tuple (Array.mk [.agg (Array.mk [.int .i64 0, .int .i64 0, .int .i64 0]), .int .i64 14]) = Value.tuple (Array.mk [.agg (Array.mk [.int .i64 (zL (liE l) (liA l)), .int .i64
 (zL (liE l) (liB l)), .int .i64 (zL (liE l) (liD l))]), .int .i64 (liE l)])))) /\ (samB l = false -> (∃ x, x ≤ List.length l /\ Value.int .i64 0 = Value.int .i64 (↑x : Int) /\ Value.int .i64 0 = Value.int .i64 (sS l x) /\ Value.int .i64 0 = Value.int .i64 (sQ l x) /\ Value.int .i64 0 = Value.int
 .i64 (sU l x) /\ Value.int .i64 0 = Value.int .i64 (sW l x) /\ True) /\ ∀ (x0 : Nat), x0 ≤ List.length l -> ∀ (junk : Nat -> Value), (decide ((↑x0 : Int) < (↑(List.length l) : Int)) = true -> (((0 : Int) ≤ (↑x0 : Int) /\ (↑x0 : Int) < (↑(List.length l) : Int)) /\ AOK a (List.length l)) /\ bk a = bk
 a /\ ofs a + x0 * (2 : Nat) = ofs a + x0 * (2 : Nat) /\ lgo (cPt l) (x0 * (2 : Nat)) = some (Value.int .i64 (Pt.t (gPt l x0))) /\ bk a = bk a /\ ofs a + x0 * (2 : Nat) + (1 : Nat) = ofs a + (x0 * (2 : Nat) + (1 : Nat)) /\ lgo (cPt l) (x0 * (2 : Nat) + (1 : Nat)) = some (Value.int .i64 (Pt.v (gPt l
 x0))) /\ ∀ (b : Nat), b = b /\ True /\ b = b /\ True /\ e1 b 6 (∃ y, y ≤ List.length l /\ List.length l - y < List.length l - x0 /\ Value.int .i64 (IntKind.i64.wrap ((↑x0 : Int) + (1 : Int))) = Value.int .i64 (↑y : Int) /\ Value.int .i64 (IntKind.i64.wrap (sS l x0 + Pt.t (gPt l x0))) = Value.int
 .i64 (sS l y) /\ Value.int .i64 (IntKind.i64.wrap (sQ l x0 + IntKind.i64.wrap (Pt.t (gPt l x0) * Pt.t (gPt l x0)))) = Value.int .i64 (sQ l y) /\ Value.int .i64 (IntKind.i64.wrap (sU l x0 + Pt.v (gPt l x0))) = Value.int .i64 (sU l y) /\ Value.int .i64 (IntKind.i64.wrap (sW l x0 + IntKind.i64.wrap
 (Pt.t (gPt l x0) * Pt.v (gPt l x0)))) = Value.int .i64 (sW l y) /\ True)) /\ (decide ((↑x0 : Int) < (↑(List.length l) : Int)) = false -> e2 b 3 (e1 b 3 (Value.tuple (Array.mk [.agg (Array.mk [.int .i64 (IntKind.i64.wrap (IntKind.i64.wrap (sQ l x0 * sU l x0) - IntKind.i64.wrap (sS l x0 * sW l x0))),
 .int .i64 (IntKind.i64.wrap (IntKind.i64.wrap ((↑(List.length l) : Int) * sW l x0) - IntKind.i64.wrap (sS l x0 * sU l x0))), .int .i64 (IntKind.i64.wrap (IntKind.i64.wrap ((↑(List.length l) : Int) * sQ l x0) - IntKind.i64.wrap (sS l x0 * sS l x0)))]), .int .i64 0]) = Value.tuple (Array.mk [.agg
 (Array.mk [.int .i64 (zL (liE l) (liA l)), .int .i64 (zL (liE l) (liB l)), .int .i64 (zL (liE l) (liD l))]), .int .i64 (liE l)]))))))) := by kernel_rfl
set_option maxHeartbeats 4000000 in
theorem lin_sp (a : Option Addr) (c : Nat) (l : List Pt) (hA : AOK a l.length) (hl : l.length ≤ 9223372036854775807) : SpecG Tryd.prog [] ([(a, cPt l)]) 46 #[.slice a l.length c] ([]) (fun _ => fiV (liE l) (liA l) (liB l) (liD l)) := by
  refine specG_of (h := lin_h a c l) (?_ : wpG Tryd.prog [] ([(a, cPt l)]) 400 46 [.slice a l.length c] (lin_h a c l) ([]) (fun _ => fiV (liE l) (liA l) (liB l) (liD l)))
  rw [lin_x]
  (repeat' (first | with_reducible exact rfl | exact trivial | with_reducible assumption | (with_reducible exact chp_sp _ _ _ hA hl) | (with_reducible exact sam_sp _ _ _ hA hl) | exact cPt_len _ | exact cPt_one _ | exact cU_len _ | exact cI_len _ | exact cB_len _ | exact cU_one _ | exact cI_one _ | exact cB_one _ | exact (fun _ h => h) | exact (fun _ h => (List.not_mem_nil h).elim) | (with_reducible refine e1_in ?_) | (with_reducible refine e2_in ?_) | (with_reducible refine lx_in (Nat.le_of_ble_eq_true rfl) ?_) | (with_reducible refine rqx_rf ?_) | (with_reducible refine rqx_in ?_ ?_ ?_) | (with_reducible apply And.intro) | (with_reducible intro _)))
  all_goals (try simp only [Int.toNat_natCast] at *)
  all_goals (try (first | exact ⟨0, Nat.zero_le _, rfl, rfl, rfl, rfl, rfl, trivial⟩ | (simp only [*, Bool.and_true, Bool.true_and, Bool.and_false, Bool.false_and, Bool.or_true, Bool.true_or, Bool.or_false, Bool.false_or, Bool.not_true, Bool.not_false, cond_true, cond_false]; done)))
  all_goals (try (first | (have hi := lt_n ‹_›; first | omega | exact hA | exact cPt_get0 hi | exact cPt_get1 hi)))
  all_goals (first
    | (have he := ‹(ptE l != 0) = true›; have he2 : ¬ ptE l = 0 := (by simpa using he); refine fiV_eq ?_ ?_ ?_ ?_ <;> simp [zL, liE, he2])
    | (have he := ptE_n ‹(ptE l != 0) = false›; have hs := ‹samB l = true›; refine fiV_eq ?_ ?_ ?_ ?_ <;> simp [zL, liE, he, hs])
    | (obtain ⟨h1, h2, h3⟩ := ptE_0 (ptE_n ‹(ptE l != 0) = false›); have hi := lt_n ‹_›; obtain ⟨e1, e2, e3, e4⟩ := s_w h3 h1 hi; exact ⟨_, (show _ + 1 ≤ _ by omega), (by show _ - (_ + 1) < _; omega), wr_n (by omega), e1, e2, e3, e4, trivial⟩)
    | (have he := ptE_n ‹(ptE l != 0) = false›; obtain ⟨e1, e2, e3, _⟩ := li_w he; have e := ge_n ‹decide (_ < (l.length : Int)) = false› ‹_›; subst e; have hs := sam_iff l; (try rw [e1]); (try rw [e2]); (try rw [e3] at *); refine fiV_eq ?_ ?_ ?_ ?_ <;> simp_all [zL, liE]; done)
    | trace_state)
def acc_h (x y z : Int) : Hint := .nc (.cut [((2 : Nat), .bool (decide (z ≥ 1) && (decide (z ≤ 1099511627776) && (!byB x (1152921504606846976 : Int) && !byB y (70368744177664 : Int)))))] (.ob 0 (.split (.lit (.ob 0 (.lit (.lit (.split (.lit (.ob 0 (.lit (.specg [] [] [] [] (fun ads0 x_1 ↦ Value.bool (byB x (1152921504606846976 :
 Int))) (.lit (.lit (.split (.lit (.ob 0 (.lit (.specg [] [] [] [] (fun ads0 x ↦ Value.bool (byB y (70368744177664 : Int))) (.lit (.lit .nil)))))) (hl 3 (.lit .nil))))))))) (hl 8 (.lit .nil))))))) (hl 12 (.lit .nil)))) (.perm [] .nil))
theorem acc_x (x y z : Int) : wpG Tryd.prog [] ([]) 400 36 [.agg #[.int .i64 x, .int .i64 y, .int .i64 z]] (acc_h x y z) ([]) (fun _ => .bool (accB x y z)) = (∀ (b : Nat), (b = b /\ (decide (z ≥ 1) = true -> b = b /\ (decide (z ≤ 1099511627776) = true -> b = b /\ (SpecG Tryd.prog [] [] (53 : FuncId) #[Value.int .i64 x, .int .i64 1152921504606846976] [] fun x_3 ↦ Value.bool (byB x (1152921504606846976 : Int))) /\ (∀ (e : Ex), e ∈ [] -> e ∈ []) /\ ((!byB x
 (1152921504606846976 : Int)) = true -> b = b /\ (SpecG Tryd.prog [] [] (53 : FuncId) #[Value.int .i64 y, .int .i64 70368744177664] [] fun x ↦ Value.bool (byB y (70368744177664 : Int))) /\ (∀ (e : Ex), e ∈ [] -> e ∈ []) /\ (Value.bool !byB y (70368744177664 : Int)) = Value.bool (decide (z ≥ 1) &&
 (decide (z ≤ 1099511627776) && (!byB x (1152921504606846976 : Int) && !byB y (70368744177664 : Int)))) /\ True) /\ ((!byB x (1152921504606846976 : Int)) = false -> Value.bool false = Value.bool (decide (z ≥ 1) && (decide (z ≤ 1099511627776) && (!byB x (1152921504606846976 : Int) && !byB y
 (70368744177664 : Int)))) /\ True)) /\ (decide (z ≤ 1099511627776) = false -> Value.bool false = Value.bool (decide (z ≥ 1) && (decide (z ≤ 1099511627776) && (!byB x (1152921504606846976 : Int) && !byB y (70368744177664 : Int)))) /\ True)) /\ (decide (z ≥ 1) = false -> Value.bool false = Value.bool
 (decide (z ≥ 1) && (decide (z ≤ 1099511627776) && (!byB x (1152921504606846976 : Int) && !byB y (70368744177664 : Int)))) /\ True)) /\ ∀ (junk : Nat -> Value), .bool (decide (z ≥ 1) && (decide (z ≤ 1099511627776) && (!byB x (1152921504606846976 : Int) && !byB y (70368744177664 : Int)))) = Value.bool
 (accB x y z)) := by kernel_rfl
set_option maxHeartbeats 4000000 in
theorem acc_sp (x y z : Int)  : SpecG Tryd.prog [] ([]) 36 #[.agg #[.int .i64 x, .int .i64 y, .int .i64 z]] ([]) (fun _ => .bool (accB x y z)) := by
  refine specG_of (h := acc_h x y z) (?_ : wpG Tryd.prog [] ([]) 400 36 [.agg #[.int .i64 x, .int .i64 y, .int .i64 z]] (acc_h x y z) ([]) (fun _ => .bool (accB x y z)))
  rw [acc_x]
  (repeat' (first | with_reducible exact rfl | exact trivial | with_reducible assumption | (with_reducible exact byb_sp _ _ (by decide)) | (with_reducible exact tib_sp _) | exact cU_len _ | exact cI_len _ | exact cB_len _ | exact cU_one _ | exact cI_one _ | exact cB_one _ | exact (fun _ h => h) | exact (fun _ h => (List.not_mem_nil h).elim) | (with_reducible refine e1_in ?_) | (with_reducible refine e2_in ?_) | (with_reducible refine lx_in (Nat.le_of_ble_eq_true rfl) ?_) | (with_reducible refine rqx_rf ?_) | (with_reducible refine rqx_in ?_ ?_ ?_) | (with_reducible apply And.intro) | (with_reducible intro _)))
  all_goals (first | (simp only [*, Bool.and_true, Bool.true_and, Bool.and_false, Bool.false_and, Bool.or_true, Bool.true_or, Bool.or_false, Bool.false_or, Bool.not_true, Bool.not_false, cond_true, cond_false]; done) | (unfold accB; simp_all; done) | trace_state)
def atp_h (x y z t : Int) : Hint := ho 0 3 (.specg [] [] [] [] (fun ads0 x_1 ↦ Value.bool (accB x y z)) (.split (.perm [] .nil) (.specg [] [] [] [] (fun ads0 x ↦ Value.bool (tiB t)) (.split (.perm [] .nil) (ho 0 4 (.specg [] [] [] [] (fun ads0 x_1 ↦ Value.tuple #[Value.int .i64 (flI (IntKind.i64.wrap (IntKind.i64.wrap ((2 : Int) *
 IntKind.i64.wrap (x + IntKind.i64.wrap (y * t))) + z)) (IntKind.i64.wrap ((2 : Int) * z))), .int .i64 (quoE (IntKind.i64.wrap (IntKind.i64.wrap ((2 : Int) * IntKind.i64.wrap (x + IntKind.i64.wrap (y * t))) + z)) (IntKind.i64.wrap ((2 : Int) * z)))]) (.perm [] .nil)))))))
theorem atp_x (x y z t : Int) : wpG Tryd.prog [] ([]) 400 42 [.agg #[.int .i64 x, .int .i64 y, .int .i64 z], .int .i64 t] (atp_h x y z t) ([]) (fun _ => .tuple #[.int .i64 (atV x y z t), .int .i64 (atE x y z t)]) = (∀ (b : Nat), e1 b 3 ((SpecG Tryd.prog [] [] (36 : FuncId) #[Value.agg #[Value.int .i64 x, .int .i64 y, .int .i64 z]] [] fun x_1 ↦ Value.bool (accB x y z)) /\ (∀ (e : Ex), e ∈ [] -> e ∈ []) /\ ((!accB x y z) = true -> Value.tuple (Array.mk [.int .i64 0, .int .i64 1]) = Value.tuple (Array.mk [.int .i64
 (atV x y z t), .int .i64 (atE x y z t)])) /\ ((!accB x y z) = false -> (SpecG Tryd.prog [] [] (52 : FuncId) #[Value.int .i64 t] [] fun x ↦ Value.bool (tiB t)) /\ (∀ (e : Ex), e ∈ [] -> e ∈ []) /\ ((!tiB t) = true -> Value.tuple (Array.mk [.int .i64 0, .int .i64 2]) = Value.tuple (Array.mk [.int .i64
 (atV x y z t), .int .i64 (atE x y z t)])) /\ ((!tiB t) = false -> e1 b 4 ((SpecG Tryd.prog [] [] (59 : FuncId) #[Value.int .i64 (IntKind.i64.wrap (IntKind.i64.wrap ((2 : Int) * IntKind.i64.wrap (x + IntKind.i64.wrap (y * t))) + z)), .int .i64 (IntKind.i64.wrap ((2 : Int) * z))] [] fun x_3 ↦
 Value.tuple #[Value.int .i64 (flI (IntKind.i64.wrap (IntKind.i64.wrap ((2 : Int) * IntKind.i64.wrap (x + IntKind.i64.wrap (y * t))) + z)) (IntKind.i64.wrap ((2 : Int) * z))), .int .i64 (quoE (IntKind.i64.wrap (IntKind.i64.wrap ((2 : Int) * IntKind.i64.wrap (x + IntKind.i64.wrap (y * t))) + z))
 (IntKind.i64.wrap ((2 : Int) * z)))]) /\ (∀ (e : Ex), e ∈ [] -> e ∈ []) /\ Value.tuple (Array.mk [.int .i64 (flI (IntKind.i64.wrap (IntKind.i64.wrap ((2 : Int) * IntKind.i64.wrap (x + IntKind.i64.wrap (y * t))) + z)) (IntKind.i64.wrap ((2 : Int) * z))), .int .i64 (quoE (IntKind.i64.wrap
 (IntKind.i64.wrap ((2 : Int) * IntKind.i64.wrap (x + IntKind.i64.wrap (y * t))) + z)) (IntKind.i64.wrap ((2 : Int) * z)))]) = Value.tuple (Array.mk [.int .i64 (atV x y z t), .int .i64 (atE x y z t)])))))) := by kernel_rfl
set_option maxHeartbeats 4000000 in
theorem atp_sp (x y z t : Int)  : SpecG Tryd.prog [] ([]) 42 #[.agg #[.int .i64 x, .int .i64 y, .int .i64 z], .int .i64 t] ([]) (fun _ => .tuple #[.int .i64 (atV x y z t), .int .i64 (atE x y z t)]) := by
  refine specG_of (h := atp_h x y z t) (?_ : wpG Tryd.prog [] ([]) 400 42 [.agg #[.int .i64 x, .int .i64 y, .int .i64 z], .int .i64 t] (atp_h x y z t) ([]) (fun _ => .tuple #[.int .i64 (atV x y z t), .int .i64 (atE x y z t)]))
  rw [atp_x]
  (repeat' (first | with_reducible exact rfl | exact trivial | with_reducible assumption | (with_reducible exact acc_sp _ _ _) | (with_reducible exact tib_sp _) | (with_reducible exact flo_sp _ _ (i64w _)) | exact cU_len _ | exact cI_len _ | exact cB_len _ | exact cU_one _ | exact cI_one _ | exact cB_one _ | exact (fun _ h => h) | exact (fun _ h => (List.not_mem_nil h).elim) | (with_reducible refine e1_in ?_) | (with_reducible refine e2_in ?_) | (with_reducible refine lx_in (Nat.le_of_ble_eq_true rfl) ?_) | (with_reducible refine rqx_rf ?_) | (with_reducible refine rqx_in ?_ ?_ ?_) | (with_reducible apply And.intro) | (with_reducible intro _)))
  all_goals (try simp only [ti_r] at *)
  all_goals (first | (simp only [*, Bool.and_true, Bool.true_and, Bool.and_false, Bool.false_and, Bool.or_true, Bool.true_or, Bool.or_false, Bool.false_or, Bool.not_true, Bool.not_false, cond_true, cond_false]; done) | (refine congrArg Value.bool ?_; rw [← ti_r]; have hh := ‹decide (t < 0) = _›; rw [hh]; rfl) | (refine tu2 ?_ ?_ <;> simp_all [atE, atV, atX]; done) | trace_state)
def dvp_h (t v x y z : Int) : Hint := .ob 1 (.ob 0 (ho 1 2 (.ob 0 (.perm [] .nil))))
theorem dvp_x (t v x y z : Int) : wpG Tryd.prog [] ([]) 400 37 [.agg #[.int .i64 t, .int .i64 v], .agg #[.int .i64 x, .int .i64 y, .int .i64 z]] (dvp_h t v x y z) ([]) (fun _ => .int .i64 (dvW t v x y z)) = (∀ (b b_1 : Nat), b_1 = b_1 /\ b = b /\ b_1 = b_1 /\ b_1 = b_1 /\ b = b /\ Value.int .i64 (IntKind.i64.wrap (IntKind.i64.wrap (IntKind.i64.wrap (z * v) - x) - IntKind.i64.wrap (y * t))) = Value.int .i64 (dvW t v x y z)) := by kernel_rfl
set_option maxHeartbeats 4000000 in
theorem dvp_sp (t v x y z : Int)  : SpecG Tryd.prog [] ([]) 37 #[.agg #[.int .i64 t, .int .i64 v], .agg #[.int .i64 x, .int .i64 y, .int .i64 z]] ([]) (fun _ => .int .i64 (dvW t v x y z)) := by
  refine specG_of (h := dvp_h t v x y z) (?_ : wpG Tryd.prog [] ([]) 400 37 [.agg #[.int .i64 t, .int .i64 v], .agg #[.int .i64 x, .int .i64 y, .int .i64 z]] (dvp_h t v x y z) ([]) (fun _ => .int .i64 (dvW t v x y z)))
  rw [dvp_x]
  (repeat' (first | with_reducible exact rfl | exact trivial | with_reducible assumption | exact cU_len _ | exact cI_len _ | exact cB_len _ | exact cU_one _ | exact cI_one _ | exact cB_one _ | exact (fun _ h => h) | exact (fun _ h => (List.not_mem_nil h).elim) | (with_reducible refine e1_in ?_) | (with_reducible refine e2_in ?_) | (with_reducible refine lx_in (Nat.le_of_ble_eq_true rfl) ?_) | (with_reducible refine rqx_rf ?_) | (with_reducible refine rqx_in ?_ ?_ ?_) | (with_reducible apply And.intro) | (with_reducible intro _)))
  all_goals (first | rfl | (simp only [*, Bool.and_true, Bool.true_and, Bool.and_false, Bool.false_and, Bool.or_true, Bool.true_or, Bool.or_false, Bool.false_or, Bool.not_true, Bool.not_false, cond_true, cond_false]; done) | trace_state)
def acp_h (a : Option Addr) (c : Nat) (l : List Pt) (x y z : Int) : Hint := .nc (.cut [((17 : Nat), .bool (ptE l != 0 || !accB x y z))] (.specg [] [0] [cPt l] [] (fun ads0 x ↦ Value.int .i64 (ptE l)) (.pl (.split (.lit (.lit (.lit .nil))) (ho 1 3 (.lit (.specg [] [] [] [] (fun ads0 x_1 ↦ Value.bool (accB x y z)) (.lit (.lit .nil)))))))) (.split (.perm [] .nil) (.pl (.inv
 (acL l x y z) fun x0 ↦ .split (.ix (.lst (0 : Nat) (Int.toNat (↑(AX.i x0) : Int) * (2 : Nat)) (Value.int .i64 (Pt.t (gPt l (Int.toNat (↑(AX.i x0) : Int))))) (.lst (0 : Nat) (Int.toNat (↑(AX.i x0) : Int) * (2 : Nat) + (1 : Nat)) (Value.int .i64 (Pt.v (gPt l (Int.toNat (↑(AX.i x0) : Int))))) (ho 4 4
 (ho 1 3 (.specg [] [] [] [] (fun ads0 x_1 ↦ Value.int .i64 (dvW (Pt.t (gPt l (Int.toNat (↑(AX.i x0) : Int)))) (Pt.v (gPt l (Int.toNat (↑(AX.i x0) : Int)))) x y z)) (.draw [0, 1, 2, 3, 4] (some 3) [0, 1, 3, 4] (.take 0 (ho 2 2 (.take 1 (.pl (.br (.specg [] [] [] [] (fun ads0 x_1 ↦ W (dvW (Pt.t (gPt l
 (Int.toNat (↑(AX.i x0) : Int)))) (Pt.v (gPt l (Int.toNat (↑(AX.i x0) : Int)))) x y z)) (.pl (.br (.specg [] [] [] [] (fun ads0 x_1 ↦ Value.tuple #[W (clip (plS l x y z (AX.i x0) + dvW (Pt.t (gPt l (Int.toNat (↑(AX.i x0) : Int)))) (Pt.v (gPt l (Int.toNat (↑(AX.i x0) : Int)))) x y z)), .bool (fitB
 (plS l x y z (AX.i x0) + dvW (Pt.t (gPt l (Int.toNat (↑(AX.i x0) : Int)))) (Pt.v (gPt l (Int.toNat (↑(AX.i x0) : Int)))) x y z))]) (.take 4 (.take 5 (.take 6 (.pl (.br (ho 2 2 (.draw [0, 1, 2, 3, 4] (some 5) [0, 1, 2, 4] (.take 0 (ho 3 2 (.take 1 (.take 2 (.take 3 (.ob 4 (.pl (.br (.specg [] [] []
 [] (fun ads0 x_1 ↦ W (dvW (Pt.t (gPt l (Int.toNat (↑(AX.i x0) : Int)))) (Pt.v (gPt l (Int.toNat (↑(AX.i x0) : Int)))) x y z * Pt.t (gPt l (Int.toNat (↑(AX.i x0) : Int))))) (.pl (.br (.specg [] [] [] [] (fun ads0 x_1 ↦ Value.tuple #[W (clip (tmS l x y z (AX.i x0) + dvW (Pt.t (gPt l (Int.toNat (↑(AX.i
 x0) : Int)))) (Pt.v (gPt l (Int.toNat (↑(AX.i x0) : Int)))) x y z * Pt.t (gPt l (Int.toNat (↑(AX.i x0) : Int))))), .bool (fitB (tmS l x y z (AX.i x0) + dvW (Pt.t (gPt l (Int.toNat (↑(AX.i x0) : Int)))) (Pt.v (gPt l (Int.toNat (↑(AX.i x0) : Int)))) x y z * Pt.t (gPt l (Int.toNat (↑(AX.i x0) :
 Int)))))]) (.take 6 (.take 7 (.take 8 (.pl (.br (ho 3 2 (.perm [2, 3] .nil)) .nil)))))) .nil))) .nil)))))))))) .nil)))))) .nil))) .nil)))))))))))) (.cut [((4 : Nat), .bool (cmpI (plS l x y z (AX.i x0)) (0 : Int) == (0 : Int) && cmpI (tmS l x y z (AX.i x0)) (0 : Int) == (0 : Int)))] (ho 2 2 (.specg
 [] [] [] [] (fun ads0 x_1 ↦ Value.int .i64 (cmpI (plS l x y z (AX.i x0)) (0 : Int))) (.pl (.split (ho 3 2 (.lit (.specg [] [] [] [] (fun ads0 x_1 ↦ Value.int .i64 (cmpI (tmS l x y z (AX.i x0)) (0 : Int))) (.lit (.pl (.lit .nil)))))) (.lit (.lit (.lit .nil))))))) (.perm [] .nil))))))
theorem acp_x (a : Option Addr) (c : Nat) (l : List Pt) (x y z : Int) : wpG Tryd.prog [] ([(a, cPt l)]) 400 16 [.slice a l.length c, .agg #[.int .i64 x, .int .i64 y, .int .i64 z]] (acp_h a c l x y z) ([]) (fun _ => .bool (acB l x y z)) = (∀ (b : Nat), (cPt l = cPt l /\ (SpecG Tryd.prog [] [(a, cPt l)] (35 : FuncId) #[Value.slice a (List.length l) c] [] fun x ↦ Value.int .i64 (ptE l)) /\ (∀ (e : Ex), e ∈ [] -> e ∈ []) /\ ((ptE l != 0) = true -> Value.bool true = Value.bool (ptE l != 0 || !accB x y z) /\ True) /\ ((ptE l != 0) = false ->
 e1 b 3 ((SpecG Tryd.prog [] [] (36 : FuncId) #[Value.agg #[Value.int .i64 x, .int .i64 y, .int .i64 z]] [] fun x_2 ↦ Value.bool (accB x y z)) /\ (∀ (e : Ex), e ∈ [] -> e ∈ []) /\ (Value.bool !accB x y z) = Value.bool (ptE l != 0 || !accB x y z) /\ True))) /\ ∀ (junk : Nat -> Value), ((ptE l != 0 ||
 !accB x y z) = true -> Value.bool false = Value.bool (acB l x y z)) /\ ((ptE l != 0 || !accB x y z) = false -> ∀ (b_1 b_2 : Nat), (∃ x_2, acI l x_2 /\ Value.int .i64 0 = Value.int .i64 (↑(AX.i x_2) : Int) /\ Value.pointer (some (Addr.mk b_1 (0 : Nat) none)) = Value.pointer (some (Addr.mk (AX.b x_2)
 (0 : Nat) none)) /\ Value.pointer (some (Addr.mk b_2 (0 : Nat) none)) = Value.pointer (some (Addr.mk (AX.c x_2) (0 : Nat) none)) /\ (b_1 = AX.b x_2 /\ [Value.int .i64 0, .int IntKind.u64 (0 : Int)] = [Value.int .i64 (wh (plS l x y z (AX.i x_2))), .int IntKind.u64 (wl (plS l x y z (AX.i x_2)))] /\
 (65 : Nat) = (65 : Nat) /\ noOw = noOw) /\ (b_2 = AX.c x_2 /\ [Value.int .i64 0, .int IntKind.u64 (0 : Int)] = [Value.int .i64 (wh (tmS l x y z (AX.i x_2))), .int IntKind.u64 (wl (tmS l x y z (AX.i x_2)))] /\ (65 : Nat) = (65 : Nat) /\ noOw = noOw) /\ True) /\ ∀ (x0 : AX), acI l x0 -> ∀ (junk : Nat
 -> Value), (decide ((↑(AX.i x0) : Int) < (↑(List.length l) : Int)) = true -> (((0 : Int) ≤ (↑(AX.i x0) : Int) /\ (↑(AX.i x0) : Int) < (↑(List.length l) : Int)) /\ AOK a (List.length l)) /\ bk a = bk a /\ ofs a + Int.toNat (↑(AX.i x0) : Int) * (2 : Nat) = ofs a + Int.toNat (↑(AX.i x0) : Int) * (2 :
 Nat) /\ lgo (cPt l) (Int.toNat (↑(AX.i x0) : Int) * (2 : Nat)) = some (Value.int .i64 (Pt.t (gPt l (Int.toNat (↑(AX.i x0) : Int))))) /\ bk a = bk a /\ ofs a + Int.toNat (↑(AX.i x0) : Int) * (2 : Nat) + (1 : Nat) = ofs a + (Int.toNat (↑(AX.i x0) : Int) * (2 : Nat) + (1 : Nat)) /\ lgo (cPt l)
 (Int.toNat (↑(AX.i x0) : Int) * (2 : Nat) + (1 : Nat)) = some (Value.int .i64 (Pt.v (gPt l (Int.toNat (↑(AX.i x0) : Int))))) /\ ∀ (b_3 : Nat), b_3 = b_3 /\ True /\ b_3 = b_3 /\ True /\ b_3 = b_3 /\ b_3 = b_3 /\ e1 b 3 ((SpecG Tryd.prog [] [] (37 : FuncId) #[Value.agg #[Value.int .i64 (Pt.t (gPt l
 (Int.toNat (↑(AX.i x0) : Int)))), .int .i64 (Pt.v (gPt l (Int.toNat (↑(AX.i x0) : Int))))], .agg #[Value.int .i64 x, .int .i64 y, .int .i64 z]] [] fun x_4 ↦ Value.int .i64 (dvW (Pt.t (gPt l (Int.toNat (↑(AX.i x0) : Int)))) (Pt.v (gPt l (Int.toNat (↑(AX.i x0) : Int)))) x y z)) /\ (∀ (e : Ex), e ∈ []
 -> e ∈ []) /\ AX.b x0 = AX.b x0 /\ AX.b x0 = AX.b x0 /\ True /\ ((SpecG Tryd.prog [] [] (39 : FuncId) #[Value.int .i64 (dvW (Pt.t (gPt l (Int.toNat (↑(AX.i x0) : Int)))) (Pt.v (gPt l (Int.toNat (↑(AX.i x0) : Int)))) x y z)] [] fun x_4 ↦ W (dvW (Pt.t (gPt l (Int.toNat (↑(AX.i x0) : Int)))) (Pt.v (gPt
 l (Int.toNat (↑(AX.i x0) : Int)))) x y z)) /\ (∀ (e : Ex), e ∈ [] -> e ∈ []) /\ True /\ ((SpecG Tryd.prog [] [] (38 : FuncId) #[W (plS l x y z (AX.i x0)), W (dvW (Pt.t (gPt l (Int.toNat (↑(AX.i x0) : Int)))) (Pt.v (gPt l (Int.toNat (↑(AX.i x0) : Int)))) x y z)] [] fun x_4 ↦ Value.tuple #[W (clip (plS
 l x y z (AX.i x0) + dvW (Pt.t (gPt l (Int.toNat (↑(AX.i x0) : Int)))) (Pt.v (gPt l (Int.toNat (↑(AX.i x0) : Int)))) x y z)), .bool (fitB (plS l x y z (AX.i x0) + dvW (Pt.t (gPt l (Int.toNat (↑(AX.i x0) : Int)))) (Pt.v (gPt l (Int.toNat (↑(AX.i x0) : Int)))) x y z))]) /\ (∀ (e : Ex), e ∈ [] -> e ∈
 []) /\ True /\ (AX.b x0 = AX.b x0 /\ True /\ AX.b x0 = AX.b x0 /\ True /\ AX.c x0 = AX.c x0 /\ AX.c x0 = AX.c x0 /\ b_3 = b_3 /\ True /\ ((SpecG Tryd.prog [] [] (40 : FuncId) #[Value.int .i64 (dvW (Pt.t (gPt l (Int.toNat (↑(AX.i x0) : Int)))) (Pt.v (gPt l (Int.toNat (↑(AX.i x0) : Int)))) x y z), .int
 .i64 (Pt.t (gPt l (Int.toNat (↑(AX.i x0) : Int))))] [] fun x_4 ↦ W (dvW (Pt.t (gPt l (Int.toNat (↑(AX.i x0) : Int)))) (Pt.v (gPt l (Int.toNat (↑(AX.i x0) : Int)))) x y z * Pt.t (gPt l (Int.toNat (↑(AX.i x0) : Int))))) /\ (∀ (e : Ex), e ∈ [] -> e ∈ []) /\ True /\ ((SpecG Tryd.prog [] [] (38 : FuncId)
 #[W (tmS l x y z (AX.i x0)), W (dvW (Pt.t (gPt l (Int.toNat (↑(AX.i x0) : Int)))) (Pt.v (gPt l (Int.toNat (↑(AX.i x0) : Int)))) x y z * Pt.t (gPt l (Int.toNat (↑(AX.i x0) : Int))))] [] fun x_4 ↦ Value.tuple #[W (clip (tmS l x y z (AX.i x0) + dvW (Pt.t (gPt l (Int.toNat (↑(AX.i x0) : Int)))) (Pt.v
 (gPt l (Int.toNat (↑(AX.i x0) : Int)))) x y z * Pt.t (gPt l (Int.toNat (↑(AX.i x0) : Int))))), .bool (fitB (tmS l x y z (AX.i x0) + dvW (Pt.t (gPt l (Int.toNat (↑(AX.i x0) : Int)))) (Pt.v (gPt l (Int.toNat (↑(AX.i x0) : Int)))) x y z * Pt.t (gPt l (Int.toNat (↑(AX.i x0) : Int)))))]) /\ (∀ (e : Ex),
 e ∈ [] -> e ∈ []) /\ True /\ (AX.c x0 = AX.c x0 /\ True /\ AX.c x0 = AX.c x0 /\ True /\ ∃ y_1, acI l y_1 /\ List.length l - AX.i y_1 < List.length l - AX.i x0 /\ Value.int .i64 (IntKind.i64.wrap ((↑(AX.i x0) : Int) + (1 : Int))) = Value.int .i64 (↑(AX.i y_1) : Int) /\ Value.pointer (some (Addr.mk
 (AX.b x0) (0 : Nat) none)) = Value.pointer (some (Addr.mk (AX.b y_1) (0 : Nat) none)) /\ Value.pointer (some (Addr.mk (AX.c x0) (0 : Nat) none)) = Value.pointer (some (Addr.mk (AX.c y_1) (0 : Nat) none)) /\ (AX.b x0 = AX.b y_1 /\ [Value.int .i64 (wh (clip (plS l x y z (AX.i x0) + dvW (Pt.t (gPt l
 (Int.toNat (↑(AX.i x0) : Int)))) (Pt.v (gPt l (Int.toNat (↑(AX.i x0) : Int)))) x y z))), .int IntKind.u64 (wl (clip (plS l x y z (AX.i x0) + dvW (Pt.t (gPt l (Int.toNat (↑(AX.i x0) : Int)))) (Pt.v (gPt l (Int.toNat (↑(AX.i x0) : Int)))) x y z)))] = [Value.int .i64 (wh (plS l x y z (AX.i y_1))), .int
 IntKind.u64 (wl (plS l x y z (AX.i y_1)))] /\ (65 : Nat) = (65 : Nat) /\ noOw = noOw) /\ (AX.c x0 = AX.c y_1 /\ [Value.int .i64 (wh (clip (tmS l x y z (AX.i x0) + dvW (Pt.t (gPt l (Int.toNat (↑(AX.i x0) : Int)))) (Pt.v (gPt l (Int.toNat (↑(AX.i x0) : Int)))) x y z * Pt.t (gPt l (Int.toNat (↑(AX.i
 x0) : Int)))))), .int IntKind.u64 (wl (clip (tmS l x y z (AX.i x0) + dvW (Pt.t (gPt l (Int.toNat (↑(AX.i x0) : Int)))) (Pt.v (gPt l (Int.toNat (↑(AX.i x0) : Int)))) x y z * Pt.t (gPt l (Int.toNat (↑(AX.i x0) : Int))))))] = [Value.int .i64 (wh (tmS l x y z (AX.i y_1))), .int IntKind.u64 (wl (tmS l x
 y z (AX.i y_1)))] /\ (65 : Nat) = (65 : Nat) /\ noOw = noOw) /\ True) /\ True) /\ True) /\ True) /\ True) /\ True) /\ True)) /\ (decide ((↑(AX.i x0) : Int) < (↑(List.length l) : Int)) = false -> (AX.b x0 = AX.b x0 /\ AX.b x0 = AX.b x0 /\ (SpecG Tryd.prog [] [] (41 : FuncId) #[W (plS l x y z (AX.i
 x0))] [] fun x_4 ↦ Value.int .i64 (cmpI (plS l x y z (AX.i x0)) (0 : Int))) /\ (∀ (e : Ex), e ∈ [] -> e ∈ []) /\ ((cmpI (plS l x y z (AX.i x0)) (0 : Int) == (0 : Int)) = true -> AX.c x0 = AX.c x0 /\ AX.c x0 = AX.c x0 /\ (SpecG Tryd.prog [] [] (41 : FuncId) #[W (tmS l x y z (AX.i x0))] [] fun x_5 ↦
 Value.int .i64 (cmpI (tmS l x y z (AX.i x0)) (0 : Int))) /\ (∀ (e : Ex), e ∈ [] -> e ∈ []) /\ Value.bool (cmpI (tmS l x y z (AX.i x0)) (0 : Int) == (0 : Int)) = Value.bool (cmpI (plS l x y z (AX.i x0)) (0 : Int) == (0 : Int) && cmpI (tmS l x y z (AX.i x0)) (0 : Int) == (0 : Int)) /\ True) /\ ((cmpI
 (plS l x y z (AX.i x0)) (0 : Int) == (0 : Int)) = false -> Value.bool false = Value.bool (cmpI (plS l x y z (AX.i x0)) (0 : Int) == (0 : Int) && cmpI (tmS l x y z (AX.i x0)) (0 : Int) == (0 : Int)) /\ True)) /\ ∀ (junk : Nat -> Value), .bool (cmpI (plS l x y z (AX.i x0)) (0 : Int) == (0 : Int) &&
 cmpI (tmS l x y z (AX.i x0)) (0 : Int) == (0 : Int)) = Value.bool (acB l x y z)))) := by kernel_rfl
set_option maxHeartbeats 4000000 in
theorem acp_sp (a : Option Addr) (c : Nat) (l : List Pt) (x y z : Int) (hA : AOK a l.length) (hl : l.length ≤ 9223372036854775807) : SpecG Tryd.prog [] ([(a, cPt l)]) 16 #[.slice a l.length c, .agg #[.int .i64 x, .int .i64 y, .int .i64 z]] ([]) (fun _ => .bool (acB l x y z)) := by
  refine specG_of (h := acp_h a c l x y z) (?_ : wpG Tryd.prog [] ([(a, cPt l)]) 400 16 [.slice a l.length c, .agg #[.int .i64 x, .int .i64 y, .int .i64 z]] (acp_h a c l x y z) ([]) (fun _ => .bool (acB l x y z)))
  rw [acp_x]
  (repeat' (first | with_reducible exact rfl | exact trivial | with_reducible assumption | (with_reducible exact chp_sp _ _ _ hA hl) | (with_reducible exact acc_sp _ _ _) | (with_reducible exact dvp_sp _ _ _ _ _) | (with_reducible exact wof_sp _ (dv_64 _ _ _ _ _)) | (with_reducible exact wad_sp _ _ (pl_f (pt_0 ‹(ptE l != 0 || !accB x y z) = false›) ‹acI _ _›).1 (fits64 (dv_64 _ _ _ _ _))) | (with_reducible exact wad_sp _ _ (pl_f (pt_0 ‹(ptE l != 0 || !accB x y z) = false›) ‹acI _ _›).2 (fitsP (dv_64 _ _ _ _ _) (pt_64 ‹(ptE l != 0 || !accB x y z) = false› (lt_n ‹_›)))) | (with_reducible exact wmu_sp _ _ (dv_64 _ _ _ _ _) (pt_64 ‹(ptE l != 0 || !accB x y z) = false› (lt_n ‹_›))) | (with_reducible exact wsg_sp _ (pl_f (pt_0 ‹(ptE l != 0 || !accB x y z) = false›) ‹acI _ _›).1) | (with_reducible exact wsg_sp _ (pl_f (pt_0 ‹(ptE l != 0 || !accB x y z) = false›) ‹acI _ _›).2) | exact cPt_len _ | exact cPt_one _ | exact cU_len _ | exact cI_len _ | exact cB_len _ | exact cU_one _ | exact cI_one _ | exact cB_one _ | exact (fun _ h => h) | exact (fun _ h => (List.not_mem_nil h).elim) | (with_reducible refine e1_in ?_) | (with_reducible refine e2_in ?_) | (with_reducible refine lx_in (Nat.le_of_ble_eq_true rfl) ?_) | (with_reducible refine rqx_rf ?_) | (with_reducible refine rqx_in ?_ ?_ ?_) | (with_reducible apply And.intro) | (with_reducible intro _)))
  all_goals (try simp only [Int.toNat_natCast] at *)
  all_goals (try (first | (simp only [*, Bool.and_true, Bool.true_and, Bool.and_false, Bool.false_and, Bool.or_true, Bool.true_or, Bool.or_false, Bool.false_or, Bool.not_true, Bool.not_false, cond_true, cond_false]; done)))
  all_goals (try (first | (have hi := lt_n ‹_›; first | omega | exact hA | exact cPt_get0 hi | exact cPt_get1 hi)))
  all_goals (first
    | (have hh := ‹(wh _ == 0 && _) = _›; rw [hh]; rfl)
    | (exact ac_v1 ‹(ptE l != 0 || !accB x y z) = true›)
    | (exact ⟨⟨0, _, _⟩, Nat.zero_le _, rfl, rfl, rfl, ⟨rfl, rfl, (by trivial), (by trivial)⟩, ⟨rfl, rfl, (by trivial), (by trivial)⟩, trivial⟩)
    | (have hx := ‹acI _ _›; have hi := lt_n ‹_›; obtain ⟨q1, q2⟩ := ac_s ‹(ptE l != 0 || !accB x y z) = false› hi; exact ⟨⟨_ + 1, _, _⟩, (show _ + 1 ≤ _ by omega), (by show _ - (_ + 1) < _; omega), wr_n (by omega), rfl, rfl, ⟨rfl, q1, (by trivial), (by trivial)⟩, ⟨rfl, q2, (by trivial), (by trivial)⟩, trivial⟩)
    | (have hx := ‹acI _ _›; exact ac_v2 ‹(ptE l != 0 || !accB x y z) = false› (ge_n ‹_› hx))
    | (have hx := ‹acI _ _›; exact ac_v3 ‹(ptE l != 0 || !accB x y z) = false› (ge_n ‹_› hx))
    | exact wad_sp _ _ (pl_f (pt_0 ‹(ptE l != 0 || !accB x y z) = false›) ‹acI _ _›).1 (fits64 (dv_64 _ _ _ _ _)) | exact wad_sp _ _ (pl_f (pt_0 ‹(ptE l != 0 || !accB x y z) = false›) ‹acI _ _›).2 (fitsP (dv_64 _ _ _ _ _) (pt_64 ‹(ptE l != 0 || !accB x y z) = false› (lt_n ‹_›))) | exact wmu_sp _ _ (dv_64 _ _ _ _ _) (pt_64 ‹(ptE l != 0 || !accB x y z) = false› (lt_n ‹_›)) | exact rwad_sp _ _ (pl_f (pt_0 ‹(ptE l != 0 || !accB x y z) = false›) ‹acI _ _›).1 (fits64 (dv_64 _ _ _ _ _)) | exact rwad_sp _ _ (pl_f (pt_0 ‹(ptE l != 0 || !accB x y z) = false›) ‹acI _ _›).2 (fitsP (dv_64 _ _ _ _ _) (pt_64 ‹(ptE l != 0 || !accB x y z) = false› (lt_n ‹_›))) | exact rwmu_sp _ _ (dv_64 _ _ _ _ _) (pt_64 ‹(ptE l != 0 || !accB x y z) = false› (lt_n ‹_›))
    | trace_state)
end Go.Proofs.YtokifmeelgbkiaaDoor
