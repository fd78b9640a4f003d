/- Layer 32 (flight): heights with gravity taken out, lines behind the bounce, of both. -/
import Derived.Test.YtokifmeelgbkiaaDoorVz
import Derived.KernelRfl
import Derived.Test.YtokifmeelgbkiaaDoorProg
import Derived.Test.YtokifmeelgbkiaaDoorCma
import Derived.Test.YtokifmeelgbkiaaDoorCmar
import Derived.Test.YtokifmeelgbkiaaDoorLsa
import Derived.Test.YtokifmeelgbkiaaDoorLsar
import Derived.Test.YtokifmeelgbkiaaDoorWideG
import Derived.Test.YtokifmeelgbkiaaDoorExq
import Derived.Test.YtokifmeelgbkiaaDoorExqr
set_option linter.unusedSimpArgs false
set_option linter.unusedVariables false
set_option maxRecDepth 100000
namespace Go.Proofs.YtokifmeelgbkiaaDoor
open Go.RowKit


/-- A height at a time with gravity taken out. -/
def rsZ (t z : Int) : Int := if (tiB t && !byB z 1000000) = true then z * 80000 + 981 * t * t else 0
def unI (n : Int) : Int := (n + 40000) / 80000
theorem rsZ_b {t z : Int} (h : 0 ≤ z) : 0 ≤ rsZ t z ∧ rsZ t z ≤ 142784000000 := by
  unfold rsZ
  split
  · rename_i h1
    unfold tiB byB at h1
    simp at h1
    have p := prod_b (x := t) (y := t) (A := 8000) (B := 8000) (by omega) (by omega)
    have q := sq_n t
    have e : 981 * t * t = 981 * (t * t) := by rw [Int.mul_assoc]
    rw [e]
    omega
  · omega
theorem rsZ_w {t z : Int} (h : tiB t = true) (h2 : byB z 1000000 = false) : IntKind.i64.wrap (IntKind.i64.wrap (z * 80000) + IntKind.i64.wrap (IntKind.i64.wrap (981 * t) * t)) = rsZ t z := by
  unfold rsZ
  rw [if_pos (by rw [h, h2]; rfl)]
  unfold tiB byB at *
  simp at h h2
  have p := prod_b (x := t) (y := t) (A := 8000) (B := 8000) (by omega) (by omega)
  have q := sq_n t
  have e : 981 * t * t = 981 * (t * t) := by rw [Int.mul_assoc]
  rw [q64 (x := z * 80000) (by omega) (by omega), q64 (x := 981 * t) (by omega) (by omega), q64 (x := 981 * t * t) (by rw [e]; omega) (by rw [e]; omega), q64 (by rw [e]; omega) (by rw [e]; omega)]
theorem ti_q (t : Int) (b : Bool) : (decide (t < 0) || (decide (t > 8000) || b)) = (!tiB t || b) := by
  have : (decide (t < 0) || decide (t > 8000)) = !tiB t := by unfold tiB; by_cases h1 : t < 0 <;> by_cases h2 : t > 8000 <;> simp [h1, h2] <;> omega
  rw [← Bool.or_assoc, this]
theorem rsZ_0 {t z : Int} (h : (!tiB t || (decide (z < -1000000) || decide (z > 1000000))) = true) : rsZ t z = 0 := by
  unfold rsZ
  rw [if_neg]
  intro h1
  unfold byB at h1
  revert h h1
  cases tiB t <;> cases decide (z < -1000000) <;> cases decide (z > 1000000) <;> simp
theorem unI_w {n : Int} (h : 0 ≤ n ∧ n ≤ 1000000000000000) : IntKind.i64.wrap ((IntKind.i64.wrap (n + 40000)).tdiv 80000) = unI n := by
  have e : (n + 40000).tdiv 80000 = (n + 40000) / 80000 := Int.tdiv_eq_ediv_of_nonneg (by omega)
  rw [q64 (x := n + 40000) (by omega) (by omega), e, q64 (by omega) (by omega)]; rfl
theorem unI_f {n : Int} (h : 0 ≤ n ∧ n ≤ 1000000000000000) : flI (IntKind.i64.wrap (n + 40000)) 80000 = unI n := by
  rw [q64 (x := n + 40000) (by omega) (by omega)]
  unfold flI
  rw [if_pos (quo_00 (by omega) (by omega)), Int.fdiv_eq_ediv_of_nonneg _ (by omega)]; rfl
theorem unI_b {t z : Int} (ht : 0 ≤ t ∧ t ≤ 4000) (hz : 0 ≤ z ∧ z ≤ 50000) : 0 ≤ unI (rsZ t z) ∧ unI (rsZ t z) ≤ 1000000 := by
  have h : 0 ≤ rsZ t z ∧ rsZ t z ≤ 19696000000 := by
    unfold rsZ
    split
    · have p := prod_b (x := t) (y := t) (A := 4000) (B := 4000) (by omega) (by omega)
      have q := sq_n t
      have e : 981 * t * t = 981 * (t * t) := by rw [Int.mul_assoc]
      rw [e]
      omega
    · omega
  unfold unI
  omega
/-! The points of what is behind the bounce. -/
def ptX (s : Sn) : Pt := ⟨s.t, s.x⟩
def ptY (s : Sn) : Pt := ⟨s.t, s.y⟩
def ptZ (s : Sn) : Pt := ⟨s.t, unI (rsZ s.t s.z)⟩
/-- The points up to an index, the rest is nothing yet. -/
def flP (f : Sn → Pt) (b : List Sn) (i : Nat) : List Pt := (b.take i).map f ++ List.replicate (b.length - i) ⟨0, 0⟩
theorem fl_len (f : Sn → Pt) (b : List Sn) (i : Nat) (h : i ≤ b.length) : (flP f b i).length = b.length := by unfold flP; simp; omega
theorem fl_0 (f : Sn → Pt) (b : List Sn) : flP f b 0 = List.replicate b.length ⟨0, 0⟩ := by simp [flP]
theorem fl_all (f : Sn → Pt) (b : List Sn) {i : Nat} (h : i = b.length) : flP f b i = b.map f := by subst h; simp [flP]
theorem fl_s (f : Sn → Pt) (b : List Sn) {i : Nat} (h : i < b.length) : (flP f b i).set i (f (gSn b i)) = flP f b (i + 1) := by
  apply List.ext_getElem?
  intro j
  have hl := fl_len f b i (by omega)
  have hl2 := fl_len f b (i + 1) (by omega)
  rw [List.getElem?_set]
  by_cases e : i = j
  · subst e
    rw [if_pos rfl, if_pos (by omega)]
    unfold flP
    rw [List.getElem?_append_left (by simp; omega), List.getElem?_map, List.getElem?_take, if_pos (by omega), List.getElem?_eq_getElem h, gSn_el h]
    rfl
  · rw [if_neg e]
    unfold flP
    by_cases hj : j < i
    · rw [List.getElem?_append_left (by simp; omega), List.getElem?_append_left (by simp; omega), List.getElem?_map, List.getElem?_map, List.getElem?_take, List.getElem?_take, if_pos hj, if_pos (by omega)]
    · rw [List.getElem?_append_right (by simp; omega), List.getElem?_append_right (by simp; omega), List.getElem?_replicate, List.getElem?_replicate]
      simp only [List.length_map, List.length_take]
      have e1 : min i b.length = i := by omega
      have e2 : min (i + 1) b.length = i + 1 := by omega
      rw [e1, e2]
      by_cases hb : j < b.length
      · rw [if_pos (by omega), if_pos (by omega)]
      · rw [if_neg (by omega), if_neg (by omega)]

theorem liE_0 {l : List Pt} (h : liE l = 0) : ptE l = 0 ∧ 0 < liD l := by
  unfold liE at h
  split at h
  · rename_i h1; exact absurd h h1
  · rename_i h1
    split at h
    · omega
    · rename_i h2
      rw [sam_iff] at h2
      have := liD_n l
      simp at h2
      exact ⟨by simpa using h1, by omega⟩
theorem pl_eq {l : List Pt} {a b d : Int} (h : accB a b d = true) : ∀ {k : Nat}, ptI l k → plS l a b d k = d * sU l k - k * a - b * sS l k ∧ tmS l a b d k = d * sW l k - a * sS l k - b * sQ l k := by
  intro k
  induction k with
  | zero => intro _; simp [plS, tmS, sU, sS, sW, sQ]
  | succ k ih =>
    intro hk
    obtain ⟨h1, h2⟩ := ih (ptI_le hk (by omega))
    have e : dvW (gPt l k).t (gPt l k).v a b d = d * (gPt l k).v - a - b * (gPt l k).t := dv_eq h (hk.2 k (by omega))
    simp only [plS, tmS, sU, sS, sW, sQ, dvK, h1, h2]
    rw [e]
    have ec : ((k + 1 : Nat) : Int) = (k : Int) + 1 := by omega
    rw [ec]
    constructor <;> grind
theorem li_acc {l : List Pt} (h : liE l = 0) : accB (liA l) (liB l) (liD l) = true := by
  obtain ⟨h1, h2⟩ := liE_0 h
  obtain ⟨_, _, _, b1, b2, b3⟩ := li_w h1
  unfold accB byB
  simp
  omega
/-- The line that is found is accepted. -/
theorem acc_line {l : List Pt} (h : liE l = 0) : decide (liD l > 0) = true ∧ acB l (liA l) (liB l) (liD l) = true := by
  obtain ⟨h1, h2⟩ := liE_0 h
  have h3 := (ptE_0 h1).2.2
  obtain ⟨p, q⟩ := pl_eq (li_acc h) h3
  refine ⟨by simpa using h2, ?_⟩
  unfold acB
  rw [li_acc h, h1, p, q]
  have e1 : liD l * sU l l.length - l.length * liA l - liB l * sS l l.length = 0 := by unfold liA liB liD; grind
  have e2 : liD l * sW l l.length - liA l * sS l l.length - liB l * sQ l l.length = 0 := by unfold liA liB liD; grind
  rw [e1, e2]
  rfl
theorem zL_0 (x : Int) : zL 0 x = x := by unfold zL; rw [if_pos rfl]
theorem zL_n {e : Int} (h : ¬ e = 0) (x : Int) : zL e x = 0 := by unfold zL; rw [if_neg h]


def cPt_dec : List Value → List Pt
  | .int _ t :: .int _ v :: l => ⟨t, v⟩ :: cPt_dec l
  | _ => []
def cPt_st (l : List Pt) (m : Nat) : Nat → Value → List Value
  | 0, .int _ n => cPt (l.set m ⟨n, (gPt l m).v⟩)
  | 1, .int _ n => cPt (l.set m ⟨(gPt l m).t, n⟩)
  | _, _ => []
def cMk2 (n : Nat) : List Value := cPt (List.replicate n ⟨0, 0⟩)
theorem cPt_mk (n : Nat) : repC n [.int .i64 0, .int .i64 0] = cPt (List.replicate n ⟨0, 0⟩) := by
  show (List.replicate n [Value.int .i64 0, .int .i64 0]).flatten = _
  unfold cPt
  induction n with
  | zero => rfl
  | succ n ih => rw [List.replicate_succ, List.replicate_succ, List.flatten_cons, List.flatMap_cons, ih]
theorem cPt_set0 {l : List Pt} {m : Nat} (n : Int) (h : m < l.length) : lset (cPt l) (m * 2) (.int .i64 n) = cPt (l.set m ⟨n, (gPt l m).v⟩) := by
  rw [lset_eq]
  induction l generalizing m with
  | nil => simp at h
  | cons p l ih =>
    have e : cPt (p :: l) = .int .i64 p.t :: .int .i64 p.v :: cPt l := rfl
    rw [e]
    cases m with
    | zero => rfl
    | succ m =>
      have := ih (m := m) (by simpa using h)
      rw [Nat.succ_mul]
      simp only [List.set_cons_succ]
      rw [this]
      rfl
theorem cPt_set1 {l : List Pt} {m : Nat} (n : Int) (h : m < l.length) : lset (cPt l) (m * 2 + 1) (.int .i64 n) = cPt (l.set m ⟨(gPt l m).t, n⟩) := by
  rw [lset_eq]
  induction l generalizing m with
  | nil => simp at h
  | cons p l ih =>
    have e : cPt (p :: l) = .int .i64 p.t :: .int .i64 p.v :: cPt l := rfl
    rw [e]
    cases m with
    | zero => rfl
    | succ m =>
      have := ih (m := m) (by simpa using h)
      have e2 : (m + 1) * 2 + 1 = m * 2 + 1 + 1 + 1 := by omega
      rw [e2]
      simp only [List.set_cons_succ]
      rw [this]
      rfl
theorem set2 {l : List Pt} {m : Nat} (h : m < l.length) (t v : Int) : (l.set m ⟨t, (gPt l m).v⟩).set m ⟨(gPt (l.set m ⟨t, (gPt l m).v⟩) m).t, v⟩ = l.set m ⟨t, v⟩ := by
  have e : gPt (l.set m ⟨t, (gPt l m).v⟩) m = ⟨t, (gPt l m).v⟩ := by
    unfold gPt
    rw [List.getD_eq_getElem?_getD, List.getElem?_set_self (by simpa using h)]; rfl
  rw [e, List.set_set]


structure LX where
  i : Nat
  a : Option Addr
  c : Nat
@[reducible] def lnL (f : Sn → Pt) (l : List Sn) : LoopR := ⟨LX, fun x => [(14, .int .i64 x.i), (6, .slice x.a l.length x.c)], [2], fun x => [⟨0, cPt (flP f l x.i), 39, some ⟨x.a, l.length, x.c, 2⟩⟩], fun x => x.i ≤ l.length ∧ AOK x.a l.length, fun x => l.length - x.i, []⟩

def fit_h (t : Int) : Hint := .nc (.cut [((2 : Nat), .bool (decide (t ≥ 0) && decide (t ≤ 8000)))] (.split (.lit (.lit .nil)) (.lit (.lit .nil))) (.perm [] .nil))
theorem fit_x (t : Int) : wpG Tryd.prog [] ([]) 400 23 [.int .i64 t] (fit_h t) ([]) (fun _ => .bool (tiB t)) = (((decide (t ≥ 0) = true -> Value.bool (decide (t ≤ 8000)) = Value.bool (decide (t ≥ 0) && decide (t ≤ 8000)) /\ True) /\ (decide (t ≥ 0) = false -> Value.bool false = Value.bool (decide (t ≥ 0) && decide (t ≤ 8000)) /\ True)) /\ ∀ (junk : Nat -> Value), .bool (decide (t ≥ 0) && decide (t ≤ 8000)) =
 Value.bool (tiB t)) := by kernel_rfl
set_option maxHeartbeats 4000000 in
theorem fit_sp (t : Int)  : SpecG Tryd.prog [] ([]) 23 #[.int .i64 t] ([]) (fun _ => .bool (tiB t)) := by
  refine specG_of (h := fit_h t) (?_ : wpG Tryd.prog [] ([]) 400 23 [.int .i64 t] (fit_h t) ([]) (fun _ => .bool (tiB t)))
  rw [fit_x]
  (repeat' (first | with_reducible exact rfl | exact trivial | with_reducible assumption | exact cU_len _ | exact cI_len _ | exact cB_len _ | exact cU_one _ | exact cI_one _ | exact cB_one _ | exact (fun _ h => h) | exact (fun _ h => (List.not_mem_nil h).elim) | (with_reducible refine e1_in ?_) | (with_reducible refine e2_in ?_) | (with_reducible refine lx_in (Nat.le_of_ble_eq_true rfl) ?_) | (with_reducible refine rqx_rf ?_) | (with_reducible refine rqx_in ?_ ?_ ?_) | (with_reducible apply And.intro) | (with_reducible intro _)))
  all_goals (first | rfl | (simp only [*, Bool.and_true, Bool.true_and, Bool.and_false, Bool.false_and, Bool.or_true, Bool.true_or, Bool.or_false, Bool.false_or, Bool.not_true, Bool.not_false, cond_true, cond_false]; done) | (unfold tiB; simp_all; done) | trace_state)
def rse_h (t z : Int) : Hint := .nc (.cut [((15 : Nat), .bool (!tiB t || (decide (z < (-1000000 : Int)) || decide (z > 1000000))))] (.specg [] [] [] [] (fun ads0 x ↦ Value.bool (tiB t)) (.split (hl 4 (.lit .nil)) (.lit (.lit (.split (.lit (.lit .nil)) (.lit (.lit .nil))))))) (.split (.perm [] .nil) (.perm [] .nil)))
theorem rse_x (t z : Int) : wpG Tryd.prog [] ([]) 400 11 [.int .i64 t, .int .i64 z] (rse_h t z) ([]) (fun _ => .int .i64 (rsZ t z)) = (((SpecG Tryd.prog [] [] (23 : FuncId) #[Value.int .i64 t] [] fun x ↦ Value.bool (tiB t)) /\ (∀ (e : Ex), e ∈ [] -> e ∈ []) /\ ((!tiB t) = true -> Value.bool true = Value.bool (!tiB t || (decide (z < (-1000000 : Int)) || decide (z > 1000000))) /\ True) /\ ((!tiB t) = false -> (decide (z < (-1000000 :
 Int)) = true -> Value.bool true = Value.bool (!tiB t || (decide (z < (-1000000 : Int)) || decide (z > 1000000))) /\ True) /\ (decide (z < (-1000000 : Int)) = false -> Value.bool (decide (z > 1000000)) = Value.bool (!tiB t || (decide (z < (-1000000 : Int)) || decide (z > 1000000))) /\ True))) /\ ∀
 (junk : Nat -> Value), ((!tiB t || (decide (z < (-1000000 : Int)) || decide (z > 1000000))) = true -> Value.int .i64 0 = Value.int .i64 (rsZ t z)) /\ ((!tiB t || (decide (z < (-1000000 : Int)) || decide (z > 1000000))) = false -> Value.int .i64 (IntKind.i64.wrap (IntKind.i64.wrap (z * (80000 : Int))
 + IntKind.i64.wrap (IntKind.i64.wrap ((981 : Int) * t) * t))) = Value.int .i64 (rsZ t z))) := by kernel_rfl
set_option maxHeartbeats 4000000 in
theorem rse_sp (t z : Int)  : SpecG Tryd.prog [] ([]) 11 #[.int .i64 t, .int .i64 z] ([]) (fun _ => .int .i64 (rsZ t z)) := by
  refine specG_of (h := rse_h t z) (?_ : wpG Tryd.prog [] ([]) 400 11 [.int .i64 t, .int .i64 z] (rse_h t z) ([]) (fun _ => .int .i64 (rsZ t z)))
  rw [rse_x]
  (repeat' (first | with_reducible exact rfl | exact trivial | with_reducible assumption | (with_reducible exact fit_sp _) | exact cU_len _ | exact cI_len _ | exact cB_len _ | exact cU_one _ | exact cI_one _ | exact cB_one _ | exact (fun _ h => h) | exact (fun _ h => (List.not_mem_nil h).elim) | (with_reducible refine e1_in ?_) | (with_reducible refine e2_in ?_) | (with_reducible refine lx_in (Nat.le_of_ble_eq_true rfl) ?_) | (with_reducible refine rqx_rf ?_) | (with_reducible refine rqx_in ?_ ?_ ?_) | (with_reducible apply And.intro) | (with_reducible intro _)))
  all_goals (first | rfl | (simp only [*, Bool.and_true, Bool.true_and, Bool.and_false, Bool.false_and, Bool.or_true, Bool.true_or, Bool.or_false, Bool.false_or, Bool.not_true, Bool.not_false, cond_true, cond_false]; done) | (rw [rsZ_0 ‹_›]) | (have hh := or_f ‹(!tiB t || _) = false›; refine congrArg (Value.int .i64) (rsZ_w (by simpa using hh.1) hh.2)) | trace_state)
def uns_h (n : Int) : Hint := .pl (.perm [] .nil)
theorem uns_x (n : Int) : wpG Tryd.prog [] ([]) 400 29 [.int .i64 n] (uns_h n) ([]) (fun _ => .int .i64 (unI n)) = (Value.int .i64 (IntKind.i64.wrap (Int.tdiv (IntKind.i64.wrap (n + 40000)) (80000 : Int))) = Value.int .i64 (unI n)) := by kernel_rfl
set_option maxHeartbeats 4000000 in
theorem uns_sp (n : Int) (h : 0 ≤ n ∧ n ≤ 1000000000000000) : SpecG Tryd.prog [] ([]) 29 #[.int .i64 n] ([]) (fun _ => .int .i64 (unI n)) := by
  refine specG_of (h := uns_h n) (?_ : wpG Tryd.prog [] ([]) 400 29 [.int .i64 n] (uns_h n) ([]) (fun _ => .int .i64 (unI n)))
  rw [uns_x]
  (repeat' (first | with_reducible exact rfl | exact trivial | with_reducible assumption | exact cU_len _ | exact cI_len _ | exact cB_len _ | exact cU_one _ | exact cI_one _ | exact cB_one _ | exact (fun _ h => h) | exact (fun _ h => (List.not_mem_nil h).elim) | (with_reducible refine e1_in ?_) | (with_reducible refine e2_in ?_) | (with_reducible refine lx_in (Nat.le_of_ble_eq_true rfl) ?_) | (with_reducible refine rqx_rf ?_) | (with_reducible refine rqx_in ?_ ?_ ?_) | (with_reducible apply And.intro) | (with_reducible intro _)))
  all_goals (first | rfl | (exact congrArg (Value.int .i64) (unI_w h)) | trace_state)
def fx1_h (t x y z e : Int) : Hint := .ob 0 (.perm [] .nil)
theorem fx1_x (t x y z e : Int) : wpG Tryd.prog [] ([]) 400 26 [.agg #[.int .i64 t, .int .i64 x, .int .i64 y, .int .i64 z, .int .i64 e]] (fx1_h t x y z e) ([]) (fun _ => .int .i64 x) = (∀ (b : Nat), b = b /\ Value.int .i64 x = Value.int .i64 x) := by kernel_rfl
set_option maxHeartbeats 4000000 in
theorem fx1_sp (t x y z e : Int)  : SpecG Tryd.prog [] ([]) 26 #[.agg #[.int .i64 t, .int .i64 x, .int .i64 y, .int .i64 z, .int .i64 e]] ([]) (fun _ => .int .i64 x) := by
  refine specG_of (h := fx1_h t x y z e) (?_ : wpG Tryd.prog [] ([]) 400 26 [.agg #[.int .i64 t, .int .i64 x, .int .i64 y, .int .i64 z, .int .i64 e]] (fx1_h t x y z e) ([]) (fun _ => .int .i64 x))
  rw [fx1_x]
  (repeat' (first | with_reducible exact rfl | exact trivial | with_reducible assumption | exact cU_len _ | exact cI_len _ | exact cB_len _ | exact cU_one _ | exact cI_one _ | exact cB_one _ | exact (fun _ h => h) | exact (fun _ h => (List.not_mem_nil h).elim) | (with_reducible refine e1_in ?_) | (with_reducible refine e2_in ?_) | (with_reducible refine lx_in (Nat.le_of_ble_eq_true rfl) ?_) | (with_reducible refine rqx_rf ?_) | (with_reducible refine rqx_in ?_ ?_ ?_) | (with_reducible apply And.intro) | (with_reducible intro _)))
  all_goals (first | rfl | trace_state)
def fx2_h (t x y z e : Int) : Hint := .ob 0 (.perm [] .nil)
theorem fx2_x (t x y z e : Int) : wpG Tryd.prog [] ([]) 400 27 [.agg #[.int .i64 t, .int .i64 x, .int .i64 y, .int .i64 z, .int .i64 e]] (fx2_h t x y z e) ([]) (fun _ => .int .i64 y) = (∀ (b : Nat), b = b /\ Value.int .i64 y = Value.int .i64 y) := by kernel_rfl
set_option maxHeartbeats 4000000 in
theorem fx2_sp (t x y z e : Int)  : SpecG Tryd.prog [] ([]) 27 #[.agg #[.int .i64 t, .int .i64 x, .int .i64 y, .int .i64 z, .int .i64 e]] ([]) (fun _ => .int .i64 y) := by
  refine specG_of (h := fx2_h t x y z e) (?_ : wpG Tryd.prog [] ([]) 400 27 [.agg #[.int .i64 t, .int .i64 x, .int .i64 y, .int .i64 z, .int .i64 e]] (fx2_h t x y z e) ([]) (fun _ => .int .i64 y))
  rw [fx2_x]
  (repeat' (first | with_reducible exact rfl | exact trivial | with_reducible assumption | exact cU_len _ | exact cI_len _ | exact cB_len _ | exact cU_one _ | exact cI_one _ | exact cB_one _ | exact (fun _ h => h) | exact (fun _ h => (List.not_mem_nil h).elim) | (with_reducible refine e1_in ?_) | (with_reducible refine e2_in ?_) | (with_reducible refine lx_in (Nat.le_of_ble_eq_true rfl) ?_) | (with_reducible refine rqx_rf ?_) | (with_reducible refine rqx_in ?_ ?_ ?_) | (with_reducible apply And.intro) | (with_reducible intro _)))
  all_goals (first | rfl | trace_state)
def fx3_h (t x y z e : Int) : Hint := ho 0 2 (.specg [] [] [] [] (fun ads0 x ↦ Value.int .i64 (rsZ t z)) (.specg [] [] [] [] (fun ads0 x ↦ Value.int .i64 (unI (rsZ t z))) (.perm [] .nil)))
theorem fx3_x (t x y z e : Int) : wpG Tryd.prog [] ([]) 400 28 [.agg #[.int .i64 t, .int .i64 x, .int .i64 y, .int .i64 z, .int .i64 e]] (fx3_h t x y z e) ([]) (fun _ => .int .i64 (unI (rsZ t z))) = (∀ (b : Nat), b = b /\ b = b /\ (SpecG Tryd.prog [] [] (11 : FuncId) #[Value.int .i64 t, .int .i64 z] [] fun x ↦ Value.int .i64 (rsZ t z)) /\ (∀ (e : Ex), e ∈ [] -> e ∈ []) /\ (SpecG Tryd.prog [] [] (29 : FuncId) #[Value.int .i64 (rsZ t z)] [] fun x ↦ Value.int .i64 (unI (rsZ t z))) /\ (∀ (e : Ex), e ∈
 [] -> e ∈ []) /\ Value.int .i64 (unI (rsZ t z)) = Value.int .i64 (unI (rsZ t z))) := by kernel_rfl
set_option maxHeartbeats 4000000 in
theorem fx3_sp (t x y z e : Int) (hz : 0 ≤ z) : SpecG Tryd.prog [] ([]) 28 #[.agg #[.int .i64 t, .int .i64 x, .int .i64 y, .int .i64 z, .int .i64 e]] ([]) (fun _ => .int .i64 (unI (rsZ t z))) := by
  refine specG_of (h := fx3_h t x y z e) (?_ : wpG Tryd.prog [] ([]) 400 28 [.agg #[.int .i64 t, .int .i64 x, .int .i64 y, .int .i64 z, .int .i64 e]] (fx3_h t x y z e) ([]) (fun _ => .int .i64 (unI (rsZ t z))))
  rw [fx3_x]
  (repeat' (first | with_reducible exact rfl | exact trivial | with_reducible assumption | (with_reducible exact rse_sp _ _) | (with_reducible exact uns_sp _ (by have := rsZ_b (t := t) hz; omega)) | exact cU_len _ | exact cI_len _ | exact cB_len _ | exact cU_one _ | exact cI_one _ | exact cB_one _ | exact (fun _ h => h) | exact (fun _ h => (List.not_mem_nil h).elim) | (with_reducible refine e1_in ?_) | (with_reducible refine e2_in ?_) | (with_reducible refine lx_in (Nat.le_of_ble_eq_true rfl) ?_) | (with_reducible refine rqx_rf ?_) | (with_reducible refine rqx_in ?_ ?_ ?_) | (with_reducible apply And.intro) | (with_reducible intro _)))
  all_goals (first | rfl | trace_state)

theorem lin_n {a : Option Addr} {c n : Nat} {L : List Pt} (h : L.length = n) (hA : AOK a n) (hn : n ≤ 9223372036854775807) : SpecG Tryd.prog [] [(a, cPt L)] 46 #[.slice a n c] [] (fun _ => fiV (liE L) (liA L) (liB L) (liD L)) := by
  subst h
  exact lin_sp a c L hA hn
theorem ln_eq {f : Sn → Pt} {l : List Sn} {i : Nat} (h : i = l.length) : fiV (liE (flP f l i)) (liA (flP f l i)) (liB (flP f l i)) (liD (flP f l i)) = fiV (liE (l.map f)) (liA (l.map f)) (liB (l.map f)) (liD (l.map f)) := by rw [fl_all f l h]
theorem ln_b {f : Sn → Pt} {l : List Sn} {x : LX} (h : x.i ≤ l.length ∧ AOK x.a l.length) (hl : l.length ≤ 9223372036854775807) (hi : x.i < l.length) {t v : Int} (ht : f (gSn l x.i) = ⟨t, v⟩) :
    ∃ y : LX, (y.i ≤ l.length ∧ AOK y.a l.length) ∧ l.length - y.i < l.length - x.i ∧ Value.int IntKind.i64 (IntKind.i64.wrap (x.i + 1)) = Value.int IntKind.i64 y.i ∧ Value.slice x.a l.length x.c = Value.slice y.a l.length y.c ∧
      (True ∧ cPt (((flP f l x.i).set x.i ⟨t, (gPt (flP f l x.i) x.i).v⟩).set x.i ⟨(gPt ((flP f l x.i).set x.i ⟨t, (gPt (flP f l x.i) x.i).v⟩) x.i).t, v⟩) = cPt (flP f l y.i) ∧ True ∧ some (Ow.mk x.a l.length x.c 2) = some (Ow.mk y.a l.length y.c 2)) ∧ True := by
  refine ⟨⟨x.i + 1, x.a, x.c⟩, ⟨hi, h.2⟩, (by show _ - (_ + 1) < _; omega), wr_s (by omega), rfl, ⟨trivial, ?_, trivial, rfl⟩, trivial⟩
  rw [set2 (by rw [fl_len f l x.i h.1]; exact hi), ← ht, fl_s f l hi]

def ln1_h (a : Option Addr) (c : Nat) (l : List Sn) : Hint := .pl (.mk (cPt (List.replicate (Int.toNat (↑(List.length l) : Int)) (Pt.mk (0 : Int) (0 : Int)))) (.pl (.inv (lnL ptX l) fun x0 ↦ .split (.ix (.lst (0 : Nat) (Int.toNat (↑(LX.i x0) : Int) * (5 : Nat)) (Value.int .i64 (Sn.t (gSn l (Int.toNat (↑(LX.i x0) : Int))))) (.lst (0 : Nat) (Int.toNat (↑(LX.i x0)
 : Int) * (5 : Nat) + (1 : Nat)) (Value.int .i64 (Sn.x (gSn l (Int.toNat (↑(LX.i x0) : Int))))) (.lst (0 : Nat) (Int.toNat (↑(LX.i x0) : Int) * (5 : Nat) + (2 : Nat)) (Value.int .i64 (Sn.y (gSn l (Int.toNat (↑(LX.i x0) : Int))))) (.lst (0 : Nat) (Int.toNat (↑(LX.i x0) : Int) * (5 : Nat) + (3 : Nat))
 (Value.int .i64 (Sn.z (gSn l (Int.toNat (↑(LX.i x0) : Int))))) (.lst (0 : Nat) (Int.toNat (↑(LX.i x0) : Int) * (5 : Nat) + (4 : Nat)) (Value.int .i64 (Sn.e (gSn l (Int.toNat (↑(LX.i x0) : Int))))) (ho 3 5 (.draw [0, 1, 2, 3] (some 6) [0, 1, 3] (.take 0 (.take 1 (.take 2 (.take 3 (.ob 3 (.take 4
 (.take 5 (ho 3 5 (.pl (.br (.specg [] [] [] [] (fun ads0 x ↦ Value.int .i64 (Sn.x (gSn l (Int.toNat (↑(LX.i x0) : Int))))) (.take 7 (.take 8 (.ix (.pl (.br (.sto (2 : Nat) (Int.toNat (↑(LX.i x0) : Int) * (2 : Nat)) (cPt (List.set (flP ptX l (LX.i x0)) (Int.toNat (↑(LX.i x0) : Int)) (Pt.mk (Sn.t (gSn
 l (Int.toNat (↑(LX.i x0) : Int)))) (Pt.v (gPt (flP ptX l (LX.i x0)) (Int.toNat (↑(LX.i x0) : Int))))))) (.sto (2 : Nat) (Int.toNat (↑(LX.i x0) : Int) * (2 : Nat) + (1 : Nat)) (cPt (List.set (List.set (flP ptX l (LX.i x0)) (Int.toNat (↑(LX.i x0) : Int)) (Pt.mk (Sn.t (gSn l (Int.toNat (↑(LX.i x0) :
 Int)))) (Pt.v (gPt (flP ptX l (LX.i x0)) (Int.toNat (↑(LX.i x0) : Int)))))) (Int.toNat (↑(LX.i x0) : Int)) (Pt.mk (Pt.t (gPt (List.set (flP ptX l (LX.i x0)) (Int.toNat (↑(LX.i x0) : Int)) (Pt.mk (Sn.t (gSn l (Int.toNat (↑(LX.i x0) : Int)))) (Pt.v (gPt (flP ptX l (LX.i x0)) (Int.toNat (↑(LX.i x0) :
 Int)))))) (Int.toNat (↑(LX.i x0) : Int)))) (Sn.x (gSn l (Int.toNat (↑(LX.i x0) : Int))))))) (.perm [2] .nil))) .nil)))))) .nil)))))))))))))))))) (.specg [] [2] [cPt (flP ptX l (LX.i x0))] [] (fun ads0 x ↦ fiV (liE (flP ptX l (LX.i x0))) (liA (flP ptX l (LX.i x0))) (liB (flP ptX l (LX.i x0))) (liD
 (flP ptX l (LX.i x0)))) (ho 1 6 (.perm [] .nil))))))
theorem ln1_x (a : Option Addr) (c : Nat) (l : List Sn) : wpG Tryd.prog wE ([(a, cSn l)]) 400 25 [.slice a l.length c, .func (.func 26) #[] #[]] (ln1_h a c l) ([]) (fun _ => fiV (liE (l.map ptX)) (liA (l.map ptX)) (liB (l.map ptX)) (liD (l.map ptX))) = (∀ (b : Nat), ((0 : Int) ≤ (↑(List.length l) : Int) /\ (↑(List.length l) : Int) = (↑(List.length l) : Int) /\ (17 : Int) * (↑(List.length l) : Int) ≤ (281474976710656 : Int) /\ List.flatten (List.replicate (Int.toNat (↑(List.length l) : Int)) [Value.int .i64 0, .int .i64 0]) = cPt (List.replicate
 (Int.toNat (↑(List.length l) : Int)) (Pt.mk (0 : Int) (0 : Int)))) /\ ∀ (a_1 : Option Addr) (cap : Nat), AOK a_1 (Int.toNat (↑(List.length l) : Int)) -> (∃ x, (LX.i x ≤ List.length l /\ AOK (LX.a x) (List.length l)) /\ Value.int .i64 0 = Value.int .i64 (↑(LX.i x) : Int) /\ Value.slice a_1 (Int.toNat
 (↑(List.length l) : Int)) cap = Value.slice (LX.a x) (List.length l) (LX.c x) /\ ((0 : Nat) = (0 : Nat) /\ cPt (List.replicate (Int.toNat (↑(List.length l) : Int)) (Pt.mk (0 : Int) (0 : Int))) = cPt (flP ptX l (LX.i x)) /\ (39 : Nat) = (39 : Nat) /\ some (Ow.mk a_1 (Int.toNat (↑(List.length l) :
 Int)) cap (2 : Nat)) = some (Ow.mk (LX.a x) (List.length l) (LX.c x) (2 : Nat))) /\ True) /\ ∀ (x0 : LX), LX.i x0 ≤ List.length l /\ AOK (LX.a x0) (List.length l) -> ∀ (junk : Nat -> Value), (decide ((↑(LX.i x0) : Int) < (↑(List.length l) : Int)) = true -> (((0 : Int) ≤ (↑(LX.i x0) : Int) /\ (↑(LX.i
 x0) : Int) < (↑(List.length l) : Int)) /\ AOK a (List.length l)) /\ bk a = bk a /\ ofs a + Int.toNat (↑(LX.i x0) : Int) * (5 : Nat) = ofs a + Int.toNat (↑(LX.i x0) : Int) * (5 : Nat) /\ lgo (cSn l) (Int.toNat (↑(LX.i x0) : Int) * (5 : Nat)) = some (Value.int .i64 (Sn.t (gSn l (Int.toNat (↑(LX.i x0)
 : Int))))) /\ bk a = bk a /\ ofs a + Int.toNat (↑(LX.i x0) : Int) * (5 : Nat) + (1 : Nat) = ofs a + (Int.toNat (↑(LX.i x0) : Int) * (5 : Nat) + (1 : Nat)) /\ lgo (cSn l) (Int.toNat (↑(LX.i x0) : Int) * (5 : Nat) + (1 : Nat)) = some (Value.int .i64 (Sn.x (gSn l (Int.toNat (↑(LX.i x0) : Int))))) /\ bk
 a = bk a /\ ofs a + Int.toNat (↑(LX.i x0) : Int) * (5 : Nat) + (2 : Nat) = ofs a + (Int.toNat (↑(LX.i x0) : Int) * (5 : Nat) + (2 : Nat)) /\ lgo (cSn l) (Int.toNat (↑(LX.i x0) : Int) * (5 : Nat) + (2 : Nat)) = some (Value.int .i64 (Sn.y (gSn l (Int.toNat (↑(LX.i x0) : Int))))) /\ bk a = bk a /\ ofs
 a + Int.toNat (↑(LX.i x0) : Int) * (5 : Nat) + (3 : Nat) = ofs a + (Int.toNat (↑(LX.i x0) : Int) * (5 : Nat) + (3 : Nat)) /\ lgo (cSn l) (Int.toNat (↑(LX.i x0) : Int) * (5 : Nat) + (3 : Nat)) = some (Value.int .i64 (Sn.z (gSn l (Int.toNat (↑(LX.i x0) : Int))))) /\ bk a = bk a /\ ofs a + Int.toNat
 (↑(LX.i x0) : Int) * (5 : Nat) + (4 : Nat) = ofs a + (Int.toNat (↑(LX.i x0) : Int) * (5 : Nat) + (4 : Nat)) /\ lgo (cSn l) (Int.toNat (↑(LX.i x0) : Int) * (5 : Nat) + (4 : Nat)) = some (Value.int .i64 (Sn.e (gSn l (Int.toNat (↑(LX.i x0) : Int))))) /\ ∀ (b : Nat), e2 b 5 (e1 b 5 (b = b /\ True /\
 ((SpecG Tryd.prog [] [] (26 : FuncId) #[Value.agg #[Value.int .i64 (Sn.t (gSn l (Int.toNat (↑(LX.i x0) : Int)))), .int .i64 (Sn.x (gSn l (Int.toNat (↑(LX.i x0) : Int)))), .int .i64 (Sn.y (gSn l (Int.toNat (↑(LX.i x0) : Int)))), .int .i64 (Sn.z (gSn l (Int.toNat (↑(LX.i x0) : Int)))), .int .i64 (Sn.e
 (gSn l (Int.toNat (↑(LX.i x0) : Int))))]] [] fun x ↦ Value.int .i64 (Sn.x (gSn l (Int.toNat (↑(LX.i x0) : Int))))) /\ (∀ (e : Ex), e ∈ [] -> e ∈ wE) /\ (((0 : Int) ≤ (↑(LX.i x0) : Int) /\ (↑(LX.i x0) : Int) < (↑(List.length l) : Int)) /\ AOK (LX.a x0) (List.length l)) /\ True /\ (bk (LX.a x0) = bk
 (LX.a x0) /\ ofs (LX.a x0) + Int.toNat (↑(LX.i x0) : Int) * (2 : Nat) = ofs (LX.a x0) + Int.toNat (↑(LX.i x0) : Int) * (2 : Nat) /\ True /\ lset (cPt (flP ptX l (LX.i x0))) (Int.toNat (↑(LX.i x0) : Int) * (2 : Nat)) (Value.int .i64 (Sn.t (gSn l (Int.toNat (↑(LX.i x0) : Int))))) = cPt (List.set (flP
 ptX l (LX.i x0)) (Int.toNat (↑(LX.i x0) : Int)) (Pt.mk (Sn.t (gSn l (Int.toNat (↑(LX.i x0) : Int)))) (Pt.v (gPt (flP ptX l (LX.i x0)) (Int.toNat (↑(LX.i x0) : Int)))))) /\ Int.toNat (↑(LX.i x0) : Int) * (2 : Nat) < List.length (cPt (flP ptX l (LX.i x0))) /\ bk (LX.a x0) = bk (LX.a x0) /\ ofs (LX.a
 x0) + Int.toNat (↑(LX.i x0) : Int) * (2 : Nat) + (1 : Nat) = ofs (LX.a x0) + (Int.toNat (↑(LX.i x0) : Int) * (2 : Nat) + (1 : Nat)) /\ True /\ lset (cPt (List.set (flP ptX l (LX.i x0)) (Int.toNat (↑(LX.i x0) : Int)) (Pt.mk (Sn.t (gSn l (Int.toNat (↑(LX.i x0) : Int)))) (Pt.v (gPt (flP ptX l (LX.i
 x0)) (Int.toNat (↑(LX.i x0) : Int))))))) (Int.toNat (↑(LX.i x0) : Int) * (2 : Nat) + (1 : Nat)) (Value.int .i64 (Sn.x (gSn l (Int.toNat (↑(LX.i x0) : Int))))) = cPt (List.set (List.set (flP ptX l (LX.i x0)) (Int.toNat (↑(LX.i x0) : Int)) (Pt.mk (Sn.t (gSn l (Int.toNat (↑(LX.i x0) : Int)))) (Pt.v
 (gPt (flP ptX l (LX.i x0)) (Int.toNat (↑(LX.i x0) : Int)))))) (Int.toNat (↑(LX.i x0) : Int)) (Pt.mk (Pt.t (gPt (List.set (flP ptX l (LX.i x0)) (Int.toNat (↑(LX.i x0) : Int)) (Pt.mk (Sn.t (gSn l (Int.toNat (↑(LX.i x0) : Int)))) (Pt.v (gPt (flP ptX l (LX.i x0)) (Int.toNat (↑(LX.i x0) : Int))))))
 (Int.toNat (↑(LX.i x0) : Int)))) (Sn.x (gSn l (Int.toNat (↑(LX.i x0) : Int)))))) /\ Int.toNat (↑(LX.i x0) : Int) * (2 : Nat) + (1 : Nat) < List.length (cPt (List.set (flP ptX l (LX.i x0)) (Int.toNat (↑(LX.i x0) : Int)) (Pt.mk (Sn.t (gSn l (Int.toNat (↑(LX.i x0) : Int)))) (Pt.v (gPt (flP ptX l (LX.i
 x0)) (Int.toNat (↑(LX.i x0) : Int))))))) /\ ∃ y, (LX.i y ≤ List.length l /\ AOK (LX.a y) (List.length l)) /\ List.length l - LX.i y < List.length l - LX.i x0 /\ Value.int .i64 (IntKind.i64.wrap ((↑(LX.i x0) : Int) + (1 : Int))) = Value.int .i64 (↑(LX.i y) : Int) /\ Value.slice (LX.a x0) (List.length
 l) (LX.c x0) = Value.slice (LX.a y) (List.length l) (LX.c y) /\ ((0 : Nat) = (0 : Nat) /\ cPt (List.set (List.set (flP ptX l (LX.i x0)) (Int.toNat (↑(LX.i x0) : Int)) (Pt.mk (Sn.t (gSn l (Int.toNat (↑(LX.i x0) : Int)))) (Pt.v (gPt (flP ptX l (LX.i x0)) (Int.toNat (↑(LX.i x0) : Int)))))) (Int.toNat
 (↑(LX.i x0) : Int)) (Pt.mk (Pt.t (gPt (List.set (flP ptX l (LX.i x0)) (Int.toNat (↑(LX.i x0) : Int)) (Pt.mk (Sn.t (gSn l (Int.toNat (↑(LX.i x0) : Int)))) (Pt.v (gPt (flP ptX l (LX.i x0)) (Int.toNat (↑(LX.i x0) : Int)))))) (Int.toNat (↑(LX.i x0) : Int)))) (Sn.x (gSn l (Int.toNat (↑(LX.i x0) :
 Int)))))) = cPt (flP ptX l (LX.i y)) /\ (39 : Nat) = (39 : Nat) /\ some (Ow.mk (LX.a x0) (List.length l) (LX.c x0) (2 : Nat)) = some (Ow.mk (LX.a y) (List.length l) (LX.c y) (2 : Nat))) /\ True) /\ True) /\ True))) /\ (decide ((↑(LX.i x0) : Int) < (↑(List.length l) : Int)) = false -> cPt (flP ptX l
 (LX.i x0)) = cPt (flP ptX l (LX.i x0)) /\ (SpecG Tryd.prog [] [(LX.a x0, cPt (flP ptX l (LX.i x0)))] (46 : FuncId) (Array.mk [.slice (LX.a x0) (List.length l) (LX.c x0)]) [] fun x ↦ fiV (liE (flP ptX l (LX.i x0))) (liA (flP ptX l (LX.i x0))) (liB (flP ptX l (LX.i x0))) (liD (flP ptX l (LX.i x0)))) /\
 (∀ (e : Ex), e ∈ [] -> e ∈ wE) /\ e2 b 3 (e1 b 3 (Value.tuple (Array.mk [.agg (Array.mk [.int .i64 (zL (liE (flP ptX l (LX.i x0))) (liA (flP ptX l (LX.i x0)))), .int .i64 (zL (liE (flP ptX l (LX.i x0))) (liB (flP ptX l (LX.i x0)))), .int .i64 (zL (liE (flP ptX l (LX.i x0))) (liD (flP ptX l (LX.i
 x0))))]), .int .i64 (liE (flP ptX l (LX.i x0)))]) = Value.tuple (Array.mk [.agg (Array.mk [.int .i64 (zL (liE (List.map ptX l)) (liA (List.map ptX l))), .int .i64 (zL (liE (List.map ptX l)) (liB (List.map ptX l))), .int .i64 (zL (liE (List.map ptX l)) (liD (List.map ptX l)))]), .int .i64 (liE
 (List.map ptX l))]))))) := by kernel_rfl
set_option maxHeartbeats 4000000 in
theorem ln1_sp (a : Option Addr) (c : Nat) (l : List Sn) (hA : AOK a l.length) (hl : l.length ≤ 9223372036854775807) (h64 : l.length ≤ 64) (h0 : ∀ m, m < l.length → 0 ≤ (gSn l m).z) : SpecG Tryd.prog wE ([(a, cSn l)]) 25 #[.slice a l.length c, .func (.func 26) #[] #[]] ([]) (fun _ => fiV (liE (l.map ptX)) (liA (l.map ptX)) (liB (l.map ptX)) (liD (l.map ptX))) := by
  refine specG_of (h := ln1_h a c l) (?_ : wpG Tryd.prog wE ([(a, cSn l)]) 400 25 [.slice a l.length c, .func (.func 26) #[] #[]] (ln1_h a c l) ([]) (fun _ => fiV (liE (l.map ptX)) (liA (l.map ptX)) (liB (l.map ptX)) (liD (l.map ptX))))
  rw [ln1_x]
  (repeat' (first | with_reducible exact rfl | exact trivial | with_reducible assumption | (with_reducible exact fx1_sp _ _ _ _ _) | exact cSn_len _ | exact cSn_one _ | exact cPt_len _ | exact cPt_one _ | exact cU_len _ | exact cI_len _ | exact cB_len _ | exact cU_one _ | exact cI_one _ | exact cB_one _ | exact (fun _ h => h) | exact (fun _ h => (List.not_mem_nil h).elim) | (with_reducible refine e1_in ?_) | (with_reducible refine e2_in ?_) | (with_reducible refine lx_in (Nat.le_of_ble_eq_true rfl) ?_) | (with_reducible refine rqx_rf ?_) | (with_reducible refine rqx_in ?_ ?_ ?_) | (with_reducible apply And.intro) | (with_reducible intro _)))
  all_goals (try simp only [Int.toNat_natCast] at *)
  all_goals (try (first | (simp only [*, Bool.and_true, Bool.true_and, Bool.and_false, Bool.false_and, Bool.or_true, Bool.true_or, Bool.or_false, Bool.false_or, Bool.not_true, Bool.not_false, cond_true, cond_false]; done)))
  all_goals (try (first | (have hi := lt_s ‹_›; first | omega | exact hA | exact cSn_get0 hi | exact cSn_get1 hi | exact cSn_get2 hi | exact cSn_get3 hi | exact cSn_get4 hi)))
  all_goals (first
    | omega
    | exact cPt_mk _
    | (exact ⟨⟨0, _, _⟩, ⟨Nat.zero_le _, (by assumption)⟩, rfl, rfl, ⟨trivial, (by rw [fl_0]), trivial, rfl⟩, trivial⟩)
    | (have hx := ‹_ ≤ l.length ∧ AOK _ l.length›; have hi := lt_s ‹_›; first | (refine cPt_set0 _ ?_; rw [fl_len _ _ _ hx.1]; exact hi) | (refine cPt_set1 _ ?_; rw [List.length_set, fl_len _ _ _ hx.1]; exact hi) | (rw [cPt_len, fl_len _ _ _ hx.1]; omega) | (rw [cPt_len, List.length_set, fl_len _ _ _ hx.1]; omega) | exact ln_b hx hl hi rfl | exact h0 _ hi | exact fx3_sp _ _ _ _ _ (h0 _ hi))
    | (have hx := ‹_ ≤ l.length ∧ AOK _ l.length›; have e := ge_s ‹_› hx.1; first | exact lin_n (fl_len _ _ _ hx.1) hx.2 hl | exact ln_eq e)
    | trace_state)
def ln2_h (a : Option Addr) (c : Nat) (l : List Sn) : Hint := .pl (.mk (cPt (List.replicate (Int.toNat (↑(List.length l) : Int)) (Pt.mk (0 : Int) (0 : Int)))) (.pl (.inv (lnL ptY l) fun x0 ↦ .split (.ix (.lst (0 : Nat) (Int.toNat (↑(LX.i x0) : Int) * (5 : Nat)) (Value.int .i64 (Sn.t (gSn l (Int.toNat (↑(LX.i x0) : Int))))) (.lst (0 : Nat) (Int.toNat (↑(LX.i x0)
 : Int) * (5 : Nat) + (1 : Nat)) (Value.int .i64 (Sn.x (gSn l (Int.toNat (↑(LX.i x0) : Int))))) (.lst (0 : Nat) (Int.toNat (↑(LX.i x0) : Int) * (5 : Nat) + (2 : Nat)) (Value.int .i64 (Sn.y (gSn l (Int.toNat (↑(LX.i x0) : Int))))) (.lst (0 : Nat) (Int.toNat (↑(LX.i x0) : Int) * (5 : Nat) + (3 : Nat))
 (Value.int .i64 (Sn.z (gSn l (Int.toNat (↑(LX.i x0) : Int))))) (.lst (0 : Nat) (Int.toNat (↑(LX.i x0) : Int) * (5 : Nat) + (4 : Nat)) (Value.int .i64 (Sn.e (gSn l (Int.toNat (↑(LX.i x0) : Int))))) (ho 3 5 (.draw [0, 1, 2, 3] (some 6) [0, 1, 3] (.take 0 (.take 1 (.take 2 (.take 3 (.ob 3 (.take 4
 (.take 5 (ho 3 5 (.pl (.br (.specg [] [] [] [] (fun ads0 x ↦ Value.int .i64 (Sn.y (gSn l (Int.toNat (↑(LX.i x0) : Int))))) (.take 7 (.take 8 (.ix (.pl (.br (.sto (2 : Nat) (Int.toNat (↑(LX.i x0) : Int) * (2 : Nat)) (cPt (List.set (flP ptY l (LX.i x0)) (Int.toNat (↑(LX.i x0) : Int)) (Pt.mk (Sn.t (gSn
 l (Int.toNat (↑(LX.i x0) : Int)))) (Pt.v (gPt (flP ptY l (LX.i x0)) (Int.toNat (↑(LX.i x0) : Int))))))) (.sto (2 : Nat) (Int.toNat (↑(LX.i x0) : Int) * (2 : Nat) + (1 : Nat)) (cPt (List.set (List.set (flP ptY l (LX.i x0)) (Int.toNat (↑(LX.i x0) : Int)) (Pt.mk (Sn.t (gSn l (Int.toNat (↑(LX.i x0) :
 Int)))) (Pt.v (gPt (flP ptY l (LX.i x0)) (Int.toNat (↑(LX.i x0) : Int)))))) (Int.toNat (↑(LX.i x0) : Int)) (Pt.mk (Pt.t (gPt (List.set (flP ptY l (LX.i x0)) (Int.toNat (↑(LX.i x0) : Int)) (Pt.mk (Sn.t (gSn l (Int.toNat (↑(LX.i x0) : Int)))) (Pt.v (gPt (flP ptY l (LX.i x0)) (Int.toNat (↑(LX.i x0) :
 Int)))))) (Int.toNat (↑(LX.i x0) : Int)))) (Sn.y (gSn l (Int.toNat (↑(LX.i x0) : Int))))))) (.perm [2] .nil))) .nil)))))) .nil)))))))))))))))))) (.specg [] [2] [cPt (flP ptY l (LX.i x0))] [] (fun ads0 x ↦ fiV (liE (flP ptY l (LX.i x0))) (liA (flP ptY l (LX.i x0))) (liB (flP ptY l (LX.i x0))) (liD
 (flP ptY l (LX.i x0)))) (ho 1 6 (.perm [] .nil))))))
theorem ln2_x (a : Option Addr) (c : Nat) (l : List Sn) : wpG Tryd.prog wE ([(a, cSn l)]) 400 25 [.slice a l.length c, .func (.func 27) #[] #[]] (ln2_h a c l) ([]) (fun _ => fiV (liE (l.map ptY)) (liA (l.map ptY)) (liB (l.map ptY)) (liD (l.map ptY))) = (∀ (b : Nat), ((0 : Int) ≤ (↑(List.length l) : Int) /\ (↑(List.length l) : Int) = (↑(List.length l) : Int) /\ (17 : Int) * (↑(List.length l) : Int) ≤ (281474976710656 : Int) /\ List.flatten (List.replicate (Int.toNat (↑(List.length l) : Int)) [Value.int .i64 0, .int .i64 0]) = cPt (List.replicate
 (Int.toNat (↑(List.length l) : Int)) (Pt.mk (0 : Int) (0 : Int)))) /\ ∀ (a_1 : Option Addr) (cap : Nat), AOK a_1 (Int.toNat (↑(List.length l) : Int)) -> (∃ x, (LX.i x ≤ List.length l /\ AOK (LX.a x) (List.length l)) /\ Value.int .i64 0 = Value.int .i64 (↑(LX.i x) : Int) /\ Value.slice a_1 (Int.toNat
 (↑(List.length l) : Int)) cap = Value.slice (LX.a x) (List.length l) (LX.c x) /\ ((0 : Nat) = (0 : Nat) /\ cPt (List.replicate (Int.toNat (↑(List.length l) : Int)) (Pt.mk (0 : Int) (0 : Int))) = cPt (flP ptY l (LX.i x)) /\ (39 : Nat) = (39 : Nat) /\ some (Ow.mk a_1 (Int.toNat (↑(List.length l) :
 Int)) cap (2 : Nat)) = some (Ow.mk (LX.a x) (List.length l) (LX.c x) (2 : Nat))) /\ True) /\ ∀ (x0 : LX), LX.i x0 ≤ List.length l /\ AOK (LX.a x0) (List.length l) -> ∀ (junk : Nat -> Value), (decide ((↑(LX.i x0) : Int) < (↑(List.length l) : Int)) = true -> (((0 : Int) ≤ (↑(LX.i x0) : Int) /\ (↑(LX.i
 x0) : Int) < (↑(List.length l) : Int)) /\ AOK a (List.length l)) /\ bk a = bk a /\ ofs a + Int.toNat (↑(LX.i x0) : Int) * (5 : Nat) = ofs a + Int.toNat (↑(LX.i x0) : Int) * (5 : Nat) /\ lgo (cSn l) (Int.toNat (↑(LX.i x0) : Int) * (5 : Nat)) = some (Value.int .i64 (Sn.t (gSn l (Int.toNat (↑(LX.i x0)
 : Int))))) /\ bk a = bk a /\ ofs a + Int.toNat (↑(LX.i x0) : Int) * (5 : Nat) + (1 : Nat) = ofs a + (Int.toNat (↑(LX.i x0) : Int) * (5 : Nat) + (1 : Nat)) /\ lgo (cSn l) (Int.toNat (↑(LX.i x0) : Int) * (5 : Nat) + (1 : Nat)) = some (Value.int .i64 (Sn.x (gSn l (Int.toNat (↑(LX.i x0) : Int))))) /\ bk
 a = bk a /\ ofs a + Int.toNat (↑(LX.i x0) : Int) * (5 : Nat) + (2 : Nat) = ofs a + (Int.toNat (↑(LX.i x0) : Int) * (5 : Nat) + (2 : Nat)) /\ lgo (cSn l) (Int.toNat (↑(LX.i x0) : Int) * (5 : Nat) + (2 : Nat)) = some (Value.int .i64 (Sn.y (gSn l (Int.toNat (↑(LX.i x0) : Int))))) /\ bk a = bk a /\ ofs
 a + Int.toNat (↑(LX.i x0) : Int) * (5 : Nat) + (3 : Nat) = ofs a + (Int.toNat (↑(LX.i x0) : Int) * (5 : Nat) + (3 : Nat)) /\ lgo (cSn l) (Int.toNat (↑(LX.i x0) : Int) * (5 : Nat) + (3 : Nat)) = some (Value.int .i64 (Sn.z (gSn l (Int.toNat (↑(LX.i x0) : Int))))) /\ bk a = bk a /\ ofs a + Int.toNat
 (↑(LX.i x0) : Int) * (5 : Nat) + (4 : Nat) = ofs a + (Int.toNat (↑(LX.i x0) : Int) * (5 : Nat) + (4 : Nat)) /\ lgo (cSn l) (Int.toNat (↑(LX.i x0) : Int) * (5 : Nat) + (4 : Nat)) = some (Value.int .i64 (Sn.e (gSn l (Int.toNat (↑(LX.i x0) : Int))))) /\ ∀ (b : Nat), e2 b 5 (e1 b 5 (b = b /\ True /\
 ((SpecG Tryd.prog [] [] (27 : FuncId) #[Value.agg #[Value.int .i64 (Sn.t (gSn l (Int.toNat (↑(LX.i x0) : Int)))), .int .i64 (Sn.x (gSn l (Int.toNat (↑(LX.i x0) : Int)))), .int .i64 (Sn.y (gSn l (Int.toNat (↑(LX.i x0) : Int)))), .int .i64 (Sn.z (gSn l (Int.toNat (↑(LX.i x0) : Int)))), .int .i64 (Sn.e
 (gSn l (Int.toNat (↑(LX.i x0) : Int))))]] [] fun x ↦ Value.int .i64 (Sn.y (gSn l (Int.toNat (↑(LX.i x0) : Int))))) /\ (∀ (e : Ex), e ∈ [] -> e ∈ wE) /\ (((0 : Int) ≤ (↑(LX.i x0) : Int) /\ (↑(LX.i x0) : Int) < (↑(List.length l) : Int)) /\ AOK (LX.a x0) (List.length l)) /\ True /\ (bk (LX.a x0) = bk
 (LX.a x0) /\ ofs (LX.a x0) + Int.toNat (↑(LX.i x0) : Int) * (2 : Nat) = ofs (LX.a x0) + Int.toNat (↑(LX.i x0) : Int) * (2 : Nat) /\ True /\ lset (cPt (flP ptY l (LX.i x0))) (Int.toNat (↑(LX.i x0) : Int) * (2 : Nat)) (Value.int .i64 (Sn.t (gSn l (Int.toNat (↑(LX.i x0) : Int))))) = cPt (List.set (flP
 ptY l (LX.i x0)) (Int.toNat (↑(LX.i x0) : Int)) (Pt.mk (Sn.t (gSn l (Int.toNat (↑(LX.i x0) : Int)))) (Pt.v (gPt (flP ptY l (LX.i x0)) (Int.toNat (↑(LX.i x0) : Int)))))) /\ Int.toNat (↑(LX.i x0) : Int) * (2 : Nat) < List.length (cPt (flP ptY l (LX.i x0))) /\ bk (LX.a x0) = bk (LX.a x0) /\ ofs (LX.a
 x0) + Int.toNat (↑(LX.i x0) : Int) * (2 : Nat) + (1 : Nat) = ofs (LX.a x0) + (Int.toNat (↑(LX.i x0) : Int) * (2 : Nat) + (1 : Nat)) /\ True /\ lset (cPt (List.set (flP ptY l (LX.i x0)) (Int.toNat (↑(LX.i x0) : Int)) (Pt.mk (Sn.t (gSn l (Int.toNat (↑(LX.i x0) : Int)))) (Pt.v (gPt (flP ptY l (LX.i
 x0)) (Int.toNat (↑(LX.i x0) : Int))))))) (Int.toNat (↑(LX.i x0) : Int) * (2 : Nat) + (1 : Nat)) (Value.int .i64 (Sn.y (gSn l (Int.toNat (↑(LX.i x0) : Int))))) = cPt (List.set (List.set (flP ptY l (LX.i x0)) (Int.toNat (↑(LX.i x0) : Int)) (Pt.mk (Sn.t (gSn l (Int.toNat (↑(LX.i x0) : Int)))) (Pt.v
 (gPt (flP ptY l (LX.i x0)) (Int.toNat (↑(LX.i x0) : Int)))))) (Int.toNat (↑(LX.i x0) : Int)) (Pt.mk (Pt.t (gPt (List.set (flP ptY l (LX.i x0)) (Int.toNat (↑(LX.i x0) : Int)) (Pt.mk (Sn.t (gSn l (Int.toNat (↑(LX.i x0) : Int)))) (Pt.v (gPt (flP ptY l (LX.i x0)) (Int.toNat (↑(LX.i x0) : Int))))))
 (Int.toNat (↑(LX.i x0) : Int)))) (Sn.y (gSn l (Int.toNat (↑(LX.i x0) : Int)))))) /\ Int.toNat (↑(LX.i x0) : Int) * (2 : Nat) + (1 : Nat) < List.length (cPt (List.set (flP ptY l (LX.i x0)) (Int.toNat (↑(LX.i x0) : Int)) (Pt.mk (Sn.t (gSn l (Int.toNat (↑(LX.i x0) : Int)))) (Pt.v (gPt (flP ptY l (LX.i
 x0)) (Int.toNat (↑(LX.i x0) : Int))))))) /\ ∃ y, (LX.i y ≤ List.length l /\ AOK (LX.a y) (List.length l)) /\ List.length l - LX.i y < List.length l - LX.i x0 /\ Value.int .i64 (IntKind.i64.wrap ((↑(LX.i x0) : Int) + (1 : Int))) = Value.int .i64 (↑(LX.i y) : Int) /\ Value.slice (LX.a x0) (List.length
 l) (LX.c x0) = Value.slice (LX.a y) (List.length l) (LX.c y) /\ ((0 : Nat) = (0 : Nat) /\ cPt (List.set (List.set (flP ptY l (LX.i x0)) (Int.toNat (↑(LX.i x0) : Int)) (Pt.mk (Sn.t (gSn l (Int.toNat (↑(LX.i x0) : Int)))) (Pt.v (gPt (flP ptY l (LX.i x0)) (Int.toNat (↑(LX.i x0) : Int)))))) (Int.toNat
 (↑(LX.i x0) : Int)) (Pt.mk (Pt.t (gPt (List.set (flP ptY l (LX.i x0)) (Int.toNat (↑(LX.i x0) : Int)) (Pt.mk (Sn.t (gSn l (Int.toNat (↑(LX.i x0) : Int)))) (Pt.v (gPt (flP ptY l (LX.i x0)) (Int.toNat (↑(LX.i x0) : Int)))))) (Int.toNat (↑(LX.i x0) : Int)))) (Sn.y (gSn l (Int.toNat (↑(LX.i x0) :
 Int)))))) = cPt (flP ptY l (LX.i y)) /\ (39 : Nat) = (39 : Nat) /\ some (Ow.mk (LX.a x0) (List.length l) (LX.c x0) (2 : Nat)) = some (Ow.mk (LX.a y) (List.length l) (LX.c y) (2 : Nat))) /\ True) /\ True) /\ True))) /\ (decide ((↑(LX.i x0) : Int) < (↑(List.length l) : Int)) = false -> cPt (flP ptY l
 (LX.i x0)) = cPt (flP ptY l (LX.i x0)) /\ (SpecG Tryd.prog [] [(LX.a x0, cPt (flP ptY l (LX.i x0)))] (46 : FuncId) (Array.mk [.slice (LX.a x0) (List.length l) (LX.c x0)]) [] fun x ↦ fiV (liE (flP ptY l (LX.i x0))) (liA (flP ptY l (LX.i x0))) (liB (flP ptY l (LX.i x0))) (liD (flP ptY l (LX.i x0)))) /\
 (∀ (e : Ex), e ∈ [] -> e ∈ wE) /\ e2 b 3 (e1 b 3 (Value.tuple (Array.mk [.agg (Array.mk [.int .i64 (zL (liE (flP ptY l (LX.i x0))) (liA (flP ptY l (LX.i x0)))), .int .i64 (zL (liE (flP ptY l (LX.i x0))) (liB (flP ptY l (LX.i x0)))), .int .i64 (zL (liE (flP ptY l (LX.i x0))) (liD (flP ptY l (LX.i
 x0))))]), .int .i64 (liE (flP ptY l (LX.i x0)))]) = Value.tuple (Array.mk [.agg (Array.mk [.int .i64 (zL (liE (List.map ptY l)) (liA (List.map ptY l))), .int .i64 (zL (liE (List.map ptY l)) (liB (List.map ptY l))), .int .i64 (zL (liE (List.map ptY l)) (liD (List.map ptY l)))]), .int .i64 (liE
 (List.map ptY l))]))))) := by kernel_rfl
set_option maxHeartbeats 4000000 in
theorem ln2_sp (a : Option Addr) (c : Nat) (l : List Sn) (hA : AOK a l.length) (hl : l.length ≤ 9223372036854775807) (h64 : l.length ≤ 64) (h0 : ∀ m, m < l.length → 0 ≤ (gSn l m).z) : SpecG Tryd.prog wE ([(a, cSn l)]) 25 #[.slice a l.length c, .func (.func 27) #[] #[]] ([]) (fun _ => fiV (liE (l.map ptY)) (liA (l.map ptY)) (liB (l.map ptY)) (liD (l.map ptY))) := by
  refine specG_of (h := ln2_h a c l) (?_ : wpG Tryd.prog wE ([(a, cSn l)]) 400 25 [.slice a l.length c, .func (.func 27) #[] #[]] (ln2_h a c l) ([]) (fun _ => fiV (liE (l.map ptY)) (liA (l.map ptY)) (liB (l.map ptY)) (liD (l.map ptY))))
  rw [ln2_x]
  (repeat' (first | with_reducible exact rfl | exact trivial | with_reducible assumption | (with_reducible exact fx2_sp _ _ _ _ _) | exact cSn_len _ | exact cSn_one _ | exact cPt_len _ | exact cPt_one _ | exact cU_len _ | exact cI_len _ | exact cB_len _ | exact cU_one _ | exact cI_one _ | exact cB_one _ | exact (fun _ h => h) | exact (fun _ h => (List.not_mem_nil h).elim) | (with_reducible refine e1_in ?_) | (with_reducible refine e2_in ?_) | (with_reducible refine lx_in (Nat.le_of_ble_eq_true rfl) ?_) | (with_reducible refine rqx_rf ?_) | (with_reducible refine rqx_in ?_ ?_ ?_) | (with_reducible apply And.intro) | (with_reducible intro _)))
  all_goals (try simp only [Int.toNat_natCast] at *)
  all_goals (try (first | (simp only [*, Bool.and_true, Bool.true_and, Bool.and_false, Bool.false_and, Bool.or_true, Bool.true_or, Bool.or_false, Bool.false_or, Bool.not_true, Bool.not_false, cond_true, cond_false]; done)))
  all_goals (try (first | (have hi := lt_s ‹_›; first | omega | exact hA | exact cSn_get0 hi | exact cSn_get1 hi | exact cSn_get2 hi | exact cSn_get3 hi | exact cSn_get4 hi)))
  all_goals (first
    | omega
    | exact cPt_mk _
    | (exact ⟨⟨0, _, _⟩, ⟨Nat.zero_le _, (by assumption)⟩, rfl, rfl, ⟨trivial, (by rw [fl_0]), trivial, rfl⟩, trivial⟩)
    | (have hx := ‹_ ≤ l.length ∧ AOK _ l.length›; have hi := lt_s ‹_›; first | (refine cPt_set0 _ ?_; rw [fl_len _ _ _ hx.1]; exact hi) | (refine cPt_set1 _ ?_; rw [List.length_set, fl_len _ _ _ hx.1]; exact hi) | (rw [cPt_len, fl_len _ _ _ hx.1]; omega) | (rw [cPt_len, List.length_set, fl_len _ _ _ hx.1]; omega) | exact ln_b hx hl hi rfl | exact h0 _ hi | exact fx3_sp _ _ _ _ _ (h0 _ hi))
    | (have hx := ‹_ ≤ l.length ∧ AOK _ l.length›; have e := ge_s ‹_› hx.1; first | exact lin_n (fl_len _ _ _ hx.1) hx.2 hl | exact ln_eq e)
    | trace_state)
def ln3_h (a : Option Addr) (c : Nat) (l : List Sn) : Hint := .pl (.mk (cPt (List.replicate (Int.toNat (↑(List.length l) : Int)) (Pt.mk (0 : Int) (0 : Int)))) (.pl (.inv (lnL ptZ l) fun x0 ↦ .split (.ix (.lst (0 : Nat) (Int.toNat (↑(LX.i x0) : Int) * (5 : Nat)) (Value.int .i64 (Sn.t (gSn l (Int.toNat (↑(LX.i x0) : Int))))) (.lst (0 : Nat) (Int.toNat (↑(LX.i x0)
 : Int) * (5 : Nat) + (1 : Nat)) (Value.int .i64 (Sn.x (gSn l (Int.toNat (↑(LX.i x0) : Int))))) (.lst (0 : Nat) (Int.toNat (↑(LX.i x0) : Int) * (5 : Nat) + (2 : Nat)) (Value.int .i64 (Sn.y (gSn l (Int.toNat (↑(LX.i x0) : Int))))) (.lst (0 : Nat) (Int.toNat (↑(LX.i x0) : Int) * (5 : Nat) + (3 : Nat))
 (Value.int .i64 (Sn.z (gSn l (Int.toNat (↑(LX.i x0) : Int))))) (.lst (0 : Nat) (Int.toNat (↑(LX.i x0) : Int) * (5 : Nat) + (4 : Nat)) (Value.int .i64 (Sn.e (gSn l (Int.toNat (↑(LX.i x0) : Int))))) (ho 3 5 (.draw [0, 1, 2, 3] (some 6) [0, 1, 3] (.take 0 (.take 1 (.take 2 (.take 3 (.ob 3 (.take 4
 (.take 5 (ho 3 5 (.pl (.br (.specg [] [] [] [] (fun ads0 x ↦ Value.int .i64 (unI (rsZ (Sn.t (gSn l (Int.toNat (↑(LX.i x0) : Int)))) (Sn.z (gSn l (Int.toNat (↑(LX.i x0) : Int))))))) (.take 7 (.take 8 (.ix (.pl (.br (.sto (2 : Nat) (Int.toNat (↑(LX.i x0) : Int) * (2 : Nat)) (cPt (List.set (flP ptZ l
 (LX.i x0)) (Int.toNat (↑(LX.i x0) : Int)) (Pt.mk (Sn.t (gSn l (Int.toNat (↑(LX.i x0) : Int)))) (Pt.v (gPt (flP ptZ l (LX.i x0)) (Int.toNat (↑(LX.i x0) : Int))))))) (.sto (2 : Nat) (Int.toNat (↑(LX.i x0) : Int) * (2 : Nat) + (1 : Nat)) (cPt (List.set (List.set (flP ptZ l (LX.i x0)) (Int.toNat (↑(LX.i
 x0) : Int)) (Pt.mk (Sn.t (gSn l (Int.toNat (↑(LX.i x0) : Int)))) (Pt.v (gPt (flP ptZ l (LX.i x0)) (Int.toNat (↑(LX.i x0) : Int)))))) (Int.toNat (↑(LX.i x0) : Int)) (Pt.mk (Pt.t (gPt (List.set (flP ptZ l (LX.i x0)) (Int.toNat (↑(LX.i x0) : Int)) (Pt.mk (Sn.t (gSn l (Int.toNat (↑(LX.i x0) : Int))))
 (Pt.v (gPt (flP ptZ l (LX.i x0)) (Int.toNat (↑(LX.i x0) : Int)))))) (Int.toNat (↑(LX.i x0) : Int)))) (unI (rsZ (Sn.t (gSn l (Int.toNat (↑(LX.i x0) : Int)))) (Sn.z (gSn l (Int.toNat (↑(LX.i x0) : Int))))))))) (.perm [2] .nil))) .nil)))))) .nil)))))))))))))))))) (.specg [] [2] [cPt (flP ptZ l (LX.i
 x0))] [] (fun ads0 x ↦ fiV (liE (flP ptZ l (LX.i x0))) (liA (flP ptZ l (LX.i x0))) (liB (flP ptZ l (LX.i x0))) (liD (flP ptZ l (LX.i x0)))) (ho 1 6 (.perm [] .nil))))))
theorem ln3_x (a : Option Addr) (c : Nat) (l : List Sn) : wpG Tryd.prog wE ([(a, cSn l)]) 400 25 [.slice a l.length c, .func (.func 28) #[] #[]] (ln3_h a c l) ([]) (fun _ => fiV (liE (l.map ptZ)) (liA (l.map ptZ)) (liB (l.map ptZ)) (liD (l.map ptZ))) = (∀ (b : Nat), ((0 : Int) ≤ (↑(List.length l) : Int) /\ (↑(List.length l) : Int) = (↑(List.length l) : Int) /\ (17 : Int) * (↑(List.length l) : Int) ≤ (281474976710656 : Int) /\ List.flatten (List.replicate (Int.toNat (↑(List.length l) : Int)) [Value.int .i64 0, .int .i64 0]) = cPt (List.replicate
 (Int.toNat (↑(List.length l) : Int)) (Pt.mk (0 : Int) (0 : Int)))) /\ ∀ (a_1 : Option Addr) (cap : Nat), AOK a_1 (Int.toNat (↑(List.length l) : Int)) -> (∃ x, (LX.i x ≤ List.length l /\ AOK (LX.a x) (List.length l)) /\ Value.int .i64 0 = Value.int .i64 (↑(LX.i x) : Int) /\ Value.slice a_1 (Int.toNat
 (↑(List.length l) : Int)) cap = Value.slice (LX.a x) (List.length l) (LX.c x) /\ ((0 : Nat) = (0 : Nat) /\ cPt (List.replicate (Int.toNat (↑(List.length l) : Int)) (Pt.mk (0 : Int) (0 : Int))) = cPt (flP ptZ l (LX.i x)) /\ (39 : Nat) = (39 : Nat) /\ some (Ow.mk a_1 (Int.toNat (↑(List.length l) :
 Int)) cap (2 : Nat)) = some (Ow.mk (LX.a x) (List.length l) (LX.c x) (2 : Nat))) /\ True) /\ ∀ (x0 : LX), LX.i x0 ≤ List.length l /\ AOK (LX.a x0) (List.length l) -> ∀ (junk : Nat -> Value), (decide ((↑(LX.i x0) : Int) < (↑(List.length l) : Int)) = true -> (((0 : Int) ≤ (↑(LX.i x0) : Int) /\ (↑(LX.i
 x0) : Int) < (↑(List.length l) : Int)) /\ AOK a (List.length l)) /\ bk a = bk a /\ ofs a + Int.toNat (↑(LX.i x0) : Int) * (5 : Nat) = ofs a + Int.toNat (↑(LX.i x0) : Int) * (5 : Nat) /\ lgo (cSn l) (Int.toNat (↑(LX.i x0) : Int) * (5 : Nat)) = some (Value.int .i64 (Sn.t (gSn l (Int.toNat (↑(LX.i x0)
 : Int))))) /\ bk a = bk a /\ ofs a + Int.toNat (↑(LX.i x0) : Int) * (5 : Nat) + (1 : Nat) = ofs a + (Int.toNat (↑(LX.i x0) : Int) * (5 : Nat) + (1 : Nat)) /\ lgo (cSn l) (Int.toNat (↑(LX.i x0) : Int) * (5 : Nat) + (1 : Nat)) = some (Value.int .i64 (Sn.x (gSn l (Int.toNat (↑(LX.i x0) : Int))))) /\ bk
 a = bk a /\ ofs a + Int.toNat (↑(LX.i x0) : Int) * (5 : Nat) + (2 : Nat) = ofs a + (Int.toNat (↑(LX.i x0) : Int) * (5 : Nat) + (2 : Nat)) /\ lgo (cSn l) (Int.toNat (↑(LX.i x0) : Int) * (5 : Nat) + (2 : Nat)) = some (Value.int .i64 (Sn.y (gSn l (Int.toNat (↑(LX.i x0) : Int))))) /\ bk a = bk a /\ ofs
 a + Int.toNat (↑(LX.i x0) : Int) * (5 : Nat) + (3 : Nat) = ofs a + (Int.toNat (↑(LX.i x0) : Int) * (5 : Nat) + (3 : Nat)) /\ lgo (cSn l) (Int.toNat (↑(LX.i x0) : Int) * (5 : Nat) + (3 : Nat)) = some (Value.int .i64 (Sn.z (gSn l (Int.toNat (↑(LX.i x0) : Int))))) /\ bk a = bk a /\ ofs a + Int.toNat
 (↑(LX.i x0) : Int) * (5 : Nat) + (4 : Nat) = ofs a + (Int.toNat (↑(LX.i x0) : Int) * (5 : Nat) + (4 : Nat)) /\ lgo (cSn l) (Int.toNat (↑(LX.i x0) : Int) * (5 : Nat) + (4 : Nat)) = some (Value.int .i64 (Sn.e (gSn l (Int.toNat (↑(LX.i x0) : Int))))) /\ ∀ (b : Nat), e2 b 5 (e1 b 5 (b = b /\ True /\
 ((SpecG Tryd.prog [] [] (28 : FuncId) #[Value.agg #[Value.int .i64 (Sn.t (gSn l (Int.toNat (↑(LX.i x0) : Int)))), .int .i64 (Sn.x (gSn l (Int.toNat (↑(LX.i x0) : Int)))), .int .i64 (Sn.y (gSn l (Int.toNat (↑(LX.i x0) : Int)))), .int .i64 (Sn.z (gSn l (Int.toNat (↑(LX.i x0) : Int)))), .int .i64 (Sn.e
 (gSn l (Int.toNat (↑(LX.i x0) : Int))))]] [] fun x ↦ Value.int .i64 (unI (rsZ (Sn.t (gSn l (Int.toNat (↑(LX.i x0) : Int)))) (Sn.z (gSn l (Int.toNat (↑(LX.i x0) : Int))))))) /\ (∀ (e : Ex), e ∈ [] -> e ∈ wE) /\ (((0 : Int) ≤ (↑(LX.i x0) : Int) /\ (↑(LX.i x0) : Int) < (↑(List.length l) : Int)) /\ AOK
 (LX.a x0) (List.length l)) /\ True /\ (bk (LX.a x0) = bk (LX.a x0) /\ ofs (LX.a x0) + Int.toNat (↑(LX.i x0) : Int) * (2 : Nat) = ofs (LX.a x0) + Int.toNat (↑(LX.i x0) : Int) * (2 : Nat) /\ True /\ lset (cPt (flP ptZ l (LX.i x0))) (Int.toNat (↑(LX.i x0) : Int) * (2 : Nat)) (Value.int .i64 (Sn.t (gSn
 l (Int.toNat (↑(LX.i x0) : Int))))) = cPt (List.set (flP ptZ l (LX.i x0)) (Int.toNat (↑(LX.i x0) : Int)) (Pt.mk (Sn.t (gSn l (Int.toNat (↑(LX.i x0) : Int)))) (Pt.v (gPt (flP ptZ l (LX.i x0)) (Int.toNat (↑(LX.i x0) : Int)))))) /\ Int.toNat (↑(LX.i x0) : Int) * (2 : Nat) < List.length (cPt (flP ptZ l
 (LX.i x0))) /\ bk (LX.a x0) = bk (LX.a x0) /\ ofs (LX.a x0) + Int.toNat (↑(LX.i x0) : Int) * (2 : Nat) + (1 : Nat) = ofs (LX.a x0) + (Int.toNat (↑(LX.i x0) : Int) * (2 : Nat) + (1 : Nat)) /\ True /\ lset (cPt (List.set (flP ptZ l (LX.i x0)) (Int.toNat (↑(LX.i x0) : Int)) (Pt.mk (Sn.t (gSn l
 (Int.toNat (↑(LX.i x0) : Int)))) (Pt.v (gPt (flP ptZ l (LX.i x0)) (Int.toNat (↑(LX.i x0) : Int))))))) (Int.toNat (↑(LX.i x0) : Int) * (2 : Nat) + (1 : Nat)) (Value.int .i64 (unI (rsZ (Sn.t (gSn l (Int.toNat (↑(LX.i x0) : Int)))) (Sn.z (gSn l (Int.toNat (↑(LX.i x0) : Int))))))) = cPt (List.set
 (List.set (flP ptZ l (LX.i x0)) (Int.toNat (↑(LX.i x0) : Int)) (Pt.mk (Sn.t (gSn l (Int.toNat (↑(LX.i x0) : Int)))) (Pt.v (gPt (flP ptZ l (LX.i x0)) (Int.toNat (↑(LX.i x0) : Int)))))) (Int.toNat (↑(LX.i x0) : Int)) (Pt.mk (Pt.t (gPt (List.set (flP ptZ l (LX.i x0)) (Int.toNat (↑(LX.i x0) : Int))
 (Pt.mk (Sn.t (gSn l (Int.toNat (↑(LX.i x0) : Int)))) (Pt.v (gPt (flP ptZ l (LX.i x0)) (Int.toNat (↑(LX.i x0) : Int)))))) (Int.toNat (↑(LX.i x0) : Int)))) (unI (rsZ (Sn.t (gSn l (Int.toNat (↑(LX.i x0) : Int)))) (Sn.z (gSn l (Int.toNat (↑(LX.i x0) : Int)))))))) /\ Int.toNat (↑(LX.i x0) : Int) * (2 :
 Nat) + (1 : Nat) < List.length (cPt (List.set (flP ptZ l (LX.i x0)) (Int.toNat (↑(LX.i x0) : Int)) (Pt.mk (Sn.t (gSn l (Int.toNat (↑(LX.i x0) : Int)))) (Pt.v (gPt (flP ptZ l (LX.i x0)) (Int.toNat (↑(LX.i x0) : Int))))))) /\ ∃ y, (LX.i y ≤ List.length l /\ AOK (LX.a y) (List.length l)) /\ List.length
 l - LX.i y < List.length l - LX.i x0 /\ Value.int .i64 (IntKind.i64.wrap ((↑(LX.i x0) : Int) + (1 : Int))) = Value.int .i64 (↑(LX.i y) : Int) /\ Value.slice (LX.a x0) (List.length l) (LX.c x0) = Value.slice (LX.a y) (List.length l) (LX.c y) /\ ((0 : Nat) = (0 : Nat) /\ cPt (List.set (List.set (flP
 ptZ l (LX.i x0)) (Int.toNat (↑(LX.i x0) : Int)) (Pt.mk (Sn.t (gSn l (Int.toNat (↑(LX.i x0) : Int)))) (Pt.v (gPt (flP ptZ l (LX.i x0)) (Int.toNat (↑(LX.i x0) : Int)))))) (Int.toNat (↑(LX.i x0) : Int)) (Pt.mk (Pt.t (gPt (List.set (flP ptZ l (LX.i x0)) (Int.toNat (↑(LX.i x0) : Int)) (Pt.mk (Sn.t (gSn l
 (Int.toNat (↑(LX.i x0) : Int)))) (Pt.v (gPt (flP ptZ l (LX.i x0)) (Int.toNat (↑(LX.i x0) : Int)))))) (Int.toNat (↑(LX.i x0) : Int)))) (unI (rsZ (Sn.t (gSn l (Int.toNat (↑(LX.i x0) : Int)))) (Sn.z (gSn l (Int.toNat (↑(LX.i x0) : Int)))))))) = cPt (flP ptZ l (LX.i y)) /\ (39 : Nat) = (39 : Nat) /\
 some (Ow.mk (LX.a x0) (List.length l) (LX.c x0) (2 : Nat)) = some (Ow.mk (LX.a y) (List.length l) (LX.c y) (2 : Nat))) /\ True) /\ True) /\ True))) /\ (decide ((↑(LX.i x0) : Int) < (↑(List.length l) : Int)) = false -> cPt (flP ptZ l (LX.i x0)) = cPt (flP ptZ l (LX.i x0)) /\ (SpecG Tryd.prog [] [(LX.a
 x0, cPt (flP ptZ l (LX.i x0)))] (46 : FuncId) (Array.mk [.slice (LX.a x0) (List.length l) (LX.c x0)]) [] fun x ↦ fiV (liE (flP ptZ l (LX.i x0))) (liA (flP ptZ l (LX.i x0))) (liB (flP ptZ l (LX.i x0))) (liD (flP ptZ l (LX.i x0)))) /\ (∀ (e : Ex), e ∈ [] -> e ∈ wE) /\ e2 b 3 (e1 b 3 (Value.tuple
 (Array.mk [.agg (Array.mk [.int .i64 (zL (liE (flP ptZ l (LX.i x0))) (liA (flP ptZ l (LX.i x0)))), .int .i64 (zL (liE (flP ptZ l (LX.i x0))) (liB (flP ptZ l (LX.i x0)))), .int .i64 (zL (liE (flP ptZ l (LX.i x0))) (liD (flP ptZ l (LX.i x0))))]), .int .i64 (liE (flP ptZ l (LX.i x0)))]) = Value.tuple
 (Array.mk [.agg (Array.mk [.int .i64 (zL (liE (List.map ptZ l)) (liA (List.map ptZ l))), .int .i64 (zL (liE (List.map ptZ l)) (liB (List.map ptZ l))), .int .i64 (zL (liE (List.map ptZ l)) (liD (List.map ptZ l)))]), .int .i64 (liE (List.map ptZ l))]))))) := by kernel_rfl
set_option maxHeartbeats 4000000 in
theorem ln3_sp (a : Option Addr) (c : Nat) (l : List Sn) (hA : AOK a l.length) (hl : l.length ≤ 9223372036854775807) (h64 : l.length ≤ 64) (h0 : ∀ m, m < l.length → 0 ≤ (gSn l m).z) : SpecG Tryd.prog wE ([(a, cSn l)]) 25 #[.slice a l.length c, .func (.func 28) #[] #[]] ([]) (fun _ => fiV (liE (l.map ptZ)) (liA (l.map ptZ)) (liB (l.map ptZ)) (liD (l.map ptZ))) := by
  refine specG_of (h := ln3_h a c l) (?_ : wpG Tryd.prog wE ([(a, cSn l)]) 400 25 [.slice a l.length c, .func (.func 28) #[] #[]] (ln3_h a c l) ([]) (fun _ => fiV (liE (l.map ptZ)) (liA (l.map ptZ)) (liB (l.map ptZ)) (liD (l.map ptZ))))
  rw [ln3_x]
  (repeat' (first | with_reducible exact rfl | exact trivial | with_reducible assumption | (with_reducible exact fx3_sp _ _ _ _ _ (h0 _ (lt_s ‹_›))) | exact cSn_len _ | exact cSn_one _ | exact cPt_len _ | exact cPt_one _ | exact cU_len _ | exact cI_len _ | exact cB_len _ | exact cU_one _ | exact cI_one _ | exact cB_one _ | exact (fun _ h => h) | exact (fun _ h => (List.not_mem_nil h).elim) | (with_reducible refine e1_in ?_) | (with_reducible refine e2_in ?_) | (with_reducible refine lx_in (Nat.le_of_ble_eq_true rfl) ?_) | (with_reducible refine rqx_rf ?_) | (with_reducible refine rqx_in ?_ ?_ ?_) | (with_reducible apply And.intro) | (with_reducible intro _)))
  all_goals (try simp only [Int.toNat_natCast] at *)
  all_goals (try (first | (simp only [*, Bool.and_true, Bool.true_and, Bool.and_false, Bool.false_and, Bool.or_true, Bool.true_or, Bool.or_false, Bool.false_or, Bool.not_true, Bool.not_false, cond_true, cond_false]; done)))
  all_goals (try (first | (have hi := lt_s ‹_›; first | omega | exact hA | exact cSn_get0 hi | exact cSn_get1 hi | exact cSn_get2 hi | exact cSn_get3 hi | exact cSn_get4 hi)))
  all_goals (first
    | omega
    | exact cPt_mk _
    | (exact ⟨⟨0, _, _⟩, ⟨Nat.zero_le _, (by assumption)⟩, rfl, rfl, ⟨trivial, (by rw [fl_0]), trivial, rfl⟩, trivial⟩)
    | (have hx := ‹_ ≤ l.length ∧ AOK _ l.length›; have hi := lt_s ‹_›; first | (refine cPt_set0 _ ?_; rw [fl_len _ _ _ hx.1]; exact hi) | (refine cPt_set1 _ ?_; rw [List.length_set, fl_len _ _ _ hx.1]; exact hi) | (rw [cPt_len, fl_len _ _ _ hx.1]; omega) | (rw [cPt_len, List.length_set, fl_len _ _ _ hx.1]; omega) | exact ln_b hx hl hi rfl | exact h0 _ hi | exact fx3_sp _ _ _ _ _ (h0 _ hi))
    | (have hx := ‹_ ≤ l.length ∧ AOK _ l.length›; have e := ge_s ‹_› hx.1; first | exact lin_n (fl_len _ _ _ hx.1) hx.2 hl | exact ln_eq e)
    | trace_state)

theorem map_at {f : Sn → Pt} {b : List Sn} {m : Nat} (h : m < b.length) : gPt (b.map f) m = f (gSn b m) := by
  rw [gSn_el h]
  unfold gPt
  rw [List.getD_eq_getElem?_getD, List.getElem?_map, List.getElem?_eq_getElem h]; rfl
theorem bh_ok {l : List Sn} (h : ckE l = 0) : (bhS l).length ≤ 64 ∧ ∀ m, m < (bhS l).length → sRng (gSn (bhS l) m) = true := by
  obtain ⟨h1, h2⟩ := ckE_0 h
  refine ⟨by rw [bh_len]; omega, fun m hm => ?_⟩
  rw [bh_at]
  rw [bh_len] at hm
  exact (bad_0 (h2.2 _ (by omega))).1
def sgB (b : List Sn) : Bool := b.all fun s => s.t == (gSn b 0).t
def seE (b : List Sn) : Int := if b.length < 2 then 1 else if sgB b = true then 14 else 0
theorem sam_map {f : Sn → Pt} (hf : ∀ s, (f s).t = s.t) (b : List Sn) : samB (b.map f) = sgB b := by
  unfold samB sgB
  cases b with
  | nil => rfl
  | cons p b =>
    rw [map_at (m := 0) (by simp), List.all_map, hf]
    congr 1
    funext s
    simp only [Function.comp_apply, hf]
theorem liE_map {f : Sn → Pt} (hf : ∀ s, (f s).t = s.t) (hv : ∀ s, sRng s = true → -1000000 ≤ (f s).v ∧ (f s).v ≤ 1000000) {l : List Sn} (h : ckE l = 0) : liE ((bhS l).map f) = seE (bhS l) := by
  obtain ⟨h1, h2⟩ := bh_ok h
  have hp : ptE ((bhS l).map f) = if (bhS l).length < 2 then 1 else 0 := by
    unfold ptE
    rw [List.length_map, if_neg (by omega)]
    have ha : ((bhS l).map f).all ptO = true := by
      rw [List.all_eq_true]
      intro p hp
      obtain ⟨s, hs, rfl⟩ := List.mem_map.1 hp
      obtain ⟨m, hm, rfl⟩ := List.mem_iff_getElem.1 hs
      have h3 := h2 m hm
      rw [gSn_el hm] at h3
      have h4 := hv _ h3
      have h5 := sRng_b h3
      unfold ptO tiB byB
      rw [hf]
      simp
      omega
    rw [if_pos ha]
  unfold liE seE
  rw [hp, sam_map hf]
  by_cases h2 : (bhS l).length < 2
  · rw [if_pos h2, if_pos h2]; rfl
  · rw [if_neg h2, if_neg h2]; simp
theorem liE_X {l : List Sn} (h : ckE l = 0) : liE ((bhS l).map ptX) = seE (bhS l) := liE_map (fun _ => rfl) (fun s hs => by have := sRng_b hs; show _ ∧ _; unfold ptX; simp only; omega) h
theorem liE_Y {l : List Sn} (h : ckE l = 0) : liE ((bhS l).map ptY) = seE (bhS l) := liE_map (fun _ => rfl) (fun s hs => by have := sRng_b hs; show _ ∧ _; unfold ptY; simp only; omega) h
theorem liE_Z {l : List Sn} (h : ckE l = 0) : liE ((bhS l).map ptZ) = seE (bhS l) := liE_map (fun _ => rfl) (fun s hs => by have := sRng_b hs; have := unI_b this.1 this.2.2.2.1; show _ ∧ _; unfold ptZ; simp only; omega) h
/-- The drawn path. -/
def ftE (l : List Sn) : Int := if ckE l = 0 then seE (bhS l) else ckE l
def ftV (e : Int) (b : List Sn) : Value := .tuple #[.agg #[.int .i64 (zL e (liA (b.map ptX))), .int .i64 (zL e (liB (b.map ptX))), .int .i64 (zL e (liD (b.map ptX))), .int .i64 (zL e (liA (b.map ptY))), .int .i64 (zL e (liB (b.map ptY))), .int .i64 (zL e (liD (b.map ptY))), .int .i64 (zL e (liA (b.map ptZ))), .int .i64 (zL e (liB (b.map ptZ))), .int .i64 (zL e (liD (b.map ptZ)))], .int .i64 e]
theorem ft_w0 {e : Int} {b : List Sn} (h : ¬ e = 0) : Value.tuple #[.agg #[.int .i64 0, .int .i64 0, .int .i64 0, .int .i64 0, .int .i64 0, .int .i64 0, .int .i64 0, .int .i64 0, .int .i64 0], .int .i64 e] = ftV e b := by unfold ftV; simp only [zL_n h]
theorem ft_v1 {l : List Sn} (h : (ckE l != 0) = true) : ftE l = ckE l ∧ ¬ ckE l = 0 := by
  have : ¬ ckE l = 0 := by simpa using h
  unfold ftE
  exact ⟨if_neg this, this⟩
theorem ft_n {l : List Sn} (h : (ckE l != 0) = false) : ckE l = 0 := by simpa using h
theorem ft_v2 {l : List Sn} (h : (ckE l != 0) = false) : ftE l = seE (bhS l) := by unfold ftE; rw [if_pos (ft_n h)]
theorem ft_p1 {l : List Sn} (h : (ckE l != 0) = true) : Value.tuple #[.agg #[.int .i64 0, .int .i64 0, .int .i64 0, .int .i64 0, .int .i64 0, .int .i64 0, .int .i64 0, .int .i64 0, .int .i64 0], .int .i64 (ckE l)] = ftV (ftE l) (bhS l) := by
  obtain ⟨h1, h2⟩ := ft_v1 h
  rw [h1]
  exact ft_w0 h2
theorem ft_p2 {l : List Sn} (h : (ckE l != 0) = false) (hx : (liE ((bhS l).map ptX) != 0) = true) : Value.tuple #[.agg #[.int .i64 0, .int .i64 0, .int .i64 0, .int .i64 0, .int .i64 0, .int .i64 0, .int .i64 0, .int .i64 0, .int .i64 0], .int .i64 (liE ((bhS l).map ptX))] = ftV (ftE l) (bhS l) := by
  rw [ft_v2 h]
  rw [liE_X (ft_n h)] at hx ⊢
  exact ft_w0 (by simpa using hx)
theorem ft_p3 {l : List Sn} (h : (ckE l != 0) = false) (hx : (liE ((bhS l).map ptX) != 0) = false) (hy : (liE ((bhS l).map ptY) != 0) = true) : False := by
  rw [liE_X (ft_n h)] at hx
  rw [liE_Y (ft_n h)] at hy
  rw [hx] at hy; cases hy
theorem ft_p4 {l : List Sn} (h : (ckE l != 0) = false) (hx : (liE ((bhS l).map ptX) != 0) = false) (hy : (liE ((bhS l).map ptZ) != 0) = true) : False := by
  rw [liE_X (ft_n h)] at hx
  rw [liE_Z (ft_n h)] at hy
  rw [hx] at hy; cases hy
theorem ft_p5 {l : List Sn} (h : (ckE l != 0) = false) (hx : (liE ((bhS l).map ptX) != 0) = false) : Value.tuple #[.agg #[.int .i64 (zL (liE ((bhS l).map ptX)) (liA ((bhS l).map ptX))), .int .i64 (zL (liE ((bhS l).map ptX)) (liB ((bhS l).map ptX))), .int .i64 (zL (liE ((bhS l).map ptX)) (liD ((bhS l).map ptX))), .int .i64 (zL (liE ((bhS l).map ptY)) (liA ((bhS l).map ptY))), .int .i64 (zL (liE ((bhS l).map ptY)) (liB ((bhS l).map ptY))), .int .i64 (zL (liE ((bhS l).map ptY)) (liD ((bhS l).map ptY))), .int .i64 (zL (liE ((bhS l).map ptZ)) (liA ((bhS l).map ptZ))), .int .i64 (zL (liE ((bhS l).map ptZ)) (liB ((bhS l).map ptZ))), .int .i64 (zL (liE ((bhS l).map ptZ)) (liD ((bhS l).map ptZ)))], .int .i64 0] = ftV (ftE l) (bhS l) := by
  rw [ft_v2 h, liE_X (ft_n h), liE_Y (ft_n h), liE_Z (ft_n h)]
  rw [liE_X (ft_n h)] at hx
  have e : seE (bhS l) = 0 := by simpa using hx
  rw [e]
  rfl
theorem bh_64 {l : List Sn} (h : (ckE l != 0) = false) : (bhS l).length ≤ 64 := (bh_ok (ft_n h)).1
theorem bh_63 {l : List Sn} (h : (ckE l != 0) = false) : (bhS l).length ≤ 9223372036854775807 := Nat.le_trans (bh_64 h) (by decide)
theorem bh_z {l : List Sn} (h : (ckE l != 0) = false) : ∀ m, m < (bhS l).length → 0 ≤ (gSn (bhS l) m).z := fun m hm => (sRng_b ((bh_ok (ft_n h)).2 m hm)).2.2.2.1.1

def ftp_h (a : Option Addr) (c : Nat) (l : List Sn) : Hint := .specg wE [0] [cSn l] [] (fun ads0 x ↦ Value.tuple #[Value.int .i64 (ckI l), .int .i64 (ckE l)]) (.pl (.split (ho 1 18 (.perm [] .nil)) (.specg wE [0] [cSn l] [RowT.mk (37 : TypeId) (5 : Nat) (List.length (bhS l)) (cSn (bhS l))] (fun ads0 ads ↦ Value.slice (Prod.fst (nthS ads (0 : Nat))) (List.length
 (bhS l)) (Prod.snd (nthS ads (0 : Nat)))) (.specg wE [2] [cSn (bhS l)] [] (fun ads0 x ↦ fiV (liE (List.map ptX (bhS l))) (liA (List.map ptX (bhS l))) (liB (List.map ptX (bhS l))) (liD (List.map ptX (bhS l)))) (ho 3 3 (.pl (.split (ho 1 18 (.perm [] .nil)) (.specg wE [2] [cSn (bhS l)] [] (fun ads0 x
 ↦ fiV (liE (List.map ptY (bhS l))) (liA (List.map ptY (bhS l))) (liB (List.map ptY (bhS l))) (liD (List.map ptY (bhS l)))) (ho 4 3 (.pl (.split (ho 1 18 (.perm [] .nil)) (.specg wE [2] [cSn (bhS l)] [] (fun ads0 x ↦ fiV (liE (List.map ptZ (bhS l))) (liA (List.map ptZ (bhS l))) (liB (List.map ptZ
 (bhS l))) (liD (List.map ptZ (bhS l)))) (ho 5 3 (.pl (.split (ho 1 18 (.perm [] .nil)) (ho 3 3 (ho 4 3 (ho 5 3 (ho 1 18 (.perm [] .nil))))))))))))))))))))
theorem ftp_x (a : Option Addr) (c : Nat) (l : List Sn) : wpG Tryd.prog wE ([(a, cSn l)]) 400 13 [.slice a l.length c] (ftp_h a c l) ([]) (fun _ => ftV (ftE l) (bhS l)) = (∀ (b : Nat), cSn l = cSn l /\ (SpecG Tryd.prog wE [(a, cSn l)] (24 : FuncId) #[Value.slice a (List.length l) c] [] fun x ↦ Value.tuple #[Value.int .i64 (ckI l), .int .i64 (ckE l)]) /\ (∀ (e : Ex), e ∈ wE -> e ∈ wE) /\ ((ckE l != 0) = true -> e2 b 9 (e1 b 9 (Value.tuple (Array.mk [.agg (Array.mk [.int
 .i64 0, .int .i64 0, .int .i64 0, .int .i64 0, .int .i64 0, .int .i64 0, .int .i64 0, .int .i64 0, .int .i64 0]), .int .i64 (ckE l)]) = Value.tuple (Array.mk [.agg (Array.mk [.int .i64 (zL (ftE l) (liA (List.map ptX (bhS l)))), .int .i64 (zL (ftE l) (liB (List.map ptX (bhS l)))), .int .i64 (zL (ftE
 l) (liD (List.map ptX (bhS l)))), .int .i64 (zL (ftE l) (liA (List.map ptY (bhS l)))), .int .i64 (zL (ftE l) (liB (List.map ptY (bhS l)))), .int .i64 (zL (ftE l) (liD (List.map ptY (bhS l)))), .int .i64 (zL (ftE l) (liA (List.map ptZ (bhS l)))), .int .i64 (zL (ftE l) (liB (List.map ptZ (bhS l)))),
 .int .i64 (zL (ftE l) (liD (List.map ptZ (bhS l))))]), .int .i64 (ftE l)])))) /\ ((ckE l != 0) = false -> cSn l = cSn l /\ (SpecG Tryd.prog wE [(a, cSn l)] (15 : FuncId) #[Value.slice a (List.length l) c] [RowT.mk (37 : TypeId) (5 : Nat) (List.length (bhS l)) (cSn (bhS l))] fun ads ↦ Value.slice
 (Prod.fst (nthS ads (0 : Nat))) (List.length (bhS l)) (Prod.snd (nthS ads (0 : Nat)))) /\ (∀ (e : Ex), e ∈ wE -> e ∈ wE) /\ ∀ (a : Option Addr) (cap : Nat), AOK a (List.length (bhS l)) -> List.length (bhS l) ≤ cap -> cSn (bhS l) = cSn (bhS l) /\ (SpecG Tryd.prog wE [(a, cSn (bhS l))] (25 : FuncId)
 #[Value.slice a (List.length (bhS l)) cap, Value.func (Fn.func (26 : FuncId)) #[] #[]] [] fun x ↦ fiV (liE (List.map ptX (bhS l))) (liA (List.map ptX (bhS l))) (liB (List.map ptX (bhS l))) (liD (List.map ptX (bhS l)))) /\ (∀ (e : Ex), e ∈ wE -> e ∈ wE) /\ ∀ (b_1 : Nat), e2 b_1 3 (((liE (List.map ptX
 (bhS l)) != 0) = true -> e2 b 9 (e1 b 9 (Value.tuple (Array.mk [.agg (Array.mk [.int .i64 0, .int .i64 0, .int .i64 0, .int .i64 0, .int .i64 0, .int .i64 0, .int .i64 0, .int .i64 0, .int .i64 0]), .int .i64 (liE (List.map ptX (bhS l)))]) = Value.tuple (Array.mk [.agg (Array.mk [.int .i64 (zL (ftE
 l) (liA (List.map ptX (bhS l)))), .int .i64 (zL (ftE l) (liB (List.map ptX (bhS l)))), .int .i64 (zL (ftE l) (liD (List.map ptX (bhS l)))), .int .i64 (zL (ftE l) (liA (List.map ptY (bhS l)))), .int .i64 (zL (ftE l) (liB (List.map ptY (bhS l)))), .int .i64 (zL (ftE l) (liD (List.map ptY (bhS l)))),
 .int .i64 (zL (ftE l) (liA (List.map ptZ (bhS l)))), .int .i64 (zL (ftE l) (liB (List.map ptZ (bhS l)))), .int .i64 (zL (ftE l) (liD (List.map ptZ (bhS l))))]), .int .i64 (ftE l)])))) /\ ((liE (List.map ptX (bhS l)) != 0) = false -> cSn (bhS l) = cSn (bhS l) /\ (SpecG Tryd.prog wE [(a, cSn (bhS l))]
 (25 : FuncId) #[Value.slice a (List.length (bhS l)) cap, Value.func (Fn.func (27 : FuncId)) #[] #[]] [] fun x ↦ fiV (liE (List.map ptY (bhS l))) (liA (List.map ptY (bhS l))) (liB (List.map ptY (bhS l))) (liD (List.map ptY (bhS l)))) /\ (∀ (e : Ex), e ∈ wE -> e ∈ wE) /\ ∀ (b_2 : Nat), e2 b_2 3 (((liE
 (List.map ptY (bhS l)) != 0) = true -> e2 b 9 (e1 b 9 (Value.tuple (Array.mk [.agg (Array.mk [.int .i64 0, .int .i64 0, .int .i64 0, .int .i64 0, .int .i64 0, .int .i64 0, .int .i64 0, .int .i64 0, .int .i64 0]), .int .i64 (liE (List.map ptY (bhS l)))]) = Value.tuple (Array.mk [.agg (Array.mk [.int
 .i64 (zL (ftE l) (liA (List.map ptX (bhS l)))), .int .i64 (zL (ftE l) (liB (List.map ptX (bhS l)))), .int .i64 (zL (ftE l) (liD (List.map ptX (bhS l)))), .int .i64 (zL (ftE l) (liA (List.map ptY (bhS l)))), .int .i64 (zL (ftE l) (liB (List.map ptY (bhS l)))), .int .i64 (zL (ftE l) (liD (List.map ptY
 (bhS l)))), .int .i64 (zL (ftE l) (liA (List.map ptZ (bhS l)))), .int .i64 (zL (ftE l) (liB (List.map ptZ (bhS l)))), .int .i64 (zL (ftE l) (liD (List.map ptZ (bhS l))))]), .int .i64 (ftE l)])))) /\ ((liE (List.map ptY (bhS l)) != 0) = false -> cSn (bhS l) = cSn (bhS l) /\ (SpecG Tryd.prog wE [(a,
 cSn (bhS l))] (25 : FuncId) #[Value.slice a (List.length (bhS l)) cap, Value.func (Fn.func (28 : FuncId)) #[] #[]] [] fun x ↦ fiV (liE (List.map ptZ (bhS l))) (liA (List.map ptZ (bhS l))) (liB (List.map ptZ (bhS l))) (liD (List.map ptZ (bhS l)))) /\ (∀ (e : Ex), e ∈ wE -> e ∈ wE) /\ ∀ (b_3 : Nat),
 e2 b_3 3 (((liE (List.map ptZ (bhS l)) != 0) = true -> e2 b 9 (e1 b 9 (Value.tuple (Array.mk [.agg (Array.mk [.int .i64 0, .int .i64 0, .int .i64 0, .int .i64 0, .int .i64 0, .int .i64 0, .int .i64 0, .int .i64 0, .int .i64 0]), .int .i64 (liE (List.map ptZ (bhS l)))]) = Value.tuple (Array.mk [.agg
 (Array.mk [.int .i64 (zL (ftE l) (liA (List.map ptX (bhS l)))), .int .i64 (zL (ftE l) (liB (List.map ptX (bhS l)))), .int .i64 (zL (ftE l) (liD (List.map ptX (bhS l)))), .int .i64 (zL (ftE l) (liA (List.map ptY (bhS l)))), .int .i64 (zL (ftE l) (liB (List.map ptY (bhS l)))), .int .i64 (zL (ftE l)
 (liD (List.map ptY (bhS l)))), .int .i64 (zL (ftE l) (liA (List.map ptZ (bhS l)))), .int .i64 (zL (ftE l) (liB (List.map ptZ (bhS l)))), .int .i64 (zL (ftE l) (liD (List.map ptZ (bhS l))))]), .int .i64 (ftE l)])))) /\ ((liE (List.map ptZ (bhS l)) != 0) = false -> e1 b_1 3 (e1 b_2 3 (e1 b_3 3 (e2 b 9
 (e1 b 9 (Value.tuple (Array.mk [.agg (Array.mk [.int .i64 (zL (liE (List.map ptX (bhS l))) (liA (List.map ptX (bhS l)))), .int .i64 (zL (liE (List.map ptX (bhS l))) (liB (List.map ptX (bhS l)))), .int .i64 (zL (liE (List.map ptX (bhS l))) (liD (List.map ptX (bhS l)))), .int .i64 (zL (liE (List.map
 ptY (bhS l))) (liA (List.map ptY (bhS l)))), .int .i64 (zL (liE (List.map ptY (bhS l))) (liB (List.map ptY (bhS l)))), .int .i64 (zL (liE (List.map ptY (bhS l))) (liD (List.map ptY (bhS l)))), .int .i64 (zL (liE (List.map ptZ (bhS l))) (liA (List.map ptZ (bhS l)))), .int .i64 (zL (liE (List.map ptZ
 (bhS l))) (liB (List.map ptZ (bhS l)))), .int .i64 (zL (liE (List.map ptZ (bhS l))) (liD (List.map ptZ (bhS l))))]), .int .i64 0]) = Value.tuple (Array.mk [.agg (Array.mk [.int .i64 (zL (ftE l) (liA (List.map ptX (bhS l)))), .int .i64 (zL (ftE l) (liB (List.map ptX (bhS l)))), .int .i64 (zL (ftE l)
 (liD (List.map ptX (bhS l)))), .int .i64 (zL (ftE l) (liA (List.map ptY (bhS l)))), .int .i64 (zL (ftE l) (liB (List.map ptY (bhS l)))), .int .i64 (zL (ftE l) (liD (List.map ptY (bhS l)))), .int .i64 (zL (ftE l) (liA (List.map ptZ (bhS l)))), .int .i64 (zL (ftE l) (liB (List.map ptZ (bhS l)))), .int
 .i64 (zL (ftE l) (liD (List.map ptZ (bhS l))))]), .int .i64 (ftE l)])))))))))))))) := by kernel_rfl
set_option maxHeartbeats 4000000 in
theorem ftp_sp (a : Option Addr) (c : Nat) (l : List Sn) (hA : AOK a l.length) (hl : l.length ≤ 9223372036854775807) (hc : l.length ≤ c) : SpecG Tryd.prog wE ([(a, cSn l)]) 13 #[.slice a l.length c] ([]) (fun _ => ftV (ftE l) (bhS l)) := by
  refine specG_of (h := ftp_h a c l) (?_ : wpG Tryd.prog wE ([(a, cSn l)]) 400 13 [.slice a l.length c] (ftp_h a c l) ([]) (fun _ => ftV (ftE l) (bhS l)))
  rw [ftp_x]
  (repeat' (first | with_reducible exact rfl | exact trivial | with_reducible assumption | (with_reducible exact chk_sp _ _ _ hA hl) | (with_reducible exact beh_sp _ _ _ hA hl hc ‹_›) | (with_reducible exact ln1_sp _ _ _ (by assumption) (bh_63 ‹_›) (bh_64 ‹_›) (bh_z ‹_›)) | (with_reducible exact ln2_sp _ _ _ (by assumption) (bh_63 ‹_›) (bh_64 ‹_›) (bh_z ‹_›)) | (with_reducible exact ln3_sp _ _ _ (by assumption) (bh_63 ‹_›) (bh_64 ‹_›) (bh_z ‹_›)) | exact cSn_len _ | exact cSn_one _ | exact cPt_len _ | exact cPt_one _ | exact cU_len _ | exact cI_len _ | exact cB_len _ | exact cU_one _ | exact cI_one _ | exact cB_one _ | exact (fun _ h => h) | exact (fun _ h => (List.not_mem_nil h).elim) | (with_reducible refine e1_in ?_) | (with_reducible refine e2_in ?_) | (with_reducible refine lx_in (Nat.le_of_ble_eq_true rfl) ?_) | (with_reducible refine rqx_rf ?_) | (with_reducible refine rqx_in ?_ ?_ ?_) | (with_reducible apply And.intro) | (with_reducible intro _)))
  all_goals (first
    | exact ft_p1 ‹_›
    | exact ft_p2 ‹_› ‹_›
    | exact (ft_p3 ‹(ckE l != 0) = false› ‹_› ‹_›).elim
    | exact (ft_p4 ‹(ckE l != 0) = false› ‹_› ‹_›).elim
    | exact ft_p5 ‹_› ‹_›
    | (simp only [*, Bool.and_true, Bool.true_and, Bool.and_false, Bool.false_and, Bool.or_true, Bool.true_or, Bool.or_false, Bool.false_or, Bool.not_true, Bool.not_false, cond_true, cond_false]; done)
    | trace_state)

/-- The points of the first ones. -/
def gpP (f : Sn → Pt) (b : List Sn) (i : Nat) : List Pt := (b.take i).map f
theorem gp_len (f : Sn → Pt) (b : List Sn) {i : Nat} (h : i ≤ b.length) : (gpP f b i).length = i := by unfold gpP; simp; omega
theorem gp_all (f : Sn → Pt) (b : List Sn) {i : Nat} (h : i = b.length) : gpP f b i = b.map f := by subst h; simp [gpP]
theorem gp_s {f : Sn → Pt} {b : List Sn} {i : Nat} {t v : Int} (h : i < b.length) (e : f (gSn b i) = ⟨t, v⟩) : lapp (cPt (gpP f b i)) [.int .i64 t, .int .i64 v] = cPt (gpP f b (i + 1)) := by
  have := cPt_app (gpP f b i) ⟨t, v⟩
  rw [this, ← e, gSn_el h]
  unfold gpP
  rw [List.take_add_one, List.getElem?_eq_getElem h, List.map_append]
  rfl
theorem aok_g (g n : Nat) : AOK (some ⟨g, 0, none⟩) n := ⟨(fun e => by cases e), (fun _ q hq => by injection hq with hq; subst hq; rfl)⟩
theorem aok_0 : AOK none 0 := ⟨(fun _ => rfl), (fun hn => absurd rfl hn)⟩
theorem rnea_b {t z : Int} (h : 0 ≤ z) : 0 ≤ rsZ t z ∧ rsZ t z ≤ 1000000000000000 := by have := rsZ_b (t := t) h; omega
structure GX where
  i : Nat
  a : Option Addr
  c : Nat
  p : Option Addr
  d : Nat
  q : Option Addr
  e : Nat
@[reducible] def gpL (b : List Sn) : LoopR := ⟨GX, fun x => [(29, .int .i64 x.i), (6, .slice x.a x.i x.c), (7, .slice x.p x.i x.d), (8, .slice x.q x.i x.e)], [3, 4, 5], fun x => [⟨0, cPt (gpP ptX b x.i), 57, some ⟨x.a, x.i, x.c, 2⟩⟩, ⟨0, cPt (gpP ptY b x.i), 57, some ⟨x.p, x.i, x.d, 2⟩⟩, ⟨0, cPt (gpP ptZ b x.i), 57, some ⟨x.q, x.i, x.e, 2⟩⟩], fun x => x.i ≤ b.length ∧ AOK x.a x.i ∧ AOK x.p x.i ∧ AOK x.q x.i, fun x => b.length - x.i, [(57, 2), (57, 2), (57, 2)]⟩

end Go.Proofs.YtokifmeelgbkiaaDoor
