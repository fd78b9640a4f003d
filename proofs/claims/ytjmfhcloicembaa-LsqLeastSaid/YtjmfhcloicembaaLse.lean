/- Layer 30 (lsq): no line has a lesser sum (LsqLeast). -/
import Derived.Test.YtjmfhcloicembaaVz
import Derived.KernelRfl
import Derived.Test.YtjmfhcloicembaaProg
import Derived.Test.YtjmfhcloicembaaLsa
import Derived.Test.YtjmfhcloicembaaLsar
import Derived.Test.YtjmfhcloicembaaLsb
import Derived.Test.YtjmfhcloicembaaLsc
set_option linter.unusedSimpArgs false
set_option linter.unusedVariables false
set_option maxRecDepth 100000
namespace Go.Proofs.Ytjmfhcloicembaa
open Go.RowKit


theorem wsc_g (a n : Int) (ha : fits a) (hn : I64 n) : SpecG Try.prog [] [] 30 #[W a, .int .i64 n] [] (fun _ => .tuple #[W (clip (a * n)), .bool (fitB (a * n))]) := wgC fun w => scale_any a n w ha hn
theorem wcm_g (a b : Int) (ha : fits a) (hb : fits b) : SpecG Try.prog [] [] 31 #[W a, W b] [] (fun _ => .int .i64 (cmpI a b)) := wgC fun w => cmp_any a b w ha hb
/-- Is a point a little one? -/
def liO (p : Pt) : Bool := decide (p.t < 0) || (decide (p.t > 100) || (decide (p.v > 1000) || decide (p.v < -1000)))
def ltI (l : List Pt) (i : Nat) : Prop := i ≤ l.length ∧ ∀ m, m < i → liO (gPt l m) = false
def liT (l : List Pt) : Bool := decide (l.length ≤ 8) && l.all fun p => !liO p
theorem ltI_0 (l : List Pt) : ltI l 0 := ⟨Nat.zero_le _, fun m h => by omega⟩
theorem ltI_s {l : List Pt} {i : Nat} (h : ltI l i) (hi : i < l.length) (hc : liO (gPt l i) = false) : ltI l (i + 1) :=
  ⟨hi, fun m hm => by
    by_cases e : m < i
    · exact h.2 m e
    · have : m = i := by omega
      rw [this]; exact hc⟩
theorem lt_n0 {l : List Pt} (h : decide ((l.length : Int) > 8) = true) : liT l = false := by
  have := of_decide_eq_true h
  unfold liT
  rw [decide_eq_false (by omega)]
  rfl
theorem lt_n1 {l : List Pt} {i : Nat} (hi : i < l.length) (hc : liO (gPt l i) = true) : liT l = false := by
  have : (l.all fun p => !liO p) = false := by
    rw [List.all_eq_false]
    exact ⟨_, gPt_in hi, by simp [hc]⟩
  unfold liT
  rw [this]
  simp
theorem lt_y {l : List Pt} {i : Nat} (h8 : decide ((l.length : Int) > 8) = false) (h : ltI l i) (hi : i = l.length) : liT l = true := by
  have := of_decide_eq_false h8
  subst hi
  unfold liT
  rw [decide_eq_true (by omega), Bool.true_and, List.all_eq_true]
  intro p hp
  obtain ⟨m, hm, rfl⟩ := List.mem_iff_getElem.1 hp
  have := h.2 m hm
  unfold gPt at this
  rw [List.getD_eq_getElem?_getD, List.getElem?_eq_getElem hm] at this
  simpa using this
theorem lt_b {l : List Pt} (h : liT l = true) : l.length ≤ 8 ∧ ∀ m, m < l.length → (0 ≤ (gPt l m).t ∧ (gPt l m).t ≤ 100) ∧ -1000 ≤ (gPt l m).v ∧ (gPt l m).v ≤ 1000 := by
  unfold liT at h
  rw [Bool.and_eq_true, List.all_eq_true] at h
  refine ⟨of_decide_eq_true h.1, fun m hm => ?_⟩
  have := h.2 _ (gPt_in hm)
  unfold liO at this
  simp at this
  omega
theorem li_r (p : Pt) : (decide (p.t < 0) || (decide (p.t > 100) || (decide (p.v > 1000) || decide (p.v < -1000)))) = liO p := rfl
@[reducible] def ltL (l : List Pt) : LoopR := ⟨Nat, fun i => [(10, .int .i64 i)], [], fun _ => [], ltI l, fun i => l.length - i, []⟩
/-! The other line's sum is that of the found one, and that of squares besides. -/
def qS (l : List Pt) (c e : Int) : Nat → Int
  | 0 => 0
  | k + 1 => qS l c e k + (c + e * (gPt l k).t) * (c + e * (gPt l k).t)
theorem qS_n (l : List Pt) (c e : Int) (k : Nat) : 0 ≤ qS l c e k := by
  induction k with
  | zero => simp [qS]
  | succ k ih => simp only [qS]; have := sq_n (c + e * (gPt l k).t); omega
theorem two_sums {l : List Pt} {a b d p q r : Int} (h1 : accB a b d = true) (h2 : accB p q r = true) : ∀ {k : Nat}, ptI l k →
    d * d * rsS l p q r k = r * r * rsS l a b d k + 2 * r * ((r * a - d * p) * plS l a b d k + (r * b - d * q) * tmS l a b d k) + qS l (r * a - d * p) (r * b - d * q) k := by
  intro k
  induction k with
  | zero => intro _; simp [rsS, plS, tmS, qS]
  | succ k ih =>
    intro hk
    have h := ih (ptI_le hk (by omega))
    have e1 : dvW (gPt l k).t (gPt l k).v a b d = d * (gPt l k).v - a - b * (gPt l k).t := dv_eq h1 (hk.2 k (by omega))
    have e2 : dvW (gPt l k).t (gPt l k).v p q r = r * (gPt l k).v - p - q * (gPt l k).t := dv_eq h2 (hk.2 k (by omega))
    simp only [rsS, plS, tmS, qS, dvK, e1, e2]
    generalize (gPt l k).t = t at *
    generalize (gPt l k).v = v at *
    generalize rsS l p q r k = R1 at *
    generalize rsS l a b d k = R2 at *
    generalize plS l a b d k = P1 at *
    generalize tmS l a b d k = T1 at *
    generalize qS l (r * a - d * p) (r * b - d * q) k = Q1 at *
    have e : d * d * (R1 + (r * v - p - q * t) * (r * v - p - q * t)) = d * d * R1 + d * d * ((r * v - p - q * t) * (r * v - p - q * t)) := by rw [Int.mul_add]
    rw [e, h]
    grind
/-- How great the sum is. -/
theorem rs_b {l : List Pt} {a b d : Int} {K : Nat} (h1 : accB a b d = true) (hp : ptI l l.length) (hK : ∀ m, m < l.length → (d * (gPt l m).v - a - b * (gPt l m).t).natAbs ≤ K) : ∀ k, k ≤ l.length → rsS l a b d k ≤ (K * K : Nat) * (k : Int) := by
  intro k
  induction k with
  | zero => intro _; simp [rsS]
  | succ k ih =>
    intro hk
    have h := ih (by omega)
    have e1 : dvW (gPt l k).t (gPt l k).v a b d = d * (gPt l k).v - a - b * (gPt l k).t := dv_eq h1 (hp.2 k (by omega))
    have b1 := hK k (by omega)
    simp only [rsS, dvK, e1]
    have p1 := prod_b b1 b1
    have ec : ((k + 1 : Nat) : Int) = (k : Int) + 1 := by omega
    rw [ec, Int.mul_add, Int.mul_one]
    omega
theorem lit_s {l : List Pt} (h : liT l = true) : ∀ {k : Nat}, k ≤ l.length → (0 ≤ sS l k ∧ sS l k ≤ 100 * k) ∧ (0 ≤ sQ l k ∧ sQ l k ≤ 10000 * k) ∧ (-(1000 * (k : Int)) ≤ sU l k ∧ sU l k ≤ 1000 * k) ∧ (-(100000 * (k : Int)) ≤ sW l k ∧ sW l k ≤ 100000 * k) := by
  intro k
  induction k with
  | zero => intro _; simp [sS, sQ, sU, sW]
  | succ k ih =>
    intro hk
    have i := ih (by omega)
    have b := (lt_b h).2 k (by omega)
    have p1 := prod_b (x := (gPt l k).t) (y := (gPt l k).t) (A := 100) (B := 100) (by omega) (by omega)
    have p2 := prod_b (x := (gPt l k).t) (y := (gPt l k).v) (A := 100) (B := 1000) (by omega) (by omega)
    have p3 := sq_n (gPt l k).t
    simp only [sS, sQ, sU, sW]
    refine ⟨⟨?_, ?_⟩, ⟨?_, ?_⟩, ⟨?_, ?_⟩, ?_, ?_⟩ <;> omega
theorem lit_f {l : List Pt} (h : liT l = true) : (liA l).natAbs ≤ 1280000000 ∧ (liB l).natAbs ≤ 12800000 ∧ (liD l).natAbs ≤ 1280000 := by
  have b := lit_s h (Nat.le_refl _)
  have h8 := (lt_b h).1
  have p1 := prod_b (x := sQ l l.length) (y := sU l l.length) (A := 80000) (B := 8000) (by omega) (by omega)
  have p2 := prod_b (x := sS l l.length) (y := sW l l.length) (A := 800) (B := 800000) (by omega) (by omega)
  have p3 := prod_b (x := (l.length : Int)) (y := sW l l.length) (A := 8) (B := 800000) (by omega) (by omega)
  have p4 := prod_b (x := sS l l.length) (y := sU l l.length) (A := 800) (B := 8000) (by omega) (by omega)
  have p5 := prod_b (x := (l.length : Int)) (y := sQ l l.length) (A := 8) (B := 80000) (by omega) (by omega)
  have p6 := prod_b (x := sS l l.length) (y := sS l l.length) (A := 800) (B := 800) (by omega) (by omega)
  unfold liA liB liD
  omega
theorem rsE_0 {l : List Pt} {a b d : Int} (h1 : ptE l = 0) (h2 : accB a b d = true) (h3 : fits (rsS l a b d l.length)) : rsE l a b d = 0 := by
  unfold rsE
  rw [if_neg (by simp [h1]), if_neg (by simp [h2]), if_pos (fit_yes h3)]
theorem mul_up {x y A B : Int} (hx : 0 ≤ x ∧ x ≤ A) (hy : 0 ≤ y ∧ y ≤ B) : 0 ≤ x * y ∧ x * y ≤ A * B :=
  ⟨Int.mul_nonneg hx.1 hy.1, Int.le_trans (Int.mul_le_mul_of_nonneg_right hx.2 hy.1) (Int.mul_le_mul_of_nonneg_left hy.2 (by omega))⟩
/-- What the law asks. -/
theorem least {l : List Pt} {p q r : Int} (hl : liT l = true) (he : liE l = 0) (hr : 1 ≤ r ∧ r ≤ 1000) (hp : -1048576 ≤ p ∧ p ≤ 1048576) (hq : -1048576 ≤ q ∧ q ≤ 1048576) :
    rsE l (liA l) (liB l) (liD l) = 0 ∧ rsE l p q r = 0 ∧ fitB (rsS l (liA l) (liB l) (liD l) l.length * IntKind.i64.wrap (r * r)) = true ∧ fitB (rsS l p q r l.length * liD l) = true ∧
    fitB (clip (rsS l p q r l.length * liD l) * liD l) = true ∧ decide (cmpI (clip (rsS l (liA l) (liB l) (liD l) l.length * IntKind.i64.wrap (r * r))) (clip (clip (rsS l p q r l.length * liD l) * liD l)) ≤ 0) = true := by
  obtain ⟨h1, h2⟩ := liE_0 he
  have hi := (ptE_0 h1).2.2
  have a1 := li_acc he
  have a2 : accB p q r = true := by unfold accB byB; simp; omega
  obtain ⟨bA, bB, bD⟩ := lit_f hl
  obtain ⟨h8, hb⟩ := lt_b hl
  have k1 := rs_b (K := 3840000000) a1 hi (fun m hm => by
    have b := hb m hm
    have p1 := prod_b (x := liD l) (y := (gPt l m).v) (A := 1280000) (B := 1000) bD (by omega)
    have p2 := prod_b (x := liB l) (y := (gPt l m).t) (A := 12800000) (B := 100) bB (by omega)
    omega) l.length (Nat.le_refl _)
  have k2 := rs_b (K := 106906176) a2 hi (fun m hm => by
    have b := hb m hm
    have p1 := prod_b (x := r) (y := (gPt l m).v) (A := 1000) (B := 1000) (by omega) (by omega)
    have p2 := prod_b (x := q) (y := (gPt l m).t) (A := 1048576) (B := 100) (by omega) (by omega)
    omega) l.length (Nat.le_refl _)
  have n1 := rsS_n l (liA l) (liB l) (liD l) l.length
  have n2 := rsS_n l p q r l.length
  have ts := two_sums (d := liD l) (r := r) a1 a2 hi
  obtain ⟨z1, z2⟩ := pl_eq a1 hi
  have e1 : plS l (liA l) (liB l) (liD l) l.length = 0 := by rw [z1]; unfold liA liB liD; grind
  have e2 : tmS l (liA l) (liB l) (liD l) l.length = 0 := by rw [z2]; unfold liA liB liD; grind
  rw [e1, e2] at ts
  have n3 := qS_n l (r * liA l - liD l * p) (r * liB l - liD l * q) l.length
  have rr := prod_b (x := r) (y := r) (A := 1000) (B := 1000) (by omega) (by omega)
  have rn := sq_n r
  have ew : IntKind.i64.wrap (r * r) = r * r := q64 (by omega) (by omega)
  rw [ew]
  generalize hRf : rsS l (liA l) (liB l) (liD l) l.length = Rf at *
  generalize hRg : rsS l p q r l.length = Rg at *
  generalize liD l = D at *
  have c1 : 0 ≤ Rf ∧ Rf ≤ 117964800000000000000 := by
    refine ⟨n1, ?_⟩
    have k1' : Rf ≤ 14745600000000000000 * (l.length : Int) := k1
    omega
  have c2 : 0 ≤ Rg ∧ Rg ≤ 91431443735543808 := by
    refine ⟨n2, ?_⟩
    have k2' : Rg ≤ 11428930466942976 * (l.length : Int) := k2
    omega
  have c3 := mul_up c1 (show 0 ≤ r * r ∧ r * r ≤ 1000000 by omega)
  have c4 := mul_up c2 (show 0 ≤ D ∧ D ≤ 1280000 by omega)
  have c5 := mul_up c4 (show 0 ≤ D ∧ D ≤ 1280000 by omega)
  have f1 : fits Rf := by unfold fits lo127 hi127; omega
  have f2 : fits Rg := by unfold fits lo127 hi127; omega
  have f3 : fits (Rf * (r * r)) := by unfold fits lo127 hi127; omega
  have f4 : fits (Rg * D) := by unfold fits lo127 hi127; omega
  have f5 : fits (Rg * D * D) := by unfold fits lo127 hi127; omega
  refine ⟨rsE_0 h1 a1 (by rw [hRf]; exact f1), rsE_0 h1 a2 (by rw [hRg]; exact f2), fit_yes f3, fit_yes f4, ?_, ?_⟩
  · rw [clip_yes f4]; exact fit_yes f5
  · rw [clip_yes f3, clip_yes f4, clip_yes f5]
    have e3 : Rg * D * D = D * D * Rg := by grind
    have e4 : Rf * (r * r) = r * r * Rf := by grind
    rw [e3, e4, ts]
    unfold cmpI
    simp only [Int.mul_zero, Int.add_zero]
    apply decide_eq_true
    (repeat' split) <;> omega
theorem rs_fit (l : List Pt) (a b d : Int) : fits (zL (rsE l a b d) (rsS l a b d l.length)) := by
  by_cases h : rsE l a b d = 0
  · rw [h, zL_0]
    unfold rsE at h
    split at h
    · rename_i h1; exact absurd h h1
    · split at h
      · omega
      · split at h
        · rename_i h3; exact fitB_p h3
        · omega
  · rw [zL_n h]; unfold fits lo127 hi127; omega
theorem liD_64 (l : List Pt) : I64 (zL (liE l) (liD l)) := by
  by_cases h : liE l = 0
  · rw [h, zL_0]
    have := (li_w (liE_0 h).1).2.2.2.2.2
    exact ⟨by omega, by omega⟩
  · rw [zL_n h]; exact ⟨by decide, by decide⟩

def ltt_h (a : Option Addr) (c : Nat) (l : List Pt) : Hint := .pl (.split (.perm [] .nil) (.pl (.inv (ltL l) fun x0 ↦ .split (.ix (.lst (0 : Nat) (x0 * (2 : Nat)) (Value.int .i64 (Pt.t (gPt l x0))) (.lst (0 : Nat) (x0 * (2 : Nat) + (1 : Nat)) (Value.int .i64 (Pt.v (gPt l x0))) (ho 1 2 (.cut [((31 : Nat), .bool (decide (Pt.t (gPt l x0) < 0) || (decide (Pt.t (gPt
 l x0) > 100) || (decide (Pt.v (gPt l x0) > 1000) || decide (Pt.v (gPt l x0) < (-1000 : Int))))))] (.ob 1 (.split (hl 10 (.lit .nil)) (.lit (.ob 1 (.lit (.lit (.split (hl 6 (.lit .nil)) (.lit (.ob 1 (.lit (.lit (.split (.lit (.lit (.lit .nil))) (.lit (.ob 1 (.lit (.lit .nil)))))))))))))))) (.split
 (.perm [] .nil) (.perm [] .nil))))))) (.perm [] .nil))))
theorem ltt_x (a : Option Addr) (c : Nat) (l : List Pt) : wpG Try.prog [] ([(a, cPt l)]) 400 29 [.slice a l.length c] (ltt_h a c l) ([]) (fun _ => .bool (liT l)) = ((decide ((↑(List.length l) : Int) > (8 : Int)) = true -> Value.bool false = Value.bool (liT l)) /\ (decide ((↑(List.length l) : Int) > (8 : Int)) = false -> (∃ x, ltI l x /\ Value.int .i64 0 = Value.int .i64 (↑x : Int) /\ True) /\ ∀ (x0 : Nat), ltI l x0 -> ∀ (junk : Nat -> Value), (decide ((↑x0 :
 Int) < (↑(List.length l) : Int)) = true -> (((0 : Int) ≤ (↑x0 : Int) /\ (↑x0 : Int) < (↑(List.length l) : Int)) /\ AOK a (List.length l)) /\ bk a = bk a /\ ofs a + x0 * (2 : Nat) = ofs a + x0 * (2 : Nat) /\ lgo (cPt l) (x0 * (2 : Nat)) = some (Value.int .i64 (Pt.t (gPt l x0))) /\ bk a = bk a /\ ofs
 a + x0 * (2 : Nat) + (1 : Nat) = ofs a + (x0 * (2 : Nat) + (1 : Nat)) /\ lgo (cPt l) (x0 * (2 : Nat) + (1 : Nat)) = some (Value.int .i64 (Pt.v (gPt l x0))) /\ ∀ (b : Nat), b = b /\ True /\ b = b /\ True /\ (b = b /\ (decide (Pt.t (gPt l x0) < 0) = true -> Value.bool true = Value.bool (decide (Pt.t
 (gPt l x0) < 0) || (decide (Pt.t (gPt l x0) > 100) || (decide (Pt.v (gPt l x0) > 1000) || decide (Pt.v (gPt l x0) < (-1000 : Int))))) /\ True) /\ (decide (Pt.t (gPt l x0) < 0) = false -> b = b /\ (decide (Pt.t (gPt l x0) > 100) = true -> Value.bool true = Value.bool (decide (Pt.t (gPt l x0) < 0) ||
 (decide (Pt.t (gPt l x0) > 100) || (decide (Pt.v (gPt l x0) > 1000) || decide (Pt.v (gPt l x0) < (-1000 : Int))))) /\ True) /\ (decide (Pt.t (gPt l x0) > 100) = false -> b = b /\ (decide (Pt.v (gPt l x0) > 1000) = true -> Value.bool true = Value.bool (decide (Pt.t (gPt l x0) < 0) || (decide (Pt.t
 (gPt l x0) > 100) || (decide (Pt.v (gPt l x0) > 1000) || decide (Pt.v (gPt l x0) < (-1000 : Int))))) /\ True) /\ (decide (Pt.v (gPt l x0) > 1000) = false -> b = b /\ Value.bool (decide (Pt.v (gPt l x0) < (-1000 : Int))) = Value.bool (decide (Pt.t (gPt l x0) < 0) || (decide (Pt.t (gPt l x0) > 100) ||
 (decide (Pt.v (gPt l x0) > 1000) || decide (Pt.v (gPt l x0) < (-1000 : Int))))) /\ True)))) /\ ∀ (junk : Nat -> Value), ((decide (Pt.t (gPt l x0) < 0) || (decide (Pt.t (gPt l x0) > 100) || (decide (Pt.v (gPt l x0) > 1000) || decide (Pt.v (gPt l x0) < (-1000 : Int))))) = true -> Value.bool false =
 Value.bool (liT l)) /\ ((decide (Pt.t (gPt l x0) < 0) || (decide (Pt.t (gPt l x0) > 100) || (decide (Pt.v (gPt l x0) > 1000) || decide (Pt.v (gPt l x0) < (-1000 : Int))))) = false -> ∃ y, ltI l y /\ List.length l - y < List.length l - x0 /\ Value.int .i64 (IntKind.i64.wrap ((↑x0 : Int) + (1 : Int)))
 = Value.int .i64 (↑y : Int) /\ True)) /\ (decide ((↑x0 : Int) < (↑(List.length l) : Int)) = false -> Value.bool true = Value.bool (liT l)))) := by kernel_rfl
set_option maxHeartbeats 4000000 in
theorem ltt_sp (a : Option Addr) (c : Nat) (l : List Pt) (hA : AOK a l.length) (hl : l.length ≤ 9223372036854775807) : SpecG Try.prog [] ([(a, cPt l)]) 29 #[.slice a l.length c] ([]) (fun _ => .bool (liT l)) := by
  refine specG_of (h := ltt_h a c l) (?_ : wpG Try.prog [] ([(a, cPt l)]) 400 29 [.slice a l.length c] (ltt_h a c l) ([]) (fun _ => .bool (liT l)))
  rw [ltt_x]
  (repeat' (first | with_reducible exact rfl | exact trivial | with_reducible assumption | exact cPt_len _ | exact cPt_one _ | exact cI_len _ | exact cI_one _ | exact (fun _ h => h) | exact (fun _ h => (List.not_mem_nil h).elim) | (with_reducible refine e1_in ?_) | (with_reducible refine e2_in ?_) | (with_reducible refine lx_in (Nat.le_of_ble_eq_true rfl) ?_) | (with_reducible refine rqx_rf ?_) | (with_reducible refine rqx_in ?_ ?_ ?_) | (with_reducible apply And.intro) | (with_reducible intro _)))
  all_goals (try simp only [Int.toNat_natCast] at *)
  all_goals (try simp only [li_r] at *)
  all_goals (first
    | (simp only [*, Bool.and_true, Bool.true_and, Bool.and_false, Bool.false_and, Bool.or_true, Bool.true_or, Bool.or_false, Bool.false_or, Bool.not_true, Bool.not_false, cond_true, cond_false]; done)
    | (exact ⟨0, ltI_0 _, rfl, trivial⟩)
    | (unfold liO; (first | (simp_all; done) | (refine congrArg Value.bool ?_; simp only [*, Bool.false_or])))
    | (rw [lt_n0 ‹_›])
    | (have hi := lt_n ‹_›; first | omega | exact hA | exact cPt_get0 hi | exact cPt_get1 hi | (rw [lt_n1 hi ‹_›]) | (have hx := ‹ltI _ _›; exact ⟨_, ltI_s hx hi ‹_›, (by show _ - (_ + 1) < _; omega), wr_n (by omega), trivial⟩))
    | (have hx := ‹ltI _ _›; rw [lt_y ‹_› hx (ge_n ‹_› hx.1)])
    | trace_state)
def lle_h (a : Option Addr) (c : Nat) (l : List Pt) (x y z : Int) : Hint := .specg [] [] [] [] (fun ads0 x ↦ Value.bool true) (.lit (.cut [((49 : Nat), .bool (!liT l || (decide (z < 1) || (decide (z > 1000) || (decide (x > 1048576) || (decide (x < (-1048576 : Int)) || (decide (y > 1048576) || decide (y < (-1048576 : Int)))))))))] (.specg [] [0] [cPt l] [] (fun ads0 x ↦
 Value.bool (liT l)) (.split (hl 22 (.lit .nil)) (.lit (.ob 1 (.lit (.lit (.split (hl 18 (.lit .nil)) (.lit (.ob 1 (.lit (.lit (.split (hl 14 (.lit .nil)) (.lit (.ob 1 (.lit (.lit (.split (hl 10 (.lit .nil)) (.lit (.ob 1 (.lit (.lit (.split (hl 6 (.lit .nil)) (.lit (.ob 1 (.lit (.lit (.split (.lit
 (.lit (.lit .nil))) (.lit (.ob 1 (.lit (.lit .nil))))))))))))))))))))))))))))))) (.split (.perm [] .nil) (.specg [] [0] [cPt l] [RowT.mk (59 : TypeId) (2 : Nat) (List.length l) (cPt l)] (fun ads0 ads ↦ Value.slice (Prod.fst (nthA ads (0 : Nat))) (List.length l) (Prod.snd (nthA ads (0 : Nat))))
 (.specg [] [2] [cPt l] [] (fun ads0 x ↦ fiV (liE l) (liA l) (liB l) (liD l)) (ho 3 3 (.pl (.split (.perm [] .nil) (.drawf [7] [0, 1, 2, 3] (.take 0 (.take 2 (ho 3 3 (.pl (.br (.specg [] [0] [cPt l] [RowT.mk (59 : TypeId) (2 : Nat) (List.length l) (cPt l)] (fun ads0 ads ↦ Value.slice (Prod.fst (nthA
 ads (0 : Nat))) (List.length l) (Prod.snd (nthA ads (0 : Nat)))) (.pl (.br (.specg [] [4] [cPt l] [] (fun ads0 x ↦ rsV l (zL (liE l) (liA l)) (zL (liE l) (liB l)) (zL (liE l) (liD l))) (.take 4 (.take 5 (.take 6 (.take 7 (.pl (.br (ho 5 2 (.take 9 (.drawf [7] (List.range 6) (.take 0 (.take 2 (ho 1 3
 (.pl (.br (.specg [] [0] [cPt l] [RowT.mk (59 : TypeId) (2 : Nat) (List.length l) (cPt l)] (fun ads0 ads ↦ Value.slice (Prod.fst (nthA ads (0 : Nat))) (List.length l) (Prod.snd (nthA ads (0 : Nat)))) (.pl (.br (.specg [] [6] [cPt l] [] (fun ads0 x_1 ↦ rsV l x y z) (.take 4 (.take 5 (.take 6 (.take 7
 (.pl (.br (ho 7 2 (.take 9 (.cut [((77 : Nat), .bool (rsE l (zL (liE l) (liA l)) (zL (liE l) (liB l)) (zL (liE l) (liD l)) != 0 || rsE l x y z != 0))] (.pl (.split (.lit (.lit .nil)) (.lit (.pl (.lit .nil))))) (.split (.perm [] .nil) (ho 5 2 (ho 1 2 (.specg [] [] [] [] (fun ads0 x ↦ Value.tuple #[W
 (clip (zL (rsE l (zL (liE l) (liA l)) (zL (liE l) (liB l)) (zL (liE l) (liD l))) (rsS l (zL (liE l) (liA l)) (zL (liE l) (liB l)) (zL (liE l) (liD l)) (List.length l)) * IntKind.i64.wrap (z * z))), .bool (fitB (zL (rsE l (zL (liE l) (liA l)) (zL (liE l) (liB l)) (zL (liE l) (liD l))) (rsS l (zL (liE
 l) (liA l)) (zL (liE l) (liB l)) (zL (liE l) (liD l)) (List.length l)) * IntKind.i64.wrap (z * z)))]) (ho 8 2 (ho 7 2 (.ob 3 (.specg [] [] [] [] (fun ads0 x_1 ↦ Value.tuple #[W (clip (zL (rsE l x y z) (rsS l x y z (List.length l)) * zL (liE l) (liD l))), .bool (fitB (zL (rsE l x y z) (rsS l x y z
 (List.length l)) * zL (liE l) (liD l)))]) (ho 9 2 (.cut [((100 : Nat), .bool (!fitB (zL (rsE l (zL (liE l) (liA l)) (zL (liE l) (liB l)) (zL (liE l) (liD l))) (rsS l (zL (liE l) (liA l)) (zL (liE l) (liB l)) (zL (liE l) (liD l)) (List.length l)) * IntKind.i64.wrap (z * z)) || !fitB (zL (rsE l x y z)
 (rsS l x y z (List.length l)) * zL (liE l) (liD l))))] (.split (.lit (.lit .nil)) (.lit (.lit .nil))) (.split (.perm [] .nil) (ho 9 2 (.ob 3 (.specg [] [] [] [] (fun ads0 x_1 ↦ Value.tuple #[W (clip (clip (zL (rsE l x y z) (rsS l x y z (List.length l)) * zL (liE l) (liD l)) * zL (liE l) (liD l))),
 .bool (fitB (clip (zL (rsE l x y z) (rsS l x y z (List.length l)) * zL (liE l) (liD l)) * zL (liE l) (liD l)))]) (ho 9 2 (.cut [((4 : Nat), .bool (fitB (clip (zL (rsE l x y z) (rsS l x y z (List.length l)) * zL (liE l) (liD l)) * zL (liE l) (liD l)) && decide (cmpI (clip (zL (rsE l (zL (liE l) (liA
 l)) (zL (liE l) (liB l)) (zL (liE l) (liD l))) (rsS l (zL (liE l) (liA l)) (zL (liE l) (liB l)) (zL (liE l) (liD l)) (List.length l)) * IntKind.i64.wrap (z * z))) (clip (clip (zL (rsE l x y z) (rsS l x y z (List.length l)) * zL (liE l) (liD l)) * zL (liE l) (liD l))) ≤ 0)))] (.split (ho 8 2 (.lit
 (ho 9 2 (.lit (.specg [] [] [] [] (fun ads0 x_1 ↦ Value.int .i64 (cmpI (clip (zL (rsE l (zL (liE l) (liA l)) (zL (liE l) (liB l)) (zL (liE l) (liD l))) (rsS l (zL (liE l) (liA l)) (zL (liE l) (liB l)) (zL (liE l) (liD l)) (List.length l)) * IntKind.i64.wrap (z * z))) (clip (clip (zL (rsE l x y z)
 (rsS l x y z (List.length l)) * zL (liE l) (liD l)) * zL (liE l) (liD l))))) (.lit (.lit .nil))))))) (hl 3 (.lit .nil))) (.perm [] .nil)))))))))))))))))))) .nil))))))) .nil))) .nil)))))))) .nil))))))) .nil))) .nil))))))))))))))
theorem lle_x (a : Option Addr) (c : Nat) (l : List Pt) (x y z : Int) : wpG Try.prog [] ([(a, cPt l)]) 400 9 [.slice a l.length c, .agg #[.int .i64 x, .int .i64 y, .int .i64 z]] (lle_h a c l x y z) ([]) (fun _ => .bool true) = (∀ (b : Nat), (SpecG Try.prog [] [] (10 : FuncId) #[] [] fun x ↦ Value.bool true) /\ (∀ (e : Ex), e ∈ [] -> e ∈ []) /\ (cPt l = cPt l /\ (SpecG Try.prog [] [(a, cPt l)] (29 : FuncId) #[Value.slice a (List.length l) c] [] fun x ↦ Value.bool (liT l)) /\ (∀ (e : Ex), e ∈ [] -> e ∈ []) /\ ((!liT l) = true
 -> Value.bool true = Value.bool (!liT l || (decide (z < 1) || (decide (z > 1000) || (decide (x > 1048576) || (decide (x < (-1048576 : Int)) || (decide (y > 1048576) || decide (y < (-1048576 : Int)))))))) /\ True) /\ ((!liT l) = false -> b = b /\ (decide (z < 1) = true -> Value.bool true = Value.bool
 (!liT l || (decide (z < 1) || (decide (z > 1000) || (decide (x > 1048576) || (decide (x < (-1048576 : Int)) || (decide (y > 1048576) || decide (y < (-1048576 : Int)))))))) /\ True) /\ (decide (z < 1) = false -> b = b /\ (decide (z > 1000) = true -> Value.bool true = Value.bool (!liT l || (decide (z
 < 1) || (decide (z > 1000) || (decide (x > 1048576) || (decide (x < (-1048576 : Int)) || (decide (y > 1048576) || decide (y < (-1048576 : Int)))))))) /\ True) /\ (decide (z > 1000) = false -> b = b /\ (decide (x > 1048576) = true -> Value.bool true = Value.bool (!liT l || (decide (z < 1) || (decide
 (z > 1000) || (decide (x > 1048576) || (decide (x < (-1048576 : Int)) || (decide (y > 1048576) || decide (y < (-1048576 : Int)))))))) /\ True) /\ (decide (x > 1048576) = false -> b = b /\ (decide (x < (-1048576 : Int)) = true -> Value.bool true = Value.bool (!liT l || (decide (z < 1) || (decide (z >
 1000) || (decide (x > 1048576) || (decide (x < (-1048576 : Int)) || (decide (y > 1048576) || decide (y < (-1048576 : Int)))))))) /\ True) /\ (decide (x < (-1048576 : Int)) = false -> b = b /\ (decide (y > 1048576) = true -> Value.bool true = Value.bool (!liT l || (decide (z < 1) || (decide (z >
 1000) || (decide (x > 1048576) || (decide (x < (-1048576 : Int)) || (decide (y > 1048576) || decide (y < (-1048576 : Int)))))))) /\ True) /\ (decide (y > 1048576) = false -> b = b /\ Value.bool (decide (y < (-1048576 : Int))) = Value.bool (!liT l || (decide (z < 1) || (decide (z > 1000) || (decide
 (x > 1048576) || (decide (x < (-1048576 : Int)) || (decide (y > 1048576) || decide (y < (-1048576 : Int)))))))) /\ True))))))) /\ ∀ (junk : Nat -> Value), ((!liT l || (decide (z < 1) || (decide (z > 1000) || (decide (x > 1048576) || (decide (x < (-1048576 : Int)) || (decide (y > 1048576) || decide
 (y < (-1048576 : Int)))))))) = true -> Value.bool true = Value.bool true) /\ ((!liT l || (decide (z < 1) || (decide (z > 1000) || (decide (x > 1048576) || (decide (x < (-1048576 : Int)) || (decide (y > 1048576) || decide (y < (-1048576 : Int)))))))) = false -> cPt l = cPt l /\ (SpecG Try.prog []
 [(a, cPt l)] (21 : FuncId) #[Value.slice a (List.length l) c] [RowT.mk (59 : TypeId) (2 : Nat) (List.length l) (cPt l)] fun ads ↦ Value.slice (Prod.fst (nthA ads (0 : Nat))) (List.length l) (Prod.snd (nthA ads (0 : Nat)))) /\ (∀ (e : Ex), e ∈ [] -> e ∈ []) /\ ∀ (a_1 : Option Addr) (cap : Nat), AOK
 a_1 (List.length l) -> List.length l ≤ cap -> cPt l = cPt l /\ (SpecG Try.prog [] [(a_1, cPt l)] (20 : FuncId) #[Value.slice a_1 (List.length l) cap] [] fun x ↦ fiV (liE l) (liA l) (liB l) (liD l)) /\ (∀ (e : Ex), e ∈ [] -> e ∈ []) /\ ∀ (b_1 : Nat), e2 b_1 3 (((liE l != 0) = true -> Value.bool true
 = Value.bool true) /\ ((liE l != 0) = false -> e1 b_1 3 (((∀ (b : Nat), True) /\ True) /\ (cPt l = cPt l /\ (SpecG Try.prog [] [(a, cPt l)] (21 : FuncId) #[Value.slice a (List.length l) c] [RowT.mk (59 : TypeId) (2 : Nat) (List.length l) (cPt l)] fun ads ↦ Value.slice (Prod.fst (nthA ads (0 : Nat)))
 (List.length l) (Prod.snd (nthA ads (0 : Nat)))) /\ (∀ (e : Ex), e ∈ [] -> e ∈ []) /\ ∀ (a_2 : Option Addr) (cap : Nat), AOK a_2 (List.length l) -> List.length l ≤ cap -> ((∀ (b : Nat), True) /\ True) /\ (cPt l = cPt l /\ (SpecG Try.prog [] [(a_2, cPt l)] (25 : FuncId) #[Value.slice a_2 (List.length
 l) cap, .agg #[Value.int .i64 (zL (liE l) (liA l)), .int .i64 (zL (liE l) (liB l)), .int .i64 (zL (liE l) (liD l))]] [] fun x ↦ rsV l (zL (liE l) (liA l)) (zL (liE l) (liB l)) (zL (liE l) (liD l))) /\ (∀ (e : Ex), e ∈ [] -> e ∈ []) /\ ((∀ (b : Nat), True) /\ True) /\ ∀ (b_2 : Nat), (True /\ True) /\
 (b_2 = b_2 /\ True /\ b_2 = b_2 /\ True /\ e1 b 3 (((∀ (b : Nat), True) /\ True) /\ (cPt l = cPt l /\ (SpecG Try.prog [] [(a, cPt l)] (21 : FuncId) #[Value.slice a (List.length l) c] [RowT.mk (59 : TypeId) (2 : Nat) (List.length l) (cPt l)] fun ads ↦ Value.slice (Prod.fst (nthA ads (0 : Nat)))
 (List.length l) (Prod.snd (nthA ads (0 : Nat)))) /\ (∀ (e : Ex), e ∈ [] -> e ∈ []) /\ ∀ (a : Option Addr) (cap : Nat), AOK a (List.length l) -> List.length l ≤ cap -> ((∀ (b : Nat), True) /\ True) /\ (cPt l = cPt l /\ (SpecG Try.prog [] [(a, cPt l)] (25 : FuncId) #[Value.slice a (List.length l) cap,
 .agg #[Value.int .i64 x, .int .i64 y, .int .i64 z]] [] fun x_9 ↦ rsV l x y z) /\ (∀ (e : Ex), e ∈ [] -> e ∈ []) /\ ((∀ (b : Nat), True) /\ True) /\ ∀ (b_3 : Nat), (True /\ True) /\ (b_3 = b_3 /\ True /\ b_3 = b_3 /\ True /\ (((rsE l (zL (liE l) (liA l)) (zL (liE l) (liB l)) (zL (liE l) (liD l)) !=
 0) = true -> Value.bool true = Value.bool (rsE l (zL (liE l) (liA l)) (zL (liE l) (liB l)) (zL (liE l) (liD l)) != 0 || rsE l x y z != 0) /\ True) /\ ((rsE l (zL (liE l) (liA l)) (zL (liE l) (liB l)) (zL (liE l) (liD l)) != 0) = false -> Value.bool (rsE l x y z != 0) = Value.bool (rsE l (zL (liE l)
 (liA l)) (zL (liE l) (liB l)) (zL (liE l) (liD l)) != 0 || rsE l x y z != 0) /\ True)) /\ ∀ (junk : Nat -> Value), ((rsE l (zL (liE l) (liA l)) (zL (liE l) (liB l)) (zL (liE l) (liD l)) != 0 || rsE l x y z != 0) = true -> Value.bool false = Value.bool true) /\ ((rsE l (zL (liE l) (liA l)) (zL (liE
 l) (liB l)) (zL (liE l) (liD l)) != 0 || rsE l x y z != 0) = false -> b_2 = b_2 /\ b_2 = b_2 /\ b = b /\ b = b /\ (SpecG Try.prog [] [] (30 : FuncId) #[W (zL (rsE l (zL (liE l) (liA l)) (zL (liE l) (liB l)) (zL (liE l) (liD l))) (rsS l (zL (liE l) (liA l)) (zL (liE l) (liB l)) (zL (liE l) (liD l))
 (List.length l))), .int .i64 (IntKind.i64.wrap (z * z))] [] fun x ↦ Value.tuple #[W (clip (zL (rsE l (zL (liE l) (liA l)) (zL (liE l) (liB l)) (zL (liE l) (liD l))) (rsS l (zL (liE l) (liA l)) (zL (liE l) (liB l)) (zL (liE l) (liD l)) (List.length l)) * IntKind.i64.wrap (z * z))), .bool (fitB (zL
 (rsE l (zL (liE l) (liA l)) (zL (liE l) (liB l)) (zL (liE l) (liD l))) (rsS l (zL (liE l) (liA l)) (zL (liE l) (liB l)) (zL (liE l) (liD l)) (List.length l)) * IntKind.i64.wrap (z * z)))]) /\ (∀ (e : Ex), e ∈ [] -> e ∈ []) /\ ∀ (b : Nat), b = b /\ True /\ b = b /\ True /\ b_3 = b_3 /\ b_3 = b_3 /\
 b_1 = b_1 /\ (SpecG Try.prog [] [] (30 : FuncId) #[W (zL (rsE l x y z) (rsS l x y z (List.length l))), .int .i64 (zL (liE l) (liD l))] [] fun x_10 ↦ Value.tuple #[W (clip (zL (rsE l x y z) (rsS l x y z (List.length l)) * zL (liE l) (liD l))), .bool (fitB (zL (rsE l x y z) (rsS l x y z (List.length
 l)) * zL (liE l) (liD l)))]) /\ (∀ (e : Ex), e ∈ [] -> e ∈ []) /\ ∀ (b_4 : Nat), b_4 = b_4 /\ True /\ b_4 = b_4 /\ True /\ (((!fitB (zL (rsE l (zL (liE l) (liA l)) (zL (liE l) (liB l)) (zL (liE l) (liD l))) (rsS l (zL (liE l) (liA l)) (zL (liE l) (liB l)) (zL (liE l) (liD l)) (List.length l)) *
 IntKind.i64.wrap (z * z))) = true -> Value.bool true = Value.bool (!fitB (zL (rsE l (zL (liE l) (liA l)) (zL (liE l) (liB l)) (zL (liE l) (liD l))) (rsS l (zL (liE l) (liA l)) (zL (liE l) (liB l)) (zL (liE l) (liD l)) (List.length l)) * IntKind.i64.wrap (z * z)) || !fitB (zL (rsE l x y z) (rsS l x y
 z (List.length l)) * zL (liE l) (liD l))) /\ True) /\ ((!fitB (zL (rsE l (zL (liE l) (liA l)) (zL (liE l) (liB l)) (zL (liE l) (liD l))) (rsS l (zL (liE l) (liA l)) (zL (liE l) (liB l)) (zL (liE l) (liD l)) (List.length l)) * IntKind.i64.wrap (z * z))) = false -> (Value.bool !fitB (zL (rsE l x y z)
 (rsS l x y z (List.length l)) * zL (liE l) (liD l))) = Value.bool (!fitB (zL (rsE l (zL (liE l) (liA l)) (zL (liE l) (liB l)) (zL (liE l) (liD l))) (rsS l (zL (liE l) (liA l)) (zL (liE l) (liB l)) (zL (liE l) (liD l)) (List.length l)) * IntKind.i64.wrap (z * z)) || !fitB (zL (rsE l x y z) (rsS l x y
 z (List.length l)) * zL (liE l) (liD l))) /\ True)) /\ ∀ (junk : Nat -> Value), ((!fitB (zL (rsE l (zL (liE l) (liA l)) (zL (liE l) (liB l)) (zL (liE l) (liD l))) (rsS l (zL (liE l) (liA l)) (zL (liE l) (liB l)) (zL (liE l) (liD l)) (List.length l)) * IntKind.i64.wrap (z * z)) || !fitB (zL (rsE l x
 y z) (rsS l x y z (List.length l)) * zL (liE l) (liD l))) = true -> Value.bool false = Value.bool true) /\ ((!fitB (zL (rsE l (zL (liE l) (liA l)) (zL (liE l) (liB l)) (zL (liE l) (liD l))) (rsS l (zL (liE l) (liA l)) (zL (liE l) (liB l)) (zL (liE l) (liD l)) (List.length l)) * IntKind.i64.wrap (z *
 z)) || !fitB (zL (rsE l x y z) (rsS l x y z (List.length l)) * zL (liE l) (liD l))) = false -> b_4 = b_4 /\ b_4 = b_4 /\ b_1 = b_1 /\ (SpecG Try.prog [] [] (30 : FuncId) #[W (clip (zL (rsE l x y z) (rsS l x y z (List.length l)) * zL (liE l) (liD l))), .int .i64 (zL (liE l) (liD l))] [] fun x_11 ↦
 Value.tuple #[W (clip (clip (zL (rsE l x y z) (rsS l x y z (List.length l)) * zL (liE l) (liD l)) * zL (liE l) (liD l))), .bool (fitB (clip (zL (rsE l x y z) (rsS l x y z (List.length l)) * zL (liE l) (liD l)) * zL (liE l) (liD l)))]) /\ (∀ (e : Ex), e ∈ [] -> e ∈ []) /\ b_4 = b_4 /\ True /\ b_4 =
 b_4 /\ True /\ ((fitB (clip (zL (rsE l x y z) (rsS l x y z (List.length l)) * zL (liE l) (liD l)) * zL (liE l) (liD l)) = true -> b = b /\ b = b /\ b_4 = b_4 /\ b_4 = b_4 /\ (SpecG Try.prog [] [] (31 : FuncId) #[W (clip (zL (rsE l (zL (liE l) (liA l)) (zL (liE l) (liB l)) (zL (liE l) (liD l))) (rsS
 l (zL (liE l) (liA l)) (zL (liE l) (liB l)) (zL (liE l) (liD l)) (List.length l)) * IntKind.i64.wrap (z * z))), W (clip (clip (zL (rsE l x y z) (rsS l x y z (List.length l)) * zL (liE l) (liD l)) * zL (liE l) (liD l)))] [] fun x_12 ↦ Value.int .i64 (cmpI (clip (zL (rsE l (zL (liE l) (liA l)) (zL
 (liE l) (liB l)) (zL (liE l) (liD l))) (rsS l (zL (liE l) (liA l)) (zL (liE l) (liB l)) (zL (liE l) (liD l)) (List.length l)) * IntKind.i64.wrap (z * z))) (clip (clip (zL (rsE l x y z) (rsS l x y z (List.length l)) * zL (liE l) (liD l)) * zL (liE l) (liD l))))) /\ (∀ (e : Ex), e ∈ [] -> e ∈ []) /\
 Value.bool (decide (cmpI (clip (zL (rsE l (zL (liE l) (liA l)) (zL (liE l) (liB l)) (zL (liE l) (liD l))) (rsS l (zL (liE l) (liA l)) (zL (liE l) (liB l)) (zL (liE l) (liD l)) (List.length l)) * IntKind.i64.wrap (z * z))) (clip (clip (zL (rsE l x y z) (rsS l x y z (List.length l)) * zL (liE l) (liD
 l)) * zL (liE l) (liD l))) ≤ 0)) = Value.bool (fitB (clip (zL (rsE l x y z) (rsS l x y z (List.length l)) * zL (liE l) (liD l)) * zL (liE l) (liD l)) && decide (cmpI (clip (zL (rsE l (zL (liE l) (liA l)) (zL (liE l) (liB l)) (zL (liE l) (liD l))) (rsS l (zL (liE l) (liA l)) (zL (liE l) (liB l)) (zL
 (liE l) (liD l)) (List.length l)) * IntKind.i64.wrap (z * z))) (clip (clip (zL (rsE l x y z) (rsS l x y z (List.length l)) * zL (liE l) (liD l)) * zL (liE l) (liD l))) ≤ 0)) /\ True) /\ (fitB (clip (zL (rsE l x y z) (rsS l x y z (List.length l)) * zL (liE l) (liD l)) * zL (liE l) (liD l)) = false ->
 Value.bool false = Value.bool (fitB (clip (zL (rsE l x y z) (rsS l x y z (List.length l)) * zL (liE l) (liD l)) * zL (liE l) (liD l)) && decide (cmpI (clip (zL (rsE l (zL (liE l) (liA l)) (zL (liE l) (liB l)) (zL (liE l) (liD l))) (rsS l (zL (liE l) (liA l)) (zL (liE l) (liB l)) (zL (liE l) (liD l))
 (List.length l)) * IntKind.i64.wrap (z * z))) (clip (clip (zL (rsE l x y z) (rsS l x y z (List.length l)) * zL (liE l) (liD l)) * zL (liE l) (liD l))) ≤ 0)) /\ True)) /\ ∀ (junk : Nat -> Value), .bool (fitB (clip (zL (rsE l x y z) (rsS l x y z (List.length l)) * zL (liE l) (liD l)) * zL (liE l) (liD
 l)) && decide (cmpI (clip (zL (rsE l (zL (liE l) (liA l)) (zL (liE l) (liB l)) (zL (liE l) (liD l))) (rsS l (zL (liE l) (liA l)) (zL (liE l) (liB l)) (zL (liE l) (liD l)) (List.length l)) * IntKind.i64.wrap (z * z))) (clip (clip (zL (rsE l x y z) (rsS l x y z (List.length l)) * zL (liE l) (liD l)) *
 zL (liE l) (liD l))) ≤ 0)) = Value.bool true))) /\ True) /\ True) /\ True)) /\ True) /\ True) /\ True))))) := by kernel_rfl
set_option maxHeartbeats 4000000 in
theorem lle_sp (a : Option Addr) (c : Nat) (l : List Pt) (x y z : Int) (hA : AOK a l.length) (hl : l.length ≤ 9223372036854775807) : SpecG Try.prog [] ([(a, cPt l)]) 9 #[.slice a l.length c, .agg #[.int .i64 x, .int .i64 y, .int .i64 z]] ([]) (fun _ => .bool true) := by
  refine specG_of (h := lle_h a c l x y z) (?_ : wpG Try.prog [] ([(a, cPt l)]) 400 9 [.slice a l.length c, .agg #[.int .i64 x, .int .i64 y, .int .i64 z]] (lle_h a c l x y z) ([]) (fun _ => .bool true))
  rw [lle_x]
  (repeat' (first | with_reducible exact rfl | exact trivial | with_reducible assumption | (with_reducible exact law_sp) | (with_reducible exact ltt_sp _ _ _ hA hl) | (with_reducible exact ofl_sp _ _ _ hA (by have := (lt_b (show liT l = true from by first | assumption | (have hh := ‹(!liT l || _) = false›; simp at hh; exact hh.1))).1; omega)) | (with_reducible exact lin_sp _ _ _ (by first | exact hA | assumption | exact aok_at _ _ _) hl) | (with_reducible exact rsp_sp _ _ _ _ _ _ (by first | exact hA | assumption | exact aok_at _ _ _) hl) | (with_reducible exact wsc_g _ _ (by first | exact rs_fit _ _ _ _ | exact fits_clip _) (by first | exact i64w _ | exact liD_64 _)) | (with_reducible exact wcm_g _ _ (fits_clip _) (fits_clip _)) | exact cPt_len _ | exact cPt_one _ | exact cI_len _ | exact cI_one _ | exact (fun _ h => h) | exact (fun _ h => (List.not_mem_nil h).elim) | (with_reducible refine e1_in ?_) | (with_reducible refine e2_in ?_) | (with_reducible refine lx_in (Nat.le_of_ble_eq_true rfl) ?_) | (with_reducible refine rqx_rf ?_) | (with_reducible refine rqx_in ?_ ?_ ?_) | (with_reducible apply And.intro) | (with_reducible intro _)))
  all_goals (first | rfl | exact aok_at _ _ _ | (simp only [*, Bool.and_true, Bool.true_and, Bool.and_false, Bool.false_and, Bool.or_true, Bool.true_or, Bool.or_false, Bool.false_or, Bool.not_true, Bool.not_false, cond_true, cond_false]; done) | (simp; done) | (simp at *; done) | (have hh := ‹(!liT l || _) = false›; simp at hh; have he := ‹(liE l != 0) = false›; have he2 : liE l = 0 := (by simpa using he); obtain ⟨g1, g2, g3, g4, g5, g6⟩ := least (p := x) (q := y) (r := z) hh.1 he2 (by omega) (by omega) (by omega); simp only [he2, zL_0, g1, g2] at *; simp_all; done) | omega | trace_state)
end Go.Proofs.Ytjmfhcloicembaa
