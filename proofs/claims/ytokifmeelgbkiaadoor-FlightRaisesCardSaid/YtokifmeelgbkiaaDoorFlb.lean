/- Layer 32 (flight): the place at a time, the places of a path, of both; the other side of the pitch. -/
import Derived.Test.YtokifmeelgbkiaaDoorVz
import Derived.KernelRfl
import Derived.Test.YtokifmeelgbkiaaDoorProg
import Derived.Test.YtokifmeelgbkiaaDoorCma
import Derived.Test.YtokifmeelgbkiaaDoorCmar
import Derived.Test.YtokifmeelgbkiaaDoorCmb
import Derived.Test.YtokifmeelgbkiaaDoorCmbr
import Derived.Test.YtokifmeelgbkiaaDoorLsa
import Derived.Test.YtokifmeelgbkiaaDoorLsar
import Derived.Test.YtokifmeelgbkiaaDoorFla
import Derived.Test.YtokifmeelgbkiaaDoorFlar
import Derived.Test.YtokifmeelgbkiaaDoorExq
import Derived.Test.YtokifmeelgbkiaaDoorExqr
set_option linter.unusedSimpArgs false
set_option linter.unusedVariables false
set_option maxRecDepth 100000
namespace Go.Proofs.YtokifmeelgbkiaaDoor
open Go.RowKit


/-- The place at a time: the first error of the three lines. -/
def faE (x1 y1 d1 x2 y2 d2 x3 y3 d3 : Int) (t : Int) : Int := if atE x1 y1 d1 t ≠ 0 then atE x1 y1 d1 t else if atE x2 y2 d2 t ≠ 0 then atE x2 y2 d2 t else atE x3 y3 d3 t
def faZ (x3 y3 d3 t : Int) : Int := IntKind.i64.wrap (atV x3 y3 d3 t - unI (rsZ t 0))
def faV (x1 y1 d1 x2 y2 d2 x3 y3 d3 : Int) (t : Int) : Value := .tuple #[.int .i64 (zL (faE x1 y1 d1 x2 y2 d2 x3 y3 d3 t) (atV x1 y1 d1 t)), .int .i64 (zL (faE x1 y1 d1 x2 y2 d2 x3 y3 d3 t) (atV x2 y2 d2 t)), .int .i64 (zL (faE x1 y1 d1 x2 y2 d2 x3 y3 d3 t) (faZ x3 y3 d3 t)), .int .i64 (faE x1 y1 d1 x2 y2 d2 x3 y3 d3 t)]
theorem fa_e {e : Int} {x y z : Int} (h : ¬ e = 0) : Value.tuple #[.int .i64 0, .int .i64 0, .int .i64 0, .int .i64 e] = .tuple #[.int .i64 (zL e x), .int .i64 (zL e y), .int .i64 (zL e z), .int .i64 e] := by simp only [zL_n h]
theorem ne_t {x : Int} (h : (x != 0) = true) : ¬ x = 0 := by simpa using h
theorem ne_f {x : Int} (h : (x != 0) = false) : x = 0 := by simpa using h
theorem fa_1 {x1 y1 d1 x2 y2 d2 x3 y3 d3 : Int} {t : Int} (h : (atE x1 y1 d1 t != 0) = true) : Value.tuple #[.int .i64 0, .int .i64 0, .int .i64 0, .int .i64 (atE x1 y1 d1 t)] = faV x1 y1 d1 x2 y2 d2 x3 y3 d3 t := by
  have e : (faE x1 y1 d1 x2 y2 d2 x3 y3 d3 t) = atE x1 y1 d1 t := by unfold faE; rw [if_pos (ne_t h)]
  unfold faV
  rw [e]
  exact fa_e (ne_t h)
theorem fa_2 {x1 y1 d1 x2 y2 d2 x3 y3 d3 : Int} {t : Int} (h : (atE x1 y1 d1 t != 0) = false) (h2 : (atE x2 y2 d2 t != 0) = true) : Value.tuple #[.int .i64 0, .int .i64 0, .int .i64 0, .int .i64 (atE x2 y2 d2 t)] = faV x1 y1 d1 x2 y2 d2 x3 y3 d3 t := by
  have e : (faE x1 y1 d1 x2 y2 d2 x3 y3 d3 t) = atE x2 y2 d2 t := by unfold faE; rw [if_neg (by simp [ne_f h]), if_pos (ne_t h2)]
  unfold faV
  rw [e]
  exact fa_e (ne_t h2)
theorem fa_3 {x1 y1 d1 x2 y2 d2 x3 y3 d3 : Int} {t : Int} (h : (atE x1 y1 d1 t != 0) = false) (h2 : (atE x2 y2 d2 t != 0) = false) (h3 : (atE x3 y3 d3 t != 0) = true) : Value.tuple #[.int .i64 0, .int .i64 0, .int .i64 0, .int .i64 (atE x3 y3 d3 t)] = faV x1 y1 d1 x2 y2 d2 x3 y3 d3 t := by
  have e : (faE x1 y1 d1 x2 y2 d2 x3 y3 d3 t) = atE x3 y3 d3 t := by unfold faE; rw [if_neg (by simp [ne_f h]), if_neg (by simp [ne_f h2])]
  unfold faV
  rw [e]
  exact fa_e (ne_t h3)
theorem fa_4 {x1 y1 d1 x2 y2 d2 x3 y3 d3 : Int} {t : Int} (h : (atE x1 y1 d1 t != 0) = false) (h2 : (atE x2 y2 d2 t != 0) = false) (h3 : (atE x3 y3 d3 t != 0) = false) : Value.tuple #[.int .i64 (atV x1 y1 d1 t), .int .i64 (atV x2 y2 d2 t), .int .i64 (IntKind.i64.wrap (atV x3 y3 d3 t - unI (rsZ t 0))), .int .i64 0] = faV x1 y1 d1 x2 y2 d2 x3 y3 d3 t := by
  have e : (faE x1 y1 d1 x2 y2 d2 x3 y3 d3 t) = 0 := by unfold faE; rw [if_neg (by simp [ne_f h]), if_neg (by simp [ne_f h2])]; exact ne_f h3
  unfold faV
  rw [e]
  simp only [zL_0]
  rfl
theorem at_t {x y d t : Int} (h : (atE x y d t != 0) = false) : tiB t = true := by
  have h := ne_f h
  unfold atE at h
  split at h
  · split at h
    · assumption
    · omega
  · omega
theorem gr_z {x y d t : Int} (h : (atE x y d t != 0) = false) : IntKind.i64.wrap (IntKind.i64.wrap (981 * t) * t) = rsZ t 0 := by
  have h := at_t h
  rw [← rsZ_w (z := 0) h (by decide)]
  unfold tiB at h
  simp at h
  have p := prod_b (x := t) (y := t) (A := 8000) (B := 8000) (by omega) (by omega)
  have q := sq_n t
  have e : 981 * t * t = 981 * (t * t) := by rw [Int.mul_assoc]
  rw [q64 (x := 981 * t) (by omega) (by omega), q64 (x := 981 * t * t) (by rw [e]; omega) (by rw [e]; omega), Int.zero_mul, q64 (x := 0) (by omega) (by omega), Int.zero_add, q64 (by rw [e]; omega) (by rw [e]; omega)]
theorem gr_b (t : Int) : 0 ≤ rsZ t 0 ∧ rsZ t 0 ≤ 1000000000000000 := rnea_b (Int.le_refl _)

def fat_h (x1 y1 d1 x2 y2 d2 x3 y3 d3 : Int) (t : Int) : Hint := ho 0 9 (.rounds 64 (.lit (.pl (ho 2 6 (.specg [] [] [] [] (fun ads0 x ↦ Value.tuple #[Value.int .i64 (atV x1 y1 d1 t), .int .i64 (atE x1 y1 d1 t)]) (.pl (.ob 1 (.pl (.split (.perm [] .nil) (.lit (.pl (ho 3 6 (.specg [] [] [] [] (fun ads0 x ↦ Value.tuple #[Value.int .i64 (atV x2 y2 d2 t), .int .i64
 (atE x2 y2 d2 t)]) (.pl (.ob 1 (.pl (.split (.perm [] .nil) (.lit (.pl (ho 4 6 (.specg [] [] [] [] (fun ads0 x ↦ Value.tuple #[Value.int .i64 (atV x3 y3 d3 t), .int .i64 (atE x3 y3 d3 t)]) (.pl (.ob 1 (.pl (.split (.perm [] .nil) (.lit (.draw [0, 1, 2, 3, 4] none [0, 1, 2, 3, 4] (.take 0 (.pl (.take
 1 (.ob 1 (.take 2 (.pl (.take 3 (.ob 1 (.take 4 (.pl (.take 5 (.ob 1 (.take 6 (.pl (.br (.specg [] [] [] [] (fun ads0 x ↦ Value.int .i64 (rsZ t (0 : Int))) (.pl (.br (.specg [] [] [] [] (fun ads0 x ↦ Value.int .i64 (unI (rsZ t (0 : Int)))) (.take 9 (.take 10 (.take 11 (.take 12 (.take 13 (.perm []
 .nil))))))) .nil))) .nil))))))))))))))))))))))))))))))))))))))))))
theorem fat_x (x1 y1 d1 x2 y2 d2 x3 y3 d3 : Int) (t : Int) : wpG Tryd.prog [] ([]) 400 17 [.agg #[.int .i64 x1, .int .i64 y1, .int .i64 d1, .int .i64 x2, .int .i64 y2, .int .i64 d2, .int .i64 x3, .int .i64 y3, .int .i64 d3], .int .i64 t] (fat_h x1 y1 d1 x2 y2 d2 x3 y3 d3 t) ([]) (fun _ => faV x1 y1 d1 x2 y2 d2 x3 y3 d3 t) = (∀ (b b_1 : Nat), e1 b 9 (∀ (b : Nat), e2 b 3 (e1 b 3 ((SpecG Tryd.prog [] [] (42 : FuncId) #[Value.agg #[Value.int .i64 x1, .int .i64 y1, .int .i64 d1], .int .i64 t] [] fun x ↦ Value.tuple #[Value.int .i64 (atV x1 y1 d1 t), .int .i64 (atE x1 y1 d1 t)]) /\ (∀ (e : Ex), e ∈ [] -> e ∈ []) /\ b_1 = b_1 /\
 True /\ ((atE x1 y1 d1 t != 0) = true -> Value.tuple (Array.mk [.int .i64 0, .int .i64 0, .int .i64 0, .int .i64 (atE x1 y1 d1 t)]) = Value.tuple (Array.mk [.int .i64 (zL (faE x1 y1 d1 x2 y2 d2 x3 y3 d3 t) (atV x1 y1 d1 t)), .int .i64 (zL (faE x1 y1 d1 x2 y2 d2 x3 y3 d3 t) (atV x2 y2 d2 t)), .int
 .i64 (zL (faE x1 y1 d1 x2 y2 d2 x3 y3 d3 t) (faZ x3 y3 d3 t)), .int .i64 (faE x1 y1 d1 x2 y2 d2 x3 y3 d3 t)])) /\ ((atE x1 y1 d1 t != 0) = false -> ∀ (b : Nat), e2 b 3 (e1 b 3 ((SpecG Tryd.prog [] [] (42 : FuncId) #[Value.agg #[Value.int .i64 x2, .int .i64 y2, .int .i64 d2], .int .i64 t] [] fun x ↦
 Value.tuple #[Value.int .i64 (atV x2 y2 d2 t), .int .i64 (atE x2 y2 d2 t)]) /\ (∀ (e : Ex), e ∈ [] -> e ∈ []) /\ b_1 = b_1 /\ True /\ ((atE x2 y2 d2 t != 0) = true -> Value.tuple (Array.mk [.int .i64 0, .int .i64 0, .int .i64 0, .int .i64 (atE x2 y2 d2 t)]) = Value.tuple (Array.mk [.int .i64 (zL
 (faE x1 y1 d1 x2 y2 d2 x3 y3 d3 t) (atV x1 y1 d1 t)), .int .i64 (zL (faE x1 y1 d1 x2 y2 d2 x3 y3 d3 t) (atV x2 y2 d2 t)), .int .i64 (zL (faE x1 y1 d1 x2 y2 d2 x3 y3 d3 t) (faZ x3 y3 d3 t)), .int .i64 (faE x1 y1 d1 x2 y2 d2 x3 y3 d3 t)])) /\ ((atE x2 y2 d2 t != 0) = false -> ∀ (b : Nat), e2 b 3 (e1 b
 3 ((SpecG Tryd.prog [] [] (42 : FuncId) #[Value.agg #[Value.int .i64 x3, .int .i64 y3, .int .i64 d3], .int .i64 t] [] fun x ↦ Value.tuple #[Value.int .i64 (atV x3 y3 d3 t), .int .i64 (atE x3 y3 d3 t)]) /\ (∀ (e : Ex), e ∈ [] -> e ∈ []) /\ b_1 = b_1 /\ True /\ ((atE x3 y3 d3 t != 0) = true ->
 Value.tuple (Array.mk [.int .i64 0, .int .i64 0, .int .i64 0, .int .i64 (atE x3 y3 d3 t)]) = Value.tuple (Array.mk [.int .i64 (zL (faE x1 y1 d1 x2 y2 d2 x3 y3 d3 t) (atV x1 y1 d1 t)), .int .i64 (zL (faE x1 y1 d1 x2 y2 d2 x3 y3 d3 t) (atV x2 y2 d2 t)), .int .i64 (zL (faE x1 y1 d1 x2 y2 d2 x3 y3 d3 t)
 (faZ x3 y3 d3 t)), .int .i64 (faE x1 y1 d1 x2 y2 d2 x3 y3 d3 t)])) /\ ((atE x3 y3 d3 t != 0) = false -> b_1 = b_1 /\ b_1 = b_1 /\ b_1 = b_1 /\ True /\ ((SpecG Tryd.prog [] [] (11 : FuncId) #[Value.int .i64 t, .int .i64 0] [] fun x ↦ Value.int .i64 (rsZ t (0 : Int))) /\ (∀ (e : Ex), e ∈ [] -> e ∈ [])
 /\ True /\ ((SpecG Tryd.prog [] [] (29 : FuncId) #[Value.int .i64 (rsZ t (0 : Int))] [] fun x ↦ Value.int .i64 (unI (rsZ t (0 : Int)))) /\ (∀ (e : Ex), e ∈ [] -> e ∈ []) /\ Value.tuple (Array.mk [.int .i64 (atV x1 y1 d1 t), .int .i64 (atV x2 y2 d2 t), .int .i64 (IntKind.i64.wrap (atV x3 y3 d3 t - unI
 (rsZ t (0 : Int)))), .int .i64 0]) = Value.tuple (Array.mk [.int .i64 (zL (faE x1 y1 d1 x2 y2 d2 x3 y3 d3 t) (atV x1 y1 d1 t)), .int .i64 (zL (faE x1 y1 d1 x2 y2 d2 x3 y3 d3 t) (atV x2 y2 d2 t)), .int .i64 (zL (faE x1 y1 d1 x2 y2 d2 x3 y3 d3 t) (faZ x3 y3 d3 t)), .int .i64 (faE x1 y1 d1 x2 y2 d2 x3
 y3 d3 t)])) /\ True) /\ True))))))))))) := by kernel_rfl
set_option maxHeartbeats 4000000 in
theorem fat_sp (x1 y1 d1 x2 y2 d2 x3 y3 d3 : Int) (t : Int)  : SpecG Tryd.prog [] ([]) 17 #[.agg #[.int .i64 x1, .int .i64 y1, .int .i64 d1, .int .i64 x2, .int .i64 y2, .int .i64 d2, .int .i64 x3, .int .i64 y3, .int .i64 d3], .int .i64 t] ([]) (fun _ => faV x1 y1 d1 x2 y2 d2 x3 y3 d3 t) := by
  refine specG_of (h := fat_h x1 y1 d1 x2 y2 d2 x3 y3 d3 t) (?_ : wpG Tryd.prog [] ([]) 400 17 [.agg #[.int .i64 x1, .int .i64 y1, .int .i64 d1, .int .i64 x2, .int .i64 y2, .int .i64 d2, .int .i64 x3, .int .i64 y3, .int .i64 d3], .int .i64 t] (fat_h x1 y1 d1 x2 y2 d2 x3 y3 d3 t) ([]) (fun _ => faV x1 y1 d1 x2 y2 d2 x3 y3 d3 t))
  rw [fat_x]
  (repeat' (first | with_reducible exact rfl | exact trivial | with_reducible assumption | (with_reducible exact atp_sp _ _ _ _) | (with_reducible exact rse_sp _ _) | (with_reducible exact uns_sp _ (gr_b _)) | exact cU_len _ | exact cI_len _ | exact cB_len _ | exact cU_one _ | exact cI_one _ | exact cB_one _ | exact (fun _ h => h) | exact (fun _ h => (List.not_mem_nil h).elim) | (with_reducible refine e1_in ?_) | (with_reducible refine e2_in ?_) | (with_reducible refine lx_in (Nat.le_of_ble_eq_true rfl) ?_) | (with_reducible refine rqx_rf ?_) | (with_reducible refine rqx_in ?_ ?_ ?_) | (with_reducible apply And.intro) | (with_reducible intro _)))
  all_goals (first
    | rfl
    | (simp only [*, Bool.and_true, Bool.true_and, Bool.and_false, Bool.false_and, Bool.or_true, Bool.true_or, Bool.or_false, Bool.false_or, Bool.not_true, Bool.not_false, cond_true, cond_false]; done)
    | exact fa_1 ‹_›
    | exact fa_2 ‹_› ‹_›
    | exact fa_3 ‹_› ‹_› ‹_›
    | exact fa_4 ‹_› ‹_› ‹_›
    | (rw [gr_z ‹(atE x1 y1 d1 t != 0) = false›]; first | exact fa_4 ‹_› ‹_› ‹_›)
    | trace_state)

/-! The places of a path. -/
def drQ (p q s : Int) : Nat := ((q - p) / s).toNat
def drN (p q s : Int) : Nat := drQ p q s + 1
theorem dr_q {p q s : Int} (h1 : (decide (p < 0) || decide (q > 8000)) = false) (h2 : (decide (s < 1) || decide (p > q)) = false) : (IntKind.i64.wrap (Int.tdiv (IntKind.i64.wrap (q - p)) s)) = (drQ p q s : Int) ∧ drQ p q s ≤ 8000 ∧ (drQ p q s : Int) * s ≤ q - p ∧ q - p < (drQ p q s : Int) * s + s := by
  simp at h1 h2
  have hs : 0 < s := by omega
  have h0 : 0 ≤ (q - p) / s := Int.ediv_nonneg (by omega) (by omega)
  have hle : (q - p) / s ≤ q - p := Int.ediv_le_self _ (by omega)
  have e1 : (q - p).tdiv s = (q - p) / s := Int.tdiv_eq_ediv_of_nonneg (by omega)
  have hm := Int.emod_nonneg (q - p) (show s ≠ 0 by omega)
  have hm2 := Int.emod_lt_of_pos (q - p) hs
  have hd := Int.mul_ediv_add_emod (q - p) s
  have hc : s * ((q - p) / s) = ((q - p) / s) * s := Int.mul_comm _ _
  have e2 : ((drQ p q s : Nat) : Int) = (q - p) / s := by unfold drQ; omega
  rw [q64 (x := q - p) (by omega) (by omega), e1, q64 (by omega) (by omega), e2]
  refine ⟨rfl, ?_, by omega, by omega⟩
  have : ((drQ p q s : Nat) : Int) ≤ 8000 := by rw [e2]; omega
  omega
theorem dr_n {p q s : Int} (h1 : (decide (p < 0) || decide (q > 8000)) = false) (h2 : (decide (s < 1) || decide (p > q)) = false) : (IntKind.i64.wrap ((IntKind.i64.wrap (Int.tdiv (IntKind.i64.wrap (q - p)) s)) + 1)) = (drN p q s : Int) ∧ drN p q s ≤ 8001 := by
  obtain ⟨e, h, _⟩ := dr_q h1 h2
  rw [e, q64 (by omega) (by omega)]
  unfold drN
  omega
/-- A time of the path. -/
theorem dr_t {p q s : Int} (h1 : (decide (p < 0) || decide (q > 8000)) = false) (h2 : (decide (s < 1) || decide (p > q)) = false) {i : Nat} (hi : i < drN p q s) : IntKind.i64.wrap (p + IntKind.i64.wrap ((i : Int) * s)) = p + i * s ∧ 0 ≤ p + i * s ∧ p + i * s ≤ q := by
  obtain ⟨_, h3, h4, _⟩ := dr_q h1 h2
  unfold drN at hi
  simp at h1 h2
  have h5 : (i : Int) * s ≤ (drQ p q s : Int) * s := Int.mul_le_mul_of_nonneg_right (by omega) (by omega)
  have h6 : 0 ≤ (i : Int) * s := Int.mul_nonneg (by omega) (by omega)
  rw [q64 (x := (i : Int) * s) (by omega) (by omega), q64 (by omega) (by omega)]
  refine ⟨rfl, by omega, by omega⟩
theorem dr_p {p q s : Int} (h1 : (decide (p < 0) || decide (q > 8000)) = false) (h2 : (decide (s < 1) || decide (p > q)) = false) : 0 ≤ p ∧ p ≤ q ∧ q ≤ 8000 := by simp at h1 h2; omega
/-- Within the times the error does not depend on the time. -/
theorem atE_in (x y d : Int) {t : Int} (h : 0 ≤ t ∧ t ≤ 8000) : atE x y d t = if accB x y d = true then 0 else 1 := by
  have ht : tiB t = true := by unfold tiB; simp; omega
  unfold atE
  rw [if_pos ht]
  by_cases ha : accB x y d = true
  · rw [if_pos ha, if_pos ha]
    have := (acc_b ha).1
    exact quo_00 (by rw [q64 (by omega) (by omega)]; omega) (by rw [q64 (by omega) (by omega)]; omega)
  · rw [if_neg ha, if_neg ha]
theorem faE_in {x1 y1 d1 x2 y2 d2 x3 y3 d3 : Int} {t u : Int} (ht : 0 ≤ t ∧ t ≤ 8000) (hu : 0 ≤ u ∧ u ≤ 8000) : faE x1 y1 d1 x2 y2 d2 x3 y3 d3 t = faE x1 y1 d1 x2 y2 d2 x3 y3 d3 u := by
  unfold faE
  simp only [atE_in _ _ _ ht, atE_in _ _ _ hu]
/-- The place at a time. -/
def paS (x1 y1 d1 x2 y2 d2 x3 y3 d3 : Int) (t : Int) : Sn := ⟨t, atV x1 y1 d1 t, atV x2 y2 d2 t, faZ x3 y3 d3 t, 0⟩
def drL (x1 y1 d1 x2 y2 d2 x3 y3 d3 : Int) (p s : Int) (n : Nat) : List Sn := (List.range n).map fun (j : Nat) => paS x1 y1 d1 x2 y2 d2 x3 y3 d3 (p + (j : Int) * s)
def drE (x1 y1 d1 x2 y2 d2 x3 y3 d3 : Int) (p q s : Int) : Int := if (decide (p < 0) || decide (q > 8000)) = true then 2 else if (decide (s < 1) || decide (p > q)) = true then 1 else if 64 < drN p q s then 9 else faE x1 y1 d1 x2 y2 d2 x3 y3 d3 p
/-- The places up to an index, the rest is nothing yet. -/
def dfL (x1 y1 d1 x2 y2 d2 x3 y3 d3 : Int) (p s : Int) (n i : Nat) : List Sn := drL x1 y1 d1 x2 y2 d2 x3 y3 d3 p s i ++ List.replicate (n - i) ⟨0, 0, 0, 0, 0⟩
theorem dr_len {x1 y1 d1 x2 y2 d2 x3 y3 d3 : Int} {p s : Int} (n : Nat) : (drL x1 y1 d1 x2 y2 d2 x3 y3 d3 p s n).length = n := by simp [drL]
theorem df_len {x1 y1 d1 x2 y2 d2 x3 y3 d3 : Int} {p s : Int} {n i : Nat} (h : i ≤ n) : (dfL x1 y1 d1 x2 y2 d2 x3 y3 d3 p s n i).length = n := by unfold dfL; rw [List.length_append, dr_len]; simp; omega
theorem df_0 (x1 y1 d1 x2 y2 d2 x3 y3 d3 : Int) (p s : Int) (n : Nat) : dfL x1 y1 d1 x2 y2 d2 x3 y3 d3 p s n 0 = List.replicate n ⟨0, 0, 0, 0, 0⟩ := by simp [dfL, drL]
theorem df_all (x1 y1 d1 x2 y2 d2 x3 y3 d3 : Int) (p s : Int) {n i : Nat} (h : i = n) : dfL x1 y1 d1 x2 y2 d2 x3 y3 d3 p s n i = drL x1 y1 d1 x2 y2 d2 x3 y3 d3 p s n := by subst h; simp [dfL]
theorem dr_s (x1 y1 d1 x2 y2 d2 x3 y3 d3 : Int) (p s : Int) (i : Nat) : drL x1 y1 d1 x2 y2 d2 x3 y3 d3 p s (i + 1) = drL x1 y1 d1 x2 y2 d2 x3 y3 d3 p s i ++ [paS x1 y1 d1 x2 y2 d2 x3 y3 d3 (p + i * s)] := by unfold drL; rw [List.range_succ, List.map_append]; rfl
theorem df_s (x1 y1 d1 x2 y2 d2 x3 y3 d3 : Int) (p s : Int) {n i : Nat} (h : i < n) : (dfL x1 y1 d1 x2 y2 d2 x3 y3 d3 p s n i).set i (paS x1 y1 d1 x2 y2 d2 x3 y3 d3 (p + i * s)) = dfL x1 y1 d1 x2 y2 d2 x3 y3 d3 p s n (i + 1) := by
  unfold dfL
  have e : n - i = (n - (i + 1)) + 1 := by omega
  rw [List.set_append_right _ _ (by rw [dr_len]; omega), dr_len, Nat.sub_self, e, List.replicate_succ, List.set_cons_zero, dr_s, List.append_assoc]
  rfl
def cMk5 (n : Nat) : List Value := cSn (List.replicate n ⟨0, 0, 0, 0, 0⟩)
theorem cSn_mk (n : Nat) : (List.replicate n [Value.int .i64 0, .int .i64 0, .int .i64 0, .int .i64 0, .int .i64 0]).flatten = cSn (List.replicate n ⟨0, 0, 0, 0, 0⟩) := by
  unfold cSn
  induction n with
  | zero => rfl
  | succ n ih => rw [List.replicate_succ, List.replicate_succ, List.flatten_cons, List.flatMap_cons, ih]


theorem set5 {l : List Sn} {m : Nat} (h : m < l.length) (a b c d e : Int) : sS4 (sS3 (sS2 (sS1 (sS0 l m a) m b) m c) m d) m e = l.set m ⟨a, b, c, d, e⟩ := by
  have h1 : m < (sS0 l m a).length := by rw [sS0_len]; exact h
  have h2 : m < (sS1 (sS0 l m a) m b).length := by rw [sS1_len]; exact h1
  have h3 : m < (sS2 (sS1 (sS0 l m a) m b) m c).length := by rw [sS2_len]; exact h2
  have h4 : m < (sS3 (sS2 (sS1 (sS0 l m a) m b) m c) m d).length := by rw [sS3_len]; exact h3
  have e1 := sS0_at a h
  have e2 := sS1_at b h1
  have e3 := sS2_at c h2
  have e4 := sS3_at d h3
  have k : sS4 (sS3 (sS2 (sS1 (sS0 l m a) m b) m c) m d) m e = (sS3 (sS2 (sS1 (sS0 l m a) m b) m c) m d).set m ⟨a, b, c, d, e⟩ := by
    show List.set _ _ _ = _
    rw [e4, e3, e2, e1]
  rw [k]
  unfold sS3 sS2 sS1 sS0
  simp only [List.set_set]


theorem fat0_sp (x1 y1 d1 x2 y2 d2 x3 y3 d3 : Int) (t : Int) (he : faE x1 y1 d1 x2 y2 d2 x3 y3 d3 t = 0) : SpecG Tryd.prog [] [] 17 #[.agg #[.int .i64 x1, .int .i64 y1, .int .i64 d1, .int .i64 x2, .int .i64 y2, .int .i64 d2, .int .i64 x3, .int .i64 y3, .int .i64 d3], .int .i64 t] [] (fun _ => .tuple #[.int .i64 (atV x1 y1 d1 t), .int .i64 (atV x2 y2 d2 t), .int .i64 (faZ x3 y3 d3 t), .int .i64 0]) := by
  have h := fat_sp x1 y1 d1 x2 y2 d2 x3 y3 d3 t
  unfold faV at h
  rw [he] at h
  simpa only [zL_0] using h
structure DX where
  i : Nat
  a : Option Addr
  c : Nat
@[reducible] def drW (x1 y1 d1 x2 y2 d2 x3 y3 d3 : Int) (p q s : Int) : LoopR := ⟨DX, fun x => [(42, .int .i64 x.i), (11, .slice x.a (IntKind.i64.wrap ((IntKind.i64.wrap (Int.tdiv (IntKind.i64.wrap (q - p)) s)) + 1)).toNat x.c)], [1], fun x => [⟨0, cSn (dfL x1 y1 d1 x2 y2 d2 x3 y3 d3 p s (IntKind.i64.wrap ((IntKind.i64.wrap (Int.tdiv (IntKind.i64.wrap (q - p)) s)) + 1)).toNat x.i), 37, some ⟨x.a, (IntKind.i64.wrap ((IntKind.i64.wrap (Int.tdiv (IntKind.i64.wrap (q - p)) s)) + 1)).toNat, x.c, 5⟩⟩], fun x => x.i ≤ (IntKind.i64.wrap ((IntKind.i64.wrap (Int.tdiv (IntKind.i64.wrap (q - p)) s)) + 1)).toNat ∧ AOK x.a (IntKind.i64.wrap ((IntKind.i64.wrap (Int.tdiv (IntKind.i64.wrap (q - p)) s)) + 1)).toNat, fun x => (IntKind.i64.wrap ((IntKind.i64.wrap (Int.tdiv (IntKind.i64.wrap (q - p)) s)) + 1)).toNat - x.i, []⟩
@[reducible] def drX (x1 y1 d1 x2 y2 d2 x3 y3 d3 : Int) (p q s : Int) : LoopR := ⟨DX, fun x => [(42, .int .i64 x.i), (11, .slice x.a (IntKind.i64.wrap ((IntKind.i64.wrap (Int.tdiv (IntKind.i64.wrap (q - p)) s)) + 1)).toNat x.c)], [1], fun x => [⟨0, cSn (dfL x1 y1 d1 x2 y2 d2 x3 y3 d3 p s (IntKind.i64.wrap ((IntKind.i64.wrap (Int.tdiv (IntKind.i64.wrap (q - p)) s)) + 1)).toNat x.i), 37, some ⟨x.a, (IntKind.i64.wrap ((IntKind.i64.wrap (Int.tdiv (IntKind.i64.wrap (q - p)) s)) + 1)).toNat, x.c, 5⟩⟩], fun x => x.i = 0 ∧ AOK x.a (IntKind.i64.wrap ((IntKind.i64.wrap (Int.tdiv (IntKind.i64.wrap (q - p)) s)) + 1)).toNat, fun x => (IntKind.i64.wrap ((IntKind.i64.wrap (Int.tdiv (IntKind.i64.wrap (q - p)) s)) + 1)).toNat - x.i, []⟩
theorem dr_f {p q s : Int} (h1 : (decide (p < 0) || decide (q > 8000)) = false) (h2 : (decide (s < 1) || decide (p > q)) = false) : (IntKind.i64.wrap ((IntKind.i64.wrap (Int.tdiv (IntKind.i64.wrap (q - p)) s)) + 1)).toNat = drN p q s := by rw [(dr_n h1 h2).1]; rfl
theorem dr_6 {p q s : Int} (h1 : (decide (p < 0) || decide (q > 8000)) = false) (h2 : (decide (s < 1) || decide (p > q)) = false) (h3 : decide ((IntKind.i64.wrap ((IntKind.i64.wrap (Int.tdiv (IntKind.i64.wrap (q - p)) s)) + 1)) > 64) = false) : drN p q s ≤ 64 := by
  rw [(dr_n h1 h2).1] at h3
  have := of_decide_eq_false h3
  omega
theorem drE_0 {x1 y1 d1 x2 y2 d2 x3 y3 d3 : Int} {p q s : Int} (he : drE x1 y1 d1 x2 y2 d2 x3 y3 d3 p q s = 0) : (decide (p < 0) || decide (q > 8000)) = false ∧ (decide (s < 1) || decide (p > q)) = false ∧ decide ((IntKind.i64.wrap ((IntKind.i64.wrap (Int.tdiv (IntKind.i64.wrap (q - p)) s)) + 1)) > 64) = false ∧ faE x1 y1 d1 x2 y2 d2 x3 y3 d3 p = 0 := by
  unfold drE at he
  split at he
  · omega
  · split at he
    · omega
    · split at he
      · omega
      · rename_i h1 h2 h3
        have h1 : (decide (p < 0) || decide (q > 8000)) = false := by simpa using h1
        have h2 : (decide (s < 1) || decide (p > q)) = false := by simpa using h2
        refine ⟨h1, h2, ?_, he⟩
        rw [(dr_n h1 h2).1]
        exact decide_eq_false (by omega)
theorem dr_i {p q s : Int} {i : Nat} (h1 : (decide (p < 0) || decide (q > 8000)) = false) (h2 : (decide (s < 1) || decide (p > q)) = false) (h : decide ((i : Int) < (IntKind.i64.wrap ((IntKind.i64.wrap (Int.tdiv (IntKind.i64.wrap (q - p)) s)) + 1))) = true) : i < drN p q s := by
  rw [(dr_n h1 h2).1] at h
  have := of_decide_eq_true h
  omega
theorem dr_j {p q s : Int} {i : Nat} (h1 : (decide (p < 0) || decide (q > 8000)) = false) (h2 : (decide (s < 1) || decide (p > q)) = false) (h : decide ((i : Int) < (IntKind.i64.wrap ((IntKind.i64.wrap (Int.tdiv (IntKind.i64.wrap (q - p)) s)) + 1))) = false) : drN p q s ≤ i := by
  rw [(dr_n h1 h2).1] at h
  have := of_decide_eq_false h
  omega
theorem fa_t {x1 y1 d1 x2 y2 d2 x3 y3 d3 : Int} {p q s : Int} {i : Nat} (h1 : (decide (p < 0) || decide (q > 8000)) = false) (h2 : (decide (s < 1) || decide (p > q)) = false) (hi : i < drN p q s) : faE x1 y1 d1 x2 y2 d2 x3 y3 d3 (IntKind.i64.wrap (p + IntKind.i64.wrap ((i : Int) * s))) = faE x1 y1 d1 x2 y2 d2 x3 y3 d3 p := by
  have h := dr_t h1 h2 hi
  have h0 := dr_p h1 h2
  rw [h.1]
  exact faE_in (by omega) (by omega)
theorem dw_b (x1 y1 d1 x2 y2 d2 x3 y3 d3 : Int) {p q s : Int} {x : DX} (h1 : (decide (p < 0) || decide (q > 8000)) = false) (h2 : (decide (s < 1) || decide (p > q)) = false) (hx : x.i ≤ drN p q s ∧ AOK x.a (drN p q s)) (hi : x.i < drN p q s) {T0 : Int} (hT : IntKind.i64.wrap (p + IntKind.i64.wrap ((x.i : Int) * s)) = T0) :
    ∃ y : DX, (y.i ≤ drN p q s ∧ AOK y.a (drN p q s)) ∧ drN p q s - y.i < drN p q s - x.i ∧ Value.int IntKind.i64 (IntKind.i64.wrap (x.i + 1)) = Value.int IntKind.i64 y.i ∧ Value.slice x.a (drN p q s) x.c = Value.slice y.a (drN p q s) y.c ∧
      (True ∧ cSn (sS4 (sS3 (sS2 (sS1 (sS0 (dfL x1 y1 d1 x2 y2 d2 x3 y3 d3 p s (drN p q s) x.i) x.i T0) x.i (atV x1 y1 d1 T0)) x.i (atV x2 y2 d2 T0)) x.i (faZ x3 y3 d3 T0)) x.i 0) = cSn (dfL x1 y1 d1 x2 y2 d2 x3 y3 d3 p s (drN p q s) y.i) ∧ True ∧ some (Ow.mk x.a (drN p q s) x.c 5) = some (Ow.mk y.a (drN p q s) y.c 5)) ∧ True := by
  have h8 := (dr_n h1 h2).2
  refine ⟨⟨x.i + 1, x.a, x.c⟩, ⟨hi, hx.2⟩, (by show _ - (_ + 1) < _; omega), wr_s (by omega), rfl, ⟨trivial, ?_, trivial, rfl⟩, trivial⟩
  rw [set5 (by rw [df_len hx.1]; exact hi), ← hT, (dr_t h1 h2 hi).1]
  exact congrArg cSn (df_s x1 y1 d1 x2 y2 d2 x3 y3 d3 p s hi)
theorem dr_s0 {p q s : Int} (h2 : (decide (s < 1) || decide (p > q)) = false) : s ≠ 0 := by simp at h2; omega
theorem dr_c0 {p q s : Int} (h1 : (decide (p < 0) || decide (q > 8000)) = false) (h2 : (decide (s < 1) || decide (p > q)) = false) : 0 ≤ (IntKind.i64.wrap ((IntKind.i64.wrap (Int.tdiv (IntKind.i64.wrap (q - p)) s)) + 1)) := by rw [(dr_n h1 h2).1]; omega
theorem dr_c1 {p q s : Int} (h1 : (decide (p < 0) || decide (q > 8000)) = false) (h2 : (decide (s < 1) || decide (p > q)) = false) : 41 * (IntKind.i64.wrap ((IntKind.i64.wrap (Int.tdiv (IntKind.i64.wrap (q - p)) s)) + 1)) ≤ 281474976710656 := by have := dr_n h1 h2; rw [this.1]; omega

def drw_h (x1 y1 d1 x2 y2 d2 x3 y3 d3 : Int) (p q s : Int) : Hint := .nc (.cut [((23 : Nat), .bool (decide (p < 0) || decide (q > 8000)))] (.split (.lit (.lit .nil)) (.lit (.lit .nil))) (.known false (.cut [((30 : Nat), .bool (decide (s < 1) || decide (p > q)))] (.split (.lit (.lit (.lit .nil))) (.lit (.lit (.lit .nil)))) (.known false (.ix (.known false (.mk (cSn
 (List.replicate (Int.toNat (IntKind.i64.wrap (IntKind.i64.wrap (Int.tdiv (IntKind.i64.wrap (q - p)) s) + 1))) (Sn.mk (0 : Int) (0 : Int) (0 : Int) (0 : Int) (0 : Int)))) (.inv (drW x1 y1 d1 x2 y2 d2 x3 y3 d3 p q s) fun x0 ↦ .split (ho 0 9 (.specg [] [] [] [] (fun ads0 x ↦ Value.tuple #[Value.int
 .i64 (atV x1 y1 d1 (IntKind.i64.wrap (p + IntKind.i64.wrap ((↑(DX.i x0) : Int) * s)))), .int .i64 (atV x2 y2 d2 (IntKind.i64.wrap (p + IntKind.i64.wrap ((↑(DX.i x0) : Int) * s)))), .int .i64 (faZ x3 y3 d3 (IntKind.i64.wrap (p + IntKind.i64.wrap ((↑(DX.i x0) : Int) * s)))), .int .i64 0]) (.pl (.lit
 (.ix (.sto (1 : Nat) (Int.toNat (↑(DX.i x0) : Int) * (5 : Nat)) (cSn (sS0 (dfL x1 y1 d1 x2 y2 d2 x3 y3 d3 p s (Int.toNat (IntKind.i64.wrap (IntKind.i64.wrap (Int.tdiv (IntKind.i64.wrap (q - p)) s) + 1))) (DX.i x0)) (Int.toNat (↑(DX.i x0) : Int)) (IntKind.i64.wrap (p + IntKind.i64.wrap ((↑(DX.i x0) :
 Int) * s))))) (.sto (1 : Nat) (Int.toNat (↑(DX.i x0) : Int) * (5 : Nat) + (1 : Nat)) (cSn (sS1 (sS0 (dfL x1 y1 d1 x2 y2 d2 x3 y3 d3 p s (Int.toNat (IntKind.i64.wrap (IntKind.i64.wrap (Int.tdiv (IntKind.i64.wrap (q - p)) s) + 1))) (DX.i x0)) (Int.toNat (↑(DX.i x0) : Int)) (IntKind.i64.wrap (p +
 IntKind.i64.wrap ((↑(DX.i x0) : Int) * s)))) (Int.toNat (↑(DX.i x0) : Int)) (atV x1 y1 d1 (IntKind.i64.wrap (p + IntKind.i64.wrap ((↑(DX.i x0) : Int) * s)))))) (.sto (1 : Nat) (Int.toNat (↑(DX.i x0) : Int) * (5 : Nat) + (2 : Nat)) (cSn (sS2 (sS1 (sS0 (dfL x1 y1 d1 x2 y2 d2 x3 y3 d3 p s (Int.toNat
 (IntKind.i64.wrap (IntKind.i64.wrap (Int.tdiv (IntKind.i64.wrap (q - p)) s) + 1))) (DX.i x0)) (Int.toNat (↑(DX.i x0) : Int)) (IntKind.i64.wrap (p + IntKind.i64.wrap ((↑(DX.i x0) : Int) * s)))) (Int.toNat (↑(DX.i x0) : Int)) (atV x1 y1 d1 (IntKind.i64.wrap (p + IntKind.i64.wrap ((↑(DX.i x0) : Int) *
 s))))) (Int.toNat (↑(DX.i x0) : Int)) (atV x2 y2 d2 (IntKind.i64.wrap (p + IntKind.i64.wrap ((↑(DX.i x0) : Int) * s)))))) (.sto (1 : Nat) (Int.toNat (↑(DX.i x0) : Int) * (5 : Nat) + (3 : Nat)) (cSn (sS3 (sS2 (sS1 (sS0 (dfL x1 y1 d1 x2 y2 d2 x3 y3 d3 p s (Int.toNat (IntKind.i64.wrap (IntKind.i64.wrap
 (Int.tdiv (IntKind.i64.wrap (q - p)) s) + 1))) (DX.i x0)) (Int.toNat (↑(DX.i x0) : Int)) (IntKind.i64.wrap (p + IntKind.i64.wrap ((↑(DX.i x0) : Int) * s)))) (Int.toNat (↑(DX.i x0) : Int)) (atV x1 y1 d1 (IntKind.i64.wrap (p + IntKind.i64.wrap ((↑(DX.i x0) : Int) * s))))) (Int.toNat (↑(DX.i x0) :
 Int)) (atV x2 y2 d2 (IntKind.i64.wrap (p + IntKind.i64.wrap ((↑(DX.i x0) : Int) * s))))) (Int.toNat (↑(DX.i x0) : Int)) (faZ x3 y3 d3 (IntKind.i64.wrap (p + IntKind.i64.wrap ((↑(DX.i x0) : Int) * s)))))) (.sto (1 : Nat) (Int.toNat (↑(DX.i x0) : Int) * (5 : Nat) + (4 : Nat)) (cSn (sS4 (sS3 (sS2 (sS1
 (sS0 (dfL x1 y1 d1 x2 y2 d2 x3 y3 d3 p s (Int.toNat (IntKind.i64.wrap (IntKind.i64.wrap (Int.tdiv (IntKind.i64.wrap (q - p)) s) + 1))) (DX.i x0)) (Int.toNat (↑(DX.i x0) : Int)) (IntKind.i64.wrap (p + IntKind.i64.wrap ((↑(DX.i x0) : Int) * s)))) (Int.toNat (↑(DX.i x0) : Int)) (atV x1 y1 d1
 (IntKind.i64.wrap (p + IntKind.i64.wrap ((↑(DX.i x0) : Int) * s))))) (Int.toNat (↑(DX.i x0) : Int)) (atV x2 y2 d2 (IntKind.i64.wrap (p + IntKind.i64.wrap ((↑(DX.i x0) : Int) * s))))) (Int.toNat (↑(DX.i x0) : Int)) (faZ x3 y3 d3 (IntKind.i64.wrap (p + IntKind.i64.wrap ((↑(DX.i x0) : Int) * s)))))
 (Int.toNat (↑(DX.i x0) : Int)) (0 : Int))) (.perm [1] .nil))))))))))) (.perm [1] .nil)))))))))
theorem drw_x (x1 y1 d1 x2 y2 d2 x3 y3 d3 : Int) (p q s : Int) : wpG Tryd.prog [] ([]) 400 19 [.agg #[.int .i64 x1, .int .i64 y1, .int .i64 d1, .int .i64 x2, .int .i64 y2, .int .i64 d2, .int .i64 x3, .int .i64 y3, .int .i64 d3], .int .i64 p, .int .i64 q, .int .i64 s] (drw_h x1 y1 d1 x2 y2 d2 x3 y3 d3 p q s) ([⟨37, 5, (IntKind.i64.wrap ((IntKind.i64.wrap (Int.tdiv (IntKind.i64.wrap (q - p)) s)) + 1)).toNat, cSn (drL x1 y1 d1 x2 y2 d2 x3 y3 d3 p s (IntKind.i64.wrap ((IntKind.i64.wrap (Int.tdiv (IntKind.i64.wrap (q - p)) s)) + 1)).toNat)⟩]) (fun ads => .tuple #[.slice (nthS ads 0).1 (IntKind.i64.wrap ((IntKind.i64.wrap (Int.tdiv (IntKind.i64.wrap (q - p)) s)) + 1)).toNat (nthS ads 0).2, .int .i64 0]) = (∀ (b : Nat), ((decide (p < 0) = true -> Value.bool true = Value.bool (decide (p < 0) || decide (q > 8000)) /\ True) /\ (decide (p < 0) = false -> Value.bool (decide (q > 8000)) = Value.bool (decide (p < 0) || decide (q > 8000)) /\ True)) /\ ∀ (junk : Nat -> Value), (decide (p < 0) || decide (q >
 8000)) = false /\ ((decide (s < 1) = true -> Value.bool true = Value.bool (decide (s < 1) || decide (p > q)) /\ True) /\ (decide (s < 1) = false -> Value.bool (decide (p > q)) = Value.bool (decide (s < 1) || decide (p > q)) /\ True)) /\ ∀ (junk : Nat -> Value), (decide (s < 1) || decide (p > q)) =
 false /\ s ≠ (0 : Int) /\ decide (IntKind.i64.wrap (IntKind.i64.wrap (Int.tdiv (IntKind.i64.wrap (q - p)) s) + 1) > 64) = false /\ ((0 : Int) ≤ IntKind.i64.wrap (IntKind.i64.wrap (Int.tdiv (IntKind.i64.wrap (q - p)) s) + 1) /\ IntKind.i64.wrap (IntKind.i64.wrap (Int.tdiv (IntKind.i64.wrap (q - p))
 s) + 1) = IntKind.i64.wrap (IntKind.i64.wrap (Int.tdiv (IntKind.i64.wrap (q - p)) s) + 1) /\ (41 : Int) * IntKind.i64.wrap (IntKind.i64.wrap (Int.tdiv (IntKind.i64.wrap (q - p)) s) + 1) ≤ 281474976710656 /\ List.flatten (List.replicate (Int.toNat (IntKind.i64.wrap (IntKind.i64.wrap (Int.tdiv
 (IntKind.i64.wrap (q - p)) s) + 1))) [Value.int .i64 0, .int .i64 0, .int .i64 0, .int .i64 0, .int .i64 0]) = cSn (List.replicate (Int.toNat (IntKind.i64.wrap (IntKind.i64.wrap (Int.tdiv (IntKind.i64.wrap (q - p)) s) + 1))) (Sn.mk (0 : Int) (0 : Int) (0 : Int) (0 : Int) (0 : Int)))) /\ ∀ (a :
 Option Addr) (cap : Nat), AOK a (Int.toNat (IntKind.i64.wrap (IntKind.i64.wrap (Int.tdiv (IntKind.i64.wrap (q - p)) s) + 1))) -> (∃ x, (DX.i x ≤ Int.toNat (IntKind.i64.wrap (IntKind.i64.wrap (Int.tdiv (IntKind.i64.wrap (q - p)) s) + 1)) /\ AOK (DX.a x) (Int.toNat (IntKind.i64.wrap (IntKind.i64.wrap
 (Int.tdiv (IntKind.i64.wrap (q - p)) s) + 1)))) /\ Value.int .i64 0 = Value.int .i64 (↑(DX.i x) : Int) /\ Value.slice a (Int.toNat (IntKind.i64.wrap (IntKind.i64.wrap (Int.tdiv (IntKind.i64.wrap (q - p)) s) + 1))) cap = Value.slice (DX.a x) (Int.toNat (IntKind.i64.wrap (IntKind.i64.wrap (Int.tdiv
 (IntKind.i64.wrap (q - p)) s) + 1))) (DX.c x) /\ ((0 : Nat) = (0 : Nat) /\ cSn (List.replicate (Int.toNat (IntKind.i64.wrap (IntKind.i64.wrap (Int.tdiv (IntKind.i64.wrap (q - p)) s) + 1))) (Sn.mk (0 : Int) (0 : Int) (0 : Int) (0 : Int) (0 : Int))) = cSn (dfL x1 y1 d1 x2 y2 d2 x3 y3 d3 p s (Int.toNat
 (IntKind.i64.wrap (IntKind.i64.wrap (Int.tdiv (IntKind.i64.wrap (q - p)) s) + 1))) (DX.i x)) /\ (37 : Nat) = (37 : Nat) /\ some (Ow.mk a (Int.toNat (IntKind.i64.wrap (IntKind.i64.wrap (Int.tdiv (IntKind.i64.wrap (q - p)) s) + 1))) cap (5 : Nat)) = some (Ow.mk (DX.a x) (Int.toNat (IntKind.i64.wrap
 (IntKind.i64.wrap (Int.tdiv (IntKind.i64.wrap (q - p)) s) + 1))) (DX.c x) (5 : Nat))) /\ True) /\ ∀ (x0 : DX), DX.i x0 ≤ Int.toNat (IntKind.i64.wrap (IntKind.i64.wrap (Int.tdiv (IntKind.i64.wrap (q - p)) s) + 1)) /\ AOK (DX.a x0) (Int.toNat (IntKind.i64.wrap (IntKind.i64.wrap (Int.tdiv
 (IntKind.i64.wrap (q - p)) s) + 1))) -> ∀ (junk : Nat -> Value), (decide ((↑(DX.i x0) : Int) < IntKind.i64.wrap (IntKind.i64.wrap (Int.tdiv (IntKind.i64.wrap (q - p)) s) + 1)) = true -> e1 b 9 ((SpecG Tryd.prog [] [] (17 : FuncId) #[Value.agg #[Value.int .i64 x1, .int .i64 y1, .int .i64 d1, .int .i64
 x2, .int .i64 y2, .int .i64 d2, .int .i64 x3, .int .i64 y3, .int .i64 d3], .int .i64 (IntKind.i64.wrap (p + IntKind.i64.wrap ((↑(DX.i x0) : Int) * s)))] [] fun x ↦ Value.tuple #[Value.int .i64 (atV x1 y1 d1 (IntKind.i64.wrap (p + IntKind.i64.wrap ((↑(DX.i x0) : Int) * s)))), .int .i64 (atV x2 y2 d2
 (IntKind.i64.wrap (p + IntKind.i64.wrap ((↑(DX.i x0) : Int) * s)))), .int .i64 (faZ x3 y3 d3 (IntKind.i64.wrap (p + IntKind.i64.wrap ((↑(DX.i x0) : Int) * s)))), .int .i64 0]) /\ (∀ (e : Ex), e ∈ [] -> e ∈ []) /\ (((0 : Int) ≤ (↑(DX.i x0) : Int) /\ (↑(DX.i x0) : Int) < (↑(Int.toNat (IntKind.i64.wrap
 (IntKind.i64.wrap (Int.tdiv (IntKind.i64.wrap (q - p)) s) + 1))) : Int)) /\ AOK (DX.a x0) (Int.toNat (IntKind.i64.wrap (IntKind.i64.wrap (Int.tdiv (IntKind.i64.wrap (q - p)) s) + 1)))) /\ bk (DX.a x0) = bk (DX.a x0) /\ ofs (DX.a x0) + Int.toNat (↑(DX.i x0) : Int) * (5 : Nat) = ofs (DX.a x0) +
 Int.toNat (↑(DX.i x0) : Int) * (5 : Nat) /\ True /\ lset (cSn (dfL x1 y1 d1 x2 y2 d2 x3 y3 d3 p s (Int.toNat (IntKind.i64.wrap (IntKind.i64.wrap (Int.tdiv (IntKind.i64.wrap (q - p)) s) + 1))) (DX.i x0))) (Int.toNat (↑(DX.i x0) : Int) * (5 : Nat)) (Value.int .i64 (IntKind.i64.wrap (p +
 IntKind.i64.wrap ((↑(DX.i x0) : Int) * s)))) = cSn (sS0 (dfL x1 y1 d1 x2 y2 d2 x3 y3 d3 p s (Int.toNat (IntKind.i64.wrap (IntKind.i64.wrap (Int.tdiv (IntKind.i64.wrap (q - p)) s) + 1))) (DX.i x0)) (Int.toNat (↑(DX.i x0) : Int)) (IntKind.i64.wrap (p + IntKind.i64.wrap ((↑(DX.i x0) : Int) * s)))) /\
 Int.toNat (↑(DX.i x0) : Int) * (5 : Nat) < List.length (cSn (dfL x1 y1 d1 x2 y2 d2 x3 y3 d3 p s (Int.toNat (IntKind.i64.wrap (IntKind.i64.wrap (Int.tdiv (IntKind.i64.wrap (q - p)) s) + 1))) (DX.i x0))) /\ bk (DX.a x0) = bk (DX.a x0) /\ ofs (DX.a x0) + Int.toNat (↑(DX.i x0) : Int) * (5 : Nat) + (1 :
 Nat) = ofs (DX.a x0) + (Int.toNat (↑(DX.i x0) : Int) * (5 : Nat) + (1 : Nat)) /\ True /\ lset (cSn (sS0 (dfL x1 y1 d1 x2 y2 d2 x3 y3 d3 p s (Int.toNat (IntKind.i64.wrap (IntKind.i64.wrap (Int.tdiv (IntKind.i64.wrap (q - p)) s) + 1))) (DX.i x0)) (Int.toNat (↑(DX.i x0) : Int)) (IntKind.i64.wrap (p +
 IntKind.i64.wrap ((↑(DX.i x0) : Int) * s))))) (Int.toNat (↑(DX.i x0) : Int) * (5 : Nat) + (1 : Nat)) (Value.int .i64 (atV x1 y1 d1 (IntKind.i64.wrap (p + IntKind.i64.wrap ((↑(DX.i x0) : Int) * s))))) = cSn (sS1 (sS0 (dfL x1 y1 d1 x2 y2 d2 x3 y3 d3 p s (Int.toNat (IntKind.i64.wrap (IntKind.i64.wrap
 (Int.tdiv (IntKind.i64.wrap (q - p)) s) + 1))) (DX.i x0)) (Int.toNat (↑(DX.i x0) : Int)) (IntKind.i64.wrap (p + IntKind.i64.wrap ((↑(DX.i x0) : Int) * s)))) (Int.toNat (↑(DX.i x0) : Int)) (atV x1 y1 d1 (IntKind.i64.wrap (p + IntKind.i64.wrap ((↑(DX.i x0) : Int) * s))))) /\ Int.toNat (↑(DX.i x0) :
 Int) * (5 : Nat) + (1 : Nat) < List.length (cSn (sS0 (dfL x1 y1 d1 x2 y2 d2 x3 y3 d3 p s (Int.toNat (IntKind.i64.wrap (IntKind.i64.wrap (Int.tdiv (IntKind.i64.wrap (q - p)) s) + 1))) (DX.i x0)) (Int.toNat (↑(DX.i x0) : Int)) (IntKind.i64.wrap (p + IntKind.i64.wrap ((↑(DX.i x0) : Int) * s))))) /\ bk
 (DX.a x0) = bk (DX.a x0) /\ ofs (DX.a x0) + Int.toNat (↑(DX.i x0) : Int) * (5 : Nat) + (2 : Nat) = ofs (DX.a x0) + (Int.toNat (↑(DX.i x0) : Int) * (5 : Nat) + (2 : Nat)) /\ True /\ lset (cSn (sS1 (sS0 (dfL x1 y1 d1 x2 y2 d2 x3 y3 d3 p s (Int.toNat (IntKind.i64.wrap (IntKind.i64.wrap (Int.tdiv
 (IntKind.i64.wrap (q - p)) s) + 1))) (DX.i x0)) (Int.toNat (↑(DX.i x0) : Int)) (IntKind.i64.wrap (p + IntKind.i64.wrap ((↑(DX.i x0) : Int) * s)))) (Int.toNat (↑(DX.i x0) : Int)) (atV x1 y1 d1 (IntKind.i64.wrap (p + IntKind.i64.wrap ((↑(DX.i x0) : Int) * s)))))) (Int.toNat (↑(DX.i x0) : Int) * (5 :
 Nat) + (2 : Nat)) (Value.int .i64 (atV x2 y2 d2 (IntKind.i64.wrap (p + IntKind.i64.wrap ((↑(DX.i x0) : Int) * s))))) = cSn (sS2 (sS1 (sS0 (dfL x1 y1 d1 x2 y2 d2 x3 y3 d3 p s (Int.toNat (IntKind.i64.wrap (IntKind.i64.wrap (Int.tdiv (IntKind.i64.wrap (q - p)) s) + 1))) (DX.i x0)) (Int.toNat (↑(DX.i
 x0) : Int)) (IntKind.i64.wrap (p + IntKind.i64.wrap ((↑(DX.i x0) : Int) * s)))) (Int.toNat (↑(DX.i x0) : Int)) (atV x1 y1 d1 (IntKind.i64.wrap (p + IntKind.i64.wrap ((↑(DX.i x0) : Int) * s))))) (Int.toNat (↑(DX.i x0) : Int)) (atV x2 y2 d2 (IntKind.i64.wrap (p + IntKind.i64.wrap ((↑(DX.i x0) : Int) *
 s))))) /\ Int.toNat (↑(DX.i x0) : Int) * (5 : Nat) + (2 : Nat) < List.length (cSn (sS1 (sS0 (dfL x1 y1 d1 x2 y2 d2 x3 y3 d3 p s (Int.toNat (IntKind.i64.wrap (IntKind.i64.wrap (Int.tdiv (IntKind.i64.wrap (q - p)) s) + 1))) (DX.i x0)) (Int.toNat (↑(DX.i x0) : Int)) (IntKind.i64.wrap (p +
 IntKind.i64.wrap ((↑(DX.i x0) : Int) * s)))) (Int.toNat (↑(DX.i x0) : Int)) (atV x1 y1 d1 (IntKind.i64.wrap (p + IntKind.i64.wrap ((↑(DX.i x0) : Int) * s)))))) /\ bk (DX.a x0) = bk (DX.a x0) /\ ofs (DX.a x0) + Int.toNat (↑(DX.i x0) : Int) * (5 : Nat) + (3 : Nat) = ofs (DX.a x0) + (Int.toNat (↑(DX.i
 x0) : Int) * (5 : Nat) + (3 : Nat)) /\ True /\ lset (cSn (sS2 (sS1 (sS0 (dfL x1 y1 d1 x2 y2 d2 x3 y3 d3 p s (Int.toNat (IntKind.i64.wrap (IntKind.i64.wrap (Int.tdiv (IntKind.i64.wrap (q - p)) s) + 1))) (DX.i x0)) (Int.toNat (↑(DX.i x0) : Int)) (IntKind.i64.wrap (p + IntKind.i64.wrap ((↑(DX.i x0) :
 Int) * s)))) (Int.toNat (↑(DX.i x0) : Int)) (atV x1 y1 d1 (IntKind.i64.wrap (p + IntKind.i64.wrap ((↑(DX.i x0) : Int) * s))))) (Int.toNat (↑(DX.i x0) : Int)) (atV x2 y2 d2 (IntKind.i64.wrap (p + IntKind.i64.wrap ((↑(DX.i x0) : Int) * s)))))) (Int.toNat (↑(DX.i x0) : Int) * (5 : Nat) + (3 : Nat))
 (Value.int .i64 (faZ x3 y3 d3 (IntKind.i64.wrap (p + IntKind.i64.wrap ((↑(DX.i x0) : Int) * s))))) = cSn (sS3 (sS2 (sS1 (sS0 (dfL x1 y1 d1 x2 y2 d2 x3 y3 d3 p s (Int.toNat (IntKind.i64.wrap (IntKind.i64.wrap (Int.tdiv (IntKind.i64.wrap (q - p)) s) + 1))) (DX.i x0)) (Int.toNat (↑(DX.i x0) : Int))
 (IntKind.i64.wrap (p + IntKind.i64.wrap ((↑(DX.i x0) : Int) * s)))) (Int.toNat (↑(DX.i x0) : Int)) (atV x1 y1 d1 (IntKind.i64.wrap (p + IntKind.i64.wrap ((↑(DX.i x0) : Int) * s))))) (Int.toNat (↑(DX.i x0) : Int)) (atV x2 y2 d2 (IntKind.i64.wrap (p + IntKind.i64.wrap ((↑(DX.i x0) : Int) * s)))))
 (Int.toNat (↑(DX.i x0) : Int)) (faZ x3 y3 d3 (IntKind.i64.wrap (p + IntKind.i64.wrap ((↑(DX.i x0) : Int) * s))))) /\ Int.toNat (↑(DX.i x0) : Int) * (5 : Nat) + (3 : Nat) < List.length (cSn (sS2 (sS1 (sS0 (dfL x1 y1 d1 x2 y2 d2 x3 y3 d3 p s (Int.toNat (IntKind.i64.wrap (IntKind.i64.wrap (Int.tdiv
 (IntKind.i64.wrap (q - p)) s) + 1))) (DX.i x0)) (Int.toNat (↑(DX.i x0) : Int)) (IntKind.i64.wrap (p + IntKind.i64.wrap ((↑(DX.i x0) : Int) * s)))) (Int.toNat (↑(DX.i x0) : Int)) (atV x1 y1 d1 (IntKind.i64.wrap (p + IntKind.i64.wrap ((↑(DX.i x0) : Int) * s))))) (Int.toNat (↑(DX.i x0) : Int)) (atV x2
 y2 d2 (IntKind.i64.wrap (p + IntKind.i64.wrap ((↑(DX.i x0) : Int) * s)))))) /\ bk (DX.a x0) = bk (DX.a x0) /\ ofs (DX.a x0) + Int.toNat (↑(DX.i x0) : Int) * (5 : Nat) + (4 : Nat) = ofs (DX.a x0) + (Int.toNat (↑(DX.i x0) : Int) * (5 : Nat) + (4 : Nat)) /\ True /\ lset (cSn (sS3 (sS2 (sS1 (sS0 (dfL x1
 y1 d1 x2 y2 d2 x3 y3 d3 p s (Int.toNat (IntKind.i64.wrap (IntKind.i64.wrap (Int.tdiv (IntKind.i64.wrap (q - p)) s) + 1))) (DX.i x0)) (Int.toNat (↑(DX.i x0) : Int)) (IntKind.i64.wrap (p + IntKind.i64.wrap ((↑(DX.i x0) : Int) * s)))) (Int.toNat (↑(DX.i x0) : Int)) (atV x1 y1 d1 (IntKind.i64.wrap (p +
 IntKind.i64.wrap ((↑(DX.i x0) : Int) * s))))) (Int.toNat (↑(DX.i x0) : Int)) (atV x2 y2 d2 (IntKind.i64.wrap (p + IntKind.i64.wrap ((↑(DX.i x0) : Int) * s))))) (Int.toNat (↑(DX.i x0) : Int)) (faZ x3 y3 d3 (IntKind.i64.wrap (p + IntKind.i64.wrap ((↑(DX.i x0) : Int) * s)))))) (Int.toNat (↑(DX.i x0) :
 Int) * (5 : Nat) + (4 : Nat)) (Value.int .i64 0) = cSn (sS4 (sS3 (sS2 (sS1 (sS0 (dfL x1 y1 d1 x2 y2 d2 x3 y3 d3 p s (Int.toNat (IntKind.i64.wrap (IntKind.i64.wrap (Int.tdiv (IntKind.i64.wrap (q - p)) s) + 1))) (DX.i x0)) (Int.toNat (↑(DX.i x0) : Int)) (IntKind.i64.wrap (p + IntKind.i64.wrap ((↑(DX.i
 x0) : Int) * s)))) (Int.toNat (↑(DX.i x0) : Int)) (atV x1 y1 d1 (IntKind.i64.wrap (p + IntKind.i64.wrap ((↑(DX.i x0) : Int) * s))))) (Int.toNat (↑(DX.i x0) : Int)) (atV x2 y2 d2 (IntKind.i64.wrap (p + IntKind.i64.wrap ((↑(DX.i x0) : Int) * s))))) (Int.toNat (↑(DX.i x0) : Int)) (faZ x3 y3 d3
 (IntKind.i64.wrap (p + IntKind.i64.wrap ((↑(DX.i x0) : Int) * s))))) (Int.toNat (↑(DX.i x0) : Int)) (0 : Int)) /\ Int.toNat (↑(DX.i x0) : Int) * (5 : Nat) + (4 : Nat) < List.length (cSn (sS3 (sS2 (sS1 (sS0 (dfL x1 y1 d1 x2 y2 d2 x3 y3 d3 p s (Int.toNat (IntKind.i64.wrap (IntKind.i64.wrap (Int.tdiv
 (IntKind.i64.wrap (q - p)) s) + 1))) (DX.i x0)) (Int.toNat (↑(DX.i x0) : Int)) (IntKind.i64.wrap (p + IntKind.i64.wrap ((↑(DX.i x0) : Int) * s)))) (Int.toNat (↑(DX.i x0) : Int)) (atV x1 y1 d1 (IntKind.i64.wrap (p + IntKind.i64.wrap ((↑(DX.i x0) : Int) * s))))) (Int.toNat (↑(DX.i x0) : Int)) (atV x2
 y2 d2 (IntKind.i64.wrap (p + IntKind.i64.wrap ((↑(DX.i x0) : Int) * s))))) (Int.toNat (↑(DX.i x0) : Int)) (faZ x3 y3 d3 (IntKind.i64.wrap (p + IntKind.i64.wrap ((↑(DX.i x0) : Int) * s)))))) /\ ∃ y, (DX.i y ≤ Int.toNat (IntKind.i64.wrap (IntKind.i64.wrap (Int.tdiv (IntKind.i64.wrap (q - p)) s) + 1))
 /\ AOK (DX.a y) (Int.toNat (IntKind.i64.wrap (IntKind.i64.wrap (Int.tdiv (IntKind.i64.wrap (q - p)) s) + 1)))) /\ Int.toNat (IntKind.i64.wrap (IntKind.i64.wrap (Int.tdiv (IntKind.i64.wrap (q - p)) s) + 1)) - DX.i y < Int.toNat (IntKind.i64.wrap (IntKind.i64.wrap (Int.tdiv (IntKind.i64.wrap (q - p))
 s) + 1)) - DX.i x0 /\ Value.int .i64 (IntKind.i64.wrap ((↑(DX.i x0) : Int) + (1 : Int))) = Value.int .i64 (↑(DX.i y) : Int) /\ Value.slice (DX.a x0) (Int.toNat (IntKind.i64.wrap (IntKind.i64.wrap (Int.tdiv (IntKind.i64.wrap (q - p)) s) + 1))) (DX.c x0) = Value.slice (DX.a y) (Int.toNat
 (IntKind.i64.wrap (IntKind.i64.wrap (Int.tdiv (IntKind.i64.wrap (q - p)) s) + 1))) (DX.c y) /\ ((0 : Nat) = (0 : Nat) /\ cSn (sS4 (sS3 (sS2 (sS1 (sS0 (dfL x1 y1 d1 x2 y2 d2 x3 y3 d3 p s (Int.toNat (IntKind.i64.wrap (IntKind.i64.wrap (Int.tdiv (IntKind.i64.wrap (q - p)) s) + 1))) (DX.i x0))
 (Int.toNat (↑(DX.i x0) : Int)) (IntKind.i64.wrap (p + IntKind.i64.wrap ((↑(DX.i x0) : Int) * s)))) (Int.toNat (↑(DX.i x0) : Int)) (atV x1 y1 d1 (IntKind.i64.wrap (p + IntKind.i64.wrap ((↑(DX.i x0) : Int) * s))))) (Int.toNat (↑(DX.i x0) : Int)) (atV x2 y2 d2 (IntKind.i64.wrap (p + IntKind.i64.wrap
 ((↑(DX.i x0) : Int) * s))))) (Int.toNat (↑(DX.i x0) : Int)) (faZ x3 y3 d3 (IntKind.i64.wrap (p + IntKind.i64.wrap ((↑(DX.i x0) : Int) * s))))) (Int.toNat (↑(DX.i x0) : Int)) (0 : Int)) = cSn (dfL x1 y1 d1 x2 y2 d2 x3 y3 d3 p s (Int.toNat (IntKind.i64.wrap (IntKind.i64.wrap (Int.tdiv
 (IntKind.i64.wrap (q - p)) s) + 1))) (DX.i y)) /\ (37 : Nat) = (37 : Nat) /\ some (Ow.mk (DX.a x0) (Int.toNat (IntKind.i64.wrap (IntKind.i64.wrap (Int.tdiv (IntKind.i64.wrap (q - p)) s) + 1))) (DX.c x0) (5 : Nat)) = some (Ow.mk (DX.a y) (Int.toNat (IntKind.i64.wrap (IntKind.i64.wrap (Int.tdiv
 (IntKind.i64.wrap (q - p)) s) + 1))) (DX.c y) (5 : Nat))) /\ True)) /\ (decide ((↑(DX.i x0) : Int) < IntKind.i64.wrap (IntKind.i64.wrap (Int.tdiv (IntKind.i64.wrap (q - p)) s) + 1)) = false -> (37 : Nat) = (37 : Nat) /\ (5 : Nat) = (5 : Nat) /\ Int.toNat (IntKind.i64.wrap (IntKind.i64.wrap (Int.tdiv
 (IntKind.i64.wrap (q - p)) s) + 1)) = Int.toNat (IntKind.i64.wrap (IntKind.i64.wrap (Int.tdiv (IntKind.i64.wrap (q - p)) s) + 1)) /\ cSn (dfL x1 y1 d1 x2 y2 d2 x3 y3 d3 p s (Int.toNat (IntKind.i64.wrap (IntKind.i64.wrap (Int.tdiv (IntKind.i64.wrap (q - p)) s) + 1))) (DX.i x0)) = cSn (drL x1 y1 d1 x2
 y2 d2 x3 y3 d3 p s (Int.toNat (IntKind.i64.wrap (IntKind.i64.wrap (Int.tdiv (IntKind.i64.wrap (q - p)) s) + 1)))) /\ Value.tuple (Array.mk [.slice (DX.a x0) (Int.toNat (IntKind.i64.wrap (IntKind.i64.wrap (Int.tdiv (IntKind.i64.wrap (q - p)) s) + 1))) (DX.c x0), .int .i64 0]) = Value.tuple (Array.mk
 [.slice (DX.a x0) (Int.toNat (IntKind.i64.wrap (IntKind.i64.wrap (Int.tdiv (IntKind.i64.wrap (q - p)) s) + 1))) (DX.c x0), .int .i64 0]))) := by kernel_rfl
set_option maxHeartbeats 4000000 in
theorem drw_sp (x1 y1 d1 x2 y2 d2 x3 y3 d3 : Int) (p q s : Int) (h1 : (decide (p < 0) || decide (q > 8000)) = false) (h2 : (decide (s < 1) || decide (p > q)) = false) (h3 : decide ((IntKind.i64.wrap ((IntKind.i64.wrap (Int.tdiv (IntKind.i64.wrap (q - p)) s)) + 1)) > 64) = false) (he : faE x1 y1 d1 x2 y2 d2 x3 y3 d3 p = 0) : SpecG Tryd.prog [] ([]) 19 #[.agg #[.int .i64 x1, .int .i64 y1, .int .i64 d1, .int .i64 x2, .int .i64 y2, .int .i64 d2, .int .i64 x3, .int .i64 y3, .int .i64 d3], .int .i64 p, .int .i64 q, .int .i64 s] ([⟨37, 5, (IntKind.i64.wrap ((IntKind.i64.wrap (Int.tdiv (IntKind.i64.wrap (q - p)) s)) + 1)).toNat, cSn (drL x1 y1 d1 x2 y2 d2 x3 y3 d3 p s (IntKind.i64.wrap ((IntKind.i64.wrap (Int.tdiv (IntKind.i64.wrap (q - p)) s)) + 1)).toNat)⟩]) (fun ads => .tuple #[.slice (nthS ads 0).1 (IntKind.i64.wrap ((IntKind.i64.wrap (Int.tdiv (IntKind.i64.wrap (q - p)) s)) + 1)).toNat (nthS ads 0).2, .int .i64 0]) := by
  refine specG_of (h := drw_h x1 y1 d1 x2 y2 d2 x3 y3 d3 p q s) (?_ : wpG Tryd.prog [] ([]) 400 19 [.agg #[.int .i64 x1, .int .i64 y1, .int .i64 d1, .int .i64 x2, .int .i64 y2, .int .i64 d2, .int .i64 x3, .int .i64 y3, .int .i64 d3], .int .i64 p, .int .i64 q, .int .i64 s] (drw_h x1 y1 d1 x2 y2 d2 x3 y3 d3 p q s) ([⟨37, 5, (IntKind.i64.wrap ((IntKind.i64.wrap (Int.tdiv (IntKind.i64.wrap (q - p)) s)) + 1)).toNat, cSn (drL x1 y1 d1 x2 y2 d2 x3 y3 d3 p s (IntKind.i64.wrap ((IntKind.i64.wrap (Int.tdiv (IntKind.i64.wrap (q - p)) s)) + 1)).toNat)⟩]) (fun ads => .tuple #[.slice (nthS ads 0).1 (IntKind.i64.wrap ((IntKind.i64.wrap (Int.tdiv (IntKind.i64.wrap (q - p)) s)) + 1)).toNat (nthS ads 0).2, .int .i64 0]))
  rw [drw_x]
  (repeat' (first | with_reducible exact rfl | exact trivial | with_reducible assumption | (with_reducible exact fat0_sp _ _ _ _ _ _ _ _ _ _ ((fa_t h1 h2 (dr_i h1 h2 ‹_›)).trans he)) | exact cSn_len _ | exact cSn_one _ | exact cU_len _ | exact cI_len _ | exact cB_len _ | exact cU_one _ | exact cI_one _ | exact cB_one _ | exact (fun _ h => h) | exact (fun _ h => (List.not_mem_nil h).elim) | (with_reducible refine e1_in ?_) | (with_reducible refine e2_in ?_) | (with_reducible refine lx_in (Nat.le_of_ble_eq_true rfl) ?_) | (with_reducible refine rqx_rf ?_) | (with_reducible refine rqx_in ?_ ?_ ?_) | (with_reducible apply And.intro) | (with_reducible intro _)))
  all_goals (try (first | rfl | (refine congrArg Value.bool ?_; have hh := ‹decide (p < 0) = _›; rw [hh]; rfl) | (refine congrArg Value.bool ?_; have hh := ‹decide (s < 1) = _›; rw [hh]; rfl)))
  all_goals (try simp only [Int.toNat_natCast, dr_f h1 h2] at *)
  all_goals (first
    | exact dr_s0 h2
    | exact dr_c0 h1 h2
    | exact dr_c1 h1 h2
    | exact cSn_mk _
    | (exact ⟨⟨0, _, _⟩, ⟨Nat.zero_le _, (by assumption)⟩, rfl, rfl, ⟨(by trivial), (by rw [df_0]), (by trivial), rfl⟩, trivial⟩)
    | (have hx := ‹_ ≤ drN p q s ∧ AOK _ (drN p q s)›; have hi := dr_i h1 h2 ‹_›; first | omega | exact hx.2 | exact fat0_sp x1 y1 d1 x2 y2 d2 x3 y3 d3 _ ((fa_t h1 h2 hi).trans he) | (refine cSn_set0 _ ?_; (try simp only [sS0_len, sS1_len, sS2_len, sS3_len, sS4_len]); rw [df_len hx.1]; exact hi) | (refine cSn_set1 _ ?_; (try simp only [sS0_len, sS1_len, sS2_len, sS3_len, sS4_len]); rw [df_len hx.1]; exact hi) | (refine cSn_set2 _ ?_; (try simp only [sS0_len, sS1_len, sS2_len, sS3_len, sS4_len]); rw [df_len hx.1]; exact hi) | (refine cSn_set3 _ ?_; (try simp only [sS0_len, sS1_len, sS2_len, sS3_len, sS4_len]); rw [df_len hx.1]; exact hi) | (refine cSn_set4 _ ?_; (try simp only [sS0_len, sS1_len, sS2_len, sS3_len, sS4_len]); rw [df_len hx.1]; exact hi) | (simp only [cSn_len, sS0_len, sS1_len, sS2_len, sS3_len, sS4_len]; rw [df_len hx.1]; omega) | exact dw_b x1 y1 d1 x2 y2 d2 x3 y3 d3 h1 h2 hx hi rfl)
    | (have hx := ‹_ ≤ drN p q s ∧ AOK _ (drN p q s)›; have hj := dr_j h1 h2 ‹_›; rw [df_all _ _ _ _ _ _ _ _ _ _ _ (Nat.le_antisymm hx.1 hj)])
    | trace_state)

/-- The places of a path, where there is no error. -/
theorem drw2_sp (x1 y1 d1 x2 y2 d2 x3 y3 d3 : Int) (p q s : Int) (he : drE x1 y1 d1 x2 y2 d2 x3 y3 d3 p q s = 0) : SpecG Tryd.prog [] [] 19 #[.agg #[.int .i64 x1, .int .i64 y1, .int .i64 d1, .int .i64 x2, .int .i64 y2, .int .i64 d2, .int .i64 x3, .int .i64 y3, .int .i64 d3], .int .i64 p, .int .i64 q, .int .i64 s] [⟨37, 5, drN p q s, cSn (drL x1 y1 d1 x2 y2 d2 x3 y3 d3 p s (drN p q s))⟩] (fun ads => .tuple #[.slice (nthS ads 0).1 (drN p q s) (nthS ads 0).2, .int .i64 0]) := by
  obtain ⟨h1, h2, h3, h4⟩ := drE_0 he
  have h := drw_sp x1 y1 d1 x2 y2 d2 x3 y3 d3 p q s h1 h2 h3 h4
  rw [dr_f h1 h2] at h
  exact h


theorem dx_1 {x1 y1 d1 x2 y2 d2 x3 y3 d3 : Int} {p q s : Int} (h : (decide (p < 0) || decide (q > 8000)) = true) : drE x1 y1 d1 x2 y2 d2 x3 y3 d3 p q s = 2 := by unfold drE; rw [if_pos h]
theorem dx_2 {x1 y1 d1 x2 y2 d2 x3 y3 d3 : Int} {p q s : Int} (h : (decide (p < 0) || decide (q > 8000)) = false) (h2 : (decide (s < 1) || decide (p > q)) = true) : drE x1 y1 d1 x2 y2 d2 x3 y3 d3 p q s = 1 := by unfold drE; rw [if_neg (by rw [h]; decide), if_pos h2]
theorem dx_3 {x1 y1 d1 x2 y2 d2 x3 y3 d3 : Int} {p q s : Int} (h1 : (decide (p < 0) || decide (q > 8000)) = false) (h2 : (decide (s < 1) || decide (p > q)) = false) (h3 : decide ((IntKind.i64.wrap ((IntKind.i64.wrap (Int.tdiv (IntKind.i64.wrap (q - p)) s)) + 1)) > 64) = true) : drE x1 y1 d1 x2 y2 d2 x3 y3 d3 p q s = 9 := by
  rw [(dr_n h1 h2).1] at h3
  have := of_decide_eq_true h3
  unfold drE; rw [if_neg (by rw [h1]; decide), if_neg (by rw [h2]; decide), if_pos (by omega)]
theorem dx_6 {x1 y1 d1 x2 y2 d2 x3 y3 d3 : Int} {p q s : Int} (h1 : (decide (p < 0) || decide (q > 8000)) = false) (h2 : (decide (s < 1) || decide (p > q)) = false) (h3 : decide ((IntKind.i64.wrap ((IntKind.i64.wrap (Int.tdiv (IntKind.i64.wrap (q - p)) s)) + 1)) > 64) = false) : drE x1 y1 d1 x2 y2 d2 x3 y3 d3 p q s = faE x1 y1 d1 x2 y2 d2 x3 y3 d3 p := by
  have := dr_6 h1 h2 h3
  unfold drE; rw [if_neg (by rw [h1]; decide), if_neg (by rw [h2]; decide), if_neg (by omega)]
theorem dx_4 {x1 y1 d1 x2 y2 d2 x3 y3 d3 : Int} {p q s : Int} {i : Nat} (h1 : (decide (p < 0) || decide (q > 8000)) = false) (h2 : (decide (s < 1) || decide (p > q)) = false) (h3 : decide ((IntKind.i64.wrap ((IntKind.i64.wrap (Int.tdiv (IntKind.i64.wrap (q - p)) s)) + 1)) > 64) = false) (hi : i < drN p q s) (hf : (faE x1 y1 d1 x2 y2 d2 x3 y3 d3 (IntKind.i64.wrap (p + IntKind.i64.wrap ((i : Int) * s))) != 0) = false) : drE x1 y1 d1 x2 y2 d2 x3 y3 d3 p q s = 0 := by
  rw [dx_6 h1 h2 h3, ← fa_t h1 h2 hi]; exact ne_f hf
theorem dx_5 {x1 y1 d1 x2 y2 d2 x3 y3 d3 : Int} {p q s : Int} {i : Nat} (h1 : (decide (p < 0) || decide (q > 8000)) = false) (h2 : (decide (s < 1) || decide (p > q)) = false) (h3 : decide ((IntKind.i64.wrap ((IntKind.i64.wrap (Int.tdiv (IntKind.i64.wrap (q - p)) s)) + 1)) > 64) = false) (hi : i < drN p q s) (hf : (faE x1 y1 d1 x2 y2 d2 x3 y3 d3 (IntKind.i64.wrap (p + IntKind.i64.wrap ((i : Int) * s))) != 0) = true) : drE x1 y1 d1 x2 y2 d2 x3 y3 d3 p q s = faE x1 y1 d1 x2 y2 d2 x3 y3 d3 p := dx_6 h1 h2 h3

def drx_h (x1 y1 d1 x2 y2 d2 x3 y3 d3 : Int) (p q s : Int) : Hint := .nc (.cut [((23 : Nat), .bool (decide (p < 0) || decide (q > 8000)))] (.split (.lit (.lit .nil)) (.lit (.lit .nil))) (.split (.perm [] .nil) (.cut [((30 : Nat), .bool (decide (s < 1) || decide (p > q)))] (.split (.lit (.lit (.lit .nil))) (.lit (.lit (.lit .nil)))) (.split (.perm [] .nil) (.ix (.split
 (.perm [] .nil) (.mk (cSn (List.replicate (Int.toNat (IntKind.i64.wrap (IntKind.i64.wrap (Int.tdiv (IntKind.i64.wrap (q - p)) s) + 1))) (Sn.mk (0 : Int) (0 : Int) (0 : Int) (0 : Int) (0 : Int)))) (.inv (drX x1 y1 d1 x2 y2 d2 x3 y3 d3 p q s) fun x0 ↦ .split (ho 0 9 (.specg [] [] [] [] (fun ads0 x ↦
 faV x1 y1 d1 x2 y2 d2 x3 y3 d3 (IntKind.i64.wrap (p + IntKind.i64.wrap ((↑(DX.i x0) : Int) * s)))) (.pl (.split (.perm [] .nil) (.ix (.sto (1 : Nat) (Int.toNat (↑(DX.i x0) : Int) * (5 : Nat)) (cSn (sS0 (dfL x1 y1 d1 x2 y2 d2 x3 y3 d3 p s (Int.toNat (IntKind.i64.wrap (IntKind.i64.wrap (Int.tdiv
 (IntKind.i64.wrap (q - p)) s) + 1))) (DX.i x0)) (Int.toNat (↑(DX.i x0) : Int)) (IntKind.i64.wrap (p + IntKind.i64.wrap ((↑(DX.i x0) : Int) * s))))) (.sto (1 : Nat) (Int.toNat (↑(DX.i x0) : Int) * (5 : Nat) + (1 : Nat)) (cSn (sS1 (sS0 (dfL x1 y1 d1 x2 y2 d2 x3 y3 d3 p s (Int.toNat (IntKind.i64.wrap
 (IntKind.i64.wrap (Int.tdiv (IntKind.i64.wrap (q - p)) s) + 1))) (DX.i x0)) (Int.toNat (↑(DX.i x0) : Int)) (IntKind.i64.wrap (p + IntKind.i64.wrap ((↑(DX.i x0) : Int) * s)))) (Int.toNat (↑(DX.i x0) : Int)) (zL (faE x1 y1 d1 x2 y2 d2 x3 y3 d3 (IntKind.i64.wrap (p + IntKind.i64.wrap ((↑(DX.i x0) :
 Int) * s)))) (atV x1 y1 d1 (IntKind.i64.wrap (p + IntKind.i64.wrap ((↑(DX.i x0) : Int) * s))))))) (.sto (1 : Nat) (Int.toNat (↑(DX.i x0) : Int) * (5 : Nat) + (2 : Nat)) (cSn (sS2 (sS1 (sS0 (dfL x1 y1 d1 x2 y2 d2 x3 y3 d3 p s (Int.toNat (IntKind.i64.wrap (IntKind.i64.wrap (Int.tdiv (IntKind.i64.wrap
 (q - p)) s) + 1))) (DX.i x0)) (Int.toNat (↑(DX.i x0) : Int)) (IntKind.i64.wrap (p + IntKind.i64.wrap ((↑(DX.i x0) : Int) * s)))) (Int.toNat (↑(DX.i x0) : Int)) (zL (faE x1 y1 d1 x2 y2 d2 x3 y3 d3 (IntKind.i64.wrap (p + IntKind.i64.wrap ((↑(DX.i x0) : Int) * s)))) (atV x1 y1 d1 (IntKind.i64.wrap (p +
 IntKind.i64.wrap ((↑(DX.i x0) : Int) * s)))))) (Int.toNat (↑(DX.i x0) : Int)) (zL (faE x1 y1 d1 x2 y2 d2 x3 y3 d3 (IntKind.i64.wrap (p + IntKind.i64.wrap ((↑(DX.i x0) : Int) * s)))) (atV x2 y2 d2 (IntKind.i64.wrap (p + IntKind.i64.wrap ((↑(DX.i x0) : Int) * s))))))) (.sto (1 : Nat) (Int.toNat
 (↑(DX.i x0) : Int) * (5 : Nat) + (3 : Nat)) (cSn (sS3 (sS2 (sS1 (sS0 (dfL x1 y1 d1 x2 y2 d2 x3 y3 d3 p s (Int.toNat (IntKind.i64.wrap (IntKind.i64.wrap (Int.tdiv (IntKind.i64.wrap (q - p)) s) + 1))) (DX.i x0)) (Int.toNat (↑(DX.i x0) : Int)) (IntKind.i64.wrap (p + IntKind.i64.wrap ((↑(DX.i x0) : Int)
 * s)))) (Int.toNat (↑(DX.i x0) : Int)) (zL (faE x1 y1 d1 x2 y2 d2 x3 y3 d3 (IntKind.i64.wrap (p + IntKind.i64.wrap ((↑(DX.i x0) : Int) * s)))) (atV x1 y1 d1 (IntKind.i64.wrap (p + IntKind.i64.wrap ((↑(DX.i x0) : Int) * s)))))) (Int.toNat (↑(DX.i x0) : Int)) (zL (faE x1 y1 d1 x2 y2 d2 x3 y3 d3
 (IntKind.i64.wrap (p + IntKind.i64.wrap ((↑(DX.i x0) : Int) * s)))) (atV x2 y2 d2 (IntKind.i64.wrap (p + IntKind.i64.wrap ((↑(DX.i x0) : Int) * s)))))) (Int.toNat (↑(DX.i x0) : Int)) (zL (faE x1 y1 d1 x2 y2 d2 x3 y3 d3 (IntKind.i64.wrap (p + IntKind.i64.wrap ((↑(DX.i x0) : Int) * s)))) (faZ x3 y3 d3
 (IntKind.i64.wrap (p + IntKind.i64.wrap ((↑(DX.i x0) : Int) * s))))))) (.sto (1 : Nat) (Int.toNat (↑(DX.i x0) : Int) * (5 : Nat) + (4 : Nat)) (cSn (sS4 (sS3 (sS2 (sS1 (sS0 (dfL x1 y1 d1 x2 y2 d2 x3 y3 d3 p s (Int.toNat (IntKind.i64.wrap (IntKind.i64.wrap (Int.tdiv (IntKind.i64.wrap (q - p)) s) +
 1))) (DX.i x0)) (Int.toNat (↑(DX.i x0) : Int)) (IntKind.i64.wrap (p + IntKind.i64.wrap ((↑(DX.i x0) : Int) * s)))) (Int.toNat (↑(DX.i x0) : Int)) (zL (faE x1 y1 d1 x2 y2 d2 x3 y3 d3 (IntKind.i64.wrap (p + IntKind.i64.wrap ((↑(DX.i x0) : Int) * s)))) (atV x1 y1 d1 (IntKind.i64.wrap (p +
 IntKind.i64.wrap ((↑(DX.i x0) : Int) * s)))))) (Int.toNat (↑(DX.i x0) : Int)) (zL (faE x1 y1 d1 x2 y2 d2 x3 y3 d3 (IntKind.i64.wrap (p + IntKind.i64.wrap ((↑(DX.i x0) : Int) * s)))) (atV x2 y2 d2 (IntKind.i64.wrap (p + IntKind.i64.wrap ((↑(DX.i x0) : Int) * s)))))) (Int.toNat (↑(DX.i x0) : Int)) (zL
 (faE x1 y1 d1 x2 y2 d2 x3 y3 d3 (IntKind.i64.wrap (p + IntKind.i64.wrap ((↑(DX.i x0) : Int) * s)))) (faZ x3 y3 d3 (IntKind.i64.wrap (p + IntKind.i64.wrap ((↑(DX.i x0) : Int) * s)))))) (Int.toNat (↑(DX.i x0) : Int)) (0 : Int))) (.perm [1] .nil))))))))))) (.perm [] .nil)))))))))
theorem drx_x (x1 y1 d1 x2 y2 d2 x3 y3 d3 : Int) (p q s : Int) : wpG Tryd.prog [] ([]) 400 19 [.agg #[.int .i64 x1, .int .i64 y1, .int .i64 d1, .int .i64 x2, .int .i64 y2, .int .i64 d2, .int .i64 x3, .int .i64 y3, .int .i64 d3], .int .i64 p, .int .i64 q, .int .i64 s] (drx_h x1 y1 d1 x2 y2 d2 x3 y3 d3 p q s) ([]) (fun ads => .tuple #[.slice none 0 0, .int .i64 (drE x1 y1 d1 x2 y2 d2 x3 y3 d3 p q s)]) = (∀ (b : Nat), ((decide (p < 0) = true -> Value.bool true = Value.bool (decide (p < 0) || decide (q > 8000)) /\ True) /\ (decide (p < 0) = false -> Value.bool (decide (q > 8000)) = Value.bool (decide (p < 0) || decide (q > 8000)) /\ True)) /\ ∀ (junk : Nat -> Value), ((decide (p < 0) || decide (q >
 8000)) = true -> Value.tuple (Array.mk [.slice none (0 : Nat) (0 : Nat), .int .i64 2]) = Value.tuple (Array.mk [.slice none (0 : Nat) (0 : Nat), .int .i64 (drE x1 y1 d1 x2 y2 d2 x3 y3 d3 p q s)])) /\ ((decide (p < 0) || decide (q > 8000)) = false -> ((decide (s < 1) = true -> Value.bool true =
 Value.bool (decide (s < 1) || decide (p > q)) /\ True) /\ (decide (s < 1) = false -> Value.bool (decide (p > q)) = Value.bool (decide (s < 1) || decide (p > q)) /\ True)) /\ ∀ (junk : Nat -> Value), ((decide (s < 1) || decide (p > q)) = true -> Value.tuple (Array.mk [.slice none (0 : Nat) (0 : Nat),
 .int .i64 1]) = Value.tuple (Array.mk [.slice none (0 : Nat) (0 : Nat), .int .i64 (drE x1 y1 d1 x2 y2 d2 x3 y3 d3 p q s)])) /\ ((decide (s < 1) || decide (p > q)) = false -> s ≠ (0 : Int) /\ (decide (IntKind.i64.wrap (IntKind.i64.wrap (Int.tdiv (IntKind.i64.wrap (q - p)) s) + 1) > 64) = true ->
 Value.tuple (Array.mk [.slice none (0 : Nat) (0 : Nat), .int .i64 9]) = Value.tuple (Array.mk [.slice none (0 : Nat) (0 : Nat), .int .i64 (drE x1 y1 d1 x2 y2 d2 x3 y3 d3 p q s)])) /\ (decide (IntKind.i64.wrap (IntKind.i64.wrap (Int.tdiv (IntKind.i64.wrap (q - p)) s) + 1) > 64) = false -> ((0 : Int)
 ≤ IntKind.i64.wrap (IntKind.i64.wrap (Int.tdiv (IntKind.i64.wrap (q - p)) s) + 1) /\ IntKind.i64.wrap (IntKind.i64.wrap (Int.tdiv (IntKind.i64.wrap (q - p)) s) + 1) = IntKind.i64.wrap (IntKind.i64.wrap (Int.tdiv (IntKind.i64.wrap (q - p)) s) + 1) /\ (41 : Int) * IntKind.i64.wrap (IntKind.i64.wrap
 (Int.tdiv (IntKind.i64.wrap (q - p)) s) + 1) ≤ 281474976710656 /\ List.flatten (List.replicate (Int.toNat (IntKind.i64.wrap (IntKind.i64.wrap (Int.tdiv (IntKind.i64.wrap (q - p)) s) + 1))) [Value.int .i64 0, .int .i64 0, .int .i64 0, .int .i64 0, .int .i64 0]) = cSn (List.replicate (Int.toNat
 (IntKind.i64.wrap (IntKind.i64.wrap (Int.tdiv (IntKind.i64.wrap (q - p)) s) + 1))) (Sn.mk (0 : Int) (0 : Int) (0 : Int) (0 : Int) (0 : Int)))) /\ ∀ (a : Option Addr) (cap : Nat), AOK a (Int.toNat (IntKind.i64.wrap (IntKind.i64.wrap (Int.tdiv (IntKind.i64.wrap (q - p)) s) + 1))) -> (∃ x, (DX.i x = (0
 : Nat) /\ AOK (DX.a x) (Int.toNat (IntKind.i64.wrap (IntKind.i64.wrap (Int.tdiv (IntKind.i64.wrap (q - p)) s) + 1)))) /\ Value.int .i64 0 = Value.int .i64 (↑(DX.i x) : Int) /\ Value.slice a (Int.toNat (IntKind.i64.wrap (IntKind.i64.wrap (Int.tdiv (IntKind.i64.wrap (q - p)) s) + 1))) cap =
 Value.slice (DX.a x) (Int.toNat (IntKind.i64.wrap (IntKind.i64.wrap (Int.tdiv (IntKind.i64.wrap (q - p)) s) + 1))) (DX.c x) /\ ((0 : Nat) = (0 : Nat) /\ cSn (List.replicate (Int.toNat (IntKind.i64.wrap (IntKind.i64.wrap (Int.tdiv (IntKind.i64.wrap (q - p)) s) + 1))) (Sn.mk (0 : Int) (0 : Int) (0 :
 Int) (0 : Int) (0 : Int))) = cSn (dfL x1 y1 d1 x2 y2 d2 x3 y3 d3 p s (Int.toNat (IntKind.i64.wrap (IntKind.i64.wrap (Int.tdiv (IntKind.i64.wrap (q - p)) s) + 1))) (DX.i x)) /\ (37 : Nat) = (37 : Nat) /\ some (Ow.mk a (Int.toNat (IntKind.i64.wrap (IntKind.i64.wrap (Int.tdiv (IntKind.i64.wrap (q - p))
 s) + 1))) cap (5 : Nat)) = some (Ow.mk (DX.a x) (Int.toNat (IntKind.i64.wrap (IntKind.i64.wrap (Int.tdiv (IntKind.i64.wrap (q - p)) s) + 1))) (DX.c x) (5 : Nat))) /\ True) /\ ∀ (x0 : DX), DX.i x0 = (0 : Nat) /\ AOK (DX.a x0) (Int.toNat (IntKind.i64.wrap (IntKind.i64.wrap (Int.tdiv (IntKind.i64.wrap
 (q - p)) s) + 1))) -> ∀ (junk : Nat -> Value), (decide ((↑(DX.i x0) : Int) < IntKind.i64.wrap (IntKind.i64.wrap (Int.tdiv (IntKind.i64.wrap (q - p)) s) + 1)) = true -> e1 b 9 ((SpecG Tryd.prog [] [] (17 : FuncId) #[Value.agg #[Value.int .i64 x1, .int .i64 y1, .int .i64 d1, .int .i64 x2, .int .i64 y2,
 .int .i64 d2, .int .i64 x3, .int .i64 y3, .int .i64 d3], .int .i64 (IntKind.i64.wrap (p + IntKind.i64.wrap ((↑(DX.i x0) : Int) * s)))] [] fun x ↦ faV x1 y1 d1 x2 y2 d2 x3 y3 d3 (IntKind.i64.wrap (p + IntKind.i64.wrap ((↑(DX.i x0) : Int) * s)))) /\ (∀ (e : Ex), e ∈ [] -> e ∈ []) /\ ((faE x1 y1 d1 x2
 y2 d2 x3 y3 d3 (IntKind.i64.wrap (p + IntKind.i64.wrap ((↑(DX.i x0) : Int) * s))) != 0) = true -> Value.tuple (Array.mk [.slice none (0 : Nat) (0 : Nat), .int .i64 (faE x1 y1 d1 x2 y2 d2 x3 y3 d3 (IntKind.i64.wrap (p + IntKind.i64.wrap ((↑(DX.i x0) : Int) * s))))]) = Value.tuple (Array.mk [.slice
 none (0 : Nat) (0 : Nat), .int .i64 (drE x1 y1 d1 x2 y2 d2 x3 y3 d3 p q s)])) /\ ((faE x1 y1 d1 x2 y2 d2 x3 y3 d3 (IntKind.i64.wrap (p + IntKind.i64.wrap ((↑(DX.i x0) : Int) * s))) != 0) = false -> (((0 : Int) ≤ (↑(DX.i x0) : Int) /\ (↑(DX.i x0) : Int) < (↑(Int.toNat (IntKind.i64.wrap
 (IntKind.i64.wrap (Int.tdiv (IntKind.i64.wrap (q - p)) s) + 1))) : Int)) /\ AOK (DX.a x0) (Int.toNat (IntKind.i64.wrap (IntKind.i64.wrap (Int.tdiv (IntKind.i64.wrap (q - p)) s) + 1)))) /\ bk (DX.a x0) = bk (DX.a x0) /\ ofs (DX.a x0) + Int.toNat (↑(DX.i x0) : Int) * (5 : Nat) = ofs (DX.a x0) +
 Int.toNat (↑(DX.i x0) : Int) * (5 : Nat) /\ True /\ lset (cSn (dfL x1 y1 d1 x2 y2 d2 x3 y3 d3 p s (Int.toNat (IntKind.i64.wrap (IntKind.i64.wrap (Int.tdiv (IntKind.i64.wrap (q - p)) s) + 1))) (DX.i x0))) (Int.toNat (↑(DX.i x0) : Int) * (5 : Nat)) (Value.int .i64 (IntKind.i64.wrap (p +
 IntKind.i64.wrap ((↑(DX.i x0) : Int) * s)))) = cSn (sS0 (dfL x1 y1 d1 x2 y2 d2 x3 y3 d3 p s (Int.toNat (IntKind.i64.wrap (IntKind.i64.wrap (Int.tdiv (IntKind.i64.wrap (q - p)) s) + 1))) (DX.i x0)) (Int.toNat (↑(DX.i x0) : Int)) (IntKind.i64.wrap (p + IntKind.i64.wrap ((↑(DX.i x0) : Int) * s)))) /\
 Int.toNat (↑(DX.i x0) : Int) * (5 : Nat) < List.length (cSn (dfL x1 y1 d1 x2 y2 d2 x3 y3 d3 p s (Int.toNat (IntKind.i64.wrap (IntKind.i64.wrap (Int.tdiv (IntKind.i64.wrap (q - p)) s) + 1))) (DX.i x0))) /\ bk (DX.a x0) = bk (DX.a x0) /\ ofs (DX.a x0) + Int.toNat (↑(DX.i x0) : Int) * (5 : Nat) + (1 :
 Nat) = ofs (DX.a x0) + (Int.toNat (↑(DX.i x0) : Int) * (5 : Nat) + (1 : Nat)) /\ True /\ lset (cSn (sS0 (dfL x1 y1 d1 x2 y2 d2 x3 y3 d3 p s (Int.toNat (IntKind.i64.wrap (IntKind.i64.wrap (Int.tdiv (IntKind.i64.wrap (q - p)) s) + 1))) (DX.i x0)) (Int.toNat (↑(DX.i x0) : Int)) (IntKind.i64.wrap (p +
 IntKind.i64.wrap ((↑(DX.i x0) : Int) * s))))) (Int.toNat (↑(DX.i x0) : Int) * (5 : Nat) + (1 : Nat)) (Value.int .i64 (zL (faE x1 y1 d1 x2 y2 d2 x3 y3 d3 (IntKind.i64.wrap (p + IntKind.i64.wrap ((↑(DX.i x0) : Int) * s)))) (atV x1 y1 d1 (IntKind.i64.wrap (p + IntKind.i64.wrap ((↑(DX.i x0) : Int) *
 s)))))) = cSn (sS1 (sS0 (dfL x1 y1 d1 x2 y2 d2 x3 y3 d3 p s (Int.toNat (IntKind.i64.wrap (IntKind.i64.wrap (Int.tdiv (IntKind.i64.wrap (q - p)) s) + 1))) (DX.i x0)) (Int.toNat (↑(DX.i x0) : Int)) (IntKind.i64.wrap (p + IntKind.i64.wrap ((↑(DX.i x0) : Int) * s)))) (Int.toNat (↑(DX.i x0) : Int)) (zL
 (faE x1 y1 d1 x2 y2 d2 x3 y3 d3 (IntKind.i64.wrap (p + IntKind.i64.wrap ((↑(DX.i x0) : Int) * s)))) (atV x1 y1 d1 (IntKind.i64.wrap (p + IntKind.i64.wrap ((↑(DX.i x0) : Int) * s)))))) /\ Int.toNat (↑(DX.i x0) : Int) * (5 : Nat) + (1 : Nat) < List.length (cSn (sS0 (dfL x1 y1 d1 x2 y2 d2 x3 y3 d3 p s
 (Int.toNat (IntKind.i64.wrap (IntKind.i64.wrap (Int.tdiv (IntKind.i64.wrap (q - p)) s) + 1))) (DX.i x0)) (Int.toNat (↑(DX.i x0) : Int)) (IntKind.i64.wrap (p + IntKind.i64.wrap ((↑(DX.i x0) : Int) * s))))) /\ bk (DX.a x0) = bk (DX.a x0) /\ ofs (DX.a x0) + Int.toNat (↑(DX.i x0) : Int) * (5 : Nat) + (2
 : Nat) = ofs (DX.a x0) + (Int.toNat (↑(DX.i x0) : Int) * (5 : Nat) + (2 : Nat)) /\ True /\ lset (cSn (sS1 (sS0 (dfL x1 y1 d1 x2 y2 d2 x3 y3 d3 p s (Int.toNat (IntKind.i64.wrap (IntKind.i64.wrap (Int.tdiv (IntKind.i64.wrap (q - p)) s) + 1))) (DX.i x0)) (Int.toNat (↑(DX.i x0) : Int)) (IntKind.i64.wrap
 (p + IntKind.i64.wrap ((↑(DX.i x0) : Int) * s)))) (Int.toNat (↑(DX.i x0) : Int)) (zL (faE x1 y1 d1 x2 y2 d2 x3 y3 d3 (IntKind.i64.wrap (p + IntKind.i64.wrap ((↑(DX.i x0) : Int) * s)))) (atV x1 y1 d1 (IntKind.i64.wrap (p + IntKind.i64.wrap ((↑(DX.i x0) : Int) * s))))))) (Int.toNat (↑(DX.i x0) : Int)
 * (5 : Nat) + (2 : Nat)) (Value.int .i64 (zL (faE x1 y1 d1 x2 y2 d2 x3 y3 d3 (IntKind.i64.wrap (p + IntKind.i64.wrap ((↑(DX.i x0) : Int) * s)))) (atV x2 y2 d2 (IntKind.i64.wrap (p + IntKind.i64.wrap ((↑(DX.i x0) : Int) * s)))))) = cSn (sS2 (sS1 (sS0 (dfL x1 y1 d1 x2 y2 d2 x3 y3 d3 p s (Int.toNat
 (IntKind.i64.wrap (IntKind.i64.wrap (Int.tdiv (IntKind.i64.wrap (q - p)) s) + 1))) (DX.i x0)) (Int.toNat (↑(DX.i x0) : Int)) (IntKind.i64.wrap (p + IntKind.i64.wrap ((↑(DX.i x0) : Int) * s)))) (Int.toNat (↑(DX.i x0) : Int)) (zL (faE x1 y1 d1 x2 y2 d2 x3 y3 d3 (IntKind.i64.wrap (p + IntKind.i64.wrap
 ((↑(DX.i x0) : Int) * s)))) (atV x1 y1 d1 (IntKind.i64.wrap (p + IntKind.i64.wrap ((↑(DX.i x0) : Int) * s)))))) (Int.toNat (↑(DX.i x0) : Int)) (zL (faE x1 y1 d1 x2 y2 d2 x3 y3 d3 (IntKind.i64.wrap (p + IntKind.i64.wrap ((↑(DX.i x0) : Int) * s)))) (atV x2 y2 d2 (IntKind.i64.wrap (p + IntKind.i64.wrap
 ((↑(DX.i x0) : Int) * s)))))) /\ Int.toNat (↑(DX.i x0) : Int) * (5 : Nat) + (2 : Nat) < List.length (cSn (sS1 (sS0 (dfL x1 y1 d1 x2 y2 d2 x3 y3 d3 p s (Int.toNat (IntKind.i64.wrap (IntKind.i64.wrap (Int.tdiv (IntKind.i64.wrap (q - p)) s) + 1))) (DX.i x0)) (Int.toNat (↑(DX.i x0) : Int))
 (IntKind.i64.wrap (p + IntKind.i64.wrap ((↑(DX.i x0) : Int) * s)))) (Int.toNat (↑(DX.i x0) : Int)) (zL (faE x1 y1 d1 x2 y2 d2 x3 y3 d3 (IntKind.i64.wrap (p + IntKind.i64.wrap ((↑(DX.i x0) : Int) * s)))) (atV x1 y1 d1 (IntKind.i64.wrap (p + IntKind.i64.wrap ((↑(DX.i x0) : Int) * s))))))) /\ bk (DX.a
 x0) = bk (DX.a x0) /\ ofs (DX.a x0) + Int.toNat (↑(DX.i x0) : Int) * (5 : Nat) + (3 : Nat) = ofs (DX.a x0) + (Int.toNat (↑(DX.i x0) : Int) * (5 : Nat) + (3 : Nat)) /\ True /\ lset (cSn (sS2 (sS1 (sS0 (dfL x1 y1 d1 x2 y2 d2 x3 y3 d3 p s (Int.toNat (IntKind.i64.wrap (IntKind.i64.wrap (Int.tdiv
 (IntKind.i64.wrap (q - p)) s) + 1))) (DX.i x0)) (Int.toNat (↑(DX.i x0) : Int)) (IntKind.i64.wrap (p + IntKind.i64.wrap ((↑(DX.i x0) : Int) * s)))) (Int.toNat (↑(DX.i x0) : Int)) (zL (faE x1 y1 d1 x2 y2 d2 x3 y3 d3 (IntKind.i64.wrap (p + IntKind.i64.wrap ((↑(DX.i x0) : Int) * s)))) (atV x1 y1 d1
 (IntKind.i64.wrap (p + IntKind.i64.wrap ((↑(DX.i x0) : Int) * s)))))) (Int.toNat (↑(DX.i x0) : Int)) (zL (faE x1 y1 d1 x2 y2 d2 x3 y3 d3 (IntKind.i64.wrap (p + IntKind.i64.wrap ((↑(DX.i x0) : Int) * s)))) (atV x2 y2 d2 (IntKind.i64.wrap (p + IntKind.i64.wrap ((↑(DX.i x0) : Int) * s))))))) (Int.toNat
 (↑(DX.i x0) : Int) * (5 : Nat) + (3 : Nat)) (Value.int .i64 (zL (faE x1 y1 d1 x2 y2 d2 x3 y3 d3 (IntKind.i64.wrap (p + IntKind.i64.wrap ((↑(DX.i x0) : Int) * s)))) (faZ x3 y3 d3 (IntKind.i64.wrap (p + IntKind.i64.wrap ((↑(DX.i x0) : Int) * s)))))) = cSn (sS3 (sS2 (sS1 (sS0 (dfL x1 y1 d1 x2 y2 d2 x3
 y3 d3 p s (Int.toNat (IntKind.i64.wrap (IntKind.i64.wrap (Int.tdiv (IntKind.i64.wrap (q - p)) s) + 1))) (DX.i x0)) (Int.toNat (↑(DX.i x0) : Int)) (IntKind.i64.wrap (p + IntKind.i64.wrap ((↑(DX.i x0) : Int) * s)))) (Int.toNat (↑(DX.i x0) : Int)) (zL (faE x1 y1 d1 x2 y2 d2 x3 y3 d3 (IntKind.i64.wrap
 (p + IntKind.i64.wrap ((↑(DX.i x0) : Int) * s)))) (atV x1 y1 d1 (IntKind.i64.wrap (p + IntKind.i64.wrap ((↑(DX.i x0) : Int) * s)))))) (Int.toNat (↑(DX.i x0) : Int)) (zL (faE x1 y1 d1 x2 y2 d2 x3 y3 d3 (IntKind.i64.wrap (p + IntKind.i64.wrap ((↑(DX.i x0) : Int) * s)))) (atV x2 y2 d2 (IntKind.i64.wrap
 (p + IntKind.i64.wrap ((↑(DX.i x0) : Int) * s)))))) (Int.toNat (↑(DX.i x0) : Int)) (zL (faE x1 y1 d1 x2 y2 d2 x3 y3 d3 (IntKind.i64.wrap (p + IntKind.i64.wrap ((↑(DX.i x0) : Int) * s)))) (faZ x3 y3 d3 (IntKind.i64.wrap (p + IntKind.i64.wrap ((↑(DX.i x0) : Int) * s)))))) /\ Int.toNat (↑(DX.i x0) :
 Int) * (5 : Nat) + (3 : Nat) < List.length (cSn (sS2 (sS1 (sS0 (dfL x1 y1 d1 x2 y2 d2 x3 y3 d3 p s (Int.toNat (IntKind.i64.wrap (IntKind.i64.wrap (Int.tdiv (IntKind.i64.wrap (q - p)) s) + 1))) (DX.i x0)) (Int.toNat (↑(DX.i x0) : Int)) (IntKind.i64.wrap (p + IntKind.i64.wrap ((↑(DX.i x0) : Int) *
 s)))) (Int.toNat (↑(DX.i x0) : Int)) (zL (faE x1 y1 d1 x2 y2 d2 x3 y3 d3 (IntKind.i64.wrap (p + IntKind.i64.wrap ((↑(DX.i x0) : Int) * s)))) (atV x1 y1 d1 (IntKind.i64.wrap (p + IntKind.i64.wrap ((↑(DX.i x0) : Int) * s)))))) (Int.toNat (↑(DX.i x0) : Int)) (zL (faE x1 y1 d1 x2 y2 d2 x3 y3 d3
 (IntKind.i64.wrap (p + IntKind.i64.wrap ((↑(DX.i x0) : Int) * s)))) (atV x2 y2 d2 (IntKind.i64.wrap (p + IntKind.i64.wrap ((↑(DX.i x0) : Int) * s))))))) /\ bk (DX.a x0) = bk (DX.a x0) /\ ofs (DX.a x0) + Int.toNat (↑(DX.i x0) : Int) * (5 : Nat) + (4 : Nat) = ofs (DX.a x0) + (Int.toNat (↑(DX.i x0) :
 Int) * (5 : Nat) + (4 : Nat)) /\ True /\ lset (cSn (sS3 (sS2 (sS1 (sS0 (dfL x1 y1 d1 x2 y2 d2 x3 y3 d3 p s (Int.toNat (IntKind.i64.wrap (IntKind.i64.wrap (Int.tdiv (IntKind.i64.wrap (q - p)) s) + 1))) (DX.i x0)) (Int.toNat (↑(DX.i x0) : Int)) (IntKind.i64.wrap (p + IntKind.i64.wrap ((↑(DX.i x0) :
 Int) * s)))) (Int.toNat (↑(DX.i x0) : Int)) (zL (faE x1 y1 d1 x2 y2 d2 x3 y3 d3 (IntKind.i64.wrap (p + IntKind.i64.wrap ((↑(DX.i x0) : Int) * s)))) (atV x1 y1 d1 (IntKind.i64.wrap (p + IntKind.i64.wrap ((↑(DX.i x0) : Int) * s)))))) (Int.toNat (↑(DX.i x0) : Int)) (zL (faE x1 y1 d1 x2 y2 d2 x3 y3 d3
 (IntKind.i64.wrap (p + IntKind.i64.wrap ((↑(DX.i x0) : Int) * s)))) (atV x2 y2 d2 (IntKind.i64.wrap (p + IntKind.i64.wrap ((↑(DX.i x0) : Int) * s)))))) (Int.toNat (↑(DX.i x0) : Int)) (zL (faE x1 y1 d1 x2 y2 d2 x3 y3 d3 (IntKind.i64.wrap (p + IntKind.i64.wrap ((↑(DX.i x0) : Int) * s)))) (faZ x3 y3 d3
 (IntKind.i64.wrap (p + IntKind.i64.wrap ((↑(DX.i x0) : Int) * s))))))) (Int.toNat (↑(DX.i x0) : Int) * (5 : Nat) + (4 : Nat)) (Value.int .i64 0) = cSn (sS4 (sS3 (sS2 (sS1 (sS0 (dfL x1 y1 d1 x2 y2 d2 x3 y3 d3 p s (Int.toNat (IntKind.i64.wrap (IntKind.i64.wrap (Int.tdiv (IntKind.i64.wrap (q - p)) s) +
 1))) (DX.i x0)) (Int.toNat (↑(DX.i x0) : Int)) (IntKind.i64.wrap (p + IntKind.i64.wrap ((↑(DX.i x0) : Int) * s)))) (Int.toNat (↑(DX.i x0) : Int)) (zL (faE x1 y1 d1 x2 y2 d2 x3 y3 d3 (IntKind.i64.wrap (p + IntKind.i64.wrap ((↑(DX.i x0) : Int) * s)))) (atV x1 y1 d1 (IntKind.i64.wrap (p +
 IntKind.i64.wrap ((↑(DX.i x0) : Int) * s)))))) (Int.toNat (↑(DX.i x0) : Int)) (zL (faE x1 y1 d1 x2 y2 d2 x3 y3 d3 (IntKind.i64.wrap (p + IntKind.i64.wrap ((↑(DX.i x0) : Int) * s)))) (atV x2 y2 d2 (IntKind.i64.wrap (p + IntKind.i64.wrap ((↑(DX.i x0) : Int) * s)))))) (Int.toNat (↑(DX.i x0) : Int)) (zL
 (faE x1 y1 d1 x2 y2 d2 x3 y3 d3 (IntKind.i64.wrap (p + IntKind.i64.wrap ((↑(DX.i x0) : Int) * s)))) (faZ x3 y3 d3 (IntKind.i64.wrap (p + IntKind.i64.wrap ((↑(DX.i x0) : Int) * s)))))) (Int.toNat (↑(DX.i x0) : Int)) (0 : Int)) /\ Int.toNat (↑(DX.i x0) : Int) * (5 : Nat) + (4 : Nat) < List.length (cSn
 (sS3 (sS2 (sS1 (sS0 (dfL x1 y1 d1 x2 y2 d2 x3 y3 d3 p s (Int.toNat (IntKind.i64.wrap (IntKind.i64.wrap (Int.tdiv (IntKind.i64.wrap (q - p)) s) + 1))) (DX.i x0)) (Int.toNat (↑(DX.i x0) : Int)) (IntKind.i64.wrap (p + IntKind.i64.wrap ((↑(DX.i x0) : Int) * s)))) (Int.toNat (↑(DX.i x0) : Int)) (zL (faE
 x1 y1 d1 x2 y2 d2 x3 y3 d3 (IntKind.i64.wrap (p + IntKind.i64.wrap ((↑(DX.i x0) : Int) * s)))) (atV x1 y1 d1 (IntKind.i64.wrap (p + IntKind.i64.wrap ((↑(DX.i x0) : Int) * s)))))) (Int.toNat (↑(DX.i x0) : Int)) (zL (faE x1 y1 d1 x2 y2 d2 x3 y3 d3 (IntKind.i64.wrap (p + IntKind.i64.wrap ((↑(DX.i x0) :
 Int) * s)))) (atV x2 y2 d2 (IntKind.i64.wrap (p + IntKind.i64.wrap ((↑(DX.i x0) : Int) * s)))))) (Int.toNat (↑(DX.i x0) : Int)) (zL (faE x1 y1 d1 x2 y2 d2 x3 y3 d3 (IntKind.i64.wrap (p + IntKind.i64.wrap ((↑(DX.i x0) : Int) * s)))) (faZ x3 y3 d3 (IntKind.i64.wrap (p + IntKind.i64.wrap ((↑(DX.i x0) :
 Int) * s))))))) /\ ∃ y, (DX.i y = (0 : Nat) /\ AOK (DX.a y) (Int.toNat (IntKind.i64.wrap (IntKind.i64.wrap (Int.tdiv (IntKind.i64.wrap (q - p)) s) + 1)))) /\ Int.toNat (IntKind.i64.wrap (IntKind.i64.wrap (Int.tdiv (IntKind.i64.wrap (q - p)) s) + 1)) - DX.i y < Int.toNat (IntKind.i64.wrap
 (IntKind.i64.wrap (Int.tdiv (IntKind.i64.wrap (q - p)) s) + 1)) - DX.i x0 /\ Value.int .i64 (IntKind.i64.wrap ((↑(DX.i x0) : Int) + (1 : Int))) = Value.int .i64 (↑(DX.i y) : Int) /\ Value.slice (DX.a x0) (Int.toNat (IntKind.i64.wrap (IntKind.i64.wrap (Int.tdiv (IntKind.i64.wrap (q - p)) s) + 1)))
 (DX.c x0) = Value.slice (DX.a y) (Int.toNat (IntKind.i64.wrap (IntKind.i64.wrap (Int.tdiv (IntKind.i64.wrap (q - p)) s) + 1))) (DX.c y) /\ ((0 : Nat) = (0 : Nat) /\ cSn (sS4 (sS3 (sS2 (sS1 (sS0 (dfL x1 y1 d1 x2 y2 d2 x3 y3 d3 p s (Int.toNat (IntKind.i64.wrap (IntKind.i64.wrap (Int.tdiv
 (IntKind.i64.wrap (q - p)) s) + 1))) (DX.i x0)) (Int.toNat (↑(DX.i x0) : Int)) (IntKind.i64.wrap (p + IntKind.i64.wrap ((↑(DX.i x0) : Int) * s)))) (Int.toNat (↑(DX.i x0) : Int)) (zL (faE x1 y1 d1 x2 y2 d2 x3 y3 d3 (IntKind.i64.wrap (p + IntKind.i64.wrap ((↑(DX.i x0) : Int) * s)))) (atV x1 y1 d1
 (IntKind.i64.wrap (p + IntKind.i64.wrap ((↑(DX.i x0) : Int) * s)))))) (Int.toNat (↑(DX.i x0) : Int)) (zL (faE x1 y1 d1 x2 y2 d2 x3 y3 d3 (IntKind.i64.wrap (p + IntKind.i64.wrap ((↑(DX.i x0) : Int) * s)))) (atV x2 y2 d2 (IntKind.i64.wrap (p + IntKind.i64.wrap ((↑(DX.i x0) : Int) * s)))))) (Int.toNat
 (↑(DX.i x0) : Int)) (zL (faE x1 y1 d1 x2 y2 d2 x3 y3 d3 (IntKind.i64.wrap (p + IntKind.i64.wrap ((↑(DX.i x0) : Int) * s)))) (faZ x3 y3 d3 (IntKind.i64.wrap (p + IntKind.i64.wrap ((↑(DX.i x0) : Int) * s)))))) (Int.toNat (↑(DX.i x0) : Int)) (0 : Int)) = cSn (dfL x1 y1 d1 x2 y2 d2 x3 y3 d3 p s
 (Int.toNat (IntKind.i64.wrap (IntKind.i64.wrap (Int.tdiv (IntKind.i64.wrap (q - p)) s) + 1))) (DX.i y)) /\ (37 : Nat) = (37 : Nat) /\ some (Ow.mk (DX.a x0) (Int.toNat (IntKind.i64.wrap (IntKind.i64.wrap (Int.tdiv (IntKind.i64.wrap (q - p)) s) + 1))) (DX.c x0) (5 : Nat)) = some (Ow.mk (DX.a y)
 (Int.toNat (IntKind.i64.wrap (IntKind.i64.wrap (Int.tdiv (IntKind.i64.wrap (q - p)) s) + 1))) (DX.c y) (5 : Nat))) /\ True))) /\ (decide ((↑(DX.i x0) : Int) < IntKind.i64.wrap (IntKind.i64.wrap (Int.tdiv (IntKind.i64.wrap (q - p)) s) + 1)) = false -> Value.tuple (Array.mk [.slice (DX.a x0)
 (Int.toNat (IntKind.i64.wrap (IntKind.i64.wrap (Int.tdiv (IntKind.i64.wrap (q - p)) s) + 1))) (DX.c x0), .int .i64 0]) = Value.tuple (Array.mk [.slice none (0 : Nat) (0 : Nat), .int .i64 (drE x1 y1 d1 x2 y2 d2 x3 y3 d3 p q s)])))))) := by kernel_rfl
set_option maxHeartbeats 4000000 in
theorem drx_sp (x1 y1 d1 x2 y2 d2 x3 y3 d3 : Int) (p q s : Int) (he : ¬ drE x1 y1 d1 x2 y2 d2 x3 y3 d3 p q s = 0) : SpecG Tryd.prog [] ([]) 19 #[.agg #[.int .i64 x1, .int .i64 y1, .int .i64 d1, .int .i64 x2, .int .i64 y2, .int .i64 d2, .int .i64 x3, .int .i64 y3, .int .i64 d3], .int .i64 p, .int .i64 q, .int .i64 s] ([]) (fun ads => .tuple #[.slice none 0 0, .int .i64 (drE x1 y1 d1 x2 y2 d2 x3 y3 d3 p q s)]) := by
  refine specG_of (h := drx_h x1 y1 d1 x2 y2 d2 x3 y3 d3 p q s) (?_ : wpG Tryd.prog [] ([]) 400 19 [.agg #[.int .i64 x1, .int .i64 y1, .int .i64 d1, .int .i64 x2, .int .i64 y2, .int .i64 d2, .int .i64 x3, .int .i64 y3, .int .i64 d3], .int .i64 p, .int .i64 q, .int .i64 s] (drx_h x1 y1 d1 x2 y2 d2 x3 y3 d3 p q s) ([]) (fun ads => .tuple #[.slice none 0 0, .int .i64 (drE x1 y1 d1 x2 y2 d2 x3 y3 d3 p q s)]))
  rw [drx_x]
  (repeat' (first | with_reducible exact rfl | exact trivial | with_reducible assumption | (with_reducible exact fat_sp _ _ _ _ _ _ _ _ _ _) | exact cSn_len _ | exact cSn_one _ | exact cU_len _ | exact cI_len _ | exact cB_len _ | exact cU_one _ | exact cI_one _ | exact cB_one _ | exact (fun _ h => h) | exact (fun _ h => (List.not_mem_nil h).elim) | (with_reducible refine e1_in ?_) | (with_reducible refine e2_in ?_) | (with_reducible refine lx_in (Nat.le_of_ble_eq_true rfl) ?_) | (with_reducible refine rqx_rf ?_) | (with_reducible refine rqx_in ?_ ?_ ?_) | (with_reducible apply And.intro) | (with_reducible intro _)))
  all_goals (try (first | rfl | (simp only [*, Bool.and_true, Bool.true_and, Bool.and_false, Bool.false_and, Bool.or_true, Bool.true_or, Bool.or_false, Bool.false_or, Bool.not_true, Bool.not_false, cond_true, cond_false]; done) | (refine congrArg Value.bool ?_; have hh := ‹decide (p < 0) = _›; rw [hh]; rfl) | (refine congrArg Value.bool ?_; have hh := ‹decide (s < 1) = _›; rw [hh]; rfl)))
  all_goals (try (first
    | (rw [dx_1 ‹_›])
    | (rw [dx_2 ‹_› ‹_›])
    | (rw [dx_3 ‹_› ‹_› ‹_›])
    | exact dr_s0 ‹_›
    | exact dr_c0 ‹_› ‹_›
    | exact dr_c1 ‹_› ‹_›))
  all_goals (have h1 := ‹(decide (p < 0) || decide (q > 8000)) = false›; have h2 := ‹(decide (s < 1) || decide (p > q)) = false›; have h3 := ‹decide ((IntKind.i64.wrap ((IntKind.i64.wrap (Int.tdiv (IntKind.i64.wrap (q - p)) s)) + 1)) > 64) = false›)
  all_goals (try simp only [Int.toNat_natCast, dr_f h1 h2] at *)
  all_goals (first
    | exact cSn_mk _
    | exact aok_0
    | (exact ⟨⟨0, _, _⟩, ⟨rfl, (by assumption)⟩, rfl, rfl, ⟨(by trivial), (by rw [df_0]), (by trivial), rfl⟩, trivial⟩)
    | (have hx := ‹_ = 0 ∧ AOK _ _›; have hi : _ < drN p q s := dr_i h1 h2 ‹decide (((DX.i _ : Nat) : Int) < _) = true›; have hf := ‹(faE x1 y1 d1 x2 y2 d2 x3 y3 d3 _ != 0) = false›; exact (he (dx_4 h1 h2 h3 hi hf)).elim)
    | (have hx := ‹_ = 0 ∧ AOK _ _›; have hi : _ < drN p q s := dr_i h1 h2 ‹decide (((DX.i _ : Nat) : Int) < _) = true›; have hf := ‹(faE x1 y1 d1 x2 y2 d2 x3 y3 d3 _ != 0) = true›; rw [dx_5 h1 h2 h3 hi hf, fa_t h1 h2 hi])
    | (have hx := ‹_ = 0 ∧ AOK _ _›; have hj := dr_j h1 h2 ‹decide (((DX.i _ : Nat) : Int) < _) = false›; rw [hx.1] at hj; exact absurd hj (by unfold drN; omega))
    | trace_state)

@[reducible] def rdW (x1 y1 d1 x2 y2 d2 x3 y3 d3 : Int) (p q s : Int) : LoopR := ⟨DX, fun x => [(11, .int .i64 x.i), (10, .slice x.a x.i x.c)], [1], fun x => [⟨0, cSn (drL x1 y1 d1 x2 y2 d2 x3 y3 d3 p s x.i), 37, some ⟨x.a, x.i, x.c, 5⟩⟩], fun x => x.i ≤ drN p q s ∧ AOK x.a x.i, fun x => drN p q s - x.i, [(37, 5)]⟩
@[reducible] def rdX (x1 y1 d1 x2 y2 d2 x3 y3 d3 : Int) (p q s : Int) : LoopR := ⟨DX, fun x => [(11, .int .i64 x.i), (10, .slice x.a x.i x.c)], [1], fun x => [⟨0, cSn (drL x1 y1 d1 x2 y2 d2 x3 y3 d3 p s x.i), 37, some ⟨x.a, x.i, x.c, 5⟩⟩], fun x => x.i = 0 ∧ AOK x.a x.i, fun x => drN p q s - x.i, [(37, 5)]⟩
theorem rr_i {p q s : Int} {i : Nat} (h1 : (decide (p < 0) || decide (q > 8000)) = false) (h2 : (decide (s < 1) || decide (p > q)) = false) (h : decide ((i : Int) ≤ (IntKind.i64.wrap (Int.tdiv (IntKind.i64.wrap (q - p)) s))) = true) : i < drN p q s := by
  rw [(dr_q h1 h2).1] at h
  have := of_decide_eq_true h
  unfold drN; omega
theorem rr_j {p q s : Int} {i : Nat} (h1 : (decide (p < 0) || decide (q > 8000)) = false) (h2 : (decide (s < 1) || decide (p > q)) = false) (h : decide ((i : Int) ≤ (IntKind.i64.wrap (Int.tdiv (IntKind.i64.wrap (q - p)) s))) = false) : drN p q s ≤ i := by
  rw [(dr_q h1 h2).1] at h
  have := of_decide_eq_false h
  unfold drN; omega
theorem rr_a (x1 y1 d1 x2 y2 d2 x3 y3 d3 : Int) {p q s : Int} {i : Nat} (h1 : (decide (p < 0) || decide (q > 8000)) = false) (h2 : (decide (s < 1) || decide (p > q)) = false) (hi : i < drN p q s) {T0 : Int} (hT : IntKind.i64.wrap (p + IntKind.i64.wrap ((i : Int) * s)) = T0) :
    lapp (cSn (drL x1 y1 d1 x2 y2 d2 x3 y3 d3 p s i)) [.int .i64 T0, .int .i64 (atV x1 y1 d1 T0), .int .i64 (atV x2 y2 d2 T0), .int .i64 (faZ x3 y3 d3 T0), .int .i64 0] = cSn (drL x1 y1 d1 x2 y2 d2 x3 y3 d3 p s (i + 1)) := by
  rw [dr_s, ← (dr_t h1 h2 hi).1, hT]
  exact cSn_app _ (paS x1 y1 d1 x2 y2 d2 x3 y3 d3 T0)

end Go.Proofs.YtokifmeelgbkiaaDoor
