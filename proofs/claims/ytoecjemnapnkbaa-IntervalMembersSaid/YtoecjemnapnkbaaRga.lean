/- Layer 29 (interval): ranges, of both. -/
import Derived.Test.YtoecjemnapnkbaaVz
import Derived.KernelRfl
import Derived.Test.YtoecjemnapnkbaaProg
import Derived.Test.YtoecjemnapnkbaaWideG
import Derived.Test.YtoecjemnapnkbaaExq
import Derived.Test.YtoecjemnapnkbaaExqr
set_option linter.unusedSimpArgs false
set_option linter.unusedVariables false
set_option maxRecDepth 100000
namespace Go.Proofs.Ytoecjemnapnkbaa
open Go.RowKit


/-- The greatest size of an end. -/
def rMx : Int := 4611686018427387904
def mkE (lo hi : Int) : Int := if hi < lo then 1 else if lo < -rMx ∨ rMx < hi then 2 else 0
def zI (e x : Int) : Int := if e = 0 then x else 0
/-- A range with its error: the empty one if there is one. -/
def rgV (e lo hi : Int) : Value := .tuple #[.agg #[.int .i64 (zI e lo), .int .i64 (zI e hi)], .int .i64 e]
def rvB (lo hi : Int) : Bool := decide (lo ≤ hi ∧ -rMx ≤ lo ∧ hi ≤ rMx)
/-- The error of a range whose ends are in order. -/
def bdE (lo hi : Int) : Int := if lo < -rMx ∨ rMx < hi then 2 else 0
def rkB (x : Int) : Bool := decide (-rMx ≤ x ∧ x ≤ rMx)
def arE (n e : Int) : Int := if e < 0 then 1 else bdE (n - e) (n + e)
def adE (a b c d : Int) : Int := if rvB a b = true ∧ rvB c d = true then bdE (a + c) (b + d) else 1
def sbE (a b c d : Int) : Int := if rvB a b = true ∧ rvB c d = true then bdE (a - d) (b - c) else 1
def tmL (a b n : Int) : Int := if n < 0 then b * n else a * n
def tmH (a b n : Int) : Int := if n < 0 then a * n else b * n
def tmE (a b n : Int) : Int := if rvB a b = true then bdE (tmL a b n) (tmH a b n) else 1
def ovE (a b d : Int) : Int := if rvB a b = true ∧ d ≠ 0 then 0 else 1
def ovL (a b d : Int) : Int := flI (if d < 0 then b else a) d
def ovH (a b d : Int) : Int := ceI (if d < 0 then a else b) d
def miI (a b : Int) : Int := if a ≤ b then a else b
def maI (a b : Int) : Int := if a ≤ b then b else a
def huE (a b c d : Int) : Int := if rvB a b = true ∧ rvB c d = true then 0 else 1
def meE (a b c d : Int) : Int := if rvB a b = true ∧ rvB c d = true then (if b < c ∨ d < a then 6 else 0) else 1
def hsB (a b n : Int) : Bool := rvB a b && (decide (a ≤ n) && decide (n ≤ b))
def wiB (a b c d : Int) : Bool := rvB a b && (rvB c d && (decide (c ≤ a) && decide (b ≤ d)))
def apB (a b c d : Int) : Bool := rvB a b && (rvB c d && (decide (b < c) || decide (d < a)))
theorem rvB_t {a b : Int} : rvB a b = true ↔ a ≤ b ∧ -rMx ≤ a ∧ b ≤ rMx := by unfold rvB; exact decide_eq_true_iff
theorem rvB_f {a b : Int} : rvB a b = false ↔ ¬ (a ≤ b ∧ -rMx ≤ a ∧ b ≤ rMx) := by unfold rvB; exact decide_eq_false_iff_not
theorem rkB_t {a : Int} : rkB a = true ↔ -rMx ≤ a ∧ a ≤ rMx := by unfold rkB; exact decide_eq_true_iff
theorem rkB_f {a : Int} : rkB a = false ↔ ¬ (-rMx ≤ a ∧ a ≤ rMx) := by unfold rkB; exact decide_eq_false_iff_not
theorem in64_t {a : Int} : in64 a = true ↔ I64 a := by unfold in64 I64; simp
theorem in64_f {a : Int} : in64 a = false ↔ ¬ I64 a := by rw [← in64_t]; simp
theorem rgV_eq {e lo hi a b c : Int} (h1 : a = zI e lo) (h2 : b = zI e hi) (h3 : c = e) : Value.tuple #[.agg #[.int .i64 a, .int .i64 b], .int .i64 c] = rgV e lo hi := by subst h1 h2 h3; rfl
theorem wneg {b : Int} (h : -9223372036854775807 ≤ b ∧ b ≤ 9223372036854775807) : IntKind.i64.wrap (0 - b) = -b := by rw [IntWalk.i64_in _ (by omega)]; omega
theorem bd_no {a b : Int} (hab : a ≤ b) (h : (!in64 a || !in64 b) = true) : bdE a b = 2 := by
  unfold bdE rMx
  rw [if_pos]
  unfold in64 at h
  simp at h
  omega
theorem bd_yes {a b : Int} (hab : a ≤ b) (h : (!in64 a || !in64 b) = false) : clip64 a = a ∧ clip64 b = b ∧ mkE a b = bdE a b := by
  have h1 : in64 a = true := by cases e : in64 a <;> simp_all
  have h2 : in64 b = true := by cases e : in64 b <;> simp_all
  refine ⟨by simp [clip64, h1], by simp [clip64, h2], ?_⟩
  unfold mkE bdE
  rw [if_neg (by omega)]
theorem mk_rv (a b : Int) : (mkE a b == 0) = rvB a b := by
  unfold mkE rvB
  (repeat' split) <;> simp <;> omega
theorem two_t {x y : Bool} (h : (!x || !y) = false) : x = true ∧ y = true := by cases x <;> cases y <;> simp_all
theorem one_t {x : Bool} (h : (!x) = false) : x = true := by cases x <;> simp_all
theorem ar_le {a b : Int} (h : decide (b < 0) = false) (hb : I64 b) : a + IntKind.i64.wrap (0 - b) ≤ a + b := by
  have h := of_decide_eq_false h
  unfold I64 at hb
  rw [wneg (by omega)]
  omega
theorem ad_le {a b c d : Int} (h : (!rvB a b || !rvB c d) = false) : a + c ≤ b + d := by
  have h1 := rvB_t.1 (two_t h).1
  have h2 := rvB_t.1 (two_t h).2
  omega
theorem rv_64 {a b : Int} (h : rvB a b = true) : (-9223372036854775807 ≤ a ∧ a ≤ 9223372036854775807) ∧ (-9223372036854775807 ≤ b ∧ b ≤ 9223372036854775807) := by
  have h := rvB_t.1 h
  unfold rMx at h
  omega
theorem sb_le {a b c d : Int} (h : (!rvB a b || !rvB c d) = false) : a + IntKind.i64.wrap (0 - d) ≤ b + IntKind.i64.wrap (0 - c) := by
  have h1 := rvB_t.1 (two_t h).1
  have h2 := rvB_t.1 (two_t h).2
  have h3 := rv_64 (two_t h).2
  rw [wneg h3.1, wneg h3.2]
  omega
theorem ap_t {a b c d : Int} (h : (!rvB a b || !rvB c d) = false) (h2 : apB a b c d = true) : rvB a b = true ∧ rvB c d = true ∧ (b < c ∨ d < a) := by
  obtain ⟨p, q⟩ := two_t h
  unfold apB at h2
  simp [p, q] at h2
  exact ⟨p, q, h2⟩
theorem ap_f {a b c d : Int} (h : (!rvB a b || !rvB c d) = false) (h2 : apB a b c d = false) : rvB a b = true ∧ rvB c d = true ∧ c ≤ b ∧ a ≤ d := by
  obtain ⟨p, q⟩ := two_t h
  unfold apB at h2
  simp [p, q] at h2
  exact ⟨p, q, h2⟩
theorem ti_le1 {a b n : Int} (h : (!rvB a b) = false) (hn : decide (n < 0) = true) : b * n ≤ a * n := by
  have h1 := rvB_t.1 (one_t h)
  have hn := of_decide_eq_true hn
  exact Int.mul_le_mul_of_nonpos_right h1.1 (by omega)
theorem ti_le2 {a b n : Int} (h : (!rvB a b) = false) (hn : decide (n < 0) = false) : a * n ≤ b * n := by
  have h1 := rvB_t.1 (one_t h)
  have hn := of_decide_eq_false hn
  exact Int.mul_le_mul_of_nonneg_right h1.1 (by omega)

def rmk_h (lo hi : Int) : Hint := .split (ho 0 4 (.perm [] .nil)) (.cut [((15 : Nat), .bool (decide (lo < (-4611686018427387904 : Int)) || decide (hi > 4611686018427387904)))] (.split (.lit (.lit .nil)) (.lit (.lit .nil))) (.split (ho 0 4 (.perm [] .nil)) (ho 0 4 (.perm [] .nil))))
theorem rmk_x (lo hi : Int) : wpG Try.prog [] ([]) 400 16 [.int .i64 lo, .int .i64 hi] (rmk_h lo hi) ([]) (fun _ => rgV (mkE lo hi) lo hi) = (∀ (b : Nat), (decide (lo > hi) = true -> b = b /\ True /\ b = b /\ True /\ b = b /\ b = b /\ Value.tuple (Array.mk [.agg (Array.mk [.int .i64 0, .int .i64 0]), .int .i64 1]) = Value.tuple (Array.mk [.agg (Array.mk [.int .i64 (zI (mkE lo hi) lo), .int .i64 (zI (mkE lo hi) hi)]), .int .i64 (mkE lo
 hi)])) /\ (decide (lo > hi) = false -> ((decide (lo < (-4611686018427387904 : Int)) = true -> Value.bool true = Value.bool (decide (lo < (-4611686018427387904 : Int)) || decide (hi > 4611686018427387904)) /\ True) /\ (decide (lo < (-4611686018427387904 : Int)) = false -> Value.bool (decide (hi >
 4611686018427387904)) = Value.bool (decide (lo < (-4611686018427387904 : Int)) || decide (hi > 4611686018427387904)) /\ True)) /\ ∀ (junk : Nat -> Value), ((decide (lo < (-4611686018427387904 : Int)) || decide (hi > 4611686018427387904)) = true -> b = b /\ True /\ b = b /\ True /\ b = b /\ b = b /\
 Value.tuple (Array.mk [.agg (Array.mk [.int .i64 0, .int .i64 0]), .int .i64 2]) = Value.tuple (Array.mk [.agg (Array.mk [.int .i64 (zI (mkE lo hi) lo), .int .i64 (zI (mkE lo hi) hi)]), .int .i64 (mkE lo hi)])) /\ ((decide (lo < (-4611686018427387904 : Int)) || decide (hi > 4611686018427387904)) =
 false -> b = b /\ True /\ b = b /\ True /\ b = b /\ b = b /\ Value.tuple (Array.mk [.agg (Array.mk [.int .i64 lo, .int .i64 hi]), .int .i64 0]) = Value.tuple (Array.mk [.agg (Array.mk [.int .i64 (zI (mkE lo hi) lo), .int .i64 (zI (mkE lo hi) hi)]), .int .i64 (mkE lo hi)])))) := by kernel_rfl
set_option maxHeartbeats 4000000 in
theorem rmk_sp (lo hi : Int)  : SpecG Try.prog [] ([]) 16 #[.int .i64 lo, .int .i64 hi] ([]) (fun _ => rgV (mkE lo hi) lo hi) := by
  refine specG_of (h := rmk_h lo hi) (?_ : wpG Try.prog [] ([]) 400 16 [.int .i64 lo, .int .i64 hi] (rmk_h lo hi) ([]) (fun _ => rgV (mkE lo hi) lo hi))
  rw [rmk_x]
  (repeat' (first | with_reducible exact rfl | exact trivial | with_reducible assumption | exact cU_len _ | exact cI_len _ | exact cB_len _ | exact cU_one _ | exact cI_one _ | exact cB_one _ | exact (fun _ h => h) | exact (fun _ h => (List.not_mem_nil h).elim) | (with_reducible refine e1_in ?_) | (with_reducible refine e2_in ?_) | (with_reducible refine lx_in (Nat.le_of_ble_eq_true rfl) ?_) | (with_reducible refine rqx_rf ?_) | (with_reducible refine rqx_in ?_ ?_ ?_) | (with_reducible apply And.intro) | (with_reducible intro _)))
  all_goals (first | (simp only [*, Bool.and_true, Bool.true_and, Bool.and_false, Bool.false_and, Bool.or_true, Bool.true_or, Bool.or_false, Bool.false_or, Bool.not_true, Bool.not_false, cond_true, cond_false]; done) | ((try (simp only [Bool.not_eq_true', Bool.not_eq_false', Bool.or_eq_true, Bool.or_eq_false_iff, Bool.and_eq_true, Bool.and_eq_false_iff, decide_eq_true_eq, decide_eq_false_iff_not, bne_iff_ne, bne_eq_false_iff_eq, beq_iff_eq, beq_eq_false_iff_ne, ne_eq, Decidable.not_not, gt_iff_lt, ge_iff_le] at *)); (first | refine rgV_eq ?_ ?_ ?_ | refine congrArg Value.bool ?_ | skip) <;> simp only [mkE, rMx, zI] <;> (repeat' split) <;> first | rfl | (simp_all; done) | omega | (simp_all <;> omega)) | trace_state)
def rva_h (lo hi : Int) : Hint := ho 0 2 (.specg [] [] [] [] (fun ads0 x ↦ rgV (mkE lo hi) lo hi) (ho 1 2 (.pl (.perm [] .nil))))
theorem rva_x (lo hi : Int) : wpG Try.prog [] ([]) 400 20 [.agg #[.int .i64 lo, .int .i64 hi]] (rva_h lo hi) ([]) (fun _ => .bool (rvB lo hi)) = (∀ (b : Nat), b = b /\ b = b /\ (SpecG Try.prog [] [] (16 : FuncId) #[Value.int .i64 lo, .int .i64 hi] [] fun x ↦ rgV (mkE lo hi) lo hi) /\ (∀ (e : Ex), e ∈ [] -> e ∈ []) /\ ∀ (b : Nat), b = b /\ True /\ b = b /\ True /\ Value.bool (mkE lo hi == 0) = Value.bool (rvB lo hi)) := by kernel_rfl
set_option maxHeartbeats 4000000 in
theorem rva_sp (lo hi : Int)  : SpecG Try.prog [] ([]) 20 #[.agg #[.int .i64 lo, .int .i64 hi]] ([]) (fun _ => .bool (rvB lo hi)) := by
  refine specG_of (h := rva_h lo hi) (?_ : wpG Try.prog [] ([]) 400 20 [.agg #[.int .i64 lo, .int .i64 hi]] (rva_h lo hi) ([]) (fun _ => .bool (rvB lo hi)))
  rw [rva_x]
  (repeat' (first | with_reducible exact rfl | exact trivial | with_reducible assumption | (with_reducible exact rmk_sp _ _) | exact cU_len _ | exact cI_len _ | exact cB_len _ | exact cU_one _ | exact cI_one _ | exact cB_one _ | exact (fun _ h => h) | exact (fun _ h => (List.not_mem_nil h).elim) | (with_reducible refine e1_in ?_) | (with_reducible refine e2_in ?_) | (with_reducible refine lx_in (Nat.le_of_ble_eq_true rfl) ?_) | (with_reducible refine rqx_rf ?_) | (with_reducible refine rqx_in ?_ ?_ ?_) | (with_reducible apply And.intro) | (with_reducible intro _)))
  all_goals (first | (rw [mk_rv]; done) | trace_state)
def rsu_h (a b : Int) : Hint := .specg [] [] [] [] (fun ads0 x ↦ W a) (.specg [] [] [] [] (fun ads0 x ↦ W b) (.specg [] [] [] [] (fun ads0 x ↦ Value.tuple #[W (clip (a + b)), .bool (fitB (a + b))]) (ho 1 4 (ho 0 4 (.perm [] .nil)))))
theorem rsu_x (a b : Int) : wpG Try.prog [] ([]) 400 61 [.int .i64 a, .int .i64 b] (rsu_h a b) ([]) (fun _ => W (a + b)) = (∀ (b_1 : Nat), (SpecG Try.prog [] [] (47 : FuncId) #[Value.int .i64 a] [] fun x ↦ W a) /\ (∀ (e : Ex), e ∈ [] -> e ∈ []) /\ (SpecG Try.prog [] [] (47 : FuncId) #[Value.int .i64 b] [] fun x ↦ W b) /\ (∀ (e : Ex), e ∈ [] -> e ∈ []) /\ (SpecG Try.prog [] [] (48 : FuncId) #[W a, W b] [] fun x ↦
 Value.tuple #[W (clip (a + b)), .bool (fitB (a + b))]) /\ (∀ (e : Ex), e ∈ [] -> e ∈ []) /\ ∀ (b_2 : Nat), b_2 = b_2 /\ True /\ b_2 = b_2 /\ True /\ b_2 = b_2 /\ b_2 = b_2 /\ b_1 = b_1 /\ True /\ b_1 = b_1 /\ True /\ b_1 = b_1 /\ b_1 = b_1 /\ Value.agg (Array.mk [.int .i64 (wh (clip (a + b))), .int
 IntKind.u64 (wl (clip (a + b)))]) = Value.agg (Array.mk [.int .i64 (wh (a + b)), .int IntKind.u64 (wl (a + b))])) := by kernel_rfl
set_option maxHeartbeats 4000000 in
theorem rsu_sp (a b : Int) (ha : I64 a) (hb : I64 b) : SpecG Try.prog [] ([]) 61 #[.int .i64 a, .int .i64 b] ([]) (fun _ => W (a + b)) := by
  refine specG_of (h := rsu_h a b) (?_ : wpG Try.prog [] ([]) 400 61 [.int .i64 a, .int .i64 b] (rsu_h a b) ([]) (fun _ => W (a + b)))
  rw [rsu_x]
  (repeat' (first | with_reducible exact rfl | exact trivial | with_reducible assumption | (with_reducible exact wof_sp _ ha) | (with_reducible exact wof_sp _ hb) | (with_reducible exact wad_sp _ _ (fits64 ha) (fits64 hb)) | exact cU_len _ | exact cI_len _ | exact cB_len _ | exact cU_one _ | exact cI_one _ | exact cB_one _ | exact (fun _ h => h) | exact (fun _ h => (List.not_mem_nil h).elim) | (with_reducible refine e1_in ?_) | (with_reducible refine e2_in ?_) | (with_reducible refine lx_in (Nat.le_of_ble_eq_true rfl) ?_) | (with_reducible refine rqx_rf ?_) | (with_reducible refine rqx_in ?_ ?_ ?_) | (with_reducible apply And.intro) | (with_reducible intro _)))
  all_goals (first | (rw [clip_yes (fitsS ha hb)]; done) | trace_state)
def rbd_h (a b : Int) : Hint := ho 0 2 (.specg [] [] [] [] (fun ads0 x ↦ Value.tuple #[Value.int .i64 (clip64 a), .bool (in64 a)]) (ho 1 2 (.specg [] [] [] [] (fun ads0 x ↦ Value.tuple #[Value.int .i64 (clip64 b), .bool (in64 b)]) (.cut [((25 : Nat), .bool (!in64 a || !in64 b))] (.split (.lit (.lit .nil)) (.lit (.lit .nil)))
 (.split (ho 2 4 (.perm [] .nil)) (.specg [] [] [] [] (fun ads0 x ↦ rgV (mkE (clip64 a) (clip64 b)) (clip64 a) (clip64 b)) (ho 2 4 (.perm [] .nil))))))))
theorem rbd_x (a b : Int) : wpG Try.prog [] ([]) 400 60 [W a, W b] (rbd_h a b) ([]) (fun _ => rgV (bdE a b) a b) = (∀ (b_1 b_2 b_3 : Nat), b_1 = b_1 /\ b_1 = b_1 /\ (SpecG Try.prog [] [] (93 : FuncId) #[W a] [] fun x ↦ Value.tuple #[Value.int .i64 (clip64 a), .bool (in64 a)]) /\ (∀ (e : Ex), e ∈ [] -> e ∈ []) /\ b_2 = b_2 /\ b_2 = b_2 /\ (SpecG Try.prog [] [] (93 : FuncId) #[W b] [] fun x ↦ Value.tuple #[Value.int
 .i64 (clip64 b), .bool (in64 b)]) /\ (∀ (e : Ex), e ∈ [] -> e ∈ []) /\ (((!in64 a) = true -> Value.bool true = Value.bool (!in64 a || !in64 b) /\ True) /\ ((!in64 a) = false -> (Value.bool !in64 b) = Value.bool (!in64 a || !in64 b) /\ True)) /\ ∀ (junk : Nat -> Value), ((!in64 a || !in64 b) = true
 -> b_3 = b_3 /\ True /\ b_3 = b_3 /\ True /\ b_3 = b_3 /\ b_3 = b_3 /\ Value.tuple (Array.mk [.agg (Array.mk [.int .i64 0, .int .i64 0]), .int .i64 2]) = Value.tuple (Array.mk [.agg (Array.mk [.int .i64 (zI (bdE a b) a), .int .i64 (zI (bdE a b) b)]), .int .i64 (bdE a b)])) /\ ((!in64 a || !in64 b) =
 false -> (SpecG Try.prog [] [] (16 : FuncId) #[Value.int .i64 (clip64 a), .int .i64 (clip64 b)] [] fun x ↦ rgV (mkE (clip64 a) (clip64 b)) (clip64 a) (clip64 b)) /\ (∀ (e : Ex), e ∈ [] -> e ∈ []) /\ b_3 = b_3 /\ True /\ b_3 = b_3 /\ True /\ b_3 = b_3 /\ b_3 = b_3 /\ Value.tuple (Array.mk [.agg
 (Array.mk [.int .i64 (zI (mkE (clip64 a) (clip64 b)) (clip64 a)), .int .i64 (zI (mkE (clip64 a) (clip64 b)) (clip64 b))]), .int .i64 (mkE (clip64 a) (clip64 b))]) = Value.tuple (Array.mk [.agg (Array.mk [.int .i64 (zI (bdE a b) a), .int .i64 (zI (bdE a b) b)]), .int .i64 (bdE a b)]))) := by kernel_rfl
set_option maxHeartbeats 4000000 in
theorem rbd_sp (a b : Int) (ha : fits a) (hb : fits b) (hab : a ≤ b) : SpecG Try.prog [] ([]) 60 #[W a, W b] ([]) (fun _ => rgV (bdE a b) a b) := by
  refine specG_of (h := rbd_h a b) (?_ : wpG Try.prog [] ([]) 400 60 [W a, W b] (rbd_h a b) ([]) (fun _ => rgV (bdE a b) a b))
  rw [rbd_x]
  (repeat' (first | with_reducible exact rfl | exact trivial | with_reducible assumption | (with_reducible exact wft_sp _ ha) | (with_reducible exact wft_sp _ hb) | (with_reducible exact rmk_sp _ _) | exact cU_len _ | exact cI_len _ | exact cB_len _ | exact cU_one _ | exact cI_one _ | exact cB_one _ | exact (fun _ h => h) | exact (fun _ h => (List.not_mem_nil h).elim) | (with_reducible refine e1_in ?_) | (with_reducible refine e2_in ?_) | (with_reducible refine lx_in (Nat.le_of_ble_eq_true rfl) ?_) | (with_reducible refine rqx_rf ?_) | (with_reducible refine rqx_in ?_ ?_ ?_) | (with_reducible apply And.intro) | (with_reducible intro _)))
  all_goals (first | (simp only [*, Bool.and_true, Bool.true_and, Bool.and_false, Bool.false_and, Bool.or_true, Bool.true_or, Bool.or_false, Bool.false_or, Bool.not_true, Bool.not_false, cond_true, cond_false]; done) | (rw [bd_no hab ‹_›]; rfl) | (obtain ⟨h1, h2, h3⟩ := bd_yes hab ‹_›; rw [h1, h2, h3]) | trace_state)
def rar_h (a b : Int) : Hint := .split (ho 0 4 (.perm [] .nil)) (.specg [] [] [] [] (fun ads0 x ↦ W (a + IntKind.i64.wrap ((0 : Int) - b))) (.specg [] [] [] [] (fun ads0 x ↦ W (a + b)) (.specg [] [] [] [] (fun ads0 x ↦ rgV (bdE (a + IntKind.i64.wrap ((0 : Int) - b)) (a + b)) (a + IntKind.i64.wrap ((0 : Int) - b)) (a + b)) (ho 0 4
 (.perm [] .nil)))))
theorem rar_x (a b : Int) : wpG Try.prog [] ([]) 400 18 [.int .i64 a, .int .i64 b] (rar_h a b) ([]) (fun _ => rgV (arE a b) (a - b) (a + b)) = (∀ (b_1 : Nat), (decide (b < 0) = true -> b_1 = b_1 /\ True /\ b_1 = b_1 /\ True /\ b_1 = b_1 /\ b_1 = b_1 /\ Value.tuple (Array.mk [.agg (Array.mk [.int .i64 0, .int .i64 0]), .int .i64 1]) = Value.tuple (Array.mk [.agg (Array.mk [.int .i64 (zI (arE a b) (a - b)), .int .i64 (zI (arE a b) (a + b))]),
 .int .i64 (arE a b)])) /\ (decide (b < 0) = false -> (SpecG Try.prog [] [] (61 : FuncId) #[Value.int .i64 a, .int .i64 (IntKind.i64.wrap ((0 : Int) - b))] [] fun x ↦ W (a + IntKind.i64.wrap ((0 : Int) - b))) /\ (∀ (e : Ex), e ∈ [] -> e ∈ []) /\ (SpecG Try.prog [] [] (61 : FuncId) #[Value.int .i64 a,
 .int .i64 b] [] fun x ↦ W (a + b)) /\ (∀ (e : Ex), e ∈ [] -> e ∈ []) /\ (SpecG Try.prog [] [] (60 : FuncId) #[W (a + IntKind.i64.wrap ((0 : Int) - b)), W (a + b)] [] fun x ↦ rgV (bdE (a + IntKind.i64.wrap ((0 : Int) - b)) (a + b)) (a + IntKind.i64.wrap ((0 : Int) - b)) (a + b)) /\ (∀ (e : Ex), e ∈
 [] -> e ∈ []) /\ b_1 = b_1 /\ True /\ b_1 = b_1 /\ True /\ b_1 = b_1 /\ b_1 = b_1 /\ Value.tuple (Array.mk [.agg (Array.mk [.int .i64 (zI (bdE (a + IntKind.i64.wrap ((0 : Int) - b)) (a + b)) (a + IntKind.i64.wrap ((0 : Int) - b))), .int .i64 (zI (bdE (a + IntKind.i64.wrap ((0 : Int) - b)) (a + b))
 (a + b))]), .int .i64 (bdE (a + IntKind.i64.wrap ((0 : Int) - b)) (a + b))]) = Value.tuple (Array.mk [.agg (Array.mk [.int .i64 (zI (arE a b) (a - b)), .int .i64 (zI (arE a b) (a + b))]), .int .i64 (arE a b)]))) := by kernel_rfl
set_option maxHeartbeats 4000000 in
theorem rar_sp (a b : Int) (ha : I64 a) (hb : I64 b) : SpecG Try.prog [] ([]) 18 #[.int .i64 a, .int .i64 b] ([]) (fun _ => rgV (arE a b) (a - b) (a + b)) := by
  refine specG_of (h := rar_h a b) (?_ : wpG Try.prog [] ([]) 400 18 [.int .i64 a, .int .i64 b] (rar_h a b) ([]) (fun _ => rgV (arE a b) (a - b) (a + b)))
  rw [rar_x]
  (repeat' (first | with_reducible exact rfl | exact trivial | with_reducible assumption | (with_reducible exact rsu_sp _ _ (by first | assumption | exact i64w _) (by first | assumption | exact i64w _)) | (with_reducible exact rbd_sp _ _ (by first | assumption | (apply fitsS <;> first | assumption | exact i64w _) | (apply fitsP <;> assumption)) (by first | assumption | (apply fitsS <;> first | assumption | exact i64w _) | (apply fitsP <;> assumption)) (by first | exact ar_le ‹_› (by assumption) | exact ad_le ‹_› | exact sb_le ‹_› | exact ti_le1 ‹_› ‹_› | exact ti_le2 ‹_› ‹_›)) | exact cU_len _ | exact cI_len _ | exact cB_len _ | exact cU_one _ | exact cI_one _ | exact cB_one _ | exact (fun _ h => h) | exact (fun _ h => (List.not_mem_nil h).elim) | (with_reducible refine e1_in ?_) | (with_reducible refine e2_in ?_) | (with_reducible refine lx_in (Nat.le_of_ble_eq_true rfl) ?_) | (with_reducible refine rqx_rf ?_) | (with_reducible refine rqx_in ?_ ?_ ?_) | (with_reducible apply And.intro) | (with_reducible intro _)))
  all_goals (first | (simp only [*, Bool.and_true, Bool.true_and, Bool.and_false, Bool.false_and, Bool.or_true, Bool.true_or, Bool.or_false, Bool.false_or, Bool.not_true, Bool.not_false, cond_true, cond_false]; done) | ((try (have h := of_decide_eq_false ‹decide (b < 0) = false›; unfold I64 at hb; rw [wneg (by omega)])); (try (simp only [Bool.not_eq_true', Bool.not_eq_false', Bool.or_eq_true, Bool.or_eq_false_iff, Bool.and_eq_true, Bool.and_eq_false_iff, decide_eq_true_eq, decide_eq_false_iff_not, bne_iff_ne, bne_eq_false_iff_eq, beq_iff_eq, beq_eq_false_iff_ne, ne_eq, Decidable.not_not, gt_iff_lt, ge_iff_le] at *)); (first | refine rgV_eq ?_ ?_ ?_ | refine congrArg Value.bool ?_ | skip) <;> simp only [arE, Int.sub_eq_add_neg, zI] <;> (repeat' split) <;> first | rfl | (simp_all; done) | omega | (simp_all <;> omega)) | trace_state)
def rad_h (a b c d : Int) : Hint := .nc (.cut [((13 : Nat), .bool (!rvB a b || !rvB c d))] (ho 0 2 (.specg [] [] [] [] (fun ads0 x ↦ Value.bool (rvB a b)) (.split (.lit (.lit (.lit .nil))) (ho 1 2 (.lit (.specg [] [] [] [] (fun ads0 x ↦ Value.bool (rvB c d)) (.lit (.lit .nil)))))))) (.split (ho 2 4 (.perm [] .nil)) (.draw [0, 1, 2]
 (some 10) [0, 1] (.take 0 (.take 1 (.ob 0 (.take 2 (.take 3 (.ob 1 (.take 5 (.take 6 (.ob 0 (.take 7 (.take 8 (.ob 1 (.pl (.br (.specg [] [] [] [] (fun ads0 x ↦ W (a + c)) (.pl (.br (.specg [] [] [] [] (fun ads0 x ↦ W (b + d)) (.pl (.br (.specg [] [] [] [] (fun ads0 x ↦ rgV (bdE (a + c) (b + d)) (a
 + c) (b + d)) (.take 11 (.take 12 (.pl (.br (ho 2 2 (.take 14 (ho 2 2 (.perm [] .nil)))) .nil))))) .nil))) .nil))) .nil)))))))))))))))))
theorem rad_x (a b c d : Int) : wpG Try.prog [] ([]) 400 22 [.agg #[.int .i64 a, .int .i64 b], .agg #[.int .i64 c, .int .i64 d]] (rad_h a b c d) ([]) (fun _ => rgV (adE a b c d) (a + c) (b + d)) = (∀ (b_1 b_2 b_3 : Nat), (b_1 = b_1 /\ b_1 = b_1 /\ (SpecG Try.prog [] [] (20 : FuncId) #[Value.agg #[Value.int .i64 a, .int .i64 b]] [] fun x ↦ Value.bool (rvB a b)) /\ (∀ (e : Ex), e ∈ [] -> e ∈ []) /\ ((!rvB a b) = true -> Value.bool true = Value.bool (!rvB a b || !rvB c d) /\ True) /\ ((!rvB a b) =
 false -> b_2 = b_2 /\ b_2 = b_2 /\ (SpecG Try.prog [] [] (20 : FuncId) #[Value.agg #[Value.int .i64 c, .int .i64 d]] [] fun x ↦ Value.bool (rvB c d)) /\ (∀ (e : Ex), e ∈ [] -> e ∈ []) /\ (Value.bool !rvB c d) = Value.bool (!rvB a b || !rvB c d) /\ True)) /\ ∀ (junk : Nat -> Value), ((!rvB a b ||
 !rvB c d) = true -> b_3 = b_3 /\ True /\ b_3 = b_3 /\ True /\ b_3 = b_3 /\ b_3 = b_3 /\ Value.tuple (Array.mk [.agg (Array.mk [.int .i64 0, .int .i64 0]), .int .i64 1]) = Value.tuple (Array.mk [.agg (Array.mk [.int .i64 (zI (adE a b c d) (a + c)), .int .i64 (zI (adE a b c d) (b + d))]), .int .i64
 (adE a b c d)])) /\ ((!rvB a b || !rvB c d) = false -> b_1 = b_1 /\ b_2 = b_2 /\ b_1 = b_1 /\ b_2 = b_2 /\ True /\ ((SpecG Try.prog [] [] (61 : FuncId) #[Value.int .i64 a, .int .i64 c] [] fun x ↦ W (a + c)) /\ (∀ (e : Ex), e ∈ [] -> e ∈ []) /\ True /\ ((SpecG Try.prog [] [] (61 : FuncId) #[Value.int
 .i64 b, .int .i64 d] [] fun x ↦ W (b + d)) /\ (∀ (e : Ex), e ∈ [] -> e ∈ []) /\ True /\ ((SpecG Try.prog [] [] (60 : FuncId) #[W (a + c), W (b + d)] [] fun x ↦ rgV (bdE (a + c) (b + d)) (a + c) (b + d)) /\ (∀ (e : Ex), e ∈ [] -> e ∈ []) /\ True /\ (b_3 = b_3 /\ True /\ b_3 = b_3 /\ True /\ b_3 = b_3
 /\ b_3 = b_3 /\ Value.tuple (Array.mk [.agg (Array.mk [.int .i64 (zI (bdE (a + c) (b + d)) (a + c)), .int .i64 (zI (bdE (a + c) (b + d)) (b + d))]), .int .i64 (bdE (a + c) (b + d))]) = Value.tuple (Array.mk [.agg (Array.mk [.int .i64 (zI (adE a b c d) (a + c)), .int .i64 (zI (adE a b c d) (b +
 d))]), .int .i64 (adE a b c d)])) /\ True) /\ True) /\ True) /\ True)) := by kernel_rfl
set_option maxHeartbeats 4000000 in
theorem rad_sp (a b c d : Int) (ha : I64 a) (hb : I64 b) (hc : I64 c) (hd : I64 d) : SpecG Try.prog [] ([]) 22 #[.agg #[.int .i64 a, .int .i64 b], .agg #[.int .i64 c, .int .i64 d]] ([]) (fun _ => rgV (adE a b c d) (a + c) (b + d)) := by
  refine specG_of (h := rad_h a b c d) (?_ : wpG Try.prog [] ([]) 400 22 [.agg #[.int .i64 a, .int .i64 b], .agg #[.int .i64 c, .int .i64 d]] (rad_h a b c d) ([]) (fun _ => rgV (adE a b c d) (a + c) (b + d)))
  rw [rad_x]
  (repeat' (first | with_reducible exact rfl | exact trivial | with_reducible assumption | (with_reducible exact rva_sp _ _) | (with_reducible exact rsu_sp _ _ (by first | assumption | exact i64w _) (by first | assumption | exact i64w _)) | (with_reducible exact rbd_sp _ _ (by first | assumption | (apply fitsS <;> first | assumption | exact i64w _) | (apply fitsP <;> assumption)) (by first | assumption | (apply fitsS <;> first | assumption | exact i64w _) | (apply fitsP <;> assumption)) (by first | exact ar_le ‹_› (by assumption) | exact ad_le ‹_› | exact sb_le ‹_› | exact ti_le1 ‹_› ‹_› | exact ti_le2 ‹_› ‹_›)) | exact cU_len _ | exact cI_len _ | exact cB_len _ | exact cU_one _ | exact cI_one _ | exact cB_one _ | exact (fun _ h => h) | exact (fun _ h => (List.not_mem_nil h).elim) | (with_reducible refine e1_in ?_) | (with_reducible refine e2_in ?_) | (with_reducible refine lx_in (Nat.le_of_ble_eq_true rfl) ?_) | (with_reducible refine rqx_rf ?_) | (with_reducible refine rqx_in ?_ ?_ ?_) | (with_reducible apply And.intro) | (with_reducible intro _)))
  all_goals (first | (simp only [*, Bool.and_true, Bool.true_and, Bool.and_false, Bool.false_and, Bool.or_true, Bool.true_or, Bool.or_false, Bool.false_or, Bool.not_true, Bool.not_false, cond_true, cond_false]; done) | ((try (simp only [Bool.not_eq_true', Bool.not_eq_false', Bool.or_eq_true, Bool.or_eq_false_iff, Bool.and_eq_true, Bool.and_eq_false_iff, decide_eq_true_eq, decide_eq_false_iff_not, bne_iff_ne, bne_eq_false_iff_eq, beq_iff_eq, beq_eq_false_iff_ne, ne_eq, Decidable.not_not, gt_iff_lt, ge_iff_le] at *)); (first | refine rgV_eq ?_ ?_ ?_ | refine congrArg Value.bool ?_ | skip) <;> simp only [adE, zI] <;> (repeat' split) <;> first | rfl | (simp_all; done) | omega | (simp_all <;> omega)) | trace_state)
def rsb_h (a b c d : Int) : Hint := .nc (.cut [((13 : Nat), .bool (!rvB a b || !rvB c d))] (ho 0 2 (.specg [] [] [] [] (fun ads0 x ↦ Value.bool (rvB a b)) (.split (.lit (.lit (.lit .nil))) (ho 1 2 (.lit (.specg [] [] [] [] (fun ads0 x ↦ Value.bool (rvB c d)) (.lit (.lit .nil)))))))) (.split (ho 2 4 (.perm [] .nil)) (.draw [0, 1, 2]
 (some 12) [0, 1] (.take 0 (.take 1 (.ob 0 (.take 2 (.take 3 (.ob 1 (.take 4 (.take 6 (.take 7 (.ob 0 (.take 8 (.take 9 (.ob 1 (.take 10 (.pl (.br (.specg [] [] [] [] (fun ads0 x ↦ W (a + IntKind.i64.wrap ((0 : Int) - d))) (.pl (.br (.specg [] [] [] [] (fun ads0 x ↦ W (b + IntKind.i64.wrap ((0 : Int)
 - c))) (.pl (.br (.specg [] [] [] [] (fun ads0 x ↦ rgV (bdE (a + IntKind.i64.wrap ((0 : Int) - d)) (b + IntKind.i64.wrap ((0 : Int) - c))) (a + IntKind.i64.wrap ((0 : Int) - d)) (b + IntKind.i64.wrap ((0 : Int) - c))) (.take 13 (.take 14 (.pl (.br (ho 2 2 (.take 16 (ho 2 2 (.perm [] .nil))))
 .nil))))) .nil))) .nil))) .nil)))))))))))))))))))
theorem rsb_x (a b c d : Int) : wpG Try.prog [] ([]) 400 24 [.agg #[.int .i64 a, .int .i64 b], .agg #[.int .i64 c, .int .i64 d]] (rsb_h a b c d) ([]) (fun _ => rgV (sbE a b c d) (a - d) (b - c)) = (∀ (b_1 b_2 b_3 : Nat), (b_1 = b_1 /\ b_1 = b_1 /\ (SpecG Try.prog [] [] (20 : FuncId) #[Value.agg #[Value.int .i64 a, .int .i64 b]] [] fun x ↦ Value.bool (rvB a b)) /\ (∀ (e : Ex), e ∈ [] -> e ∈ []) /\ ((!rvB a b) = true -> Value.bool true = Value.bool (!rvB a b || !rvB c d) /\ True) /\ ((!rvB a b) =
 false -> b_2 = b_2 /\ b_2 = b_2 /\ (SpecG Try.prog [] [] (20 : FuncId) #[Value.agg #[Value.int .i64 c, .int .i64 d]] [] fun x ↦ Value.bool (rvB c d)) /\ (∀ (e : Ex), e ∈ [] -> e ∈ []) /\ (Value.bool !rvB c d) = Value.bool (!rvB a b || !rvB c d) /\ True)) /\ ∀ (junk : Nat -> Value), ((!rvB a b ||
 !rvB c d) = true -> b_3 = b_3 /\ True /\ b_3 = b_3 /\ True /\ b_3 = b_3 /\ b_3 = b_3 /\ Value.tuple (Array.mk [.agg (Array.mk [.int .i64 0, .int .i64 0]), .int .i64 1]) = Value.tuple (Array.mk [.agg (Array.mk [.int .i64 (zI (sbE a b c d) (a - d)), .int .i64 (zI (sbE a b c d) (b - c))]), .int .i64
 (sbE a b c d)])) /\ ((!rvB a b || !rvB c d) = false -> b_1 = b_1 /\ b_2 = b_2 /\ b_1 = b_1 /\ b_2 = b_2 /\ True /\ ((SpecG Try.prog [] [] (61 : FuncId) #[Value.int .i64 a, .int .i64 (IntKind.i64.wrap ((0 : Int) - d))] [] fun x ↦ W (a + IntKind.i64.wrap ((0 : Int) - d))) /\ (∀ (e : Ex), e ∈ [] -> e ∈
 []) /\ True /\ ((SpecG Try.prog [] [] (61 : FuncId) #[Value.int .i64 b, .int .i64 (IntKind.i64.wrap ((0 : Int) - c))] [] fun x ↦ W (b + IntKind.i64.wrap ((0 : Int) - c))) /\ (∀ (e : Ex), e ∈ [] -> e ∈ []) /\ True /\ ((SpecG Try.prog [] [] (60 : FuncId) #[W (a + IntKind.i64.wrap ((0 : Int) - d)), W
 (b + IntKind.i64.wrap ((0 : Int) - c))] [] fun x ↦ rgV (bdE (a + IntKind.i64.wrap ((0 : Int) - d)) (b + IntKind.i64.wrap ((0 : Int) - c))) (a + IntKind.i64.wrap ((0 : Int) - d)) (b + IntKind.i64.wrap ((0 : Int) - c))) /\ (∀ (e : Ex), e ∈ [] -> e ∈ []) /\ True /\ (b_3 = b_3 /\ True /\ b_3 = b_3 /\
 True /\ b_3 = b_3 /\ b_3 = b_3 /\ Value.tuple (Array.mk [.agg (Array.mk [.int .i64 (zI (bdE (a + IntKind.i64.wrap ((0 : Int) - d)) (b + IntKind.i64.wrap ((0 : Int) - c))) (a + IntKind.i64.wrap ((0 : Int) - d))), .int .i64 (zI (bdE (a + IntKind.i64.wrap ((0 : Int) - d)) (b + IntKind.i64.wrap ((0 :
 Int) - c))) (b + IntKind.i64.wrap ((0 : Int) - c)))]), .int .i64 (bdE (a + IntKind.i64.wrap ((0 : Int) - d)) (b + IntKind.i64.wrap ((0 : Int) - c)))]) = Value.tuple (Array.mk [.agg (Array.mk [.int .i64 (zI (sbE a b c d) (a - d)), .int .i64 (zI (sbE a b c d) (b - c))]), .int .i64 (sbE a b c d)])) /\
 True) /\ True) /\ True) /\ True)) := by kernel_rfl
set_option maxHeartbeats 4000000 in
theorem rsb_sp (a b c d : Int) (ha : I64 a) (hb : I64 b) (hc : I64 c) (hd : I64 d) : SpecG Try.prog [] ([]) 24 #[.agg #[.int .i64 a, .int .i64 b], .agg #[.int .i64 c, .int .i64 d]] ([]) (fun _ => rgV (sbE a b c d) (a - d) (b - c)) := by
  refine specG_of (h := rsb_h a b c d) (?_ : wpG Try.prog [] ([]) 400 24 [.agg #[.int .i64 a, .int .i64 b], .agg #[.int .i64 c, .int .i64 d]] (rsb_h a b c d) ([]) (fun _ => rgV (sbE a b c d) (a - d) (b - c)))
  rw [rsb_x]
  (repeat' (first | with_reducible exact rfl | exact trivial | with_reducible assumption | (with_reducible exact rva_sp _ _) | (with_reducible exact rsu_sp _ _ (by first | assumption | exact i64w _) (by first | assumption | exact i64w _)) | (with_reducible exact rbd_sp _ _ (by first | assumption | (apply fitsS <;> first | assumption | exact i64w _) | (apply fitsP <;> assumption)) (by first | assumption | (apply fitsS <;> first | assumption | exact i64w _) | (apply fitsP <;> assumption)) (by first | exact ar_le ‹_› (by assumption) | exact ad_le ‹_› | exact sb_le ‹_› | exact ti_le1 ‹_› ‹_› | exact ti_le2 ‹_› ‹_›)) | exact cU_len _ | exact cI_len _ | exact cB_len _ | exact cU_one _ | exact cI_one _ | exact cB_one _ | exact (fun _ h => h) | exact (fun _ h => (List.not_mem_nil h).elim) | (with_reducible refine e1_in ?_) | (with_reducible refine e2_in ?_) | (with_reducible refine lx_in (Nat.le_of_ble_eq_true rfl) ?_) | (with_reducible refine rqx_rf ?_) | (with_reducible refine rqx_in ?_ ?_ ?_) | (with_reducible apply And.intro) | (with_reducible intro _)))
  all_goals (first | (simp only [*, Bool.and_true, Bool.true_and, Bool.and_false, Bool.false_and, Bool.or_true, Bool.true_or, Bool.or_false, Bool.false_or, Bool.not_true, Bool.not_false, cond_true, cond_false]; done) | ((try (have h := rv_64 (two_t ‹_›).2; rw [wneg h.1, wneg h.2])); (try (simp only [Bool.not_eq_true', Bool.not_eq_false', Bool.or_eq_true, Bool.or_eq_false_iff, Bool.and_eq_true, Bool.and_eq_false_iff, decide_eq_true_eq, decide_eq_false_iff_not, bne_iff_ne, bne_eq_false_iff_eq, beq_iff_eq, beq_eq_false_iff_ne, ne_eq, Decidable.not_not, gt_iff_lt, ge_iff_le] at *)); (first | refine rgV_eq ?_ ?_ ?_ | refine congrArg Value.bool ?_ | skip) <;> simp only [sbE, Int.sub_eq_add_neg, zI] <;> (repeat' split) <;> first | rfl | (simp_all; done) | omega | (simp_all <;> omega)) | trace_state)
def rti_h (a b n : Int) : Hint := ho 0 2 (.specg [] [] [] [] (fun ads0 x ↦ Value.bool (rvB a b)) (.split (ho 1 4 (.perm [] .nil)) (ho 0 2 (.inl (.split (.draw [0, 1, 2] none [0, 1, 2] (.take 0 (.take 1 (.ob 2 (.take 2 (.take 3 (.ob 2 (.take 4 (.take 5 (.specg [] [] [] [] (fun ads0 x ↦ W (b * n)) (.specg [] [] [] [] (fun ads0 x ↦ W (a
 * n)) (.specg [] [] [] [] (fun ads0 x ↦ rgV (bdE (b * n) (a * n)) (b * n) (a * n)) (ho 1 4 (.perm [] .nil)))))))))))))) (.draw [0, 1, 2] none [0, 1, 2] (.take 0 (.take 1 (.ob 2 (.take 2 (.take 3 (.ob 2 (.take 4 (.take 5 (.specg [] [] [] [] (fun ads0 x ↦ W (a * n)) (.specg [] [] [] [] (fun ads0 x ↦ W
 (b * n)) (.specg [] [] [] [] (fun ads0 x ↦ rgV (bdE (a * n) (b * n)) (a * n) (b * n)) (ho 1 4 (.perm [] .nil)))))))))))))))))))
theorem rti_x (a b n : Int) : wpG Try.prog [] ([]) 400 26 [.agg #[.int .i64 a, .int .i64 b], .int .i64 n] (rti_h a b n) ([]) (fun _ => rgV (tmE a b n) (tmL a b n) (tmH a b n)) = (∀ (b_1 b_2 : Nat), b_1 = b_1 /\ b_1 = b_1 /\ (SpecG Try.prog [] [] (20 : FuncId) #[Value.agg #[Value.int .i64 a, .int .i64 b]] [] fun x ↦ Value.bool (rvB a b)) /\ (∀ (e : Ex), e ∈ [] -> e ∈ []) /\ ((!rvB a b) = true -> b_2 = b_2 /\ True /\ b_2 = b_2 /\ True /\ b_2 = b_2 /\ b_2 = b_2 /\ Value.tuple
 (Array.mk [.agg (Array.mk [.int .i64 0, .int .i64 0]), .int .i64 1]) = Value.tuple (Array.mk [.agg (Array.mk [.int .i64 (zI (tmE a b n) (tmL a b n)), .int .i64 (zI (tmE a b n) (tmH a b n))]), .int .i64 (tmE a b n)])) /\ ((!rvB a b) = false -> b_1 = b_1 /\ b_1 = b_1 /\ ∀ (b_3 : Nat), (decide (n < 0)
 = true -> b_3 = b_3 /\ b_3 = b_3 /\ (SpecG Try.prog [] [] (49 : FuncId) #[Value.int .i64 b, .int .i64 n] [] fun x ↦ W (b * n)) /\ (∀ (e : Ex), e ∈ [] -> e ∈ []) /\ (SpecG Try.prog [] [] (49 : FuncId) #[Value.int .i64 a, .int .i64 n] [] fun x ↦ W (a * n)) /\ (∀ (e : Ex), e ∈ [] -> e ∈ []) /\ (SpecG
 Try.prog [] [] (60 : FuncId) #[W (b * n), W (a * n)] [] fun x ↦ rgV (bdE (b * n) (a * n)) (b * n) (a * n)) /\ (∀ (e : Ex), e ∈ [] -> e ∈ []) /\ b_2 = b_2 /\ True /\ b_2 = b_2 /\ True /\ b_2 = b_2 /\ b_2 = b_2 /\ Value.tuple (Array.mk [.agg (Array.mk [.int .i64 (zI (bdE (b * n) (a * n)) (b * n)),
 .int .i64 (zI (bdE (b * n) (a * n)) (a * n))]), .int .i64 (bdE (b * n) (a * n))]) = Value.tuple (Array.mk [.agg (Array.mk [.int .i64 (zI (tmE a b n) (tmL a b n)), .int .i64 (zI (tmE a b n) (tmH a b n))]), .int .i64 (tmE a b n)])) /\ (decide (n < 0) = false -> b_3 = b_3 /\ b_3 = b_3 /\ (SpecG
 Try.prog [] [] (49 : FuncId) #[Value.int .i64 a, .int .i64 n] [] fun x ↦ W (a * n)) /\ (∀ (e : Ex), e ∈ [] -> e ∈ []) /\ (SpecG Try.prog [] [] (49 : FuncId) #[Value.int .i64 b, .int .i64 n] [] fun x ↦ W (b * n)) /\ (∀ (e : Ex), e ∈ [] -> e ∈ []) /\ (SpecG Try.prog [] [] (60 : FuncId) #[W (a * n), W
 (b * n)] [] fun x ↦ rgV (bdE (a * n) (b * n)) (a * n) (b * n)) /\ (∀ (e : Ex), e ∈ [] -> e ∈ []) /\ b_2 = b_2 /\ True /\ b_2 = b_2 /\ True /\ b_2 = b_2 /\ b_2 = b_2 /\ Value.tuple (Array.mk [.agg (Array.mk [.int .i64 (zI (bdE (a * n) (b * n)) (a * n)), .int .i64 (zI (bdE (a * n) (b * n)) (b * n))]),
 .int .i64 (bdE (a * n) (b * n))]) = Value.tuple (Array.mk [.agg (Array.mk [.int .i64 (zI (tmE a b n) (tmL a b n)), .int .i64 (zI (tmE a b n) (tmH a b n))]), .int .i64 (tmE a b n)])))) := by kernel_rfl
set_option maxHeartbeats 4000000 in
theorem rti_sp (a b n : Int) (ha : I64 a) (hb : I64 b) (hn : I64 n) : SpecG Try.prog [] ([]) 26 #[.agg #[.int .i64 a, .int .i64 b], .int .i64 n] ([]) (fun _ => rgV (tmE a b n) (tmL a b n) (tmH a b n)) := by
  refine specG_of (h := rti_h a b n) (?_ : wpG Try.prog [] ([]) 400 26 [.agg #[.int .i64 a, .int .i64 b], .int .i64 n] (rti_h a b n) ([]) (fun _ => rgV (tmE a b n) (tmL a b n) (tmH a b n)))
  rw [rti_x]
  (repeat' (first | with_reducible exact rfl | exact trivial | with_reducible assumption | (with_reducible exact rva_sp _ _) | (with_reducible exact wmu_sp _ _ (by assumption) (by assumption)) | (with_reducible exact rbd_sp _ _ (by first | assumption | (apply fitsS <;> first | assumption | exact i64w _) | (apply fitsP <;> assumption)) (by first | assumption | (apply fitsS <;> first | assumption | exact i64w _) | (apply fitsP <;> assumption)) (by first | exact ar_le ‹_› (by assumption) | exact ad_le ‹_› | exact sb_le ‹_› | exact ti_le1 ‹_› ‹_› | exact ti_le2 ‹_› ‹_›)) | exact cU_len _ | exact cI_len _ | exact cB_len _ | exact cU_one _ | exact cI_one _ | exact cB_one _ | exact (fun _ h => h) | exact (fun _ h => (List.not_mem_nil h).elim) | (with_reducible refine e1_in ?_) | (with_reducible refine e2_in ?_) | (with_reducible refine lx_in (Nat.le_of_ble_eq_true rfl) ?_) | (with_reducible refine rqx_rf ?_) | (with_reducible refine rqx_in ?_ ?_ ?_) | (with_reducible apply And.intro) | (with_reducible intro _)))
  all_goals (first | (simp only [*, Bool.and_true, Bool.true_and, Bool.and_false, Bool.false_and, Bool.or_true, Bool.true_or, Bool.or_false, Bool.false_or, Bool.not_true, Bool.not_false, cond_true, cond_false]; done) | ((try (simp only [Bool.not_eq_true', Bool.not_eq_false', Bool.or_eq_true, Bool.or_eq_false_iff, Bool.and_eq_true, Bool.and_eq_false_iff, decide_eq_true_eq, decide_eq_false_iff_not, bne_iff_ne, bne_eq_false_iff_eq, beq_iff_eq, beq_eq_false_iff_ne, ne_eq, Decidable.not_not, gt_iff_lt, ge_iff_le] at *)); (first | refine rgV_eq ?_ ?_ ?_ | refine congrArg Value.bool ?_ | skip) <;> simp only [tmE, tmL, tmH, zI] <;> (repeat' split) <;> first | rfl | (simp_all; done) | omega | (simp_all <;> omega)) | trace_state)
def rov_h (a b n : Int) : Hint := .nc (.cut [((18 : Nat), .bool (!rvB a b || n == 0))] (ho 0 2 (.specg [] [] [] [] (fun ads0 x ↦ Value.bool (rvB a b)) (.split (.lit (.lit .nil)) (.lit (.pl (.lit .nil)))))) (.split (ho 1 4 (.perm [] .nil)) (ho 0 2 (.inl (.split (.draw [0, 1, 2] none [0, 1, 2] (.take 0 (.take 1 (.ob 2 (.take 2 (.take 3
 (.ob 2 (.take 4 (.take 5 (.specg [] [] [] [] (fun ads0 x ↦ Value.tuple #[Value.int .i64 (flI b n), .int .i64 (quoE b n)]) (.specg [] [] [] [] (fun ads0 x ↦ Value.tuple #[Value.int .i64 (ceI a n), .int .i64 (quoE a n)]) (ho 1 4 (.perm [] .nil))))))))))))) (.draw [0, 1, 2] none [0, 1, 2] (.take 0
 (.take 1 (.ob 2 (.take 2 (.take 3 (.ob 2 (.take 4 (.take 5 (.specg [] [] [] [] (fun ads0 x ↦ Value.tuple #[Value.int .i64 (flI a n), .int .i64 (quoE a n)]) (.specg [] [] [] [] (fun ads0 x ↦ Value.tuple #[Value.int .i64 (ceI b n), .int .i64 (quoE b n)]) (ho 1 4 (.perm [] .nil))))))))))))))))))
theorem rov_x (a b n : Int) : wpG Try.prog [] ([]) 400 28 [.agg #[.int .i64 a, .int .i64 b], .int .i64 n] (rov_h a b n) ([]) (fun _ => rgV (ovE a b n) (ovL a b n) (ovH a b n)) = (∀ (b_1 b_2 : Nat), (b_1 = b_1 /\ b_1 = b_1 /\ (SpecG Try.prog [] [] (20 : FuncId) #[Value.agg #[Value.int .i64 a, .int .i64 b]] [] fun x ↦ Value.bool (rvB a b)) /\ (∀ (e : Ex), e ∈ [] -> e ∈ []) /\ ((!rvB a b) = true -> Value.bool true = Value.bool (!rvB a b || n == 0) /\ True) /\ ((!rvB a b) = false
 -> Value.bool (n == 0) = Value.bool (!rvB a b || n == 0) /\ True)) /\ ∀ (junk : Nat -> Value), ((!rvB a b || n == 0) = true -> b_2 = b_2 /\ True /\ b_2 = b_2 /\ True /\ b_2 = b_2 /\ b_2 = b_2 /\ Value.tuple (Array.mk [.agg (Array.mk [.int .i64 0, .int .i64 0]), .int .i64 1]) = Value.tuple (Array.mk
 [.agg (Array.mk [.int .i64 (zI (ovE a b n) (ovL a b n)), .int .i64 (zI (ovE a b n) (ovH a b n))]), .int .i64 (ovE a b n)])) /\ ((!rvB a b || n == 0) = false -> b_1 = b_1 /\ b_1 = b_1 /\ ∀ (b_3 : Nat), (decide (n < 0) = true -> b_3 = b_3 /\ b_3 = b_3 /\ (SpecG Try.prog [] [] (66 : FuncId) #[Value.int
 .i64 b, .int .i64 n] [] fun x ↦ Value.tuple #[Value.int .i64 (flI b n), .int .i64 (quoE b n)]) /\ (∀ (e : Ex), e ∈ [] -> e ∈ []) /\ (SpecG Try.prog [] [] (67 : FuncId) #[Value.int .i64 a, .int .i64 n] [] fun x ↦ Value.tuple #[Value.int .i64 (ceI a n), .int .i64 (quoE a n)]) /\ (∀ (e : Ex), e ∈ [] ->
 e ∈ []) /\ b_2 = b_2 /\ True /\ b_2 = b_2 /\ True /\ b_2 = b_2 /\ b_2 = b_2 /\ Value.tuple (Array.mk [.agg (Array.mk [.int .i64 (flI b n), .int .i64 (ceI a n)]), .int .i64 0]) = Value.tuple (Array.mk [.agg (Array.mk [.int .i64 (zI (ovE a b n) (ovL a b n)), .int .i64 (zI (ovE a b n) (ovH a b n))]),
 .int .i64 (ovE a b n)])) /\ (decide (n < 0) = false -> b_3 = b_3 /\ b_3 = b_3 /\ (SpecG Try.prog [] [] (66 : FuncId) #[Value.int .i64 a, .int .i64 n] [] fun x ↦ Value.tuple #[Value.int .i64 (flI a n), .int .i64 (quoE a n)]) /\ (∀ (e : Ex), e ∈ [] -> e ∈ []) /\ (SpecG Try.prog [] [] (67 : FuncId)
 #[Value.int .i64 b, .int .i64 n] [] fun x ↦ Value.tuple #[Value.int .i64 (ceI b n), .int .i64 (quoE b n)]) /\ (∀ (e : Ex), e ∈ [] -> e ∈ []) /\ b_2 = b_2 /\ True /\ b_2 = b_2 /\ True /\ b_2 = b_2 /\ b_2 = b_2 /\ Value.tuple (Array.mk [.agg (Array.mk [.int .i64 (flI a n), .int .i64 (ceI b n)]), .int
 .i64 0]) = Value.tuple (Array.mk [.agg (Array.mk [.int .i64 (zI (ovE a b n) (ovL a b n)), .int .i64 (zI (ovE a b n) (ovH a b n))]), .int .i64 (ovE a b n)])))) := by kernel_rfl
set_option maxHeartbeats 4000000 in
theorem rov_sp (a b n : Int) (ha : I64 a) (hb : I64 b) (hn : I64 n) : SpecG Try.prog [] ([]) 28 #[.agg #[.int .i64 a, .int .i64 b], .int .i64 n] ([]) (fun _ => rgV (ovE a b n) (ovL a b n) (ovH a b n)) := by
  refine specG_of (h := rov_h a b n) (?_ : wpG Try.prog [] ([]) 400 28 [.agg #[.int .i64 a, .int .i64 b], .int .i64 n] (rov_h a b n) ([]) (fun _ => rgV (ovE a b n) (ovL a b n) (ovH a b n)))
  rw [rov_x]
  (repeat' (first | with_reducible exact rfl | exact trivial | with_reducible assumption | (with_reducible exact rva_sp _ _) | (with_reducible exact flo_sp _ _ (by assumption)) | (with_reducible exact cei_sp _ _ (by assumption)) | exact cU_len _ | exact cI_len _ | exact cB_len _ | exact cU_one _ | exact cI_one _ | exact cB_one _ | exact (fun _ h => h) | exact (fun _ h => (List.not_mem_nil h).elim) | (with_reducible refine e1_in ?_) | (with_reducible refine e2_in ?_) | (with_reducible refine lx_in (Nat.le_of_ble_eq_true rfl) ?_) | (with_reducible refine rqx_rf ?_) | (with_reducible refine rqx_in ?_ ?_ ?_) | (with_reducible apply And.intro) | (with_reducible intro _)))
  all_goals (first | (simp only [*, Bool.and_true, Bool.true_and, Bool.and_false, Bool.false_and, Bool.or_true, Bool.true_or, Bool.or_false, Bool.false_or, Bool.not_true, Bool.not_false, cond_true, cond_false]; done) | ((try (simp only [Bool.not_eq_true', Bool.not_eq_false', Bool.or_eq_true, Bool.or_eq_false_iff, Bool.and_eq_true, Bool.and_eq_false_iff, decide_eq_true_eq, decide_eq_false_iff_not, bne_iff_ne, bne_eq_false_iff_eq, beq_iff_eq, beq_eq_false_iff_ne, ne_eq, Decidable.not_not, gt_iff_lt, ge_iff_le] at *)); (first | refine rgV_eq ?_ ?_ ?_ | refine congrArg Value.bool ?_ | skip) <;> simp only [ovE, ovL, ovH, zI] <;> (repeat' split) <;> first | rfl | (simp_all; done) | omega | (simp_all <;> omega)) | trace_state)
def rhu_h (a b c d : Int) : Hint := .nc (.cut [((13 : Nat), .bool (!rvB a b || !rvB c d))] (ho 0 2 (.specg [] [] [] [] (fun ads0 x ↦ Value.bool (rvB a b)) (.split (.lit (.lit (.lit .nil))) (ho 1 2 (.lit (.specg [] [] [] [] (fun ads0 x ↦ Value.bool (rvB c d)) (.lit (.lit .nil)))))))) (.split (ho 2 4 (.perm [] .nil)) (.ob 0 (.ob 1 (.pl
 (.ob 0 (.ob 1 (.pl (ho 2 4 (.perm [] .nil))))))))))
theorem rhu_x (a b c d : Int) : wpG Try.prog [] ([]) 400 31 [.agg #[.int .i64 a, .int .i64 b], .agg #[.int .i64 c, .int .i64 d]] (rhu_h a b c d) ([]) (fun _ => rgV (huE a b c d) (miI a c) (maI b d)) = (∀ (b_1 b_2 b_3 : Nat), (b_1 = b_1 /\ b_1 = b_1 /\ (SpecG Try.prog [] [] (20 : FuncId) #[Value.agg #[Value.int .i64 a, .int .i64 b]] [] fun x ↦ Value.bool (rvB a b)) /\ (∀ (e : Ex), e ∈ [] -> e ∈ []) /\ ((!rvB a b) = true -> Value.bool true = Value.bool (!rvB a b || !rvB c d) /\ True) /\ ((!rvB a b) =
 false -> b_2 = b_2 /\ b_2 = b_2 /\ (SpecG Try.prog [] [] (20 : FuncId) #[Value.agg #[Value.int .i64 c, .int .i64 d]] [] fun x ↦ Value.bool (rvB c d)) /\ (∀ (e : Ex), e ∈ [] -> e ∈ []) /\ (Value.bool !rvB c d) = Value.bool (!rvB a b || !rvB c d) /\ True)) /\ ∀ (junk : Nat -> Value), ((!rvB a b ||
 !rvB c d) = true -> b_3 = b_3 /\ True /\ b_3 = b_3 /\ True /\ b_3 = b_3 /\ b_3 = b_3 /\ Value.tuple (Array.mk [.agg (Array.mk [.int .i64 0, .int .i64 0]), .int .i64 1]) = Value.tuple (Array.mk [.agg (Array.mk [.int .i64 (zI (huE a b c d) (miI a c)), .int .i64 (zI (huE a b c d) (maI b d))]), .int
 .i64 (huE a b c d)])) /\ ((!rvB a b || !rvB c d) = false -> b_1 = b_1 /\ b_2 = b_2 /\ b_1 = b_1 /\ b_2 = b_2 /\ b_3 = b_3 /\ True /\ b_3 = b_3 /\ True /\ b_3 = b_3 /\ b_3 = b_3 /\ Value.tuple (Array.mk [.agg (Array.mk [.int .i64 (if c < a then c else a), .int .i64 (if d > b then d else b)]), .int
 .i64 0]) = Value.tuple (Array.mk [.agg (Array.mk [.int .i64 (zI (huE a b c d) (miI a c)), .int .i64 (zI (huE a b c d) (maI b d))]), .int .i64 (huE a b c d)]))) := by kernel_rfl
set_option maxHeartbeats 4000000 in
theorem rhu_sp (a b c d : Int)  : SpecG Try.prog [] ([]) 31 #[.agg #[.int .i64 a, .int .i64 b], .agg #[.int .i64 c, .int .i64 d]] ([]) (fun _ => rgV (huE a b c d) (miI a c) (maI b d)) := by
  refine specG_of (h := rhu_h a b c d) (?_ : wpG Try.prog [] ([]) 400 31 [.agg #[.int .i64 a, .int .i64 b], .agg #[.int .i64 c, .int .i64 d]] (rhu_h a b c d) ([]) (fun _ => rgV (huE a b c d) (miI a c) (maI b d)))
  rw [rhu_x]
  (repeat' (first | with_reducible exact rfl | exact trivial | with_reducible assumption | (with_reducible exact rva_sp _ _) | exact cU_len _ | exact cI_len _ | exact cB_len _ | exact cU_one _ | exact cI_one _ | exact cB_one _ | exact (fun _ h => h) | exact (fun _ h => (List.not_mem_nil h).elim) | (with_reducible refine e1_in ?_) | (with_reducible refine e2_in ?_) | (with_reducible refine lx_in (Nat.le_of_ble_eq_true rfl) ?_) | (with_reducible refine rqx_rf ?_) | (with_reducible refine rqx_in ?_ ?_ ?_) | (with_reducible apply And.intro) | (with_reducible intro _)))
  all_goals (first | (simp only [*, Bool.and_true, Bool.true_and, Bool.and_false, Bool.false_and, Bool.or_true, Bool.true_or, Bool.or_false, Bool.false_or, Bool.not_true, Bool.not_false, cond_true, cond_false]; done) | ((try (simp only [Bool.not_eq_true', Bool.not_eq_false', Bool.or_eq_true, Bool.or_eq_false_iff, Bool.and_eq_true, Bool.and_eq_false_iff, decide_eq_true_eq, decide_eq_false_iff_not, bne_iff_ne, bne_eq_false_iff_eq, beq_iff_eq, beq_eq_false_iff_ne, ne_eq, Decidable.not_not, gt_iff_lt, ge_iff_le] at *)); (first | refine rgV_eq ?_ ?_ ?_ | refine congrArg Value.bool ?_ | skip) <;> simp only [huE, miI, maI, zI] <;> (repeat' split) <;> first | rfl | (simp_all; done) | omega | (simp_all <;> omega)) | trace_state)
def rap_h (a b c d : Int) : Hint := .nc (.cut [((4 : Nat), .bool (rvB a b && (rvB c d && (decide (b < c) || decide (d < a)))))] (ho 0 2 (.specg [] [] [] [] (fun ads0 x ↦ Value.bool (rvB a b)) (.split (ho 1 2 (.lit (.specg [] [] [] [] (fun ads0 x ↦ Value.bool (rvB c d)) (.lit (.split (.lit (.ob 0 (.lit (.lit (.ob 1 (.lit (.lit (.split
 (hl 6 (.lit .nil)) (.lit (.ob 1 (.lit (.lit (.ob 0 (hl 3 (.lit .nil))))))))))))))) (hl 6 (.lit .nil))))))) (hl 9 (.lit .nil))))) (.perm [] .nil))
theorem rap_x (a b c d : Int) : wpG Try.prog [] ([]) 400 38 [.agg #[.int .i64 a, .int .i64 b], .agg #[.int .i64 c, .int .i64 d]] (rap_h a b c d) ([]) (fun _ => .bool (apB a b c d)) = (∀ (b_1 b_2 : Nat), (b_1 = b_1 /\ b_1 = b_1 /\ (SpecG Try.prog [] [] (20 : FuncId) #[Value.agg #[Value.int .i64 a, .int .i64 b]] [] fun x ↦ Value.bool (rvB a b)) /\ (∀ (e : Ex), e ∈ [] -> e ∈ []) /\ (rvB a b = true -> b_2 = b_2 /\ b_2 = b_2 /\ (SpecG Try.prog [] [] (20 : FuncId) #[Value.agg
 #[Value.int .i64 c, .int .i64 d]] [] fun x ↦ Value.bool (rvB c d)) /\ (∀ (e : Ex), e ∈ [] -> e ∈ []) /\ (rvB c d = true -> b_1 = b_1 /\ b_2 = b_2 /\ (decide (b < c) = true -> Value.bool true = Value.bool (rvB a b && (rvB c d && (decide (b < c) || decide (d < a)))) /\ True) /\ (decide (b < c) = false
 -> b_2 = b_2 /\ b_1 = b_1 /\ Value.bool (decide (d < a)) = Value.bool (rvB a b && (rvB c d && (decide (b < c) || decide (d < a)))) /\ True)) /\ (rvB c d = false -> Value.bool false = Value.bool (rvB a b && (rvB c d && (decide (b < c) || decide (d < a)))) /\ True)) /\ (rvB a b = false -> Value.bool
 false = Value.bool (rvB a b && (rvB c d && (decide (b < c) || decide (d < a)))) /\ True)) /\ ∀ (junk : Nat -> Value), .bool (rvB a b && (rvB c d && (decide (b < c) || decide (d < a)))) = Value.bool (apB a b c d)) := by kernel_rfl
set_option maxHeartbeats 4000000 in
theorem rap_sp (a b c d : Int)  : SpecG Try.prog [] ([]) 38 #[.agg #[.int .i64 a, .int .i64 b], .agg #[.int .i64 c, .int .i64 d]] ([]) (fun _ => .bool (apB a b c d)) := by
  refine specG_of (h := rap_h a b c d) (?_ : wpG Try.prog [] ([]) 400 38 [.agg #[.int .i64 a, .int .i64 b], .agg #[.int .i64 c, .int .i64 d]] (rap_h a b c d) ([]) (fun _ => .bool (apB a b c d)))
  rw [rap_x]
  (repeat' (first | with_reducible exact rfl | exact trivial | with_reducible assumption | (with_reducible exact rva_sp _ _) | exact cU_len _ | exact cI_len _ | exact cB_len _ | exact cU_one _ | exact cI_one _ | exact cB_one _ | exact (fun _ h => h) | exact (fun _ h => (List.not_mem_nil h).elim) | (with_reducible refine e1_in ?_) | (with_reducible refine e2_in ?_) | (with_reducible refine lx_in (Nat.le_of_ble_eq_true rfl) ?_) | (with_reducible refine rqx_rf ?_) | (with_reducible refine rqx_in ?_ ?_ ?_) | (with_reducible apply And.intro) | (with_reducible intro _)))
  all_goals (first | (simp only [*, Bool.and_true, Bool.true_and, Bool.and_false, Bool.false_and, Bool.or_true, Bool.true_or, Bool.or_false, Bool.false_or, Bool.not_true, Bool.not_false, cond_true, cond_false]; done) | ((try (simp only [Bool.not_eq_true', Bool.not_eq_false', Bool.or_eq_true, Bool.or_eq_false_iff, Bool.and_eq_true, Bool.and_eq_false_iff, decide_eq_true_eq, decide_eq_false_iff_not, bne_iff_ne, bne_eq_false_iff_eq, beq_iff_eq, beq_eq_false_iff_ne, ne_eq, Decidable.not_not, gt_iff_lt, ge_iff_le] at *)); (first | refine rgV_eq ?_ ?_ ?_ | refine congrArg Value.bool ?_ | skip) <;> simp only [apB, zI] <;> (repeat' split) <;> first | rfl | (simp_all; done) | omega | (simp_all <;> omega)) | trace_state)
def rwi_h (a b c d : Int) : Hint := .nc (.cut [((4 : Nat), .bool (rvB a b && (rvB c d && (decide (c ≤ a) && decide (b ≤ d)))))] (ho 0 2 (.specg [] [] [] [] (fun ads0 x ↦ Value.bool (rvB a b)) (.split (ho 1 2 (.lit (.specg [] [] [] [] (fun ads0 x ↦ Value.bool (rvB c d)) (.lit (.split (.lit (.ob 1 (.lit (.lit (.ob 0 (.lit (.lit (.split
 (.lit (.ob 0 (.lit (.lit (.ob 1 (.lit (.lit .nil))))))) (hl 4 (.lit .nil)))))))))) (hl 10 (.lit .nil))))))) (hl 13 (.lit .nil))))) (.perm [] .nil))
theorem rwi_x (a b c d : Int) : wpG Try.prog [] ([]) 400 36 [.agg #[.int .i64 a, .int .i64 b], .agg #[.int .i64 c, .int .i64 d]] (rwi_h a b c d) ([]) (fun _ => .bool (wiB a b c d)) = (∀ (b_1 b_2 : Nat), (b_1 = b_1 /\ b_1 = b_1 /\ (SpecG Try.prog [] [] (20 : FuncId) #[Value.agg #[Value.int .i64 a, .int .i64 b]] [] fun x ↦ Value.bool (rvB a b)) /\ (∀ (e : Ex), e ∈ [] -> e ∈ []) /\ (rvB a b = true -> b_2 = b_2 /\ b_2 = b_2 /\ (SpecG Try.prog [] [] (20 : FuncId) #[Value.agg
 #[Value.int .i64 c, .int .i64 d]] [] fun x ↦ Value.bool (rvB c d)) /\ (∀ (e : Ex), e ∈ [] -> e ∈ []) /\ (rvB c d = true -> b_2 = b_2 /\ b_1 = b_1 /\ (decide (c ≤ a) = true -> b_1 = b_1 /\ b_2 = b_2 /\ Value.bool (decide (b ≤ d)) = Value.bool (rvB a b && (rvB c d && (decide (c ≤ a) && decide (b ≤
 d)))) /\ True) /\ (decide (c ≤ a) = false -> Value.bool false = Value.bool (rvB a b && (rvB c d && (decide (c ≤ a) && decide (b ≤ d)))) /\ True)) /\ (rvB c d = false -> Value.bool false = Value.bool (rvB a b && (rvB c d && (decide (c ≤ a) && decide (b ≤ d)))) /\ True)) /\ (rvB a b = false ->
 Value.bool false = Value.bool (rvB a b && (rvB c d && (decide (c ≤ a) && decide (b ≤ d)))) /\ True)) /\ ∀ (junk : Nat -> Value), .bool (rvB a b && (rvB c d && (decide (c ≤ a) && decide (b ≤ d)))) = Value.bool (wiB a b c d)) := by kernel_rfl
set_option maxHeartbeats 4000000 in
theorem rwi_sp (a b c d : Int)  : SpecG Try.prog [] ([]) 36 #[.agg #[.int .i64 a, .int .i64 b], .agg #[.int .i64 c, .int .i64 d]] ([]) (fun _ => .bool (wiB a b c d)) := by
  refine specG_of (h := rwi_h a b c d) (?_ : wpG Try.prog [] ([]) 400 36 [.agg #[.int .i64 a, .int .i64 b], .agg #[.int .i64 c, .int .i64 d]] (rwi_h a b c d) ([]) (fun _ => .bool (wiB a b c d)))
  rw [rwi_x]
  (repeat' (first | with_reducible exact rfl | exact trivial | with_reducible assumption | (with_reducible exact rva_sp _ _) | exact cU_len _ | exact cI_len _ | exact cB_len _ | exact cU_one _ | exact cI_one _ | exact cB_one _ | exact (fun _ h => h) | exact (fun _ h => (List.not_mem_nil h).elim) | (with_reducible refine e1_in ?_) | (with_reducible refine e2_in ?_) | (with_reducible refine lx_in (Nat.le_of_ble_eq_true rfl) ?_) | (with_reducible refine rqx_rf ?_) | (with_reducible refine rqx_in ?_ ?_ ?_) | (with_reducible apply And.intro) | (with_reducible intro _)))
  all_goals (first | (simp only [*, Bool.and_true, Bool.true_and, Bool.and_false, Bool.false_and, Bool.or_true, Bool.true_or, Bool.or_false, Bool.false_or, Bool.not_true, Bool.not_false, cond_true, cond_false]; done) | ((try (simp only [Bool.not_eq_true', Bool.not_eq_false', Bool.or_eq_true, Bool.or_eq_false_iff, Bool.and_eq_true, Bool.and_eq_false_iff, decide_eq_true_eq, decide_eq_false_iff_not, bne_iff_ne, bne_eq_false_iff_eq, beq_iff_eq, beq_eq_false_iff_ne, ne_eq, Decidable.not_not, gt_iff_lt, ge_iff_le] at *)); (first | refine rgV_eq ?_ ?_ ?_ | refine congrArg Value.bool ?_ | skip) <;> simp only [wiB, zI] <;> (repeat' split) <;> first | rfl | (simp_all; done) | omega | (simp_all <;> omega)) | trace_state)
def rhs_h (a b n : Int) : Hint := .nc (.cut [((4 : Nat), .bool (rvB a b && (decide (a ≤ n) && decide (n ≤ b))))] (ho 0 2 (.specg [] [] [] [] (fun ads0 x ↦ Value.bool (rvB a b)) (.split (.lit (.ob 0 (hl 3 (.split (.lit (.lit (.ob 0 (.lit (.lit .nil))))) (hl 3 (.lit .nil)))))) (hl 8 (.lit .nil))))) (.perm [] .nil))
theorem rhs_x (a b n : Int) : wpG Try.prog [] ([]) 400 30 [.agg #[.int .i64 a, .int .i64 b], .int .i64 n] (rhs_h a b n) ([]) (fun _ => .bool (hsB a b n)) = (∀ (b_1 : Nat), (b_1 = b_1 /\ b_1 = b_1 /\ (SpecG Try.prog [] [] (20 : FuncId) #[Value.agg #[Value.int .i64 a, .int .i64 b]] [] fun x ↦ Value.bool (rvB a b)) /\ (∀ (e : Ex), e ∈ [] -> e ∈ []) /\ (rvB a b = true -> b_1 = b_1 /\ (decide (a ≤ n) = true -> b_1 = b_1 /\ Value.bool (decide (n ≤ b)) =
 Value.bool (rvB a b && (decide (a ≤ n) && decide (n ≤ b))) /\ True) /\ (decide (a ≤ n) = false -> Value.bool false = Value.bool (rvB a b && (decide (a ≤ n) && decide (n ≤ b))) /\ True)) /\ (rvB a b = false -> Value.bool false = Value.bool (rvB a b && (decide (a ≤ n) && decide (n ≤ b))) /\ True)) /\
 ∀ (junk : Nat -> Value), .bool (rvB a b && (decide (a ≤ n) && decide (n ≤ b))) = Value.bool (hsB a b n)) := by kernel_rfl
set_option maxHeartbeats 4000000 in
theorem rhs_sp (a b n : Int)  : SpecG Try.prog [] ([]) 30 #[.agg #[.int .i64 a, .int .i64 b], .int .i64 n] ([]) (fun _ => .bool (hsB a b n)) := by
  refine specG_of (h := rhs_h a b n) (?_ : wpG Try.prog [] ([]) 400 30 [.agg #[.int .i64 a, .int .i64 b], .int .i64 n] (rhs_h a b n) ([]) (fun _ => .bool (hsB a b n)))
  rw [rhs_x]
  (repeat' (first | with_reducible exact rfl | exact trivial | with_reducible assumption | (with_reducible exact rva_sp _ _) | exact cU_len _ | exact cI_len _ | exact cB_len _ | exact cU_one _ | exact cI_one _ | exact cB_one _ | exact (fun _ h => h) | exact (fun _ h => (List.not_mem_nil h).elim) | (with_reducible refine e1_in ?_) | (with_reducible refine e2_in ?_) | (with_reducible refine lx_in (Nat.le_of_ble_eq_true rfl) ?_) | (with_reducible refine rqx_rf ?_) | (with_reducible refine rqx_in ?_ ?_ ?_) | (with_reducible apply And.intro) | (with_reducible intro _)))
  all_goals (first | (simp only [*, Bool.and_true, Bool.true_and, Bool.and_false, Bool.false_and, Bool.or_true, Bool.true_or, Bool.or_false, Bool.false_or, Bool.not_true, Bool.not_false, cond_true, cond_false]; done) | ((try (simp only [Bool.not_eq_true', Bool.not_eq_false', Bool.or_eq_true, Bool.or_eq_false_iff, Bool.and_eq_true, Bool.and_eq_false_iff, decide_eq_true_eq, decide_eq_false_iff_not, bne_iff_ne, bne_eq_false_iff_eq, beq_iff_eq, beq_eq_false_iff_ne, ne_eq, Decidable.not_not, gt_iff_lt, ge_iff_le] at *)); (first | refine rgV_eq ?_ ?_ ?_ | refine congrArg Value.bool ?_ | skip) <;> simp only [hsB, zI] <;> (repeat' split) <;> first | rfl | (simp_all; done) | omega | (simp_all <;> omega)) | trace_state)
def rme_h (a b c d : Int) : Hint := .nc (.cut [((13 : Nat), .bool (!rvB a b || !rvB c d))] (ho 0 2 (.specg [] [] [] [] (fun ads0 x ↦ Value.bool (rvB a b)) (.split (.lit (.lit (.lit .nil))) (ho 1 2 (.lit (.specg [] [] [] [] (fun ads0 x ↦ Value.bool (rvB c d)) (.lit (.lit .nil)))))))) (.split (ho 2 4 (.perm [] .nil)) (ho 0 2 (ho 1 2
 (.specg [] [] [] [] (fun ads0 x ↦ Value.bool (apB a b c d)) (.split (ho 2 4 (.perm [] .nil)) (.ob 0 (.ob 1 (.pl (.ob 0 (.ob 1 (.pl (ho 2 4 (.perm [] .nil))))))))))))))
theorem rme_x (a b c d : Int) : wpG Try.prog [] ([]) 400 33 [.agg #[.int .i64 a, .int .i64 b], .agg #[.int .i64 c, .int .i64 d]] (rme_h a b c d) ([]) (fun _ => rgV (meE a b c d) (maI a c) (miI b d)) = (∀ (b_1 b_2 b_3 : Nat), (b_1 = b_1 /\ b_1 = b_1 /\ (SpecG Try.prog [] [] (20 : FuncId) #[Value.agg #[Value.int .i64 a, .int .i64 b]] [] fun x ↦ Value.bool (rvB a b)) /\ (∀ (e : Ex), e ∈ [] -> e ∈ []) /\ ((!rvB a b) = true -> Value.bool true = Value.bool (!rvB a b || !rvB c d) /\ True) /\ ((!rvB a b) =
 false -> b_2 = b_2 /\ b_2 = b_2 /\ (SpecG Try.prog [] [] (20 : FuncId) #[Value.agg #[Value.int .i64 c, .int .i64 d]] [] fun x ↦ Value.bool (rvB c d)) /\ (∀ (e : Ex), e ∈ [] -> e ∈ []) /\ (Value.bool !rvB c d) = Value.bool (!rvB a b || !rvB c d) /\ True)) /\ ∀ (junk : Nat -> Value), ((!rvB a b ||
 !rvB c d) = true -> b_3 = b_3 /\ True /\ b_3 = b_3 /\ True /\ b_3 = b_3 /\ b_3 = b_3 /\ Value.tuple (Array.mk [.agg (Array.mk [.int .i64 0, .int .i64 0]), .int .i64 1]) = Value.tuple (Array.mk [.agg (Array.mk [.int .i64 (zI (meE a b c d) (maI a c)), .int .i64 (zI (meE a b c d) (miI b d))]), .int
 .i64 (meE a b c d)])) /\ ((!rvB a b || !rvB c d) = false -> b_1 = b_1 /\ b_1 = b_1 /\ b_2 = b_2 /\ b_2 = b_2 /\ (SpecG Try.prog [] [] (38 : FuncId) #[Value.agg #[Value.int .i64 a, .int .i64 b], .agg #[Value.int .i64 c, .int .i64 d]] [] fun x ↦ Value.bool (apB a b c d)) /\ (∀ (e : Ex), e ∈ [] -> e ∈
 []) /\ (apB a b c d = true -> b_3 = b_3 /\ True /\ b_3 = b_3 /\ True /\ b_3 = b_3 /\ b_3 = b_3 /\ Value.tuple (Array.mk [.agg (Array.mk [.int .i64 0, .int .i64 0]), .int .i64 6]) = Value.tuple (Array.mk [.agg (Array.mk [.int .i64 (zI (meE a b c d) (maI a c)), .int .i64 (zI (meE a b c d) (miI b
 d))]), .int .i64 (meE a b c d)])) /\ (apB a b c d = false -> b_1 = b_1 /\ b_2 = b_2 /\ b_1 = b_1 /\ b_2 = b_2 /\ b_3 = b_3 /\ True /\ b_3 = b_3 /\ True /\ b_3 = b_3 /\ b_3 = b_3 /\ Value.tuple (Array.mk [.agg (Array.mk [.int .i64 (if c > a then c else a), .int .i64 (if d < b then d else b)]), .int
 .i64 0]) = Value.tuple (Array.mk [.agg (Array.mk [.int .i64 (zI (meE a b c d) (maI a c)), .int .i64 (zI (meE a b c d) (miI b d))]), .int .i64 (meE a b c d)])))) := by kernel_rfl
set_option maxHeartbeats 4000000 in
theorem rme_sp (a b c d : Int)  : SpecG Try.prog [] ([]) 33 #[.agg #[.int .i64 a, .int .i64 b], .agg #[.int .i64 c, .int .i64 d]] ([]) (fun _ => rgV (meE a b c d) (maI a c) (miI b d)) := by
  refine specG_of (h := rme_h a b c d) (?_ : wpG Try.prog [] ([]) 400 33 [.agg #[.int .i64 a, .int .i64 b], .agg #[.int .i64 c, .int .i64 d]] (rme_h a b c d) ([]) (fun _ => rgV (meE a b c d) (maI a c) (miI b d)))
  rw [rme_x]
  (repeat' (first | with_reducible exact rfl | exact trivial | with_reducible assumption | (with_reducible exact rva_sp _ _) | (with_reducible exact rap_sp _ _ _ _) | exact cU_len _ | exact cI_len _ | exact cB_len _ | exact cU_one _ | exact cI_one _ | exact cB_one _ | exact (fun _ h => h) | exact (fun _ h => (List.not_mem_nil h).elim) | (with_reducible refine e1_in ?_) | (with_reducible refine e2_in ?_) | (with_reducible refine lx_in (Nat.le_of_ble_eq_true rfl) ?_) | (with_reducible refine rqx_rf ?_) | (with_reducible refine rqx_in ?_ ?_ ?_) | (with_reducible apply And.intro) | (with_reducible intro _)))
  all_goals (first | (simp only [*, Bool.and_true, Bool.true_and, Bool.and_false, Bool.false_and, Bool.or_true, Bool.true_or, Bool.or_false, Bool.false_or, Bool.not_true, Bool.not_false, cond_true, cond_false]; done) | ((try (have hh := ap_t ‹(!rvB a b || !rvB c d) = false› ‹_›)); (try (have hh := ap_f ‹(!rvB a b || !rvB c d) = false› ‹_›)); (try (simp only [Bool.not_eq_true', Bool.not_eq_false', Bool.or_eq_true, Bool.or_eq_false_iff, Bool.and_eq_true, Bool.and_eq_false_iff, decide_eq_true_eq, decide_eq_false_iff_not, bne_iff_ne, bne_eq_false_iff_eq, beq_iff_eq, beq_eq_false_iff_ne, ne_eq, Decidable.not_not, gt_iff_lt, ge_iff_le] at *)); (first | refine rgV_eq ?_ ?_ ?_ | refine congrArg Value.bool ?_ | skip) <;> simp only [meE, miI, maI, zI] <;> (repeat' split) <;> first | rfl | (simp_all; done) | omega | (simp_all <;> omega)) | trace_state)

theorem qv_eq (lo hi : Int) : (decide (lo ≤ hi) && (decide (lo ≥ -4611686018427387904) && decide (lo ≤ 4611686018427387904) && (decide (hi ≥ -4611686018427387904) && decide (hi ≤ 4611686018427387904)))) = rvB lo hi := by
  unfold rvB rMx
  rw [Bool.eq_iff_iff]
  simp
  omega
theorem rk_eq (x : Int) : (in64 x && (decide (clip64 x ≥ -4611686018427387904) && decide (clip64 x ≤ 4611686018427387904))) = rkB x := by
  unfold clip64 rkB rMx
  by_cases h : in64 x = true
  · rw [if_pos h, h, Bool.eq_iff_iff]; simp
  · have h1 : in64 x = false := by simpa using h
    rw [h1]
    unfold in64 at h1
    rw [Bool.eq_iff_iff]
    simp at h1 ⊢
    omega
theorem rk_clip {x : Int} (h : rkB x = true) : clip64 x = x := by
  have h := rkB_t.1 h
  unfold rMx at h
  have : in64 x = true := by unfold in64; simp; omega
  unfold clip64
  rw [if_pos this]
theorem rk_no {x y : Int} (hxy : x ≤ y) (h : (!rkB x || !rkB y) = true) : bdE x y = 2 := by
  unfold bdE
  rw [if_pos]
  unfold rkB at h
  simp at h
  omega
theorem rk_yes {x y : Int} (h : (!rkB x || !rkB y) = false) : clip64 x = x ∧ clip64 y = y ∧ bdE x y = 0 := by
  obtain ⟨p, q⟩ := two_t h
  refine ⟨rk_clip p, rk_clip q, ?_⟩
  have p := rkB_t.1 p
  have q := rkB_t.1 q
  unfold bdE
  rw [if_neg (by omega)]
theorem rv_neg {c d : Int} (h : rvB c d = true) : rvB (-d) (-c) = true := by
  have h := rvB_t.1 h
  exact rvB_t.2 (by omega)
theorem qt_eq (x y : Int) : (!in64 x || (!in64 y || (!(decide (clip64 x ≥ -4611686018427387904) && decide (clip64 x ≤ 4611686018427387904)) || !(decide (clip64 y ≥ -4611686018427387904) && decide (clip64 y ≤ 4611686018427387904))))) = (!rkB x || !rkB y) := by
  rw [← rk_eq x, ← rk_eq y]
  cases in64 x <;> cases in64 y <;> simp
theorem i64c {a b : Int} (ha : I64 a) (hb : I64 b) {c : Bool} : I64 (bif c then a else b) := by cases c; exact hb; exact ha
theorem me_c {a b c d : Int} (h : (!rvB a b || !rvB c d) = false) : decide ((if c > a then c else a) > if d < b then d else b) = (decide (b < c) || decide (d < a)) := by
  have p := rvB_t.1 (two_t h).1
  have q := rvB_t.1 (two_t h).2
  rw [Bool.eq_iff_iff]
  simp
  (repeat' split) <;> omega
theorem bd_sym (x y : Int) (h : (!rkB x || !rkB y) = true) : (x ≤ y → bdE x y = 2) ∧ (y ≤ x → bdE y x = 2) :=
  ⟨fun e => rk_no e h, fun e => rk_no e (by rw [Bool.or_comm]; exact h)⟩
theorem ti_no {a b n : Int} (h : (!rvB a b) = false) (hk : (!rkB (a * n) || !rkB (b * n)) = true) : tmE a b n = 2 := by
  unfold tmE tmL tmH
  rw [if_pos (one_t h)]
  by_cases e : n < 0
  · rw [if_pos e, if_pos e]; exact (bd_sym _ _ hk).2 (ti_le1 h (by simpa using e))
  · rw [if_neg e, if_neg e]; exact (bd_sym _ _ hk).1 (ti_le2 h (by simpa using e))
theorem ti_yes {a b n : Int} (h : (!rvB a b) = false) (hk : (!rkB (a * n) || !rkB (b * n)) = false) : clip64 (a * n) = a * n ∧ clip64 (b * n) = b * n ∧ tmE a b n = 0 ∧ (if b * n < a * n then b * n else a * n) = tmL a b n ∧ (if b * n > a * n then b * n else a * n) = tmH a b n := by
  obtain ⟨p, q, r⟩ := rk_yes hk
  have r2 := (rk_yes (by rw [Bool.or_comm]; exact hk)).2.2
  refine ⟨p, q, ?_, ?_⟩
  · unfold tmE tmL tmH
    rw [if_pos (one_t h)]
    by_cases e : n < 0
    · rw [if_pos e, if_pos e]; exact r2
    · rw [if_neg e, if_neg e]; exact r
  · unfold tmL tmH
    by_cases e : n < 0
    · have := ti_le1 h (by simpa using e)
      rw [if_pos e, if_pos e]
      constructor <;> split <;> omega
    · have := ti_le2 h (by simpa using e)
      rw [if_neg e, if_neg e]
      constructor <;> split <;> omega

end Go.Proofs.Ytoecjemnapnkbaa
