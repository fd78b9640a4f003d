/- Layer 21 (boxbook): the symbols of a delivery in both books, program. -/
import Derived.Test.YtkgdlimekkdekaaDoorVz
import Derived.KernelRfl
import Derived.Test.YtkgdlimekkdekaaDoorProg
import Derived.Test.YtkgdlimekkdekaaDoorBrd
import Derived.Test.YtkgdlimekkdekaaDoorRda
import Derived.Test.YtkgdlimekkdekaaDoorRuw
import Derived.Test.YtkgdlimekkdekaaDoorDvb
import Derived.Test.YtkgdlimekkdekaaDoorDvks
import Derived.Test.YtkgdlimekkdekaaDoorDmps
set_option linter.unusedSimpArgs false
set_option linter.unusedVariables false
set_option maxRecDepth 100000
namespace Go.Proofs.YtkgdlimekkdekaaDoor
open Go.RowKit


/-- The library's variables and the table of ways. -/
def tE : List Ex := [⟨4, fun off => lgo wC off, fun _ => True, fun _ _ _ _ => trivial⟩, ⟨0, fun _ => none, Env, fun _ _ h hb => h.stays hb⟩]
theorem wE_t : ∀ e : Ex, e ∈ wE → e ∈ tE := fun e he => by
  have : e = ⟨4, fun off => lgo wC off, fun _ => True, fun _ _ _ _ => trivial⟩ := by simpa [wE] using he
  rw [this]
  exact List.mem_cons_self ..
theorem rE_t : ∀ e : Ex, e ∈ rE → e ∈ tE := fun e he => by
  have : e = ⟨0, fun _ => none, Env, fun _ _ h hb => h.stays hb⟩ := by simpa [rE] using he
  rw [this]
  exact List.mem_cons_of_mem _ (List.mem_cons_self ..)
theorem tE_of {w : World} (h1 : ExtOK wE w) (h2 : Env w) : ExtOK tE w := fun e he => by
  rcases List.mem_cons.1 he with rfl | he
  · exact h1 _ (by simp [wE])
  · rcases List.mem_cons.1 he with rfl | he
    · exact ⟨(fun _ _ h => by cases h), h2⟩
    · cases he
theorem catB_size (a b : ByteArray) : (catB a b).size = a.size + b.size := by unfold catB; rw [ByteArray.size_append]
/-- Is the delivery one that may be entered? -/
def ftB (d : Dl) : Bool := lg d == 0 && psb d.t d.s d.r d.h d.v d.f d.g d.u false == 0
theorem ppG_sp (d : Dl) (hh : 0 ≤ d.h ∧ d.h ≤ 255) : SpecG Tryd.prog wE [] 87 #[dlV d, .bool false] [] (fun _ => .int .i64 (psb d.t d.s d.r d.h d.v d.f d.g d.u false)) :=
  specG_ofQ (ppos_sp d.t d.s d.r d.sh d.b d.x d.h d.v d.f d.g d.u d.z hh)
theorem lgG_sp (d : Dl) : SpecG Tryd.prog [] [] 40 #[dlV d] [] (fun _ => .int .i64 (lg d)) :=
  fun w _ _ => (legal_sp d.t d.s d.r d.sh d.b d.x d.h d.v d.f d.g d.u d.z w).mono fun e w' ⟨he, hb⟩ => ⟨[], he, ownsL_nil _ _, hb⟩
theorem gcG_sp (r : Rul) (B : RAd) (d : Dl) : SpecG Tryd.prog [] [] 18 #[ruV r B, dlV d] [] (fun _ => cdV r d) :=
  fun w _ _ => (gcr_sp r B d w).mono fun e w' ⟨he, hb⟩ => ⟨[], he, ownsL_nil _ _, hb⟩
theorem crG_sp (h : Int) : SpecG Tryd.prog [] [] 41 #[.int .u8 h] [] (fun _ => .bool (crd h)) :=
  fun w _ _ => (credited_sp h w).mono fun e w' ⟨he, hb⟩ => ⟨[], he, ownsL_nil _ _, hb⟩
def tyB (t : Int) : ByteArray := if t = 2 then ⟨#[119]⟩ else if t = 3 then ⟨#[110]⟩ else ⟨#[]⟩
def rnB (n : Int) : ByteArray := if n = 0 then ⟨#[46]⟩ else itS n
def exB (c : ByteArray) (n : Int) : ByteArray := if n = 0 then ⟨#[]⟩ else catB c (itS n)
def hoB (h : Int) : ByteArray := if crd h = true then ⟨#[87]⟩ else if h ≠ 0 then ⟨#[82]⟩ else ⟨#[]⟩
theorem tyB_size (t : Int) : (tyB t).size ≤ 1 := by unfold tyB; (repeat' split) <;> decide
theorem hoB_size (t : Int) : (hoB t).size ≤ 1 := by unfold hoB; (repeat' split) <;> decide
theorem rnB_size {n : Int} (hn : I64 n) : (rnB n).size ≤ 21 := by unfold rnB; split; decide; exact itS_size hn
theorem exB_size {c : ByteArray} {n : Int} (hn : I64 n) (hc : c.size ≤ 1) : (exB c n).size ≤ 22 := by
  unfold exB
  split
  · decide
  · rw [catB_size]; have := itS_size hn; omega
theorem rnB_pos (n : Int) : 0 < (rnB n).size := by unfold rnB; split; decide; exact itS_pos n
/-- What a symbol of a box is. -/
def boxB (r : Rul) (d : Dl) : ByteArray := catB (catB (catB (catB (tyB d.t) (rnB (gc5 r.q6 r.q7 d))) (exB ⟨#[98]⟩ (gc3 d))) (exB ⟨#[108]⟩ (gc4 d))) (hoB d.h)
def strB (d : Dl) : ByteArray := if gc7 d = false then ⟨#[]⟩ else rnB (gc0 d)
def bsE (r : Rul) (d : Dl) : Int := if rck r ≠ 0 then rck r else if ftB d = true then 0 else 1
def bsS (r : Rul) (d : Dl) : ByteArray := if bsE r d = 0 then boxB r d else ⟨#[]⟩
def ssS (r : Rul) (d : Dl) : ByteArray := if bsE r d = 0 then strB d else ⟨#[]⟩

def fts_h (d : Dl) : Hint := .nc (.cut [((2 : Nat), .bool (lg d == 0 && psb d.t d.s d.r d.h d.v d.f d.g d.u false == 0))] (ho 0 12 (.specg [] [] [] [] (fun ads0 x ↦ Value.int .i64 (lg d)) (.pl (.split (ho 0 12 (.lit (.specg wE [] [] [] (fun ads0 x ↦ Value.int .i64 (psb d.t d.s d.r d.h d.v d.f d.g d.u false)) (.lit (.pl (.lit
 .nil)))))) (.lit (.lit (.lit .nil))))))) (.perm [] .nil))
theorem fts_x (d : Dl) : wpG Tryd.prog tE ([]) 400 58 [dlV d] (fts_h d) ([]) (fun _ => .bool (ftB d)) = (∀ (b : Nat), (e1 b 12 ((SpecG Tryd.prog [] [] (40 : FuncId) #[dlV d] [] fun x ↦ Value.int .i64 (lg d)) /\ (∀ (e : Ex), e ∈ [] -> e ∈ tE) /\ ((lg d == 0) = true -> e1 b 12 ((SpecG Tryd.prog wE [] (87 : FuncId) #[dlV d, .bool false] [] fun x ↦ Value.int .i64 (psb d.t d.s d.r d.h d.v d.f d.g d.u false))
 /\ (∀ (e : Ex), e ∈ wE -> e ∈ tE) /\ Value.bool (psb d.t d.s d.r d.h d.v d.f d.g d.u false == 0) = Value.bool (lg d == 0 && psb d.t d.s d.r d.h d.v d.f d.g d.u false == 0) /\ True)) /\ ((lg d == 0) = false -> Value.bool false = Value.bool (lg d == 0 && psb d.t d.s d.r d.h d.v d.f d.g d.u false == 0)
 /\ True))) /\ ∀ (junk : Nat -> Value), .bool (lg d == 0 && psb d.t d.s d.r d.h d.v d.f d.g d.u false == 0) = Value.bool (ftB d)) := by kernel_rfl
set_option maxHeartbeats 4000000 in
theorem fts_sp (d : Dl) (hh : 0 ≤ d.h ∧ d.h ≤ 255) : SpecG Tryd.prog tE ([]) 58 #[dlV d] ([]) (fun _ => .bool (ftB d)) := by
  refine specG_of (h := fts_h d) (?_ : wpG Tryd.prog tE ([]) 400 58 [dlV d] (fts_h d) ([]) (fun _ => .bool (ftB d)))
  rw [fts_x]
  (repeat' (first | with_reducible exact rfl | exact trivial | with_reducible assumption | (with_reducible exact lgG_sp _) | (with_reducible exact ppG_sp _ hh) | exact cU_len _ | exact cI_len _ | exact cB_len _ | exact cU_one _ | exact cI_one _ | exact cB_one _ | exact (fun _ h => h) | exact (fun _ h => (List.not_mem_nil h).elim) | exact wE_t | exact rE_t | (with_reducible refine e1_in ?_) | (with_reducible refine e2_in ?_) | (with_reducible refine lx_in (Nat.le_of_ble_eq_true rfl) ?_) | (with_reducible refine rqx_rf ?_) | (with_reducible refine rqx_in ?_ ?_ ?_) | (with_reducible apply And.intro) | (with_reducible intro _)))
  all_goals (first | (simp only [*, Bool.and_true, Bool.true_and, Bool.and_false, Bool.false_and, Bool.or_true, Bool.true_or, Bool.or_false, Bool.false_or, Bool.not_true, Bool.not_false, cond_true, cond_false]; done) | (refine congrArg Value.bool ?_; (try (simp only [Bool.not_eq_true', Bool.not_eq_false', Bool.or_eq_true, Bool.or_eq_false_iff, Bool.and_eq_true, Bool.and_eq_false_iff, decide_eq_true_eq, decide_eq_false_iff_not, bne_iff_ne, bne_eq_false_iff_eq, beq_iff_eq, beq_eq_false_iff_ne, ne_eq, Decidable.not_not] at *)); unfold ftB; (repeat' split) <;> first | rfl | omega | (simp_all; done) | (exfalso; simp_all; omega)) | trace_state)
def tys_h (t : Int) : Hint := .pl (.split (.perm [] .nil) (.pl (.split (.perm [] .nil) (.perm [] .nil))))
theorem tys_x (t : Int) : wpG Tryd.prog [] ([]) 400 59 [.int .u8 t] (tys_h t) ([]) (fun _ => .string (tyB t)) = (((t == 2) = true -> Value.string (ByteArray.mk (Array.mk [(119 : UInt8)])) = Value.string (tyB t)) /\ ((t == 2) = false -> ((t == 3) = true -> Value.string (ByteArray.mk (Array.mk [(110 : UInt8)])) = Value.string (tyB t)) /\ ((t == 3) = false -> Value.string (ByteArray.mk (Array.mk [])) =
 Value.string (tyB t)))) := by kernel_rfl
set_option maxHeartbeats 4000000 in
theorem tys_sp (t : Int)  : SpecG Tryd.prog [] ([]) 59 #[.int .u8 t] ([]) (fun _ => .string (tyB t)) := by
  refine specG_of (h := tys_h t) (?_ : wpG Tryd.prog [] ([]) 400 59 [.int .u8 t] (tys_h t) ([]) (fun _ => .string (tyB t)))
  rw [tys_x]
  (repeat' (first | with_reducible exact rfl | exact trivial | with_reducible assumption | exact cU_len _ | exact cI_len _ | exact cB_len _ | exact cU_one _ | exact cI_one _ | exact cB_one _ | exact (fun _ h => h) | exact (fun _ h => (List.not_mem_nil h).elim) | (with_reducible refine e1_in ?_) | (with_reducible refine e2_in ?_) | (with_reducible refine lx_in (Nat.le_of_ble_eq_true rfl) ?_) | (with_reducible refine rqx_rf ?_) | (with_reducible refine rqx_in ?_ ?_ ?_) | (with_reducible apply And.intro) | (with_reducible intro _)))
  all_goals (first | (simp only [*, Bool.and_true, Bool.true_and, Bool.and_false, Bool.false_and, Bool.or_true, Bool.true_or, Bool.or_false, Bool.false_or, Bool.not_true, Bool.not_false, cond_true, cond_false]; done) | (refine congrArg Value.string ?_; (try (simp only [Bool.not_eq_true', Bool.not_eq_false', Bool.or_eq_true, Bool.or_eq_false_iff, Bool.and_eq_true, Bool.and_eq_false_iff, decide_eq_true_eq, decide_eq_false_iff_not, bne_iff_ne, bne_eq_false_iff_eq, beq_iff_eq, beq_eq_false_iff_ne, ne_eq, Decidable.not_not] at *)); unfold tyB; (repeat' split) <;> first | rfl | omega | (simp_all; done) | (exfalso; simp_all; omega)) | trace_state)
def rns_h (n : Int) : Hint := .pl (.split (.perm [] .nil) (.specg rE [] [] [] (fun ads0 x ↦ Value.string (itS n)) (.perm [] .nil)))
theorem rns_x (n : Int) : wpG Tryd.prog tE ([]) 400 60 [.int .i64 n] (rns_h n) ([]) (fun _ => .string (rnB n)) = (((n == 0) = true -> Value.string (ByteArray.mk (Array.mk [(46 : UInt8)])) = Value.string (rnB n)) /\ ((n == 0) = false -> (SpecG Tryd.prog rE [] (55 : FuncId) #[Value.int .i64 n] [] fun x ↦ Value.string (itS n)) /\ (∀ (e : Ex), e ∈ rE -> e ∈ tE) /\ Value.string (itS n) = Value.string (rnB n))) := by kernel_rfl
set_option maxHeartbeats 4000000 in
theorem rns_sp (n : Int) (hn : I64 n) : SpecG Tryd.prog tE ([]) 60 #[.int .i64 n] ([]) (fun _ => .string (rnB n)) := by
  refine specG_of (h := rns_h n) (?_ : wpG Tryd.prog tE ([]) 400 60 [.int .i64 n] (rns_h n) ([]) (fun _ => .string (rnB n)))
  rw [rns_x]
  have e : IntKind.i64.wrap n = n := IntWalk.i64_in _ hn
  try simp only [e]
  (repeat' (first | with_reducible exact rfl | exact trivial | with_reducible assumption | (with_reducible exact dec_sp _ hn) | exact cU_len _ | exact cI_len _ | exact cB_len _ | exact cU_one _ | exact cI_one _ | exact cB_one _ | exact (fun _ h => h) | exact (fun _ h => (List.not_mem_nil h).elim) | exact wE_t | exact rE_t | (with_reducible refine e1_in ?_) | (with_reducible refine e2_in ?_) | (with_reducible refine lx_in (Nat.le_of_ble_eq_true rfl) ?_) | (with_reducible refine rqx_rf ?_) | (with_reducible refine rqx_in ?_ ?_ ?_) | (with_reducible apply And.intro) | (with_reducible intro _)))
  all_goals (first | (simp only [*, Bool.and_true, Bool.true_and, Bool.and_false, Bool.false_and, Bool.or_true, Bool.true_or, Bool.or_false, Bool.false_or, Bool.not_true, Bool.not_false, cond_true, cond_false]; done) | (refine congrArg Value.string ?_; (try (simp only [Bool.not_eq_true', Bool.not_eq_false', Bool.or_eq_true, Bool.or_eq_false_iff, Bool.and_eq_true, Bool.and_eq_false_iff, decide_eq_true_eq, decide_eq_false_iff_not, bne_iff_ne, bne_eq_false_iff_eq, beq_iff_eq, beq_eq_false_iff_ne, ne_eq, Decidable.not_not] at *)); unfold rnB; (repeat' split) <;> first | rfl | omega | (simp_all; done) | (exfalso; simp_all; omega)) | trace_state)
def exs_h (c : ByteArray) (n : Int) : Hint := .pl (.split (.perm [] .nil) (.specg rE [] [] [] (fun ads0 x ↦ Value.string (itS n)) (.ix (.perm [] .nil))))
theorem exs_x (c : ByteArray) (n : Int) : wpG Tryd.prog tE ([]) 400 61 [.string c, .int .i64 n] (exs_h c n) ([]) (fun _ => .string (exB c n)) = (((n == 0) = true -> Value.string (ByteArray.mk (Array.mk [])) = Value.string (exB c n)) /\ ((n == 0) = false -> (SpecG Tryd.prog rE [] (55 : FuncId) #[Value.int .i64 n] [] fun x ↦ Value.string (itS n)) /\ (∀ (e : Ex), e ∈ rE -> e ∈ tE) /\ ByteArray.size c + ByteArray.size (itS n) ≤
 (9223372036854775807 : Nat) /\ Value.string (catB c (itS n)) = Value.string (exB c n))) := by kernel_rfl
set_option maxHeartbeats 4000000 in
theorem exs_sp (c : ByteArray) (n : Int) (hn : I64 n) (hc : c.size ≤ 1) : SpecG Tryd.prog tE ([]) 61 #[.string c, .int .i64 n] ([]) (fun _ => .string (exB c n)) := by
  refine specG_of (h := exs_h c n) (?_ : wpG Tryd.prog tE ([]) 400 61 [.string c, .int .i64 n] (exs_h c n) ([]) (fun _ => .string (exB c n)))
  rw [exs_x]
  have e : IntKind.i64.wrap n = n := IntWalk.i64_in _ hn
  try simp only [e]
  have hs := itS_size hn
  (repeat' (first | with_reducible exact rfl | exact trivial | with_reducible assumption | (with_reducible exact dec_sp _ hn) | exact cU_len _ | exact cI_len _ | exact cB_len _ | exact cU_one _ | exact cI_one _ | exact cB_one _ | exact (fun _ h => h) | exact (fun _ h => (List.not_mem_nil h).elim) | exact wE_t | exact rE_t | (with_reducible refine e1_in ?_) | (with_reducible refine e2_in ?_) | (with_reducible refine lx_in (Nat.le_of_ble_eq_true rfl) ?_) | (with_reducible refine rqx_rf ?_) | (with_reducible refine rqx_in ?_ ?_ ?_) | (with_reducible apply And.intro) | (with_reducible intro _)))
  all_goals (try omega)
  all_goals (first | (simp only [*, Bool.and_true, Bool.true_and, Bool.and_false, Bool.false_and, Bool.or_true, Bool.true_or, Bool.or_false, Bool.false_or, Bool.not_true, Bool.not_false, cond_true, cond_false]; done) | (refine congrArg Value.string ?_; (try (simp only [Bool.not_eq_true', Bool.not_eq_false', Bool.or_eq_true, Bool.or_eq_false_iff, Bool.and_eq_true, Bool.and_eq_false_iff, decide_eq_true_eq, decide_eq_false_iff_not, bne_iff_ne, bne_eq_false_iff_eq, beq_iff_eq, beq_eq_false_iff_ne, ne_eq, Decidable.not_not] at *)); unfold exB; (repeat' split) <;> first | rfl | omega | (simp_all; done) | (exfalso; simp_all; omega)) | trace_state)
def hos_h (h : Int) : Hint := .specg [] [] [] [] (fun ads0 x ↦ Value.bool (crd h)) (.split (.perm [] .nil) (.pl (.split (.perm [] .nil) (.perm [] .nil))))
theorem hos_x (h : Int) : wpG Tryd.prog [] ([]) 400 62 [.int .u8 h] (hos_h h) ([]) (fun _ => .string (hoB h)) = ((SpecG Tryd.prog [] [] (41 : FuncId) #[Value.int .u8 h] [] fun x ↦ Value.bool (crd h)) /\ (∀ (e : Ex), e ∈ [] -> e ∈ []) /\ (crd h = true -> Value.string (ByteArray.mk (Array.mk [(87 : UInt8)])) = Value.string (hoB h)) /\ (crd h = false -> ((h != 0) = true -> Value.string (ByteArray.mk (Array.mk [(82
 : UInt8)])) = Value.string (hoB h)) /\ ((h != 0) = false -> Value.string (ByteArray.mk (Array.mk [])) = Value.string (hoB h)))) := by kernel_rfl
set_option maxHeartbeats 4000000 in
theorem hos_sp (h : Int)  : SpecG Tryd.prog [] ([]) 62 #[.int .u8 h] ([]) (fun _ => .string (hoB h)) := by
  refine specG_of (h := hos_h h) (?_ : wpG Tryd.prog [] ([]) 400 62 [.int .u8 h] (hos_h h) ([]) (fun _ => .string (hoB h)))
  rw [hos_x]
  (repeat' (first | with_reducible exact rfl | exact trivial | with_reducible assumption | (with_reducible exact crG_sp _) | exact cU_len _ | exact cI_len _ | exact cB_len _ | exact cU_one _ | exact cI_one _ | exact cB_one _ | exact (fun _ h => h) | exact (fun _ h => (List.not_mem_nil h).elim) | (with_reducible refine e1_in ?_) | (with_reducible refine e2_in ?_) | (with_reducible refine lx_in (Nat.le_of_ble_eq_true rfl) ?_) | (with_reducible refine rqx_rf ?_) | (with_reducible refine rqx_in ?_ ?_ ?_) | (with_reducible apply And.intro) | (with_reducible intro _)))
  all_goals (first | (simp only [*, Bool.and_true, Bool.true_and, Bool.and_false, Bool.false_and, Bool.or_true, Bool.true_or, Bool.or_false, Bool.false_or, Bool.not_true, Bool.not_false, cond_true, cond_false]; done) | (refine congrArg Value.string ?_; (try (simp only [Bool.not_eq_true', Bool.not_eq_false', Bool.or_eq_true, Bool.or_eq_false_iff, Bool.and_eq_true, Bool.and_eq_false_iff, decide_eq_true_eq, decide_eq_false_iff_not, bne_iff_ne, bne_eq_false_iff_eq, beq_iff_eq, beq_eq_false_iff_ne, ne_eq, Decidable.not_not] at *)); unfold hoB; (repeat' split) <;> first | rfl | omega | (simp_all; done) | (exfalso; simp_all; omega)) | trace_state)

theorem gc_r {d : Dl} {n : Int} : (lg d = 0 → 0 ≤ n ∧ n ≤ 13) → (¬ lg d = 0 → n = 0) → I64 n := fun h1 h2 => by
  by_cases c : lg d = 0
  · have := h1 c; exact ⟨by omega, by omega⟩
  · rw [h2 c]; exact ⟨by decide, by decide⟩
theorem i64_w (n : Int) : I64 (IntKind.i64.wrap n) := by
  have e : IntKind.i64.wrap n = if n % 18446744073709551616 ≥ 9223372036854775808 then n % 18446744073709551616 - 18446744073709551616 else n % 18446744073709551616 := by
    simp [IntKind.wrap, IntKind.bits, IntKind.signed]
  rw [e]
  constructor <;> (split <;> omega)
theorem i64_0 : I64 0 := ⟨by decide, by decide⟩
theorem gc_crn (d : Dl) : I64 (crn d) := by unfold crn; exact i64_w _
theorem gc3_i (d : Dl) : I64 (gc3 d) := by unfold gc3; (repeat' split) <;> first | exact gc_crn d | exact i64_0
theorem gc4_i (d : Dl) : I64 (gc4 d) := by unfold gc4; (repeat' split) <;> first | exact gc_crn d | exact i64_0
theorem gc0_i (d : Dl) : I64 (gc0 d) := by unfold gc0; (repeat' split) <;> first | exact gc_crn d | exact i64_0
theorem gc5_i (a b : Int) (d : Dl) : I64 (gc5 a b d) := by unfold gc5; split; (unfold crb; exact i64_w _); exact i64_0

def bxp_h (r : Rul) (B : RAd) (d : Dl) : Hint := ho 0 14 (ho 1 12 (.specg [] [] [] [] (fun ads0 x ↦ cdV r d) (ho 2 10 (.draw [0, 1, 2] none [0, 1, 2] (.take 0 (.take 1 (.ob 1 (.take 3 (.take 4 (.ob 2 (.take 7 (.take 8 (.ob 2 (.take 11 (.take 12 (.ob 2 (.take 15 (.take 16 (.ob 1 (.pl (.br (.specg [] [] [] [] (fun ads0 x ↦ Value.string (tyB d.t))
 (.pl (.br (.specg tE [] [] [] (fun ads0 x ↦ Value.string (rnB (gc5 r.q6 r.q7 d))) (.take 6 (.ix (.pl (.br (.specg tE [] [] [] (fun ads0 x ↦ Value.string (exB (ByteArray.mk (Array.mk [(98 : UInt8)])) (gc3 d))) (.take 10 (.ix (.pl (.br (.specg tE [] [] [] (fun ads0 x ↦ Value.string (exB (ByteArray.mk
 (Array.mk [(108 : UInt8)])) (gc4 d))) (.take 14 (.ix (.pl (.br (.specg [] [] [] [] (fun ads0 x ↦ Value.string (hoB d.h)) (.take 18 (.ix (.take 19 (.perm [] .nil))))) .nil))))) .nil))))) .nil))))) .nil))) .nil)))))))))))))))))))))
theorem bxp_x (r : Rul) (B : RAd) (d : Dl) : wpG Tryd.prog tE ([]) 400 37 [ruV r B, dlV d] (bxp_h r B d) ([]) (fun _ => .string (boxB r d)) = (∀ (b b_1 : Nat), e1 b 14 (e1 b_1 12 ((SpecG Tryd.prog [] [] (18 : FuncId) #[ruV r B, dlV d] [] fun x ↦ cdV r d) /\ (∀ (e : Ex), e ∈ [] -> e ∈ tE) /\ ∀ (b : Nat), e2 b 10 (b_1 = b_1 /\ e1 b 3 (b_1 = b_1 /\ True /\ ((SpecG Tryd.prog [] [] (59 : FuncId) #[Value.int .u8 d.t] [] fun x ↦ Value.string (tyB
 d.t)) /\ (∀ (e : Ex), e ∈ [] -> e ∈ tE) /\ True /\ ((SpecG Tryd.prog tE [] (60 : FuncId) #[Value.int .i64 (gc5 r.q6 r.q7 d)] [] fun x ↦ Value.string (rnB (gc5 r.q6 r.q7 d))) /\ (∀ (e : Ex), e ∈ tE -> e ∈ tE) /\ ByteArray.size (tyB d.t) + ByteArray.size (rnB (gc5 r.q6 r.q7 d)) ≤ (9223372036854775807 :
 Nat) /\ True /\ ((SpecG Tryd.prog tE [] (61 : FuncId) #[Value.string (ByteArray.mk (Array.mk [(98 : UInt8)])), .int .i64 (gc3 d)] [] fun x ↦ Value.string (exB (ByteArray.mk (Array.mk [(98 : UInt8)])) (gc3 d))) /\ (∀ (e : Ex), e ∈ tE -> e ∈ tE) /\ ByteArray.size (catB (tyB d.t) (rnB (gc5 r.q6 r.q7
 d))) + ByteArray.size (exB (ByteArray.mk (Array.mk [(98 : UInt8)])) (gc3 d)) ≤ (9223372036854775807 : Nat) /\ True /\ ((SpecG Tryd.prog tE [] (61 : FuncId) #[Value.string (ByteArray.mk (Array.mk [(108 : UInt8)])), .int .i64 (gc4 d)] [] fun x ↦ Value.string (exB (ByteArray.mk (Array.mk [(108 :
 UInt8)])) (gc4 d))) /\ (∀ (e : Ex), e ∈ tE -> e ∈ tE) /\ ByteArray.size (catB (catB (tyB d.t) (rnB (gc5 r.q6 r.q7 d))) (exB (ByteArray.mk (Array.mk [(98 : UInt8)])) (gc3 d))) + ByteArray.size (exB (ByteArray.mk (Array.mk [(108 : UInt8)])) (gc4 d)) ≤ (9223372036854775807 : Nat) /\ True /\ ((SpecG
 Tryd.prog [] [] (62 : FuncId) #[Value.int .u8 d.h] [] fun x ↦ Value.string (hoB d.h)) /\ (∀ (e : Ex), e ∈ [] -> e ∈ tE) /\ ByteArray.size (catB (catB (catB (tyB d.t) (rnB (gc5 r.q6 r.q7 d))) (exB (ByteArray.mk (Array.mk [(98 : UInt8)])) (gc3 d))) (exB (ByteArray.mk (Array.mk [(108 : UInt8)])) (gc4
 d))) + ByteArray.size (hoB d.h) ≤ (9223372036854775807 : Nat) /\ Value.string (catB (catB (catB (catB (tyB d.t) (rnB (gc5 r.q6 r.q7 d))) (exB (ByteArray.mk (Array.mk [(98 : UInt8)])) (gc3 d))) (exB (ByteArray.mk (Array.mk [(108 : UInt8)])) (gc4 d))) (hoB d.h)) = Value.string (boxB r d)) /\ True) /\
 True) /\ True) /\ True) /\ True))))) := by kernel_rfl
set_option maxHeartbeats 4000000 in
theorem bxp_sp (r : Rul) (B : RAd) (d : Dl)  : SpecG Tryd.prog tE ([]) 37 #[ruV r B, dlV d] ([]) (fun _ => .string (boxB r d)) := by
  refine specG_of (h := bxp_h r B d) (?_ : wpG Tryd.prog tE ([]) 400 37 [ruV r B, dlV d] (bxp_h r B d) ([]) (fun _ => .string (boxB r d)))
  rw [bxp_x]
  (repeat' (first | with_reducible exact rfl | exact trivial | with_reducible assumption | (with_reducible exact gcG_sp _ _ _) | (with_reducible exact tys_sp _) | (with_reducible exact rns_sp _ (gc5_i _ _ d)) | (with_reducible exact exs_sp _ _ (gc3_i d) (by decide)) | (with_reducible exact exs_sp _ _ (gc4_i d) (by decide)) | (with_reducible exact hos_sp _) | exact cU_len _ | exact cI_len _ | exact cB_len _ | exact cU_one _ | exact cI_one _ | exact cB_one _ | exact (fun _ h => h) | exact (fun _ h => (List.not_mem_nil h).elim) | exact wE_t | exact rE_t | (with_reducible refine e1_in ?_) | (with_reducible refine e2_in ?_) | (with_reducible refine lx_in (Nat.le_of_ble_eq_true rfl) ?_) | (with_reducible refine rqx_rf ?_) | (with_reducible refine rqx_in ?_ ?_ ?_) | (with_reducible apply And.intro) | (with_reducible intro _)))
  all_goals (try (have h1 := tyB_size d.t; have h2 := rnB_size (gc5_i r.q6 r.q7 d); have h3 := exB_size (c := ByteArray.mk (Array.mk [98])) (gc3_i d) (by decide); have h4 := exB_size (c := ByteArray.mk (Array.mk [108])) (gc4_i d) (by decide); have h5 := hoB_size d.h; (try simp only [catB_size]); omega))
  all_goals (first | rfl | (simp only [*, Bool.and_true, Bool.true_and, Bool.and_false, Bool.false_and, Bool.or_true, Bool.true_or, Bool.or_false, Bool.false_or, Bool.not_true, Bool.not_false, cond_true, cond_false]; done) | trace_state)
def stp_h (r : Rul) (B : RAd) (d : Dl) : Hint := ho 0 14 (ho 1 12 (.specg [] [] [] [] (fun ads0 x ↦ cdV r d) (ho 2 11 (.split (.perm [] .nil) (.ob 2 (.specg tE [] [] [] (fun ads0 x ↦ Value.string (rnB (gc0 d))) (.perm [] .nil)))))))
theorem stp_x (r : Rul) (B : RAd) (d : Dl) : wpG Tryd.prog tE ([]) 400 38 [ruV r B, dlV d] (stp_h r B d) ([]) (fun _ => .string (strB d)) = (∀ (b b_1 : Nat), e1 b 14 (e1 b_1 12 ((SpecG Tryd.prog [] [] (18 : FuncId) #[ruV r B, dlV d] [] fun x ↦ cdV r d) /\ (∀ (e : Ex), e ∈ [] -> e ∈ tE) /\ ∀ (b : Nat), e2 b 10 (b = b /\ ((!gc7 d) = true -> Value.string (ByteArray.mk (Array.mk [])) = Value.string (strB d)) /\ ((!gc7 d) = false -> b = b /\
 (SpecG Tryd.prog tE [] (60 : FuncId) #[Value.int .i64 (gc0 d)] [] fun x ↦ Value.string (rnB (gc0 d))) /\ (∀ (e : Ex), e ∈ tE -> e ∈ tE) /\ Value.string (rnB (gc0 d)) = Value.string (strB d)))))) := by kernel_rfl
set_option maxHeartbeats 4000000 in
theorem stp_sp (r : Rul) (B : RAd) (d : Dl)  : SpecG Tryd.prog tE ([]) 38 #[ruV r B, dlV d] ([]) (fun _ => .string (strB d)) := by
  refine specG_of (h := stp_h r B d) (?_ : wpG Tryd.prog tE ([]) 400 38 [ruV r B, dlV d] (stp_h r B d) ([]) (fun _ => .string (strB d)))
  rw [stp_x]
  (repeat' (first | with_reducible exact rfl | exact trivial | with_reducible assumption | (with_reducible exact gcG_sp _ _ _) | (with_reducible exact rns_sp _ (gc0_i d)) | exact cU_len _ | exact cI_len _ | exact cB_len _ | exact cU_one _ | exact cI_one _ | exact cB_one _ | exact (fun _ h => h) | exact (fun _ h => (List.not_mem_nil h).elim) | exact wE_t | exact rE_t | (with_reducible refine e1_in ?_) | (with_reducible refine e2_in ?_) | (with_reducible refine lx_in (Nat.le_of_ble_eq_true rfl) ?_) | (with_reducible refine rqx_rf ?_) | (with_reducible refine rqx_in ?_ ?_ ?_) | (with_reducible apply And.intro) | (with_reducible intro _)))
  all_goals (first | (simp only [*, Bool.and_true, Bool.true_and, Bool.and_false, Bool.false_and, Bool.or_true, Bool.true_or, Bool.or_false, Bool.false_or, Bool.not_true, Bool.not_false, cond_true, cond_false]; done) | (refine congrArg Value.string ?_; (try (simp only [Bool.not_eq_true', Bool.not_eq_false', Bool.or_eq_true, Bool.or_eq_false_iff, Bool.and_eq_true, Bool.and_eq_false_iff, decide_eq_true_eq, decide_eq_false_iff_not, bne_iff_ne, bne_eq_false_iff_eq, beq_iff_eq, beq_eq_false_iff_ne, ne_eq, Decidable.not_not] at *)); unfold strB; (repeat' split) <;> first | rfl | omega | (simp_all; done) | (exfalso; simp_all; omega)) | trace_state)
def bsy_h (r : Rul) (B : RAd) (d : Dl) : Hint := ho 1 14 (ho 2 12 (.inl (ho 3 14 (.specg [] [0] [cP r.pw] [] (fun ads0 x ↦ Value.int .i64 (rck r)) (.pl (.split (.perm [] .nil) (ho 4 12 (.specg tE [] [] [] (fun ads0 x ↦ Value.bool (ftB d)) (.split (.perm [] .nil) (ho 3 14 (ho 4 12 (.specg tE [] [] [] (fun ads0 x ↦ Value.string (boxB r d)) (.perm []
 .nil)))))))))))))
theorem bsy_x (r : Rul) (B : RAd) (d : Dl) : wpG Tryd.prog tE ([(B.a, cP r.pw)]) 400 15 [ruV r B, dlV d] (bsy_h r B d) ([]) (fun _ => .tuple #[.string (bsS r d), .int .i64 (bsE r d)]) = (∀ (b b_1 : Nat), e1 b 14 (e1 b_1 12 (∀ (b b_2 : Nat), e1 b 14 (cP r.pw = cP r.pw /\ (SpecG Tryd.prog [] [(RAd.a B, cP r.pw)] (57 : FuncId) #[ruV r B] [] fun x ↦ Value.int .i64 (rck r)) /\ (∀ (e : Ex), e ∈ [] -> e ∈ tE) /\ ((rck r != 0) = true -> Value.tuple (Array.mk [.string (ByteArray.mk (Array.mk
 [])), .int .i64 (rck r)]) = Value.tuple (Array.mk [.string (bsS r d), .int .i64 (bsE r d)])) /\ ((rck r != 0) = false -> e1 b_2 12 ((SpecG Tryd.prog tE [] (58 : FuncId) #[dlV d] [] fun x ↦ Value.bool (ftB d)) /\ (∀ (e : Ex), e ∈ tE -> e ∈ tE) /\ ((!ftB d) = true -> Value.tuple (Array.mk [.string
 (ByteArray.mk (Array.mk [])), .int .i64 1]) = Value.tuple (Array.mk [.string (bsS r d), .int .i64 (bsE r d)])) /\ ((!ftB d) = false -> e1 b 14 (e1 b_2 12 ((SpecG Tryd.prog tE [] (37 : FuncId) #[ruV r B, dlV d] [] fun x ↦ Value.string (boxB r d)) /\ (∀ (e : Ex), e ∈ tE -> e ∈ tE) /\ Value.tuple
 (Array.mk [.string (boxB r d), .int .i64 0]) = Value.tuple (Array.mk [.string (bsS r d), .int .i64 (bsE r d)])))))))))) := by kernel_rfl
set_option maxHeartbeats 4000000 in
theorem bsy_sp (r : Rul) (B : RAd) (d : Dl) (hB : AOK B.a r.pw.length) (hl : r.pw.length ≤ 9223372036854775807) (hn : r.nm.size ≤ 9223372036854775807) (hh : 0 ≤ d.h ∧ d.h ≤ 255) : SpecG Tryd.prog tE ([(B.a, cP r.pw)]) 15 #[ruV r B, dlV d] ([]) (fun _ => .tuple #[.string (bsS r d), .int .i64 (bsE r d)]) := by
  refine specG_of (h := bsy_h r B d) (?_ : wpG Tryd.prog tE ([(B.a, cP r.pw)]) 400 15 [ruV r B, dlV d] (bsy_h r B d) ([]) (fun _ => .tuple #[.string (bsS r d), .int .i64 (bsE r d)]))
  rw [bsy_x]
  (repeat' (first | with_reducible exact rfl | exact trivial | with_reducible assumption | (with_reducible exact rch_sp _ _ hB hl hn) | (with_reducible exact fts_sp _ hh) | (with_reducible exact bxp_sp _ _ _) | exact cU_len _ | exact cI_len _ | exact cB_len _ | exact cU_one _ | exact cI_one _ | exact cB_one _ | exact (fun _ h => h) | exact (fun _ h => (List.not_mem_nil h).elim) | exact wE_t | exact rE_t | (with_reducible refine e1_in ?_) | (with_reducible refine e2_in ?_) | (with_reducible refine lx_in (Nat.le_of_ble_eq_true rfl) ?_) | (with_reducible refine rqx_rf ?_) | (with_reducible refine rqx_in ?_ ?_ ?_) | (with_reducible apply And.intro) | (with_reducible intro _)))
  all_goals (first | (simp only [*, Bool.and_true, Bool.true_and, Bool.and_false, Bool.false_and, Bool.or_true, Bool.true_or, Bool.or_false, Bool.false_or, Bool.not_true, Bool.not_false, cond_true, cond_false]; done) | ((try (simp only [Bool.not_eq_true', Bool.not_eq_false', Bool.or_eq_true, Bool.or_eq_false_iff, Bool.and_eq_true, Bool.and_eq_false_iff, decide_eq_true_eq, decide_eq_false_iff_not, bne_iff_ne, bne_eq_false_iff_eq, beq_iff_eq, beq_eq_false_iff_ne, ne_eq, Decidable.not_not] at *)); unfold bsS bsE; first | (simp_all; done) | ((repeat' split) <;> first | rfl | (simp_all; done))) | trace_state)
def ssy_h (r : Rul) (B : RAd) (d : Dl) : Hint := ho 1 14 (ho 2 12 (.inl (ho 3 14 (.specg [] [0] [cP r.pw] [] (fun ads0 x ↦ Value.int .i64 (rck r)) (.pl (.split (.perm [] .nil) (ho 4 12 (.specg tE [] [] [] (fun ads0 x ↦ Value.bool (ftB d)) (.split (.perm [] .nil) (ho 3 14 (ho 4 12 (.specg tE [] [] [] (fun ads0 x ↦ Value.string (strB d)) (.perm []
 .nil)))))))))))))
theorem ssy_x (r : Rul) (B : RAd) (d : Dl) : wpG Tryd.prog tE ([(B.a, cP r.pw)]) 400 16 [ruV r B, dlV d] (ssy_h r B d) ([]) (fun _ => .tuple #[.string (ssS r d), .int .i64 (bsE r d)]) = (∀ (b b_1 : Nat), e1 b 14 (e1 b_1 12 (∀ (b b_2 : Nat), e1 b 14 (cP r.pw = cP r.pw /\ (SpecG Tryd.prog [] [(RAd.a B, cP r.pw)] (57 : FuncId) #[ruV r B] [] fun x ↦ Value.int .i64 (rck r)) /\ (∀ (e : Ex), e ∈ [] -> e ∈ tE) /\ ((rck r != 0) = true -> Value.tuple (Array.mk [.string (ByteArray.mk (Array.mk
 [])), .int .i64 (rck r)]) = Value.tuple (Array.mk [.string (ssS r d), .int .i64 (bsE r d)])) /\ ((rck r != 0) = false -> e1 b_2 12 ((SpecG Tryd.prog tE [] (58 : FuncId) #[dlV d] [] fun x ↦ Value.bool (ftB d)) /\ (∀ (e : Ex), e ∈ tE -> e ∈ tE) /\ ((!ftB d) = true -> Value.tuple (Array.mk [.string
 (ByteArray.mk (Array.mk [])), .int .i64 1]) = Value.tuple (Array.mk [.string (ssS r d), .int .i64 (bsE r d)])) /\ ((!ftB d) = false -> e1 b 14 (e1 b_2 12 ((SpecG Tryd.prog tE [] (38 : FuncId) #[ruV r B, dlV d] [] fun x ↦ Value.string (strB d)) /\ (∀ (e : Ex), e ∈ tE -> e ∈ tE) /\ Value.tuple
 (Array.mk [.string (strB d), .int .i64 0]) = Value.tuple (Array.mk [.string (ssS r d), .int .i64 (bsE r d)])))))))))) := by kernel_rfl
set_option maxHeartbeats 4000000 in
theorem ssy_sp (r : Rul) (B : RAd) (d : Dl) (hB : AOK B.a r.pw.length) (hl : r.pw.length ≤ 9223372036854775807) (hn : r.nm.size ≤ 9223372036854775807) (hh : 0 ≤ d.h ∧ d.h ≤ 255) : SpecG Tryd.prog tE ([(B.a, cP r.pw)]) 16 #[ruV r B, dlV d] ([]) (fun _ => .tuple #[.string (ssS r d), .int .i64 (bsE r d)]) := by
  refine specG_of (h := ssy_h r B d) (?_ : wpG Tryd.prog tE ([(B.a, cP r.pw)]) 400 16 [ruV r B, dlV d] (ssy_h r B d) ([]) (fun _ => .tuple #[.string (ssS r d), .int .i64 (bsE r d)]))
  rw [ssy_x]
  (repeat' (first | with_reducible exact rfl | exact trivial | with_reducible assumption | (with_reducible exact rch_sp _ _ hB hl hn) | (with_reducible exact fts_sp _ hh) | (with_reducible exact stp_sp _ _ _) | exact cU_len _ | exact cI_len _ | exact cB_len _ | exact cU_one _ | exact cI_one _ | exact cB_one _ | exact (fun _ h => h) | exact (fun _ h => (List.not_mem_nil h).elim) | exact wE_t | exact rE_t | (with_reducible refine e1_in ?_) | (with_reducible refine e2_in ?_) | (with_reducible refine lx_in (Nat.le_of_ble_eq_true rfl) ?_) | (with_reducible refine rqx_rf ?_) | (with_reducible refine rqx_in ?_ ?_ ?_) | (with_reducible apply And.intro) | (with_reducible intro _)))
  all_goals (first | (simp only [*, Bool.and_true, Bool.true_and, Bool.and_false, Bool.false_and, Bool.or_true, Bool.true_or, Bool.or_false, Bool.false_or, Bool.not_true, Bool.not_false, cond_true, cond_false]; done) | ((try (simp only [Bool.not_eq_true', Bool.not_eq_false', Bool.or_eq_true, Bool.or_eq_false_iff, Bool.and_eq_true, Bool.and_eq_false_iff, decide_eq_true_eq, decide_eq_false_iff_not, bne_iff_ne, bne_eq_false_iff_eq, beq_iff_eq, beq_eq_false_iff_ne, ne_eq, Decidable.not_not] at *)); unfold ssS bsE; first | (simp_all; done) | ((repeat' split) <;> first | rfl | (simp_all; done))) | trace_state)
end Go.Proofs.YtkgdlimekkdekaaDoor
