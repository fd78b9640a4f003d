/- Contracts of layer 10 (dismissal): what a delivery may say of a dismissal, of the reference; its parts; the victim. -/
import Derived.Test.YtkgdlimekkdekaaDoorVz
import Derived.KernelRfl
import Derived.Test.YtkgdlimekkdekaaDoorProg
import Derived.Test.YtkgdlimekkdekaaDoorDmb
import Derived.Test.YtkgdlimekkdekaaDoorDmd
set_option linter.unusedSimpArgs false
set_option linter.unusedVariables false
set_option maxRecDepth 100000
namespace Go.Proofs.YtkgdlimekkdekaaDoor
open Go.RowKit


def ff (h f g : Int) : Bool := decide ((wd h = true → 1 ≤ f ∧ f ≤ 11) ∧ (wd h = false → f = 0) ∧ (g = 0 ∨ (h = 6 ∧ 1 ≤ g ∧ g ≤ 11 ∧ g ≠ f)))
def won (t : Int) (free : Bool) (h : Int) : Bool := decide (((t = 1 ∧ wa h = true) ∨ (t = 2 ∧ wb h = true) ∨ (t = 3 ∧ wc h = true)) ∧ (free = true → wc h = true))
def nob (v f g : Int) (u : Bool) : Int := if v ≠ 0 then 14 else if f ≠ 0 ∨ g ≠ 0 ∨ u = true then 15 else 0
/-- The law that refuses what a delivery says of a dismissal. -/
def psb (t s r h v f g : Int) (u free : Bool) : Int :=
  if h = 0 then nob v f g u
  else if won t free h = false then 13
  else if (h ≠ 6 ∧ h ≠ 8) ∧ (s ≠ 0 ∨ r ≠ 0) then 12
  else if v ≠ 1 ∧ (v ≠ 2 ∨ (h ≠ 6 ∧ h ≠ 8)) then 14
  else if ff h f g = false then 15
  else if u = true ∧ h ≠ 2 ∧ h ≠ 6 then 18
  else 0
def vic (h v st ot : Int) : Int := if h = 0 then 0 else if v = 1 then st else if v = 2 then ot else 0
theorem won_eq (t : Int) (free : Bool) (h : Int) : won t free h = (won t false h && (!free || wc h)) := by
  unfold won; cases free <;> simp
theorem ff_eq (h f g : Int) : ff h f g = (!(bif wd h then decide (f < 1) || (decide (f > 11) || !wd h && f != 0) else !wd h && f != 0) && !(g != 0 && (!h == 6 || (decide (g < 1) || (decide (g > 11) || g == f))))) := by
  rw [Bool.eq_iff_iff]
  unfold ff
  cases wd h <;> simp <;> omega

def isp_h (n : Int) : Hint := .nc (.cut [((2 : Nat), .bool (decide (n ≥ 1) && decide (n ≤ 11)))] (.split (.lit (.lit .nil)) (.lit (.lit .nil))) .nil)
theorem isp_x (n : Int) : wpF Tryd.prog [] 400 114 [.int .i64 n] (isp_h n) (fun rv _ => rv = .bool (decide (1 ≤ n ∧ n ≤ 11))) = (((decide (n ≥ 1) = true -> Value.bool (decide (n ≤ 11)) = Value.bool (decide (n ≥ 1) && decide (n ≤ 11)) /\ True) /\ (decide (n ≥ 1) = false -> Value.bool false = Value.bool (decide (n ≥ 1) && decide (n ≤ 11)) /\ True)) /\ ∀ (junk : Nat -> Value), .bool (decide (n ≥ 1) && decide (n ≤ 11)) =
 Value.bool (decide ((1 : Int) ≤ n /\ n ≤ 11))) := by kernel_rfl
set_option maxHeartbeats 4000000 in
theorem isp_sp (n : Int)  : SpecP Tryd.prog 114 #[.int .i64 n] (.bool (decide (1 ≤ n ∧ n ≤ 11))) := by
  intro w
  refine calls_val (h := isp_h n) (?_ : wpF Tryd.prog [] 400 114 [.int .i64 n] (isp_h n) (fun rv _ => rv = .bool (decide (1 ≤ n ∧ n ≤ 11))))
  rw [isp_x]
  (repeat' (first | with_reducible exact rfl | exact trivial | with_reducible assumption | (with_reducible refine e1_in ?_) | (with_reducible refine e2_in ?_) | (with_reducible refine lx_in (Nat.le_of_ble_eq_true rfl) ?_) | (with_reducible refine rqx_rf ?_) | (with_reducible refine rqx_in ?_ ?_ ?_) | (with_reducible apply And.intro) | (with_reducible intro _)))
  all_goals (first | (simp only [*, Bool.and_true, Bool.true_and, Bool.and_false, Bool.false_and, Bool.or_true, Bool.true_or, Bool.or_false, Bool.false_or, Bool.not_true, Bool.not_false, cond_true, cond_false]; done) | (refine bool_iff ?_; (try (simp only [decide_eq_true_eq, decide_eq_false_iff_not, beq_iff_eq, bne_iff_ne, beq_eq_false_iff_ne, bne_eq_false_iff_eq, Bool.not_eq_true', Bool.not_eq_false', ne_eq, Decidable.not_not, ge_iff_le, gt_iff_lt, Bool.false_eq_true, iff_false, Bool.true_eq_false, false_iff, iff_true, true_iff, Bool.and_eq_true, Bool.or_eq_true, Bool.not_eq_true, Bool.and_eq_false_iff, Bool.or_eq_false_iff] at *)) <;> (first | omega | (simp_all; done) | (simp_all <;> omega))))
def nobody_h (t s r sh b : Int) (x : Bool) (h v f g : Int) (u : Bool) (z : Int) : Hint := .ob 0 (.pl (.split .nil (.cut [((7 : Nat), .bool (f != 0 || (g != 0 || u)))] (.ob 0 (.pl (.split (hl 5 (.lit .nil)) (.lit (.ob 0 (.lit (.pl (.lit (.split (.lit (.lit .nil)) (.lit (.ob 0 (.lit .nil)))))))))))) (.split .nil .nil))))
theorem nobody_x (t s r sh b : Int) (x : Bool) (h v f g : Int) (u : Bool) (z : Int) : wpF Tryd.prog [] 400 100 [.agg #[.int .u8 t, .int .u8 s, .int .i64 r, .int .i64 sh, .int .i64 b, .bool x, .int .u8 h, .int .i64 v, .int .i64 f, .int .i64 g, .bool u, .int .i64 z]] (nobody_h t s r sh b x h v f g u z) (fun rv _ => rv = .int .i64 (nob v f g u)) = (∀ (b : Nat), b = b /\ ((v != 0) = true -> Value.int .i64 14 = Value.int .i64 (nob v f g u)) /\ ((v != 0) = false -> (b = b /\ ((f != 0) = true -> Value.bool true = Value.bool (f != 0 || (g != 0 || u)) /\ True) /\ ((f != 0) = false -> b = b /\ ((g != 0) = true -> Value.bool true = Value.bool (f != 0
 || (g != 0 || u)) /\ True) /\ ((g != 0) = false -> b = b /\ Value.bool u = Value.bool (f != 0 || (g != 0 || u)) /\ True))) /\ ∀ (junk : Nat -> Value), ((f != 0 || (g != 0 || u)) = true -> Value.int .i64 15 = Value.int .i64 (nob v f g u)) /\ ((f != 0 || (g != 0 || u)) = false -> Value.int .i64 0 =
 Value.int .i64 (nob v f g u)))) := by kernel_rfl
set_option maxHeartbeats 4000000 in
theorem nobody_sp (t s r sh b : Int) (x : Bool) (h v f g : Int) (u : Bool) (z : Int)  : SpecP Tryd.prog 100 #[.agg #[.int .u8 t, .int .u8 s, .int .i64 r, .int .i64 sh, .int .i64 b, .bool x, .int .u8 h, .int .i64 v, .int .i64 f, .int .i64 g, .bool u, .int .i64 z]] (.int .i64 (nob v f g u)) := by
  intro w
  refine calls_val (h := nobody_h t s r sh b x h v f g u z) (?_ : wpF Tryd.prog [] 400 100 [.agg #[.int .u8 t, .int .u8 s, .int .i64 r, .int .i64 sh, .int .i64 b, .bool x, .int .u8 h, .int .i64 v, .int .i64 f, .int .i64 g, .bool u, .int .i64 z]] (nobody_h t s r sh b x h v f g u z) (fun rv _ => rv = .int .i64 (nob v f g u)))
  rw [nobody_x]
  (repeat' (first | with_reducible exact rfl | exact trivial | with_reducible assumption | (with_reducible refine e1_in ?_) | (with_reducible refine e2_in ?_) | (with_reducible refine lx_in (Nat.le_of_ble_eq_true rfl) ?_) | (with_reducible refine rqx_rf ?_) | (with_reducible refine rqx_in ?_ ?_ ?_) | (with_reducible apply And.intro) | (with_reducible intro _)))
  all_goals (first | (simp only [*, Bool.and_true, Bool.true_and, Bool.and_false, Bool.false_and, Bool.or_true, Bool.true_or, Bool.or_false, Bool.false_or, Bool.not_true, Bool.not_false, cond_true, cond_false]; done) | (refine val_int ?_; unfold nob; cases u <;> simp_all))
def fit_h (t s r sh b : Int) (x : Bool) (h v f g : Int) (u : Bool) (z : Int) : Hint := .ob 0 (.spece (Value.tuple #[Value.bool (wd h), .bool (wd h), .bool (h == 6)]) (.cut [((28 : Nat), .bool (bif wd h then !decide ((1 : Int) ≤ f /\ f ≤ 11) || !wd h && f != 0 else !wd h && f != 0))] (.split (.lit (.ob 0 (.lit (.spec (Value.bool (decide ((1 : Int) ≤ f /\ f ≤ 11))) (.lit (.lit (.split
 (hl 3 (.lit .nil)) (.lit (.lit (.split (.lit (.ob 0 (.lit (.pl (.lit (.lit (.lit .nil))))))) (hl 4 (.lit .nil)))))))))))) (hl 7 (.split (.lit (.ob 0 (.lit (.pl (.lit (.lit (.lit .nil))))))) (hl 4 (.lit .nil))))) (.split .nil (.cut [((2 : Nat), .bool (g == 0 || h == 6 && (decide ((1 : Int) ≤ g /\ g ≤
 11) && g != f)))] (.ob 0 (.pl (.split (hl 4 (.lit .nil)) (.lit (.split (.lit (.ob 0 (.lit (.spec (Value.bool (decide ((1 : Int) ≤ g /\ g ≤ 11))) (hl 3 (.split (.lit (.ob 0 (.lit (.lit (.ob 0 (.lit (.pl (.lit (.lit (.lit .nil)))))))))) (hl 6 (.lit .nil)))))))) (hl 12 (.lit .nil))))))) .nil))))
theorem fit_x (t s r sh b : Int) (x : Bool) (h v f g : Int) (u : Bool) (z : Int) : wpF Tryd.prog wE 400 103 [.agg #[.int .u8 t, .int .u8 s, .int .i64 r, .int .i64 sh, .int .i64 b, .bool x, .int .u8 h, .int .i64 v, .int .i64 f, .int .i64 g, .bool u, .int .i64 z]] (fit_h t s r sh b x h v f g u z) (fun rv _ => rv = .bool (ff h f g)) = (∀ (b : Nat), b = b /\ SpecQ Tryd.prog wE 113 (Array.mk [.int .u8 h]) (Value.tuple #[Value.bool (wd h), .bool (wd h), .bool (h == 6)]) /\ ((wd h = true -> b = b /\ SpecP Tryd.prog 114 (Array.mk [.int .i64 f]) (Value.bool (decide ((1 : Int) ≤ f
 /\ f ≤ 11))) /\ ((!decide ((1 : Int) ≤ f /\ f ≤ 11)) = true -> Value.bool true = Value.bool (bif wd h then !decide ((1 : Int) ≤ f /\ f ≤ 11) || !wd h && f != 0 else !wd h && f != 0) /\ True) /\ ((!decide ((1 : Int) ≤ f /\ f ≤ 11)) = false -> ((!wd h) = true -> b = b /\ Value.bool (f != 0) =
 Value.bool (bif wd h then !decide ((1 : Int) ≤ f /\ f ≤ 11) || !wd h && f != 0 else !wd h && f != 0) /\ True) /\ ((!wd h) = false -> Value.bool false = Value.bool (bif wd h then !decide ((1 : Int) ≤ f /\ f ≤ 11) || !wd h && f != 0 else !wd h && f != 0) /\ True))) /\ (wd h = false -> ((!wd h) = true
 -> b = b /\ Value.bool (f != 0) = Value.bool (bif wd h then !decide ((1 : Int) ≤ f /\ f ≤ 11) || !wd h && f != 0 else !wd h && f != 0) /\ True) /\ ((!wd h) = false -> Value.bool false = Value.bool (bif wd h then !decide ((1 : Int) ≤ f /\ f ≤ 11) || !wd h && f != 0 else !wd h && f != 0) /\ True))) /\
 ∀ (junk : Nat -> Value), ((bif wd h then !decide ((1 : Int) ≤ f /\ f ≤ 11) || !wd h && f != 0 else !wd h && f != 0) = true -> Value.bool false = Value.bool (ff h f g)) /\ ((bif wd h then !decide ((1 : Int) ≤ f /\ f ≤ 11) || !wd h && f != 0 else !wd h && f != 0) = false -> (b = b /\ ((g == 0) = true
 -> Value.bool true = Value.bool (g == 0 || h == 6 && (decide ((1 : Int) ≤ g /\ g ≤ 11) && g != f)) /\ True) /\ ((g == 0) = false -> ((h == 6) = true -> b = b /\ SpecP Tryd.prog 114 (Array.mk [.int .i64 g]) (Value.bool (decide ((1 : Int) ≤ g /\ g ≤ 11))) /\ (decide ((1 :
 Int) ≤ g /\ g ≤ 11) = true -> b = b /\ b = b /\ Value.bool (g != f) = Value.bool (g == 0 || h == 6 && (decide ((1 : Int) ≤ g /\ g ≤ 11) && g != f)) /\ True) /\ (decide ((1 : Int) ≤ g /\ g ≤ 11) = false -> Value.bool false = Value.bool (g == 0 || h == 6 && (decide ((1 : Int) ≤ g /\ g ≤ 11) && g !=
 f)) /\ True)) /\ ((h == 6) = false -> Value.bool false = Value.bool (g == 0 || h == 6 && (decide ((1 : Int) ≤ g /\ g ≤ 11) && g != f)) /\ True))) /\ ∀ (junk : Nat -> Value), .bool (g == 0 || h == 6 && (decide ((1 : Int) ≤ g /\ g ≤ 11) && g != f)) = Value.bool (ff h f g))) := by kernel_rfl
set_option maxHeartbeats 4000000 in
theorem fit_sp (t s r sh b : Int) (x : Bool) (h v f g : Int) (u : Bool) (z : Int) (hh : 0 ≤ h ∧ h ≤ 255) : SpecQ Tryd.prog wE 103 #[.agg #[.int .u8 t, .int .u8 s, .int .i64 r, .int .i64 sh, .int .i64 b, .bool x, .int .u8 h, .int .i64 v, .int .i64 f, .int .i64 g, .bool u, .int .i64 z]] (.bool (ff h f g)) := by
  intro w hE
  refine calls_valE hE (h := fit_h t s r sh b x h v f g u z) (?_ : wpF Tryd.prog wE 400 103 [.agg #[.int .u8 t, .int .u8 s, .int .i64 r, .int .i64 sh, .int .i64 b, .bool x, .int .u8 h, .int .i64 v, .int .i64 f, .int .i64 g, .bool u, .int .i64 z]] (fit_h t s r sh b x h v f g u z) (fun rv _ => rv = .bool (ff h f g)))
  rw [fit_x]
  (repeat' (first | with_reducible exact rfl | exact trivial | with_reducible assumption | exact wayOf_sp _ hh | exact rname_sp _ hh | exact pfie_sp _ hh | exact pnam_sp _ hh | exact isp_sp _ | (with_reducible refine e1_in ?_) | (with_reducible refine e2_in ?_) | (with_reducible refine lx_in (Nat.le_of_ble_eq_true rfl) ?_) | (with_reducible refine rqx_rf ?_) | (with_reducible refine rqx_in ?_ ?_ ?_) | (with_reducible apply And.intro) | (with_reducible intro _)))
  all_goals (first | (simp only [*, Bool.and_true, Bool.true_and, Bool.and_false, Bool.false_and, Bool.or_true, Bool.true_or, Bool.or_false, Bool.false_or, Bool.not_true, Bool.not_false, cond_true, cond_false]; done) | skip)
  all_goals (refine bool_iff ?_; (try unfold ff); cases hd : wd h <;> simp only [hd] at * <;> ((try simp only [Bool.cond_eq_ite]); (repeat split)) <;> (try (simp only [decide_eq_true_eq, decide_eq_false_iff_not, beq_iff_eq, bne_iff_ne, beq_eq_false_iff_ne, bne_eq_false_iff_eq, Bool.not_eq_true', Bool.not_eq_false', ne_eq, Decidable.not_not, ge_iff_le, gt_iff_lt, Bool.false_eq_true, iff_false, Bool.true_eq_false, false_iff, iff_true, true_iff, Bool.and_eq_true, Bool.or_eq_true, Bool.not_eq_true, Bool.and_eq_false_iff, Bool.or_eq_false_iff] at *)) <;> (first | omega | (simp_all; done) | (simp_all <;> omega) | (split <;> (try (simp only [decide_eq_true_eq, decide_eq_false_iff_not, beq_iff_eq, bne_iff_ne, beq_eq_false_iff_ne, bne_eq_false_iff_eq, Bool.not_eq_true', Bool.not_eq_false', ne_eq, Decidable.not_not, ge_iff_le, gt_iff_lt, Bool.false_eq_true, iff_false, Bool.true_eq_false, false_iff, iff_true, true_iff, Bool.and_eq_true, Bool.or_eq_true, Bool.not_eq_true, Bool.and_eq_false_iff, Bool.or_eq_false_iff] at *)) <;> (first | omega | (simp_all; done) | (simp_all <;> omega)))))
end Go.Proofs.YtkgdlimekkdekaaDoor
