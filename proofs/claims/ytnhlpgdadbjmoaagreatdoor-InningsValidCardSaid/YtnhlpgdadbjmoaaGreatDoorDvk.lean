/- Layer 9 (delivery): Credit of both, part by part; Check of a delivery by notation. -/
import Derived.Test.YtnhlpgdadbjmoaaGreatDoorVz
import Derived.KernelRfl
import Derived.Test.YtnhlpgdadbjmoaaGreatDoorProg
import Derived.Test.YtnhlpgdadbjmoaaGreatDoorDvb
import Derived.Test.YtnhlpgdadbjmoaaGreatDoorFdc
import Derived.Test.YtnhlpgdadbjmoaaGreatDoorFdf
set_option linter.unusedSimpArgs false
set_option linter.unusedVariables false
set_option maxRecDepth 100000
namespace Go.Proofs.YtnhlpgdadbjmoaaGreatDoor
open Go.RowKit


def gc0 (d : Dl) : Int := if lg d = 0 then (if d.s = 1 then crn d else 0) else 0
def gc1 (wd : Int) (d : Dl) : Int := if lg d = 0 then (if d.t = 2 then IntKind.i64.wrap (wd + crn d) else 0) else 0
def gc2 (nb : Int) (d : Dl) : Int := if lg d = 0 then (if d.t = 3 then nb else 0) else 0
def gc3 (d : Dl) : Int := if lg d = 0 then (if d.s = 2 then crn d else 0) else 0
def gc4 (d : Dl) : Int := if lg d = 0 then (if d.s = 3 then crn d else 0) else 0
def gc5 (wd nb : Int) (d : Dl) : Int := if lg d = 0 then crb wd nb d else 0
def gc6 (d : Dl) : Bool := if lg d = 0 then d.t == 1 else false
def gc7 (d : Dl) : Bool := if lg d = 0 then d.t != 2 else false
def gc8 (d : Dl) : Bool := if lg d = 0 then crd d.h else false
def gc9 (d : Dl) : Bool := if lg d = 0 then (d.r.tmod 2 == 1) != d.x else false
theorem gcV_eq (wd nb : Int) (d : Dl) : crV wd nb d = .agg #[.int .i64 (gc0 d), .int .i64 (gc1 wd d), .int .i64 (gc2 nb d), .int .i64 (gc3 d), .int .i64 (gc4 d), .int .i64 (gc5 wd nb d), .bool (gc6 d), .bool (gc7 d), .bool (gc8 d), .bool (gc9 d)] := by
  unfold crV gc0 gc1 gc2 gc3 gc4 gc5 gc6 gc7 gc8 gc9
  split <;> rfl
def dlV (d : Dl) : Value := .agg #[.int .u8 d.t, .int .u8 d.s, .int .i64 d.r, .int .i64 d.sh, .int .i64 d.b, .bool d.x, .int .u8 d.h, .int .i64 d.v, .int .i64 d.f, .int .i64 d.g, .bool d.u, .int .i64 d.z]
def cdV (r : Rul) (d : Dl) : Value := .agg #[.int .i64 (gc0 d), .int .i64 (gc1 r.q6 d), .int .i64 (gc2 r.q7 d), .int .i64 (gc3 d), .int .i64 (gc4 d), .int .i64 (gc5 r.q6 r.q7 d), .bool (gc6 d), .bool (gc7 d), .bool (gc8 d), .bool (gc9 d)]
/-- What a delivery makes of the check of its numbers. -/
def ntC (d : Dl) : Int := if d.t < 1 ∨ d.t > 3 ∨ d.s > 3 ∨ d.h > 10 then 3 else if (d.r < 0 ∨ d.r > 7) ∨ (d.sh < 0 ∨ d.sh > d.r) ∨ (d.b ≠ 0 ∧ d.b ≠ 4 ∧ d.b ≠ 6) ∨ (d.v < 0 ∨ d.v > 2) ∨ (d.f < 0 ∨ d.f > 11) ∨ (d.g < 0 ∨ d.g > 11) ∨ (d.z < 0 ∨ d.z > 8) then 2 else 0

theorem rb3 (a b c : Bool) : (bif a then b || c else c) = (a && b || c) := by cases a <;> cases b <;> cases c <;> rfl
def ntp_h (d : Dl) : Hint := Hint.nc (Hint.cut [((3 : Nat), .bool (decide (d.t < 1) || decide (d.t > 3)))] (Hint.ob 0 (Hint.split (Hint.lit (Hint.lit (Hint.lit Hint.nil))) (Hint.lit (Hint.ob 0 (Hint.lit (Hint.lit Hint.nil)))))) (Hint.cut [((3 : Nat), .bool (decide (d.t < 1) || decide (d.t > 3) || (decide (d.s > 3) || decide (d.h
 > 10))))] (Hint.split Hint.nil (Hint.ob 0 (Hint.cut [((3 : Nat), .bool (decide (d.s > 3) || decide (d.h > 10)))] (Hint.split Hint.nil (Hint.ob 0 Hint.nil)) Hint.nil))) (Hint.split (Hint.perm [] Hint.nil) (Hint.ob 0 (Hint.inl (Hint.nc (Hint.cut [((4 : Nat), .bool (decide (d.r ≥ 0) && decide (d.r ≤
 7)))] (Hint.split (Hint.lit (Hint.lit (Hint.lit Hint.nil))) (Hint.lit (Hint.lit (Hint.lit Hint.nil)))) (Hint.cut [((18 : Nat), .bool (!(decide (d.r ≥ 0) && decide (d.r ≤ 7)) || (!(decide (d.sh ≥ 0) && decide (d.sh ≤ d.r)) || d.b != 0 && (d.b != 4 && d.b != 6))))] (Hint.split Hint.nil (ho 0 2
 (Hint.inl (Hint.nc (Hint.cut [((4 : Nat), .bool (decide (d.sh ≥ 0) && decide (d.sh ≤ d.r)))] (Hint.split (Hint.lit (Hint.lit (Hint.lit Hint.nil))) (Hint.lit (Hint.lit (Hint.lit Hint.nil)))) (Hint.cut [((18 : Nat), .bool (!(decide (d.sh ≥ 0) && decide (d.sh ≤ d.r)) || d.b != 0 && (d.b != 4 && d.b !=
 6)))] (Hint.split Hint.nil (Hint.cut [((18 : Nat), .bool (d.b != 0 && (d.b != 4 && d.b != 6)))] (Hint.ob 0 (Hint.pl (Hint.split (Hint.lit (Hint.ob 0 (Hint.lit (Hint.pl (Hint.lit (Hint.split (Hint.lit (Hint.ob 0 (Hint.lit (Hint.pl (Hint.lit Hint.nil))))) (Hint.lit (Hint.lit (Hint.lit
 Hint.nil))))))))) (hl 6 (Hint.lit Hint.nil))))) Hint.nil)) Hint.nil)))))) (Hint.split (Hint.perm [] Hint.nil) (Hint.ob 0 (Hint.inl (Hint.nc (Hint.cut [((4 : Nat), .bool (decide (d.v ≥ 0) && decide (d.v ≤ 2)))] (Hint.split (Hint.lit (Hint.lit (Hint.lit Hint.nil))) (Hint.lit (Hint.lit (Hint.lit
 Hint.nil)))) (Hint.cut [((42 : Nat), .bool (!(decide (d.v ≥ 0) && decide (d.v ≤ 2)) || (!(decide (d.f ≥ 0) && decide (d.f ≤ 11)) || (!(decide (d.g ≥ 0) && decide (d.g ≤ 11)) || !(decide (d.z ≥ 0) && decide (d.z ≤ 8))))))] (Hint.split Hint.nil (Hint.ob 0 (Hint.inl (Hint.nc (Hint.cut [((4 : Nat),
 .bool (decide (d.f ≥ 0) && decide (d.f ≤ 11)))] (Hint.split (Hint.lit (Hint.lit (Hint.lit Hint.nil))) (Hint.lit (Hint.lit (Hint.lit Hint.nil)))) (Hint.cut [((42 : Nat), .bool (!(decide (d.f ≥ 0) && decide (d.f ≤ 11)) || (!(decide (d.g ≥ 0) && decide (d.g ≤ 11)) || !(decide (d.z ≥ 0) && decide (d.z ≤
 8)))))] (Hint.split Hint.nil (Hint.ob 0 (Hint.inl (Hint.nc (Hint.cut [((4 : Nat), .bool (decide (d.g ≥ 0) && decide (d.g ≤ 11)))] (Hint.split (Hint.lit (Hint.lit (Hint.lit Hint.nil))) (Hint.lit (Hint.lit (Hint.lit Hint.nil)))) (Hint.cut [((42 : Nat), .bool (!(decide (d.g ≥ 0) && decide (d.g ≤ 11))
 || !(decide (d.z ≥ 0) && decide (d.z ≤ 8))))] (Hint.split Hint.nil (Hint.ob 0 (Hint.inl (Hint.nc (Hint.cut [((4 : Nat), .bool (decide (d.z ≥ 0) && decide (d.z ≤ 8)))] (Hint.split (Hint.lit (Hint.lit (Hint.lit Hint.nil))) (Hint.lit (Hint.lit (Hint.lit Hint.nil)))) Hint.nil))))) Hint.nil))))))
 Hint.nil)))))) (Hint.split (Hint.perm [] Hint.nil) (Hint.perm [] Hint.nil))))))))))))))))
theorem ntp_x (d : Dl) : wpG Tryz.prog [] ([]) 400 120 [dlV d] (ntp_h d) ([]) (fun _ => .int .i64 (ntC d)) = (∀ (b : Nat), (b = b /\ (decide (d.t < 1) = true -> Value.bool true = Value.bool (decide (d.t < 1) || decide (d.t > 3)) /\ True) /\ (decide (d.t < 1) = false -> b = b /\ Value.bool (decide (d.t > 3)) = Value.bool (decide (d.t < 1) || decide (d.t > 3)) /\ True)) /\ ∀ (junk : Nat -> Value), (((decide
 (d.t < 1) || decide (d.t > 3)) = true -> Value.bool true = Value.bool (decide (d.t < 1) || decide (d.t > 3) || (decide (d.s > 3) || decide (d.h > 10))) /\ True) /\ ((decide (d.t < 1) || decide (d.t > 3)) = false -> b = b /\ ((decide (d.s > 3) = true -> Value.bool true = Value.bool (decide (d.s > 3)
 || decide (d.h > 10)) /\ True) /\ (decide (d.s > 3) = false -> b = b /\ Value.bool (decide (d.h > 10)) = Value.bool (decide (d.s > 3) || decide (d.h > 10)) /\ True)) /\ ∀ (junk : Nat -> Value), .bool (decide (d.s > 3) || decide (d.h > 10)) = Value.bool (decide (d.t < 1) || decide (d.t > 3) ||
 (decide (d.s > 3) || decide (d.h > 10))) /\ True)) /\ ∀ (junk : Nat -> Value), ((decide (d.t < 1) || decide (d.t > 3) || (decide (d.s > 3) || decide (d.h > 10))) = true -> Value.int .i64 3 = Value.int .i64 (ntC d)) /\ ((decide (d.t < 1) || decide (d.t > 3) || (decide (d.s > 3) || decide (d.h > 10)))
 = false -> b = b /\ ((decide (d.r ≥ 0) = true -> Value.bool (decide (d.r ≤ 7)) = Value.bool (decide (d.r ≥ 0) && decide (d.r ≤ 7)) /\ True) /\ (decide (d.r ≥ 0) = false -> Value.bool false = Value.bool (decide (d.r ≥ 0) && decide (d.r ≤ 7)) /\ True)) /\ ∀ (junk : Nat -> Value), (((!(decide (d.r ≥ 0)
 && decide (d.r ≤ 7))) = true -> Value.bool true = Value.bool (!(decide (d.r ≥ 0) && decide (d.r ≤ 7)) || (!(decide (d.sh ≥ 0) && decide (d.sh ≤ d.r)) || d.b != 0 && (d.b != 4 && d.b != 6))) /\ True) /\ ((!(decide (d.r ≥ 0) && decide (d.r ≤ 7))) = false -> b = b /\ b = b /\ ((decide (d.sh ≥ 0) = true
 -> Value.bool (decide (d.sh ≤ d.r)) = Value.bool (decide (d.sh ≥ 0) && decide (d.sh ≤ d.r)) /\ True) /\ (decide (d.sh ≥ 0) = false -> Value.bool false = Value.bool (decide (d.sh ≥ 0) && decide (d.sh ≤ d.r)) /\ True)) /\ ∀ (junk : Nat -> Value), (((!(decide (d.sh ≥ 0) && decide (d.sh ≤ d.r))) = true
 -> Value.bool true = Value.bool (!(decide (d.sh ≥ 0) && decide (d.sh ≤ d.r)) || d.b != 0 && (d.b != 4 && d.b != 6)) /\ True) /\ ((!(decide (d.sh ≥ 0) && decide (d.sh ≤ d.r))) = false -> (b = b /\ ((d.b != 0) = true -> b = b /\ ((d.b != 4) = true -> b = b /\ Value.bool (d.b != 6) = Value.bool (d.b !=
 0 && (d.b != 4 && d.b != 6)) /\ True) /\ ((d.b != 4) = false -> Value.bool false = Value.bool (d.b != 0 && (d.b != 4 && d.b != 6)) /\ True)) /\ ((d.b != 0) = false -> Value.bool false = Value.bool (d.b != 0 && (d.b != 4 && d.b != 6)) /\ True)) /\ ∀ (junk : Nat -> Value), .bool (d.b != 0 && (d.b != 4
 && d.b != 6)) = Value.bool (!(decide (d.sh ≥ 0) && decide (d.sh ≤ d.r)) || d.b != 0 && (d.b != 4 && d.b != 6)) /\ True)) /\ ∀ (junk : Nat -> Value), .bool (!(decide (d.sh ≥ 0) && decide (d.sh ≤ d.r)) || d.b != 0 && (d.b != 4 && d.b != 6)) = Value.bool (!(decide (d.r ≥ 0) && decide (d.r ≤ 7)) ||
 (!(decide (d.sh ≥ 0) && decide (d.sh ≤ d.r)) || d.b != 0 && (d.b != 4 && d.b != 6))) /\ True)) /\ ∀ (junk : Nat -> Value), ((!(decide (d.r ≥ 0) && decide (d.r ≤ 7)) || (!(decide (d.sh ≥ 0) && decide (d.sh ≤ d.r)) || d.b != 0 && (d.b != 4 && d.b != 6))) = true -> Value.int .i64 2 = Value.int .i64
 (ntC d)) /\ ((!(decide (d.r ≥ 0) && decide (d.r ≤ 7)) || (!(decide (d.sh ≥ 0) && decide (d.sh ≤ d.r)) || d.b != 0 && (d.b != 4 && d.b != 6))) = false -> b = b /\ ((decide (d.v ≥ 0) = true -> Value.bool (decide (d.v ≤ 2)) = Value.bool (decide (d.v ≥ 0) && decide (d.v ≤ 2)) /\ True) /\ (decide (d.v ≥
 0) = false -> Value.bool false = Value.bool (decide (d.v ≥ 0) && decide (d.v ≤ 2)) /\ True)) /\ ∀ (junk : Nat -> Value), (((!(decide (d.v ≥ 0) && decide (d.v ≤ 2))) = true -> Value.bool true = Value.bool (!(decide (d.v ≥ 0) && decide (d.v ≤ 2)) || (!(decide (d.f ≥ 0) && decide (d.f ≤ 11)) ||
 (!(decide (d.g ≥ 0) && decide (d.g ≤ 11)) || !(decide (d.z ≥ 0) && decide (d.z ≤ 8))))) /\ True) /\ ((!(decide (d.v ≥ 0) && decide (d.v ≤ 2))) = false -> b = b /\ ((decide (d.f ≥ 0) = true -> Value.bool (decide (d.f ≤ 11)) = Value.bool (decide (d.f ≥ 0) && decide (d.f ≤ 11)) /\ True) /\ (decide (d.f
 ≥ 0) = false -> Value.bool false = Value.bool (decide (d.f ≥ 0) && decide (d.f ≤ 11)) /\ True)) /\ ∀ (junk : Nat -> Value), (((!(decide (d.f ≥ 0) && decide (d.f ≤ 11))) = true -> Value.bool true = Value.bool (!(decide (d.f ≥ 0) && decide (d.f ≤ 11)) || (!(decide (d.g ≥ 0) && decide (d.g ≤ 11)) ||
 !(decide (d.z ≥ 0) && decide (d.z ≤ 8)))) /\ True) /\ ((!(decide (d.f ≥ 0) && decide (d.f ≤ 11))) = false -> b = b /\ ((decide (d.g ≥ 0) = true -> Value.bool (decide (d.g ≤ 11)) = Value.bool (decide (d.g ≥ 0) && decide (d.g ≤ 11)) /\ True) /\ (decide (d.g ≥ 0) = false -> Value.bool false =
 Value.bool (decide (d.g ≥ 0) && decide (d.g ≤ 11)) /\ True)) /\ ∀ (junk : Nat -> Value), (((!(decide (d.g ≥ 0) && decide (d.g ≤ 11))) = true -> Value.bool true = Value.bool (!(decide (d.g ≥ 0) && decide (d.g ≤ 11)) || !(decide (d.z ≥ 0) && decide (d.z ≤ 8))) /\ True) /\ ((!(decide (d.g ≥ 0) &&
 decide (d.g ≤ 11))) = false -> b = b /\ ((decide (d.z ≥ 0) = true -> Value.bool (decide (d.z ≤ 8)) = Value.bool (decide (d.z ≥ 0) && decide (d.z ≤ 8)) /\ True) /\ (decide (d.z ≥ 0) = false -> Value.bool false = Value.bool (decide (d.z ≥ 0) && decide (d.z ≤ 8)) /\ True)) /\ ∀ (junk : Nat -> Value),
 (Value.bool !(decide (d.z ≥ 0) && decide (d.z ≤ 8))) = Value.bool (!(decide (d.g ≥ 0) && decide (d.g ≤ 11)) || !(decide (d.z ≥ 0) && decide (d.z ≤ 8))) /\ True)) /\ ∀ (junk : Nat -> Value), .bool (!(decide (d.g ≥ 0) && decide (d.g ≤ 11)) || !(decide (d.z ≥ 0) && decide (d.z ≤ 8))) = Value.bool
 (!(decide (d.f ≥ 0) && decide (d.f ≤ 11)) || (!(decide (d.g ≥ 0) && decide (d.g ≤ 11)) || !(decide (d.z ≥ 0) && decide (d.z ≤ 8)))) /\ True)) /\ ∀ (junk : Nat -> Value), .bool (!(decide (d.f ≥ 0) && decide (d.f ≤ 11)) || (!(decide (d.g ≥ 0) && decide (d.g ≤ 11)) || !(decide (d.z ≥ 0) && decide (d.z
 ≤ 8)))) = Value.bool (!(decide (d.v ≥ 0) && decide (d.v ≤ 2)) || (!(decide (d.f ≥ 0) && decide (d.f ≤ 11)) || (!(decide (d.g ≥ 0) && decide (d.g ≤ 11)) || !(decide (d.z ≥ 0) && decide (d.z ≤ 8))))) /\ True)) /\ ∀ (junk : Nat -> Value), ((!(decide (d.v ≥ 0) && decide (d.v ≤ 2)) || (!(decide (d.f ≥ 0)
 && decide (d.f ≤ 11)) || (!(decide (d.g ≥ 0) && decide (d.g ≤ 11)) || !(decide (d.z ≥ 0) && decide (d.z ≤ 8))))) = true -> Value.int .i64 2 = Value.int .i64 (ntC d)) /\ ((!(decide (d.v ≥ 0) && decide (d.v ≤ 2)) || (!(decide (d.f ≥ 0) && decide (d.f ≤ 11)) || (!(decide (d.g ≥ 0) && decide (d.g ≤ 11))
 || !(decide (d.z ≥ 0) && decide (d.z ≤ 8))))) = false -> Value.int .i64 0 = Value.int .i64 (ntC d))))) := by kernel_rfl
set_option maxHeartbeats 4000000 in
theorem ntp_sp (d : Dl)  : SpecG Tryz.prog [] ([]) 120 #[dlV d] ([]) (fun _ => .int .i64 (ntC d)) := by
  refine specG_of (h := ntp_h d) (?_ : wpG Tryz.prog [] ([]) 400 120 [dlV d] (ntp_h d) ([]) (fun _ => .int .i64 (ntC d)))
  rw [ntp_x]
  (repeat' (first | with_reducible exact rfl | exact trivial | with_reducible assumption | exact cU_len _ | exact cI_len _ | exact cB_len _ | exact cU_one _ | exact cI_one _ | exact cB_one _ | exact (fun _ h => h) | exact (fun _ h => (List.not_mem_nil h).elim) | (with_reducible refine e1_in ?_) | (with_reducible refine e2_in ?_) | (with_reducible refine lx_in (Nat.le_of_ble_eq_true rfl) ?_) | (with_reducible refine rqx_rf ?_) | (with_reducible refine rqx_in ?_ ?_ ?_) | (with_reducible apply And.intro) | (with_reducible intro _)))
  all_goals (try simp only [rb3] at *)
  all_goals (first | (simp only [*, Bool.and_true, Bool.true_and, Bool.and_false, Bool.false_and, Bool.or_true, Bool.true_or, Bool.or_false, Bool.false_or, Bool.not_true, Bool.not_false, cond_true, cond_false]; done) | (refine val_int ?_; unfold ntC; simp only [Bool.and_eq_true, Bool.or_eq_true, Bool.and_eq_false_iff, Bool.or_eq_false_iff, Bool.not_eq_true', Bool.not_eq_false', decide_eq_true_eq, decide_eq_false_iff_not, bne_iff_ne, bne_eq_false_iff_eq, beq_iff_eq, beq_eq_false_iff_ne, ne_eq] at *; (repeat' split) <;> first | rfl | omega) | trace_state)
theorem gcr_sp (r : Rul) (B : RAd) (d : Dl) : SpecP Tryz.prog 30 #[ruV r B, dlV d] (cdV r d) := by
  have h := credit_sp r.nm r.q1 r.q2 r.q3 r.q4 r.q5 r.q6 r.q7 r.fh r.q8 r.q9 r.qa r.qo B.a r.pw.length B.c d.t d.s d.r d.sh d.b d.x d.h d.v d.f d.g d.u d.z
  rw [gcV_eq] at h
  exact h

end Go.Proofs.YtnhlpgdadbjmoaaGreatDoor
