/- Contracts of layer 10 (dismissal): a way's row, Fielders, Name of both. -/
import Derived.Test.YtkgdlimekkdekaaDoorVz
import Derived.KernelRfl
import Derived.Test.YtkgdlimekkdekaaDoorProg
import Derived.Test.YtkgdlimekkdekaaDoorDma
import Derived.Test.YtkgdlimekkdekaaDoorDvb
set_option linter.unusedSimpArgs false
set_option linter.unusedVariables false
set_option maxRecDepth 100000
namespace Go.Proofs.YtkgdlimekkdekaaDoor
open Go.RowKit


def wn (h : Int) : ByteArray := if h = 0 then ⟨#[78, 79, 84, 79, 85, 84]⟩ else if h = 1 then ⟨#[66, 79, 87, 76, 69, 68]⟩ else if h = 2 then ⟨#[67, 65, 85, 71, 72, 84]⟩ else if h = 3 then ⟨#[76, 66, 87]⟩ else if h = 4 then ⟨#[83, 84, 85, 77, 80, 69, 68]⟩ else if h = 5 then ⟨#[72, 73, 84, 87, 73, 67, 75, 69, 84]⟩ else if h = 6 then ⟨#[82, 85, 78, 79, 85, 84]⟩ else if h = 7 then ⟨#[72, 73, 84, 84, 87, 73, 67, 69]⟩ else if h = 8 then ⟨#[79, 66, 83, 84, 82, 85, 67, 84, 73, 78, 71]⟩ else if h = 9 then ⟨#[84, 73, 77, 69, 68, 79, 85, 84]⟩ else if h = 10 then ⟨#[82, 69, 84, 73, 82, 69, 68]⟩ else ⟨#[]⟩
def wa (h : Int) : Bool := decide (h = 1 ∨ h = 2 ∨ h = 3 ∨ h = 4 ∨ h = 5 ∨ h = 6 ∨ h = 7 ∨ h = 8)
def wb (h : Int) : Bool := decide (h = 4 ∨ h = 5 ∨ h = 6 ∨ h = 8)
def wc (h : Int) : Bool := decide (h = 6 ∨ h = 7 ∨ h = 8)
def wd (h : Int) : Bool := decide (h = 2 ∨ h = 4 ∨ h = 6)

def wo_0_h  : Hint := .pl (.lit (.pl (.ex (0 : Nat) (Value.string (ByteArray.mk (Array.mk [(78 : UInt8), (79 : UInt8), (84 : UInt8), (79 : UInt8), (85 : UInt8), (84 : UInt8)]))) (.ex (0 : Nat) (Value.bool false) (.ex (0 : Nat) (Value.bool false) (.ex (0 : Nat) (Value.bool false) (.ex (0 : Nat) (Value.bool false) (ho 0 9
 (.ob 0 .nil)))))))))
theorem wo_0_x  : wpF Tryd.prog wE 400 120 [.int .u8 0] (wo_0_h ) (fun rv _ => rv = .agg #[.string ⟨#[78, 79, 84, 79, 85, 84]⟩, .bool false, .bool false, .bool false, .bool false]) = (∀ (b : Nat), (4 : Nat) = (4 : Nat) /\ lgo wC (0 : Nat) = some (Value.string (ByteArray.mk (Array.mk [(78 : UInt8), (79 : UInt8), (84 : UInt8), (79 : UInt8), (85 : UInt8), (84 : UInt8)]))) /\ (4 : Nat) = (4 : Nat) /\ lgo wC (1 : Nat) = some (Value.bool false) /\ (4 : Nat) = (4 : Nat) /\ lgo wC (2 :
 Nat) = some (Value.bool false) /\ (4 : Nat) = (4 : Nat) /\ lgo wC (3 : Nat) = some (Value.bool false) /\ (4 : Nat) = (4 : Nat) /\ lgo wC (4 : Nat) = some (Value.bool false) /\ e2 b 5 (e1 b 5 (Value.agg (Array.mk [.string (ByteArray.mk (Array.mk [(78 : UInt8), (79 : UInt8), (84 : UInt8), (79 :
 UInt8), (85 : UInt8), (84 : UInt8)])), .bool false, .bool false, .bool false, .bool false]) = Value.agg (Array.mk [.string (ByteArray.mk (Array.mk [(78 : UInt8), (79 : UInt8), (84 : UInt8), (79 : UInt8), (85 : UInt8), (84 : UInt8)])), .bool false, .bool false, .bool false, .bool false])))) := by kernel_rfl
set_option maxHeartbeats 4000000 in
theorem wo_0_sp   : SpecQ Tryd.prog wE 120 #[.int .u8 0] (.agg #[.string ⟨#[78, 79, 84, 79, 85, 84]⟩, .bool false, .bool false, .bool false, .bool false]) := by
  intro w hE
  refine calls_valE hE (h := wo_0_h ) (?_ : wpF Tryd.prog wE 400 120 [.int .u8 0] (wo_0_h ) (fun rv _ => rv = .agg #[.string ⟨#[78, 79, 84, 79, 85, 84]⟩, .bool false, .bool false, .bool false, .bool false]))
  rw [wo_0_x]
  (repeat' (first | with_reducible exact rfl | exact trivial | with_reducible assumption | (with_reducible refine e1_in ?_) | (with_reducible refine e2_in ?_) | (with_reducible refine lx_in (Nat.le_of_ble_eq_true rfl) ?_) | (with_reducible refine rqx_rf ?_) | (with_reducible refine rqx_in ?_ ?_ ?_) | (with_reducible apply And.intro) | (with_reducible intro _)))
  all_goals (first | omega | rfl)
def wo_1_h  : Hint := .pl (.lit (.pl (.ex (0 : Nat) (Value.string (ByteArray.mk (Array.mk [(66 : UInt8), (79 : UInt8), (87 : UInt8), (76 : UInt8), (69 : UInt8), (68 : UInt8)]))) (.ex (0 : Nat) (Value.bool true) (.ex (0 : Nat) (Value.bool false) (.ex (0 : Nat) (Value.bool false) (.ex (0 : Nat) (Value.bool false) (ho 0 9
 (.ob 0 .nil)))))))))
theorem wo_1_x  : wpF Tryd.prog wE 400 120 [.int .u8 1] (wo_1_h ) (fun rv _ => rv = .agg #[.string ⟨#[66, 79, 87, 76, 69, 68]⟩, .bool true, .bool false, .bool false, .bool false]) = (∀ (b : Nat), (4 : Nat) = (4 : Nat) /\ lgo wC (5 : Nat) = some (Value.string (ByteArray.mk (Array.mk [(66 : UInt8), (79 : UInt8), (87 : UInt8), (76 : UInt8), (69 : UInt8), (68 : UInt8)]))) /\ (4 : Nat) = (4 : Nat) /\ lgo wC (6 : Nat) = some (Value.bool true) /\ (4 : Nat) = (4 : Nat) /\ lgo wC (7 :
 Nat) = some (Value.bool false) /\ (4 : Nat) = (4 : Nat) /\ lgo wC (8 : Nat) = some (Value.bool false) /\ (4 : Nat) = (4 : Nat) /\ lgo wC (9 : Nat) = some (Value.bool false) /\ e2 b 5 (e1 b 5 (Value.agg (Array.mk [.string (ByteArray.mk (Array.mk [(66 : UInt8), (79 : UInt8), (87 : UInt8), (76 :
 UInt8), (69 : UInt8), (68 : UInt8)])), .bool true, .bool false, .bool false, .bool false]) = Value.agg (Array.mk [.string (ByteArray.mk (Array.mk [(66 : UInt8), (79 : UInt8), (87 : UInt8), (76 : UInt8), (69 : UInt8), (68 : UInt8)])), .bool true, .bool false, .bool false, .bool false])))) := by kernel_rfl
set_option maxHeartbeats 4000000 in
theorem wo_1_sp   : SpecQ Tryd.prog wE 120 #[.int .u8 1] (.agg #[.string ⟨#[66, 79, 87, 76, 69, 68]⟩, .bool true, .bool false, .bool false, .bool false]) := by
  intro w hE
  refine calls_valE hE (h := wo_1_h ) (?_ : wpF Tryd.prog wE 400 120 [.int .u8 1] (wo_1_h ) (fun rv _ => rv = .agg #[.string ⟨#[66, 79, 87, 76, 69, 68]⟩, .bool true, .bool false, .bool false, .bool false]))
  rw [wo_1_x]
  (repeat' (first | with_reducible exact rfl | exact trivial | with_reducible assumption | (with_reducible refine e1_in ?_) | (with_reducible refine e2_in ?_) | (with_reducible refine lx_in (Nat.le_of_ble_eq_true rfl) ?_) | (with_reducible refine rqx_rf ?_) | (with_reducible refine rqx_in ?_ ?_ ?_) | (with_reducible apply And.intro) | (with_reducible intro _)))
  all_goals (first | omega | rfl)
def wo_2_h  : Hint := .pl (.lit (.pl (.ex (0 : Nat) (Value.string (ByteArray.mk (Array.mk [(67 : UInt8), (65 : UInt8), (85 : UInt8), (71 : UInt8), (72 : UInt8), (84 : UInt8)]))) (.ex (0 : Nat) (Value.bool true) (.ex (0 : Nat) (Value.bool false) (.ex (0 : Nat) (Value.bool false) (.ex (0 : Nat) (Value.bool true) (ho 0 9
 (.ob 0 .nil)))))))))
theorem wo_2_x  : wpF Tryd.prog wE 400 120 [.int .u8 2] (wo_2_h ) (fun rv _ => rv = .agg #[.string ⟨#[67, 65, 85, 71, 72, 84]⟩, .bool true, .bool false, .bool false, .bool true]) = (∀ (b : Nat), (4 : Nat) = (4 : Nat) /\ lgo wC (10 : Nat) = some (Value.string (ByteArray.mk (Array.mk [(67 : UInt8), (65 : UInt8), (85 : UInt8), (71 : UInt8), (72 : UInt8), (84 : UInt8)]))) /\ (4 : Nat) = (4 : Nat) /\ lgo wC (11 : Nat) = some (Value.bool true) /\ (4 : Nat) = (4 : Nat) /\ lgo wC (12 :
 Nat) = some (Value.bool false) /\ (4 : Nat) = (4 : Nat) /\ lgo wC (13 : Nat) = some (Value.bool false) /\ (4 : Nat) = (4 : Nat) /\ lgo wC (14 : Nat) = some (Value.bool true) /\ e2 b 5 (e1 b 5 (Value.agg (Array.mk [.string (ByteArray.mk (Array.mk [(67 : UInt8), (65 : UInt8), (85 : UInt8), (71 :
 UInt8), (72 : UInt8), (84 : UInt8)])), .bool true, .bool false, .bool false, .bool true]) = Value.agg (Array.mk [.string (ByteArray.mk (Array.mk [(67 : UInt8), (65 : UInt8), (85 : UInt8), (71 : UInt8), (72 : UInt8), (84 : UInt8)])), .bool true, .bool false, .bool false, .bool true])))) := by kernel_rfl
set_option maxHeartbeats 4000000 in
theorem wo_2_sp   : SpecQ Tryd.prog wE 120 #[.int .u8 2] (.agg #[.string ⟨#[67, 65, 85, 71, 72, 84]⟩, .bool true, .bool false, .bool false, .bool true]) := by
  intro w hE
  refine calls_valE hE (h := wo_2_h ) (?_ : wpF Tryd.prog wE 400 120 [.int .u8 2] (wo_2_h ) (fun rv _ => rv = .agg #[.string ⟨#[67, 65, 85, 71, 72, 84]⟩, .bool true, .bool false, .bool false, .bool true]))
  rw [wo_2_x]
  (repeat' (first | with_reducible exact rfl | exact trivial | with_reducible assumption | (with_reducible refine e1_in ?_) | (with_reducible refine e2_in ?_) | (with_reducible refine lx_in (Nat.le_of_ble_eq_true rfl) ?_) | (with_reducible refine rqx_rf ?_) | (with_reducible refine rqx_in ?_ ?_ ?_) | (with_reducible apply And.intro) | (with_reducible intro _)))
  all_goals (first | omega | rfl)
def wo_3_h  : Hint := .pl (.lit (.pl (.ex (0 : Nat) (Value.string (ByteArray.mk (Array.mk [(76 : UInt8), (66 : UInt8), (87 : UInt8)]))) (.ex (0 : Nat) (Value.bool true) (.ex (0 : Nat) (Value.bool false) (.ex (0 : Nat) (Value.bool false) (.ex (0 : Nat) (Value.bool false) (ho 0 9 (.ob 0 .nil)))))))))
theorem wo_3_x  : wpF Tryd.prog wE 400 120 [.int .u8 3] (wo_3_h ) (fun rv _ => rv = .agg #[.string ⟨#[76, 66, 87]⟩, .bool true, .bool false, .bool false, .bool false]) = (∀ (b : Nat), (4 : Nat) = (4 : Nat) /\ lgo wC (15 : Nat) = some (Value.string (ByteArray.mk (Array.mk [(76 : UInt8), (66 : UInt8), (87 : UInt8)]))) /\ (4 : Nat) = (4 : Nat) /\ lgo wC (16 : Nat) = some (Value.bool true) /\ (4 : Nat) = (4 : Nat) /\ lgo wC (17 : Nat) = some (Value.bool false) /\ (4 :
 Nat) = (4 : Nat) /\ lgo wC (18 : Nat) = some (Value.bool false) /\ (4 : Nat) = (4 : Nat) /\ lgo wC (19 : Nat) = some (Value.bool false) /\ e2 b 5 (e1 b 5 (Value.agg (Array.mk [.string (ByteArray.mk (Array.mk [(76 : UInt8), (66 : UInt8), (87 : UInt8)])), .bool true, .bool false, .bool false, .bool
 false]) = Value.agg (Array.mk [.string (ByteArray.mk (Array.mk [(76 : UInt8), (66 : UInt8), (87 : UInt8)])), .bool true, .bool false, .bool false, .bool false])))) := by kernel_rfl
set_option maxHeartbeats 4000000 in
theorem wo_3_sp   : SpecQ Tryd.prog wE 120 #[.int .u8 3] (.agg #[.string ⟨#[76, 66, 87]⟩, .bool true, .bool false, .bool false, .bool false]) := by
  intro w hE
  refine calls_valE hE (h := wo_3_h ) (?_ : wpF Tryd.prog wE 400 120 [.int .u8 3] (wo_3_h ) (fun rv _ => rv = .agg #[.string ⟨#[76, 66, 87]⟩, .bool true, .bool false, .bool false, .bool false]))
  rw [wo_3_x]
  (repeat' (first | with_reducible exact rfl | exact trivial | with_reducible assumption | (with_reducible refine e1_in ?_) | (with_reducible refine e2_in ?_) | (with_reducible refine lx_in (Nat.le_of_ble_eq_true rfl) ?_) | (with_reducible refine rqx_rf ?_) | (with_reducible refine rqx_in ?_ ?_ ?_) | (with_reducible apply And.intro) | (with_reducible intro _)))
  all_goals (first | omega | rfl)
def wo_4_h  : Hint := .pl (.lit (.pl (.ex (0 : Nat) (Value.string (ByteArray.mk (Array.mk [(83 : UInt8), (84 : UInt8), (85 : UInt8), (77 : UInt8), (80 : UInt8), (69 : UInt8), (68 : UInt8)]))) (.ex (0 : Nat) (Value.bool true) (.ex (0 : Nat) (Value.bool true) (.ex (0 : Nat) (Value.bool false) (.ex (0 : Nat) (Value.bool
 true) (ho 0 9 (.ob 0 .nil)))))))))
theorem wo_4_x  : wpF Tryd.prog wE 400 120 [.int .u8 4] (wo_4_h ) (fun rv _ => rv = .agg #[.string ⟨#[83, 84, 85, 77, 80, 69, 68]⟩, .bool true, .bool true, .bool false, .bool true]) = (∀ (b : Nat), (4 : Nat) = (4 : Nat) /\ lgo wC (20 : Nat) = some (Value.string (ByteArray.mk (Array.mk [(83 : UInt8), (84 : UInt8), (85 : UInt8), (77 : UInt8), (80 : UInt8), (69 : UInt8), (68 : UInt8)]))) /\ (4 : Nat) = (4 : Nat) /\ lgo wC (21 : Nat) = some (Value.bool true) /\ (4 : Nat) = (4 : Nat) /\
 lgo wC (22 : Nat) = some (Value.bool true) /\ (4 : Nat) = (4 : Nat) /\ lgo wC (23 : Nat) = some (Value.bool false) /\ (4 : Nat) = (4 : Nat) /\ lgo wC (24 : Nat) = some (Value.bool true) /\ e2 b 5 (e1 b 5 (Value.agg (Array.mk [.string (ByteArray.mk (Array.mk [(83 : UInt8), (84 : UInt8), (85 : UInt8),
 (77 : UInt8), (80 : UInt8), (69 : UInt8), (68 : UInt8)])), .bool true, .bool true, .bool false, .bool true]) = Value.agg (Array.mk [.string (ByteArray.mk (Array.mk [(83 : UInt8), (84 : UInt8), (85 : UInt8), (77 : UInt8), (80 : UInt8), (69 : UInt8), (68 : UInt8)])), .bool true, .bool true, .bool
 false, .bool true])))) := by kernel_rfl
set_option maxHeartbeats 4000000 in
theorem wo_4_sp   : SpecQ Tryd.prog wE 120 #[.int .u8 4] (.agg #[.string ⟨#[83, 84, 85, 77, 80, 69, 68]⟩, .bool true, .bool true, .bool false, .bool true]) := by
  intro w hE
  refine calls_valE hE (h := wo_4_h ) (?_ : wpF Tryd.prog wE 400 120 [.int .u8 4] (wo_4_h ) (fun rv _ => rv = .agg #[.string ⟨#[83, 84, 85, 77, 80, 69, 68]⟩, .bool true, .bool true, .bool false, .bool true]))
  rw [wo_4_x]
  (repeat' (first | with_reducible exact rfl | exact trivial | with_reducible assumption | (with_reducible refine e1_in ?_) | (with_reducible refine e2_in ?_) | (with_reducible refine lx_in (Nat.le_of_ble_eq_true rfl) ?_) | (with_reducible refine rqx_rf ?_) | (with_reducible refine rqx_in ?_ ?_ ?_) | (with_reducible apply And.intro) | (with_reducible intro _)))
  all_goals (first | omega | rfl)
def wo_5_h  : Hint := .pl (.lit (.pl (.ex (0 : Nat) (Value.string (ByteArray.mk (Array.mk [(72 : UInt8), (73 : UInt8), (84 : UInt8), (87 : UInt8), (73 : UInt8), (67 : UInt8), (75 : UInt8), (69 : UInt8), (84 : UInt8)]))) (.ex (0 : Nat) (Value.bool true) (.ex (0 : Nat) (Value.bool true) (.ex (0 : Nat) (Value.bool false)
 (.ex (0 : Nat) (Value.bool false) (ho 0 9 (.ob 0 .nil)))))))))
theorem wo_5_x  : wpF Tryd.prog wE 400 120 [.int .u8 5] (wo_5_h ) (fun rv _ => rv = .agg #[.string ⟨#[72, 73, 84, 87, 73, 67, 75, 69, 84]⟩, .bool true, .bool true, .bool false, .bool false]) = (∀ (b : Nat), (4 : Nat) = (4 : Nat) /\ lgo wC (25 : Nat) = some (Value.string (ByteArray.mk (Array.mk [(72 : UInt8), (73 : UInt8), (84 : UInt8), (87 : UInt8), (73 : UInt8), (67 : UInt8), (75 : UInt8), (69 : UInt8), (84 : UInt8)]))) /\ (4 : Nat) = (4 : Nat) /\ lgo wC (26 : Nat) = some (Value.bool true)
 /\ (4 : Nat) = (4 : Nat) /\ lgo wC (27 : Nat) = some (Value.bool true) /\ (4 : Nat) = (4 : Nat) /\ lgo wC (28 : Nat) = some (Value.bool false) /\ (4 : Nat) = (4 : Nat) /\ lgo wC (29 : Nat) = some (Value.bool false) /\ e2 b 5 (e1 b 5 (Value.agg (Array.mk [.string (ByteArray.mk (Array.mk [(72 :
 UInt8), (73 : UInt8), (84 : UInt8), (87 : UInt8), (73 : UInt8), (67 : UInt8), (75 : UInt8), (69 : UInt8), (84 : UInt8)])), .bool true, .bool true, .bool false, .bool false]) = Value.agg (Array.mk [.string (ByteArray.mk (Array.mk [(72 : UInt8), (73 : UInt8), (84 : UInt8), (87 : UInt8), (73 : UInt8),
 (67 : UInt8), (75 : UInt8), (69 : UInt8), (84 : UInt8)])), .bool true, .bool true, .bool false, .bool false])))) := by kernel_rfl
set_option maxHeartbeats 4000000 in
theorem wo_5_sp   : SpecQ Tryd.prog wE 120 #[.int .u8 5] (.agg #[.string ⟨#[72, 73, 84, 87, 73, 67, 75, 69, 84]⟩, .bool true, .bool true, .bool false, .bool false]) := by
  intro w hE
  refine calls_valE hE (h := wo_5_h ) (?_ : wpF Tryd.prog wE 400 120 [.int .u8 5] (wo_5_h ) (fun rv _ => rv = .agg #[.string ⟨#[72, 73, 84, 87, 73, 67, 75, 69, 84]⟩, .bool true, .bool true, .bool false, .bool false]))
  rw [wo_5_x]
  (repeat' (first | with_reducible exact rfl | exact trivial | with_reducible assumption | (with_reducible refine e1_in ?_) | (with_reducible refine e2_in ?_) | (with_reducible refine lx_in (Nat.le_of_ble_eq_true rfl) ?_) | (with_reducible refine rqx_rf ?_) | (with_reducible refine rqx_in ?_ ?_ ?_) | (with_reducible apply And.intro) | (with_reducible intro _)))
  all_goals (first | omega | rfl)
def wo_6_h  : Hint := .pl (.lit (.pl (.ex (0 : Nat) (Value.string (ByteArray.mk (Array.mk [(82 : UInt8), (85 : UInt8), (78 : UInt8), (79 : UInt8), (85 : UInt8), (84 : UInt8)]))) (.ex (0 : Nat) (Value.bool true) (.ex (0 : Nat) (Value.bool true) (.ex (0 : Nat) (Value.bool true) (.ex (0 : Nat) (Value.bool true) (ho 0 9 (.ob
 0 .nil)))))))))
theorem wo_6_x  : wpF Tryd.prog wE 400 120 [.int .u8 6] (wo_6_h ) (fun rv _ => rv = .agg #[.string ⟨#[82, 85, 78, 79, 85, 84]⟩, .bool true, .bool true, .bool true, .bool true]) = (∀ (b : Nat), (4 : Nat) = (4 : Nat) /\ lgo wC (30 : Nat) = some (Value.string (ByteArray.mk (Array.mk [(82 : UInt8), (85 : UInt8), (78 : UInt8), (79 : UInt8), (85 : UInt8), (84 : UInt8)]))) /\ (4 : Nat) = (4 : Nat) /\ lgo wC (31 : Nat) = some (Value.bool true) /\ (4 : Nat) = (4 : Nat) /\ lgo wC (32 :
 Nat) = some (Value.bool true) /\ (4 : Nat) = (4 : Nat) /\ lgo wC (33 : Nat) = some (Value.bool true) /\ (4 : Nat) = (4 : Nat) /\ lgo wC (34 : Nat) = some (Value.bool true) /\ e2 b 5 (e1 b 5 (Value.agg (Array.mk [.string (ByteArray.mk (Array.mk [(82 : UInt8), (85 : UInt8), (78 : UInt8), (79 : UInt8),
 (85 : UInt8), (84 : UInt8)])), .bool true, .bool true, .bool true, .bool true]) = Value.agg (Array.mk [.string (ByteArray.mk (Array.mk [(82 : UInt8), (85 : UInt8), (78 : UInt8), (79 : UInt8), (85 : UInt8), (84 : UInt8)])), .bool true, .bool true, .bool true, .bool true])))) := by kernel_rfl
set_option maxHeartbeats 4000000 in
theorem wo_6_sp   : SpecQ Tryd.prog wE 120 #[.int .u8 6] (.agg #[.string ⟨#[82, 85, 78, 79, 85, 84]⟩, .bool true, .bool true, .bool true, .bool true]) := by
  intro w hE
  refine calls_valE hE (h := wo_6_h ) (?_ : wpF Tryd.prog wE 400 120 [.int .u8 6] (wo_6_h ) (fun rv _ => rv = .agg #[.string ⟨#[82, 85, 78, 79, 85, 84]⟩, .bool true, .bool true, .bool true, .bool true]))
  rw [wo_6_x]
  (repeat' (first | with_reducible exact rfl | exact trivial | with_reducible assumption | (with_reducible refine e1_in ?_) | (with_reducible refine e2_in ?_) | (with_reducible refine lx_in (Nat.le_of_ble_eq_true rfl) ?_) | (with_reducible refine rqx_rf ?_) | (with_reducible refine rqx_in ?_ ?_ ?_) | (with_reducible apply And.intro) | (with_reducible intro _)))
  all_goals (first | omega | rfl)
def wo_7_h  : Hint := .pl (.lit (.pl (.ex (0 : Nat) (Value.string (ByteArray.mk (Array.mk [(72 : UInt8), (73 : UInt8), (84 : UInt8), (84 : UInt8), (87 : UInt8), (73 : UInt8), (67 : UInt8), (69 : UInt8)]))) (.ex (0 : Nat) (Value.bool true) (.ex (0 : Nat) (Value.bool false) (.ex (0 : Nat) (Value.bool true) (.ex (0 : Nat)
 (Value.bool false) (ho 0 9 (.ob 0 .nil)))))))))
theorem wo_7_x  : wpF Tryd.prog wE 400 120 [.int .u8 7] (wo_7_h ) (fun rv _ => rv = .agg #[.string ⟨#[72, 73, 84, 84, 87, 73, 67, 69]⟩, .bool true, .bool false, .bool true, .bool false]) = (∀ (b : Nat), (4 : Nat) = (4 : Nat) /\ lgo wC (35 : Nat) = some (Value.string (ByteArray.mk (Array.mk [(72 : UInt8), (73 : UInt8), (84 : UInt8), (84 : UInt8), (87 : UInt8), (73 : UInt8), (67 : UInt8), (69 : UInt8)]))) /\ (4 : Nat) = (4 : Nat) /\ lgo wC (36 : Nat) = some (Value.bool true) /\ (4 : Nat)
 = (4 : Nat) /\ lgo wC (37 : Nat) = some (Value.bool false) /\ (4 : Nat) = (4 : Nat) /\ lgo wC (38 : Nat) = some (Value.bool true) /\ (4 : Nat) = (4 : Nat) /\ lgo wC (39 : Nat) = some (Value.bool false) /\ e2 b 5 (e1 b 5 (Value.agg (Array.mk [.string (ByteArray.mk (Array.mk [(72 : UInt8), (73 :
 UInt8), (84 : UInt8), (84 : UInt8), (87 : UInt8), (73 : UInt8), (67 : UInt8), (69 : UInt8)])), .bool true, .bool false, .bool true, .bool false]) = Value.agg (Array.mk [.string (ByteArray.mk (Array.mk [(72 : UInt8), (73 : UInt8), (84 : UInt8), (84 : UInt8), (87 : UInt8), (73 : UInt8), (67 : UInt8),
 (69 : UInt8)])), .bool true, .bool false, .bool true, .bool false])))) := by kernel_rfl
set_option maxHeartbeats 4000000 in
theorem wo_7_sp   : SpecQ Tryd.prog wE 120 #[.int .u8 7] (.agg #[.string ⟨#[72, 73, 84, 84, 87, 73, 67, 69]⟩, .bool true, .bool false, .bool true, .bool false]) := by
  intro w hE
  refine calls_valE hE (h := wo_7_h ) (?_ : wpF Tryd.prog wE 400 120 [.int .u8 7] (wo_7_h ) (fun rv _ => rv = .agg #[.string ⟨#[72, 73, 84, 84, 87, 73, 67, 69]⟩, .bool true, .bool false, .bool true, .bool false]))
  rw [wo_7_x]
  (repeat' (first | with_reducible exact rfl | exact trivial | with_reducible assumption | (with_reducible refine e1_in ?_) | (with_reducible refine e2_in ?_) | (with_reducible refine lx_in (Nat.le_of_ble_eq_true rfl) ?_) | (with_reducible refine rqx_rf ?_) | (with_reducible refine rqx_in ?_ ?_ ?_) | (with_reducible apply And.intro) | (with_reducible intro _)))
  all_goals (first | omega | rfl)
def wo_8_h  : Hint := .pl (.lit (.pl (.ex (0 : Nat) (Value.string (ByteArray.mk (Array.mk [(79 : UInt8), (66 : UInt8), (83 : UInt8), (84 : UInt8), (82 : UInt8), (85 : UInt8), (67 : UInt8), (84 : UInt8), (73 : UInt8), (78 : UInt8), (71 : UInt8)]))) (.ex (0 : Nat) (Value.bool true) (.ex (0 : Nat) (Value.bool true) (.ex (0 :
 Nat) (Value.bool true) (.ex (0 : Nat) (Value.bool false) (ho 0 9 (.ob 0 .nil)))))))))
theorem wo_8_x  : wpF Tryd.prog wE 400 120 [.int .u8 8] (wo_8_h ) (fun rv _ => rv = .agg #[.string ⟨#[79, 66, 83, 84, 82, 85, 67, 84, 73, 78, 71]⟩, .bool true, .bool true, .bool true, .bool false]) = (∀ (b : Nat), (4 : Nat) = (4 : Nat) /\ lgo wC (40 : Nat) = some (Value.string (ByteArray.mk (Array.mk [(79 : UInt8), (66 : UInt8), (83 : UInt8), (84 : UInt8), (82 : UInt8), (85 : UInt8), (67 : UInt8), (84 : UInt8), (73 : UInt8), (78 : UInt8), (71 : UInt8)]))) /\ (4 : Nat) = (4 : Nat) /\ lgo wC (41 :
 Nat) = some (Value.bool true) /\ (4 : Nat) = (4 : Nat) /\ lgo wC (42 : Nat) = some (Value.bool true) /\ (4 : Nat) = (4 : Nat) /\ lgo wC (43 : Nat) = some (Value.bool true) /\ (4 : Nat) = (4 : Nat) /\ lgo wC (44 : Nat) = some (Value.bool false) /\ e2 b 5 (e1 b 5 (Value.agg (Array.mk [.string
 (ByteArray.mk (Array.mk [(79 : UInt8), (66 : UInt8), (83 : UInt8), (84 : UInt8), (82 : UInt8), (85 : UInt8), (67 : UInt8), (84 : UInt8), (73 : UInt8), (78 : UInt8), (71 : UInt8)])), .bool true, .bool true, .bool true, .bool false]) = Value.agg (Array.mk [.string (ByteArray.mk (Array.mk [(79 :
 UInt8), (66 : UInt8), (83 : UInt8), (84 : UInt8), (82 : UInt8), (85 : UInt8), (67 : UInt8), (84 : UInt8), (73 : UInt8), (78 : UInt8), (71 : UInt8)])), .bool true, .bool true, .bool true, .bool false])))) := by kernel_rfl
set_option maxHeartbeats 4000000 in
theorem wo_8_sp   : SpecQ Tryd.prog wE 120 #[.int .u8 8] (.agg #[.string ⟨#[79, 66, 83, 84, 82, 85, 67, 84, 73, 78, 71]⟩, .bool true, .bool true, .bool true, .bool false]) := by
  intro w hE
  refine calls_valE hE (h := wo_8_h ) (?_ : wpF Tryd.prog wE 400 120 [.int .u8 8] (wo_8_h ) (fun rv _ => rv = .agg #[.string ⟨#[79, 66, 83, 84, 82, 85, 67, 84, 73, 78, 71]⟩, .bool true, .bool true, .bool true, .bool false]))
  rw [wo_8_x]
  (repeat' (first | with_reducible exact rfl | exact trivial | with_reducible assumption | (with_reducible refine e1_in ?_) | (with_reducible refine e2_in ?_) | (with_reducible refine lx_in (Nat.le_of_ble_eq_true rfl) ?_) | (with_reducible refine rqx_rf ?_) | (with_reducible refine rqx_in ?_ ?_ ?_) | (with_reducible apply And.intro) | (with_reducible intro _)))
  all_goals (first | omega | rfl)
def wo_9_h  : Hint := .pl (.lit (.pl (.ex (0 : Nat) (Value.string (ByteArray.mk (Array.mk [(84 : UInt8), (73 : UInt8), (77 : UInt8), (69 : UInt8), (68 : UInt8), (79 : UInt8), (85 : UInt8), (84 : UInt8)]))) (.ex (0 : Nat) (Value.bool false) (.ex (0 : Nat) (Value.bool false) (.ex (0 : Nat) (Value.bool false) (.ex (0 : Nat)
 (Value.bool false) (ho 0 9 (.ob 0 .nil)))))))))
theorem wo_9_x  : wpF Tryd.prog wE 400 120 [.int .u8 9] (wo_9_h ) (fun rv _ => rv = .agg #[.string ⟨#[84, 73, 77, 69, 68, 79, 85, 84]⟩, .bool false, .bool false, .bool false, .bool false]) = (∀ (b : Nat), (4 : Nat) = (4 : Nat) /\ lgo wC (45 : Nat) = some (Value.string (ByteArray.mk (Array.mk [(84 : UInt8), (73 : UInt8), (77 : UInt8), (69 : UInt8), (68 : UInt8), (79 : UInt8), (85 : UInt8), (84 : UInt8)]))) /\ (4 : Nat) = (4 : Nat) /\ lgo wC (46 : Nat) = some (Value.bool false) /\ (4 : Nat)
 = (4 : Nat) /\ lgo wC (47 : Nat) = some (Value.bool false) /\ (4 : Nat) = (4 : Nat) /\ lgo wC (48 : Nat) = some (Value.bool false) /\ (4 : Nat) = (4 : Nat) /\ lgo wC (49 : Nat) = some (Value.bool false) /\ e2 b 5 (e1 b 5 (Value.agg (Array.mk [.string (ByteArray.mk (Array.mk [(84 : UInt8), (73 :
 UInt8), (77 : UInt8), (69 : UInt8), (68 : UInt8), (79 : UInt8), (85 : UInt8), (84 : UInt8)])), .bool false, .bool false, .bool false, .bool false]) = Value.agg (Array.mk [.string (ByteArray.mk (Array.mk [(84 : UInt8), (73 : UInt8), (77 : UInt8), (69 : UInt8), (68 : UInt8), (79 : UInt8), (85 :
 UInt8), (84 : UInt8)])), .bool false, .bool false, .bool false, .bool false])))) := by kernel_rfl
set_option maxHeartbeats 4000000 in
theorem wo_9_sp   : SpecQ Tryd.prog wE 120 #[.int .u8 9] (.agg #[.string ⟨#[84, 73, 77, 69, 68, 79, 85, 84]⟩, .bool false, .bool false, .bool false, .bool false]) := by
  intro w hE
  refine calls_valE hE (h := wo_9_h ) (?_ : wpF Tryd.prog wE 400 120 [.int .u8 9] (wo_9_h ) (fun rv _ => rv = .agg #[.string ⟨#[84, 73, 77, 69, 68, 79, 85, 84]⟩, .bool false, .bool false, .bool false, .bool false]))
  rw [wo_9_x]
  (repeat' (first | with_reducible exact rfl | exact trivial | with_reducible assumption | (with_reducible refine e1_in ?_) | (with_reducible refine e2_in ?_) | (with_reducible refine lx_in (Nat.le_of_ble_eq_true rfl) ?_) | (with_reducible refine rqx_rf ?_) | (with_reducible refine rqx_in ?_ ?_ ?_) | (with_reducible apply And.intro) | (with_reducible intro _)))
  all_goals (first | omega | rfl)
def wo_10_h  : Hint := .pl (.lit (.pl (.ex (0 : Nat) (Value.string (ByteArray.mk (Array.mk [(82 : UInt8), (69 : UInt8), (84 : UInt8), (73 : UInt8), (82 : UInt8), (69 : UInt8), (68 : UInt8)]))) (.ex (0 : Nat) (Value.bool false) (.ex (0 : Nat) (Value.bool false) (.ex (0 : Nat) (Value.bool false) (.ex (0 : Nat) (Value.bool
 false) (ho 0 9 (.ob 0 .nil)))))))))
theorem wo_10_x  : wpF Tryd.prog wE 400 120 [.int .u8 10] (wo_10_h ) (fun rv _ => rv = .agg #[.string ⟨#[82, 69, 84, 73, 82, 69, 68]⟩, .bool false, .bool false, .bool false, .bool false]) = (∀ (b : Nat), (4 : Nat) = (4 : Nat) /\ lgo wC (50 : Nat) = some (Value.string (ByteArray.mk (Array.mk [(82 : UInt8), (69 : UInt8), (84 : UInt8), (73 : UInt8), (82 : UInt8), (69 : UInt8), (68 : UInt8)]))) /\ (4 : Nat) = (4 : Nat) /\ lgo wC (51 : Nat) = some (Value.bool false) /\ (4 : Nat) = (4 : Nat)
 /\ lgo wC (52 : Nat) = some (Value.bool false) /\ (4 : Nat) = (4 : Nat) /\ lgo wC (53 : Nat) = some (Value.bool false) /\ (4 : Nat) = (4 : Nat) /\ lgo wC (54 : Nat) = some (Value.bool false) /\ e2 b 5 (e1 b 5 (Value.agg (Array.mk [.string (ByteArray.mk (Array.mk [(82 : UInt8), (69 : UInt8), (84 :
 UInt8), (73 : UInt8), (82 : UInt8), (69 : UInt8), (68 : UInt8)])), .bool false, .bool false, .bool false, .bool false]) = Value.agg (Array.mk [.string (ByteArray.mk (Array.mk [(82 : UInt8), (69 : UInt8), (84 : UInt8), (73 : UInt8), (82 : UInt8), (69 : UInt8), (68 : UInt8)])), .bool false, .bool
 false, .bool false, .bool false])))) := by kernel_rfl
set_option maxHeartbeats 4000000 in
theorem wo_10_sp   : SpecQ Tryd.prog wE 120 #[.int .u8 10] (.agg #[.string ⟨#[82, 69, 84, 73, 82, 69, 68]⟩, .bool false, .bool false, .bool false, .bool false]) := by
  intro w hE
  refine calls_valE hE (h := wo_10_h ) (?_ : wpF Tryd.prog wE 400 120 [.int .u8 10] (wo_10_h ) (fun rv _ => rv = .agg #[.string ⟨#[82, 69, 84, 73, 82, 69, 68]⟩, .bool false, .bool false, .bool false, .bool false]))
  rw [wo_10_x]
  (repeat' (first | with_reducible exact rfl | exact trivial | with_reducible assumption | (with_reducible refine e1_in ?_) | (with_reducible refine e2_in ?_) | (with_reducible refine lx_in (Nat.le_of_ble_eq_true rfl) ?_) | (with_reducible refine rqx_rf ?_) | (with_reducible refine rqx_in ?_ ?_ ?_) | (with_reducible apply And.intro) | (with_reducible intro _)))
  all_goals (first | omega | rfl)
def wo_o_h (h : Int) : Hint := .pl (.known true (ho 0 9 (.ob 0 .nil)))
theorem wo_o_x (h : Int) : wpF Tryd.prog wE 400 120 [.int .u8 h] (wo_o_h h) (fun rv _ => rv = .agg #[.string ⟨#[]⟩, .bool false, .bool false, .bool false, .bool false]) = (∀ (b : Nat), decide (IntKind.i64.wrap h ≥ 11) = true /\ e2 b 5 (e1 b 5 (Value.agg (Array.mk [.string (ByteArray.mk (Array.mk [])), .bool false, .bool false, .bool false, .bool false]) = Value.agg (Array.mk [.string (ByteArray.mk (Array.mk [])), .bool false, .bool false, .bool false, .bool false])))) := by kernel_rfl
set_option maxHeartbeats 4000000 in
theorem wo_o_sp (h : Int) (h1 : decide (IntKind.wrap IntKind.i64 h ≥ (11 : Int)) = true) : SpecQ Tryd.prog wE 120 #[.int .u8 h] (.agg #[.string ⟨#[]⟩, .bool false, .bool false, .bool false, .bool false]) := by
  intro w hE
  refine calls_valE hE (h := wo_o_h h) (?_ : wpF Tryd.prog wE 400 120 [.int .u8 h] (wo_o_h h) (fun rv _ => rv = .agg #[.string ⟨#[]⟩, .bool false, .bool false, .bool false, .bool false]))
  rw [wo_o_x]
  (repeat' (first | with_reducible exact rfl | exact trivial | with_reducible assumption | (with_reducible refine e1_in ?_) | (with_reducible refine e2_in ?_) | (with_reducible refine lx_in (Nat.le_of_ble_eq_true rfl) ?_) | (with_reducible refine rqx_rf ?_) | (with_reducible refine rqx_in ?_ ?_ ?_) | (with_reducible apply And.intro) | (with_reducible intro _)))
  all_goals (first | omega | rfl)

theorem how_cases {h : Int} (h0 : 0 ≤ h ∧ h ≤ 255) : h = 0 ∨ h = 1 ∨ h = 2 ∨ h = 3 ∨ h = 4 ∨ h = 5 ∨ h = 6 ∨ h = 7 ∨ h = 8 ∨ h = 9 ∨ h = 10 ∨ 11 ≤ h := by omega
theorem wayOf_sp (h : Int) (h0 : 0 ≤ h ∧ h ≤ 255) : SpecQ Tryd.prog wE 120 #[.int .u8 h] (.agg #[.string (wn h), .bool (wa h), .bool (wb h), .bool (wc h), .bool (wd h)]) := by
  rcases how_cases h0 with rfl | rfl | rfl | rfl | rfl | rfl | rfl | rfl | rfl | rfl | rfl | h1
  · exact wo_0_sp
  · exact wo_1_sp
  · exact wo_2_sp
  · exact wo_3_sp
  · exact wo_4_sp
  · exact wo_5_sp
  · exact wo_6_sp
  · exact wo_7_sp
  · exact wo_8_sp
  · exact wo_9_sp
  · exact wo_10_sp
  · have e : wn h = ⟨#[]⟩ ∧ wa h = false ∧ wb h = false ∧ wc h = false ∧ wd h = false := by
      unfold wn wa wb wc wd
      refine ⟨?_, ?_, ?_, ?_, ?_⟩
      · repeat rw [if_neg (by omega)]
      all_goals (rw [decide_eq_false_iff_not]; omega)
    rw [e.1, e.2.1, e.2.2.1, e.2.2.2.1, e.2.2.2.2]
    exact wo_o_sp h (by rw [IntWalk.i64_in h ⟨by omega, by omega⟩]; simpa using h1)

def pfie_h (h : Int) : Hint := .spece (Value.agg #[Value.string (wn h), .bool (wa h), .bool (wb h), .bool (wc h), .bool (wd h)]) (.pl .nil)
theorem pfie_x (h : Int) : wpF Tryd.prog wE 400 113 [.int .u8 h] (pfie_h h) (fun rv _ => rv = .tuple #[.bool (wd h), .bool (wd h), .bool (h == 6)]) = (SpecQ Tryd.prog wE 120 (Array.mk [.int .u8 h]) (Value.agg #[Value.string (wn h), .bool (wa h), .bool (wb h), .bool (wc h), .bool (wd h)]) /\ Value.tuple (Array.mk [.bool (wd h), .bool (wd h), .bool (h == 6)]) = Value.tuple (Array.mk [.bool (wd h), .bool (wd h), .bool (h ==
 6)])) := by kernel_rfl
set_option maxHeartbeats 4000000 in
theorem pfie_sp (h : Int) (hh : 0 ≤ h ∧ h ≤ 255) : SpecQ Tryd.prog wE 113 #[.int .u8 h] (.tuple #[.bool (wd h), .bool (wd h), .bool (h == 6)]) := by
  intro w hE
  refine calls_valE hE (h := pfie_h h) (?_ : wpF Tryd.prog wE 400 113 [.int .u8 h] (pfie_h h) (fun rv _ => rv = .tuple #[.bool (wd h), .bool (wd h), .bool (h == 6)]))
  rw [pfie_x]
  (repeat' (first | with_reducible exact rfl | exact trivial | with_reducible assumption | exact wayOf_sp _ hh | (with_reducible refine e1_in ?_) | (with_reducible refine e2_in ?_) | (with_reducible refine lx_in (Nat.le_of_ble_eq_true rfl) ?_) | (with_reducible refine rqx_rf ?_) | (with_reducible refine rqx_in ?_ ?_ ?_) | (with_reducible apply And.intro) | (with_reducible intro _)))
end Go.Proofs.YtkgdlimekkdekaaDoor
