/- Layer 5 (rules): parts of the laws: few, the length of an innings. -/
import Derived.Test.YtjdldofgkhibnaaGreatDoorVz
import Derived.KernelRfl
import Derived.Test.YtjdldofgkhibnaaGreatDoorProg
import Derived.Test.YtjdldofgkhibnaaGreatDoorBrg
import Derived.Test.YtjdldofgkhibnaaGreatDoorRda
import Derived.Test.YtjdldofgkhibnaaGreatDoorRub
import Derived.Test.YtjdldofgkhibnaaGreatDoorRubr
set_option linter.unusedSimpArgs false
set_option linter.unusedVariables false
set_option maxRecDepth 100000
namespace Go.Proofs.YtjdldofgkhibnaaGreatDoor
open Go.RowKit


theorem take10 {α : Type} (l : List α) : (if (10 : Int) < l.length then 10 else (l.length : Int)).toNat = (l.take 10).length := by
  rw [List.length_take]
  split <;> omega
theorem aok_take {α : Type} {a : Option Addr} {l : List α} (n : Nat) (h : AOK a l.length) : AOK a (l.take n).length := ⟨(fun e => by have := h.1 e; rw [List.length_take]; omega), (fun hn q hq => h.2 (by rw [List.length_take] at hn; omega) q hq)⟩
def bnd (r : Rul) : Rul := { r with nm := r.nm.extract 0 (if (20 : Int) < r.nm.size then 20 else (r.nm.size : Int)).toNat, pw := r.pw.take 10 }
theorem bnd_nm (r : Rul) : (bnd r).nm.size ≤ 1000000 := by
  show (r.nm.extract 0 _).size ≤ _
  rw [ByteArray.size_extract]
  split <;> omega
theorem bnd_pw (r : Rul) : (bnd r).pw.length ≤ 1000000 := by
  show (r.pw.take 10).length ≤ _
  rw [List.length_take]
  omega
theorem aok_b {r : Rul} {B : RAd} (hB : AOK B.a r.pw.length) : AOK B.a (bnd r).pw.length := aok_take 10 hB
def cP_dec : List Value → List Ph
  | .int _ a :: .int _ b :: .int _ c :: l => ⟨a, b, c⟩ :: cP_dec l
  | _ => []
/-- The legal balls of an innings. -/
def mo (r : Rul) : Int := if rck r = 0 then IntKind.i64.wrap (r.q3 * r.q4) else 0
theorem mo_t {r : Rul} (h : (rck r != 0) = true) : (0 : Int) = mo r := by unfold mo; rw [if_neg (by simpa using h)]
theorem mo_f {r : Rul} (h : (rck r != 0) = false) : IntKind.i64.wrap (r.q3 * r.q4) = mo r := by unfold mo; rw [if_pos (by simpa using h)]

def mst_h (r : Rul) (B : RAd) : Hint := ho 1 14 (.specg [] [0] [cP r.pw] [] (fun ads0 x ↦ Value.int .i64 (rck r)) (.pl (.split (.perm [] .nil) (ho 1 2 (.perm [] .nil)))))
theorem mst_x (r : Rul) (B : RAd) : wpG Tryz.prog [] ([(B.a, cP r.pw)]) 400 10 [ruV r B] (mst_h r B) ([]) (fun _ => .int .i64 (mo r)) = (∀ (b : Nat), e1 b 14 (cP r.pw = cP r.pw /\ (SpecG Tryz.prog [] [(RAd.a B, cP r.pw)] (14 : FuncId) #[ruV r B] [] fun x ↦ Value.int .i64 (rck r)) /\ (∀ (e : Ex), e ∈ [] -> e ∈ []) /\ ((rck r != 0) = true -> Value.int .i64 0 = Value.int .i64 (if rck r = (0 : Int) then IntKind.i64.wrap (r.q3 * r.q4) else
 (0 : Int))) /\ ((rck r != 0) = false -> b = b /\ b = b /\ Value.int .i64 (IntKind.i64.wrap (r.q3 * r.q4)) = Value.int .i64 (if rck r = (0 : Int) then IntKind.i64.wrap (r.q3 * r.q4) else (0 : Int))))) := by kernel_rfl
set_option maxHeartbeats 4000000 in
theorem mst_sp (r : Rul) (B : RAd) (hB : AOK B.a r.pw.length) (hl : r.pw.length ≤ 1000000) (hn : r.nm.size ≤ 1000000) : SpecG Tryz.prog [] ([(B.a, cP r.pw)]) 10 #[ruV r B] ([]) (fun _ => .int .i64 (mo r)) := by
  refine specG_of (h := mst_h r B) (?_ : wpG Tryz.prog [] ([(B.a, cP r.pw)]) 400 10 [ruV r B] (mst_h r B) ([]) (fun _ => .int .i64 (mo r)))
  rw [mst_x]
  (repeat' (first | with_reducible exact rfl | exact trivial | with_reducible assumption | exact rch_sp _ _ hB hl hn | exact cU_len _ | exact cI_len _ | exact cB_len _ | exact cU_one _ | exact cI_one _ | exact cB_one _ | exact (fun _ h => h) | exact (fun _ h => (List.not_mem_nil h).elim) | (with_reducible refine e1_in ?_) | (with_reducible refine e2_in ?_) | (with_reducible refine lx_in (Nat.le_of_ble_eq_true rfl) ?_) | (with_reducible refine rqx_rf ?_) | (with_reducible refine rqx_in ?_ ?_ ?_) | (with_reducible apply And.intro) | (with_reducible intro _)))
  all_goals (first | exact congrArg (Value.int .i64) (mo_t (by assumption)) | exact congrArg (Value.int .i64) (mo_f (by assumption)) | trace_state)
def few5_h (r : Rul) (B : RAd) : Hint := ho 0 2 (.pl (.pl (.ix (ho 0 3 (.pl (.pl (.ix (ho 0 15 (ho 1 28 (.perm [] .nil))))))))))
theorem few5_x (r : Rul) (B : RAd) : wpG Tryz.prog [] ([]) 400 5 [ruV r B] (few5_h r B) ([]) (fun _ => ruV (bnd r) B) = (∀ (b b_1 : Nat), b = b /\ b = b /\ (((0 : Int) ≤ if (20 : Int) < (↑(ByteArray.size r.nm) : Int) then (20 : Int) else (↑(ByteArray.size r.nm) : Int)) /\ (if (20 : Int) < (↑(ByteArray.size r.nm) : Int) then (20 : Int) else (↑(ByteArray.size r.nm) : Int)) ≤ (↑(ByteArray.size r.nm) : Int)) /\ b = b /\
 True /\ b = b /\ b = b /\ (((0 : Int) ≤ if (10 : Int) < (↑(r.pw.length) : Int) then (10 : Int) else (↑(r.pw.length) : Int)) /\ (if (10 : Int) < (↑(r.pw.length) : Int) then (10 : Int) else (↑(r.pw.length) : Int)) ≤ (↑(RAd.c B) : Int)) /\ b = b /\ True /\ e1 b 14 (e2 b_1 14 (e1 b_1 14 (Value.agg
 (Array.mk [.string (ByteArray.extract r.nm (0 : Nat) (Int.toNat (if (20 : Int) < (↑(ByteArray.size r.nm) : Int) then (20 : Int) else (↑(ByteArray.size r.nm) : Int)))), .int .i64 r.q1, .int .i64 r.q2, .int .i64 r.q3, .int .i64 r.q4, .int .i64 r.q5, .int .i64 r.q6, .int .i64 r.q7, .bool r.fh, .int
 .i64 r.q8, .int .i64 r.q9, .int .i64 r.qa, .int .i64 r.qo, .slice (RAd.a B) (Int.toNat (if (10 : Int) < (↑(r.pw.length) : Int) then (10 : Int) else (↑(r.pw.length) : Int))) (RAd.c B)]) = Value.agg (Array.mk [.string (ByteArray.extract r.nm (0 : Nat) (Int.toNat (if (20 : Int) < (↑(ByteArray.size
 r.nm) : Int) then (20 : Int) else (↑(ByteArray.size r.nm) : Int)))), .int .i64 r.q1, .int .i64 r.q2, .int .i64 r.q3, .int .i64 r.q4, .int .i64 r.q5, .int .i64 r.q6, .int .i64 r.q7, .bool r.fh, .int .i64 r.q8, .int .i64 r.q9, .int .i64 r.qa, .int .i64 r.qo, .slice (RAd.a B) (List.length (List.take
 (10 : Nat) r.pw)) (RAd.c B)]))))) := by kernel_rfl
set_option maxHeartbeats 4000000 in
theorem few5_sp (r : Rul) (B : RAd) (hBc : r.pw.length ≤ B.c) : SpecG Tryz.prog [] ([]) 5 #[ruV r B] ([]) (fun _ => ruV (bnd r) B) := by
  refine specG_of (h := few5_h r B) (?_ : wpG Tryz.prog [] ([]) 400 5 [ruV r B] (few5_h r B) ([]) (fun _ => ruV (bnd r) B))
  rw [few5_x]
  simp only [take10]
  (repeat' (first | with_reducible exact rfl | exact trivial | with_reducible assumption | exact cU_len _ | exact cI_len _ | exact cB_len _ | exact cU_one _ | exact cI_one _ | exact cB_one _ | exact (fun _ h => h) | exact (fun _ h => (List.not_mem_nil h).elim) | (with_reducible refine e1_in ?_) | (with_reducible refine e2_in ?_) | (with_reducible refine lx_in (Nat.le_of_ble_eq_true rfl) ?_) | (with_reducible refine rqx_rf ?_) | (with_reducible refine rqx_in ?_ ?_ ?_) | (with_reducible apply And.intro) | (with_reducible intro _)))
  all_goals (first | (split <;> omega) | (simp only [take10]; done) | trace_state)
end Go.Proofs.YtjdldofgkhibnaaGreatDoor
