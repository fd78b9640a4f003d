/- Layer 14 (innings): who has come in, bowlers who differ (of both). The reference. -/
import Derived.Test.YtnhlpgdadbjmoaaGreatDoorVz
import Derived.KernelRfl
import Derived.Test.YtnhlpgdadbjmoaaGreatDoorProg
import Derived.Test.YtnhlpgdadbjmoaaGreatDoorFda
import Derived.Test.YtnhlpgdadbjmoaaGreatDoorFdf
import Derived.Test.YtnhlpgdadbjmoaaGreatDoorFdh
import Derived.Test.YtnhlpgdadbjmoaaGreatDoorRua
import Derived.Test.YtnhlpgdadbjmoaaGreatDoorCra
import Derived.Test.YtnhlpgdadbjmoaaGreatDoorSpa
import Derived.Test.YtnhlpgdadbjmoaaGreatDoorIva
set_option linter.unusedSimpArgs false
set_option linter.unusedVariables false
set_option maxRecDepth 100000
namespace Go.Proofs.YtnhlpgdadbjmoaaGreatDoor
open Go.RowKit

def ifw_h (a : Option Addr) (l : List Int) (c : Nat) (m : Int) : Hint := .pl (.inv (fwO l m) fun x0 ↦ .split (.ix (.lst (0 : Nat) (x0 * (1 : Nat)) (Value.int .i64 (List.getD l x0 (0 : Int))) (.inl (.nc (.cut [((6 : Nat), .bool (decide (List.getD l x0 (0 : Int) ≥ (1 : Int)) && decide (List.getD l x0 (0 : Int) ≤ m)))] (.split (.lit (.lit (.lit .nil))) (.lit (.lit (.lit
 .nil)))) (.split (.perm [] .nil) (.ix (.pl (.inv (fwN l x0) fun x1 ↦ .split (.ix (.lst (0 : Nat) (x1 * (1 : Nat)) (Value.int .i64 (List.getD l x1 (0 : Int))) (.pl (.split (.perm [] .nil) (.perm [] .nil))))) (.perm [] .nil)))))))))) (.perm [] .nil))
theorem ifw_x (a : Option Addr) (l : List Int) (c : Nat) (m : Int) : wpG Tryz.prog [] ([(a, cI l)]) 400 41 [.slice a l.length c, .int .i64 m] (ifw_h a l c m) ([]) (fun _ => .bool (difB l m l.length)) = ((∃ x, dfI l m x /\ Value.int .i64 0 = Value.int .i64 (↑x : Int) /\ True) /\ ∀ (x0 : Nat), dfI l m x0 -> ∀ (junk : Nat -> Value), (decide ((↑x0 : Int) < (↑(List.length l) : Int)) = true -> (((0 : Int) ≤ (↑x0 : Int) /\ (↑x0 : Int) < (↑(List.length l) : Int)) /\ AOK a (List.length l)) /\ bk a = bk a /\
 ofs a + x0 * (1 : Nat) = ofs a + x0 * (1 : Nat) /\ lgo (cI l) (x0 * (1 : Nat)) = some (Value.int .i64 (List.getD l x0 (0 : Int))) /\ ((decide (List.getD l x0 (0 : Int) ≥ (1 : Int)) = true -> Value.bool (decide (List.getD l x0 (0 : Int) ≤ m)) = Value.bool (decide (List.getD l x0 (0 : Int) ≥ (1 :
 Int)) && decide (List.getD l x0 (0 : Int) ≤ m)) /\ True) /\ (decide (List.getD l x0 (0 : Int) ≥ (1 : Int)) = false -> Value.bool false = Value.bool (decide (List.getD l x0 (0 : Int) ≥ (1 : Int)) && decide (List.getD l x0 (0 : Int) ≤ m)) /\ True)) /\ ∀ (junk : Nat -> Value), ((!(decide (List.getD l
 x0 (0 : Int) ≥ (1 : Int)) && decide (List.getD l x0 (0 : Int) ≤ m))) = true -> Value.bool false = Value.bool (difB l m (List.length l))) /\ ((!(decide (List.getD l x0 (0 : Int) ≥ (1 : Int)) && decide (List.getD l x0 (0 : Int) ≤ m))) = false -> ((0 : Int) ≤ (↑x0 : Int) /\ (↑x0 : Int) ≤ (↑c : Int)) /\
 (∃ x, fwI l (List.getD l x0 (0 : Int)) x0 x /\ Value.int .i64 0 = Value.int .i64 (↑x : Int) /\ True) /\ ∀ (x1 : Nat), fwI l (List.getD l x0 (0 : Int)) x0 x1 -> ∀ (junk : Nat -> Value), (decide ((↑x1 : Int) < (↑x0 : Int)) = true -> (((0 : Int) ≤ (↑x1 : Int) /\ (↑x1 : Int) < (↑x0 : Int)) /\ AOK a x0)
 /\ bk a = bk a /\ ofs a + x1 * (1 : Nat) = ofs a + x1 * (1 : Nat) /\ lgo (cI l) (x1 * (1 : Nat)) = some (Value.int .i64 (List.getD l x1 (0 : Int))) /\ ((List.getD l x0 (0 : Int) == List.getD l x1 (0 : Int)) = true -> Value.bool false = Value.bool (difB l m (List.length l))) /\ ((List.getD l x0 (0 :
 Int) == List.getD l x1 (0 : Int)) = false -> ∃ y, fwI l (List.getD l x0 (0 : Int)) x0 y /\ x0 - y < x0 - x1 /\ Value.int .i64 (IntKind.i64.wrap ((↑x1 : Int) + (1 : Int))) = Value.int .i64 (↑y : Int) /\ True)) /\ (decide ((↑x1 : Int) < (↑x0 : Int)) = false -> ∃ y, dfI l m y /\ List.length l - y <
 List.length l - x0 /\ Value.int .i64 (IntKind.i64.wrap ((↑x0 : Int) + (1 : Int))) = Value.int .i64 (↑y : Int) /\ True))) /\ (decide ((↑x0 : Int) < (↑(List.length l) : Int)) = false -> Value.bool true = Value.bool (difB l m (List.length l)))) := by kernel_rfl
set_option maxHeartbeats 4000000 in
theorem ifw_sp (a : Option Addr) (l : List Int) (c : Nat) (m : Int) (hA : AOK a l.length) (hl : l.length ≤ 1000000) (hc : l.length ≤ c) : SpecG Tryz.prog [] ([(a, cI l)]) 41 #[.slice a l.length c, .int .i64 m] ([]) (fun _ => .bool (difB l m l.length)) := by
  refine specG_of (h := ifw_h a l c m) (?_ : wpG Tryz.prog [] ([(a, cI l)]) 400 41 [.slice a l.length c, .int .i64 m] (ifw_h a l c m) ([]) (fun _ => .bool (difB l m l.length)))
  rw [ifw_x]
  (repeat' (first | with_reducible exact rfl | exact trivial | with_reducible assumption | exact cU_len _ | exact cI_len _ | exact cB_len _ | exact cU_one _ | exact cI_one _ | exact cB_one _ | exact (fun _ h => h) | exact (fun _ h => (List.not_mem_nil h).elim) | (with_reducible refine e1_in ?_) | (with_reducible refine e2_in ?_) | (with_reducible refine lx_in (Nat.le_of_ble_eq_true rfl) ?_) | (with_reducible refine rqx_rf ?_) | (with_reducible refine rqx_in ?_ ?_ ?_) | (with_reducible apply And.intro) | (with_reducible intro _)))
  all_goals (try simp only [Int.toNat_natCast] at *)
  all_goals first
    | exact ⟨0, ⟨Nat.zero_le _, rfl⟩, rfl, trivial⟩
    | exact ⟨0, fw_0 _ _ _, rfl, trivial⟩
    | exact Int.natCast_nonneg _
    | exact hA
    | (simp only [*, Bool.and_true, Bool.true_and, Bool.and_false, Bool.false_and, Bool.or_true, Bool.true_or, Bool.or_false, Bool.false_or, Bool.not_true, Bool.not_false, cond_true, cond_false]; done)
    | (have hf := of_decide_eq_true ‹decide (((_ : Nat) : Int) < (l.length : Int)) = true›; first | omega | exact aok_pre hA (by omega) | (refine cI_get ?_; omega) | (have ho := ‹(!(decide _ && decide _)) = true›; rw [df_no (by omega) (ok_r1n ho)]; done) | (have ho := ‹(!(decide _ && decide _)) = true›; rw [df_no (by omega) (ok_r1n ho)]; rfl) | (have hg := of_decide_eq_true ‹decide (((_ : Nat) : Int) < ((_ : Nat) : Int)) = true›; first | omega | (refine cI_get ?_; omega) | (have hx := ‹fwI _ _ _ _›; have ho := ‹((_ : Int) == _) = false›; exact ⟨_, fw_step hx (by omega) (by omega) (by simpa using ho), (by show _ - (_ + 1) < _; omega), (by rw [IntWalk.i64_in _ (by omega)]; rfl), trivial⟩) | (have ho := ‹((_ : Int) == _) = true›; have he := eq_of_beq ho; have hz := ok_r2 (m := m) (fw_hit (by omega) (by omega) he); rw [df_no (by omega) hz])) | (have hx := ‹dfI _ _ _›; have hy := ‹fwI _ _ _ _›; have ho := ‹(!(decide _ && decide _)) = false›; exact ⟨_, df_step hx (by omega) (ok_rn ho (fw_no hy (of_decide_eq_false (by assumption)))), (by show _ - (_ + 1) < _; omega), (by rw [IntWalk.i64_in _ (by omega)]; rfl), trivial⟩))
    | (have hf := of_decide_eq_false ‹decide (((_ : Nat) : Int) < (l.length : Int)) = false›; rw [df_end ‹dfI _ _ _› hf]; done)
    | (have hf := of_decide_eq_false ‹decide (((_ : Nat) : Int) < (l.length : Int)) = false›; rw [df_end ‹dfI _ _ _› hf]; rfl)
    | trace_state
end Go.Proofs.YtnhlpgdadbjmoaaGreatDoor
