/- Layer 31 (camera): the other side of the pitch, other times, of both; equal lists. The reference. -/
import Derived.Test.YtjnaficgcellkaaDoorVz
import Derived.KernelRfl
import Derived.Test.YtjnaficgcellkaaDoorProg
import Derived.Test.YtjnaficgcellkaaDoorCma
import Derived.Test.YtjnaficgcellkaaDoorCmar
import Derived.Test.YtjnaficgcellkaaDoorCmb
set_option linter.unusedSimpArgs false
set_option linter.unusedVariables false
set_option maxRecDepth 100000
namespace Go.Proofs.YtjnaficgcellkaaDoor
open Go.RowKit

def sme_h (a b : Option Addr) (c d : Nat) (l : List Sn) : Hint := .pl (.pl (.pl (.known false (.pl (.inv (smL l) fun x0 ↦ .split (.draw [0, 1] none [0, 1] (.take 0 (.take 1 (.take 2 (.ix (.take 3 (.lst (0 : Nat) (x0 * (5 : Nat)) (Value.int .i64 (Sn.t (gSn l x0))) (.lst (0 : Nat) (x0 * (5 : Nat) + (1 : Nat)) (Value.int .i64 (Sn.x (gSn l x0))) (.lst (0 : Nat) (x0 *
 (5 : Nat) + (2 : Nat)) (Value.int .i64 (Sn.y (gSn l x0))) (.lst (0 : Nat) (x0 * (5 : Nat) + (3 : Nat)) (Value.int .i64 (Sn.z (gSn l x0))) (.lst (0 : Nat) (x0 * (5 : Nat) + (4 : Nat)) (Value.int .i64 (Sn.e (gSn l x0))) (.take 4 (.take 5 (.take 6 (.ix (.take 7 (.lst (1 : Nat) (x0 * (5 : Nat))
 (Value.int .i64 (Sn.t (gSn l x0))) (.lst (1 : Nat) (x0 * (5 : Nat) + (1 : Nat)) (Value.int .i64 (Sn.x (gSn l x0))) (.lst (1 : Nat) (x0 * (5 : Nat) + (2 : Nat)) (Value.int .i64 (Sn.y (gSn l x0))) (.lst (1 : Nat) (x0 * (5 : Nat) + (3 : Nat)) (Value.int .i64 (Sn.z (gSn l x0))) (.lst (1 : Nat) (x0 * (5
 : Nat) + (4 : Nat)) (Value.int .i64 (Sn.e (gSn l x0))) (.take 8 (.split (.perm [] .nil) (.perm [] .nil)))))))))))))))))))))))) (.perm [] .nil))))))
theorem sme_x (a b : Option Addr) (c d : Nat) (l : List Sn) : wpG Tryd.prog [] ([(a, cSn l), (b, cSn l)]) 400 15 [.slice a l.length c, .slice b l.length d] (sme_h a b c d l) ([]) (fun _ => .bool true) = (((↑(List.length l) : Int) != (↑(List.length l) : Int)) = false /\ (∃ x, x ≤ List.length l /\ Value.int .i64 0 = Value.int .i64 (↑x : Int) /\ True) /\ ∀ (x0 : Nat), x0 ≤ List.length l -> ∀ (junk : Nat -> Value), (decide ((↑x0 : Int) < (↑(List.length l) : Int)) = true -> (((0 : Int) ≤ (↑x0 : Int) /\
 (↑x0 : Int) < (↑(List.length l) : Int)) /\ AOK a (List.length l)) /\ bk a = bk a /\ ofs a + x0 * (5 : Nat) = ofs a + x0 * (5 : Nat) /\ lgo (cSn l) (x0 * (5 : Nat)) = some (Value.int .i64 (Sn.t (gSn l x0))) /\ bk a = bk a /\ ofs a + x0 * (5 : Nat) + (1 : Nat) = ofs a + (x0 * (5 : Nat) + (1 : Nat)) /\
 lgo (cSn l) (x0 * (5 : Nat) + (1 : Nat)) = some (Value.int .i64 (Sn.x (gSn l x0))) /\ bk a = bk a /\ ofs a + x0 * (5 : Nat) + (2 : Nat) = ofs a + (x0 * (5 : Nat) + (2 : Nat)) /\ lgo (cSn l) (x0 * (5 : Nat) + (2 : Nat)) = some (Value.int .i64 (Sn.y (gSn l x0))) /\ bk a = bk a /\ ofs a + x0 * (5 :
 Nat) + (3 : Nat) = ofs a + (x0 * (5 : Nat) + (3 : Nat)) /\ lgo (cSn l) (x0 * (5 : Nat) + (3 : Nat)) = some (Value.int .i64 (Sn.z (gSn l x0))) /\ bk a = bk a /\ ofs a + x0 * (5 : Nat) + (4 : Nat) = ofs a + (x0 * (5 : Nat) + (4 : Nat)) /\ lgo (cSn l) (x0 * (5 : Nat) + (4 : Nat)) = some (Value.int .i64
 (Sn.e (gSn l x0))) /\ (((0 : Int) ≤ (↑x0 : Int) /\ (↑x0 : Int) < (↑(List.length l) : Int)) /\ AOK b (List.length l)) /\ bk b = bk b /\ ofs b + x0 * (5 : Nat) = ofs b + x0 * (5 : Nat) /\ lgo (cSn l) (x0 * (5 : Nat)) = some (Value.int .i64 (Sn.t (gSn l x0))) /\ bk b = bk b /\ ofs b + x0 * (5 : Nat) +
 (1 : Nat) = ofs b + (x0 * (5 : Nat) + (1 : Nat)) /\ lgo (cSn l) (x0 * (5 : Nat) + (1 : Nat)) = some (Value.int .i64 (Sn.x (gSn l x0))) /\ bk b = bk b /\ ofs b + x0 * (5 : Nat) + (2 : Nat) = ofs b + (x0 * (5 : Nat) + (2 : Nat)) /\ lgo (cSn l) (x0 * (5 : Nat) + (2 : Nat)) = some (Value.int .i64 (Sn.y
 (gSn l x0))) /\ bk b = bk b /\ ofs b + x0 * (5 : Nat) + (3 : Nat) = ofs b + (x0 * (5 : Nat) + (3 : Nat)) /\ lgo (cSn l) (x0 * (5 : Nat) + (3 : Nat)) = some (Value.int .i64 (Sn.z (gSn l x0))) /\ bk b = bk b /\ ofs b + x0 * (5 : Nat) + (4 : Nat) = ofs b + (x0 * (5 : Nat) + (4 : Nat)) /\ lgo (cSn l)
 (x0 * (5 : Nat) + (4 : Nat)) = some (Value.int .i64 (Sn.e (gSn l x0))) /\ ((!(Sn.t (gSn l x0) == Sn.t (gSn l x0) && (Sn.x (gSn l x0) == Sn.x (gSn l x0) && (Sn.y (gSn l x0) == Sn.y (gSn l x0) && (Sn.z (gSn l x0) == Sn.z (gSn l x0) && (Sn.e (gSn l x0) == Sn.e (gSn l x0) && true)))))) = true ->
 Value.bool false = Value.bool true) /\ ((!(Sn.t (gSn l x0) == Sn.t (gSn l x0) && (Sn.x (gSn l x0) == Sn.x (gSn l x0) && (Sn.y (gSn l x0) == Sn.y (gSn l x0) && (Sn.z (gSn l x0) == Sn.z (gSn l x0) && (Sn.e (gSn l x0) == Sn.e (gSn l x0) && true)))))) = false -> ∃ y, y ≤ List.length l /\ List.length l -
 y < List.length l - x0 /\ Value.int .i64 (IntKind.i64.wrap ((↑x0 : Int) + (1 : Int))) = Value.int .i64 (↑y : Int) /\ True)) /\ (decide ((↑x0 : Int) < (↑(List.length l) : Int)) = false -> Value.bool true = Value.bool true)) := by kernel_rfl
set_option maxHeartbeats 4000000 in
theorem sme_sp (a b : Option Addr) (c d : Nat) (l : List Sn) (hA : AOK a l.length) (hB : AOK b l.length) (hl : l.length ≤ 200) : SpecG Tryd.prog [] ([(a, cSn l), (b, cSn l)]) 15 #[.slice a l.length c, .slice b l.length d] ([]) (fun _ => .bool true) := by
  refine specG_of (h := sme_h a b c d l) (?_ : wpG Tryd.prog [] ([(a, cSn l), (b, cSn l)]) 400 15 [.slice a l.length c, .slice b l.length d] (sme_h a b c d l) ([]) (fun _ => .bool true))
  rw [sme_x]
  (repeat' (first | with_reducible exact rfl | exact trivial | with_reducible assumption | exact cSn_len _ | exact cSn_one _ | exact cU_len _ | exact cI_len _ | exact cB_len _ | exact cU_one _ | exact cI_one _ | exact cB_one _ | exact (fun _ h => h) | exact (fun _ h => (List.not_mem_nil h).elim) | (with_reducible refine e1_in ?_) | (with_reducible refine e2_in ?_) | (with_reducible refine lx_in (Nat.le_of_ble_eq_true rfl) ?_) | (with_reducible refine rqx_rf ?_) | (with_reducible refine rqx_in ?_ ?_ ?_) | (with_reducible apply And.intro) | (with_reducible intro _)))
  all_goals (try simp only [Int.toNat_natCast] at *)
  all_goals (first
    | rfl
    | (exact ⟨0, Nat.zero_le _, rfl, trivial⟩)
    | (exact absurd ‹((_ : Int) != _) = true› (by simp))
    | (have hi := lt_s ‹_›; first | omega | exact hA | exact hB | exact cSn_get0 hi | exact cSn_get1 hi | exact cSn_get2 hi | exact cSn_get3 hi | exact cSn_get4 hi | exact ⟨_ + 1, hi, (by show _ - (_ + 1) < _; omega), wr_s (by omega), trivial⟩)
    | (simp; done)
    | (exfalso; simp at *; done)
    | trace_state)
end Go.Proofs.YtjnaficgcellkaaDoor
