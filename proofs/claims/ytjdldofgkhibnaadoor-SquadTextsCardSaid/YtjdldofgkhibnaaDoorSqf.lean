/- Layer 6 (squad): the awake, program. -/
import Derived.Test.YtjdldofgkhibnaaDoorVz
import Derived.KernelRfl
import Derived.Test.YtjdldofgkhibnaaDoorProg
import Derived.Test.YtjdldofgkhibnaaDoorBrg
import Derived.Test.YtjdldofgkhibnaaDoorBrq
import Derived.Test.YtjdldofgkhibnaaDoorRub
import Derived.Test.YtjdldofgkhibnaaDoorSqw
import Derived.Test.YtjdldofgkhibnaaDoorSqa
import Derived.Test.YtjdldofgkhibnaaDoorSqc
import Derived.Test.YtjdldofgkhibnaaDoorSqd
set_option linter.unusedSimpArgs false
set_option linter.unusedVariables false
set_option maxRecDepth 100000
namespace Go.Proofs.YtjdldofgkhibnaaDoor
open Go.RowKit

def awk_h  : Hint := .inl (ho 0 8 (.specg rE [1] [[Value.string (ByteArray.mk #[(65 : UInt8), (78 : UInt8), (78 : UInt8)]), .string (ByteArray.mk #[(66 : UInt8), (69 : UInt8), (78 : UInt8)])]] [] (fun ads0 x ↦ Value.tuple #[Value.string oaS, .int .i64 0]) (.specg rE [] [] [RowT.mk (9 : TypeId) (1 : Nat) (2 : Nat)
 [Value.string (ByteArray.mk #[(65 : UInt8), (78 : UInt8), (78 : UInt8)]), .string (ByteArray.mk #[(66 : UInt8), (69 : UInt8), (78 : UInt8)])]] (fun ads0 ads ↦ Value.tuple #[Value.agg #[Value.string (ByteArray.mk #[(79 : UInt8), (65 : UInt8), (75 : UInt8), (83 : UInt8)]), .slice (Prod.fst (nthA ads
 (0 : Nat))) (2 : Nat) (Prod.snd (nthA ads (0 : Nat))), .int .i64 1, .int .i64 2], .slice none (0 : Nat) (0 : Nat)]) (ho 3 4 (.draw [0, 1, 2, 3] none [0, 1, 2, 3] (.take 0 (.take 1 (.pl (.take 2 (.take 3 (.lit (.take 4 (.lit (.pl (.take 5 (.lit (.take 6 (.take 7 (.lit (.take 8 (.lit (.pl (.take 9
 (.lit (.pl (.take 10 (.lit (.take 11 (.take 12 (.lit (ho 3 4 (.pl (.br (.lit (.inl (ho 4 8 (.pl (.br (.lit (.inl (.ob 6 (.ob 7 (.pl (.lit (.lit (.ob 6 (.lit (.lit (.ob 7 (.lit (.pl (hl 3 (.ob 6 (.lit (.lit (.ob 7 (.lit (.pl (hl 3 (.ob 6 (.lit (.lit (.ob 7 (.lit (.inl (.pl (.pl (.pl (.lit (.pl
 (.rounds 64 (.lit (.draw (List.range 8) none (List.range 8) (.take 0 (.take 1 (.take 2 (.ix (.take 3 (.lst (2 : Nat) (0 : Nat) (Value.string (ByteArray.mk (Array.mk [(65 : UInt8), (78 : UInt8), (78 : UInt8)]))) (.take 4 (.take 5 (.take 6 (.ix (.take 7 (.ob 5 (.take 8 (.pl (.lit (.lit (.draw
 (List.range 8) none (List.range 8) (.take 0 (.take 1 (.take 2 (.ix (.take 3 (.lst (2 : Nat) (1 : Nat) (Value.string (ByteArray.mk (Array.mk [(66 : UInt8), (69 : UInt8), (78 : UInt8)]))) (.take 4 (.take 5 (.take 6 (.ix (.take 7 (.ob 5 (.take 8 (.pl (hl 3 (.take 15 (.lit (.take 16 (.pl (.br (.lit
 (.inl (ho 8 8 (.pl (.br (.lit (.specg [] [9] [[Value.string (ByteArray.mk #[(65 : UInt8), (78 : UInt8), (78 : UInt8)]), .string (ByteArray.mk #[(66 : UInt8), (69 : UInt8), (78 : UInt8)])]] [] (fun ads0 x ↦ Value.string (ByteArray.mk #[(65 : UInt8), (78 : UInt8), (78 : UInt8), (32 : UInt8), (40 :
 UInt8), (99 : UInt8), (41 : UInt8)])) (.take 19 (.lit (.pl (.take 20 (.lit (.take 21 (.perm [] .nil))))))))) .nil))))) .nil)))))))))))))))))))))))))))))))))))))))))))))))))))))))))))))))))))))))) .nil))))) .nil)))))))))))))))))))))))))))))))))
theorem awk_x  : wpG Tryd.prog rE ([]) 400 4 [] (awk_h ) ([]) (fun _ => .bool true) = (∀ (b b_1 : Nat), e2 b 4 (e1 b 4 ([Value.string (ByteArray.mk (Array.mk [(65 : UInt8), (78 : UInt8), (78 : UInt8)])), .string (ByteArray.mk (Array.mk [(66 : UInt8), (69 : UInt8), (78 : UInt8)]))] = [Value.string (ByteArray.mk (Array.mk [(65 : UInt8), (78 : UInt8), (78 : UInt8)])), .string
 (ByteArray.mk (Array.mk [(66 : UInt8), (69 : UInt8), (78 : UInt8)]))] /\ (SpecG Tryd.prog rE [(some (Addr.mk b_1 (0 : Nat) none), [Value.string (ByteArray.mk #[(65 : UInt8), (78 : UInt8), (78 : UInt8)]), .string (ByteArray.mk #[(66 : UInt8), (69 : UInt8), (78 : UInt8)])])] (6 : FuncId) #[Value.agg
 #[Value.string (ByteArray.mk #[(79 : UInt8), (65 : UInt8), (75 : UInt8), (83 : UInt8)]), .slice (some (Addr.mk b_1 (0 : Nat) none)) (2 : Nat) (2 : Nat), .int .i64 1, .int .i64 2]] [] fun x ↦ Value.tuple #[Value.string oaS, .int .i64 0]) /\ (∀ (e : Ex), e ∈ rE -> e ∈ rE) /\ (SpecG Tryd.prog rE [] (9 :
 FuncId) #[Value.string oaS] [RowT.mk (9 : TypeId) (1 : Nat) (2 : Nat) [Value.string (ByteArray.mk #[(65 : UInt8), (78 : UInt8), (78 : UInt8)]), .string (ByteArray.mk #[(66 : UInt8), (69 : UInt8), (78 : UInt8)])]] fun ads ↦ Value.tuple #[Value.agg #[Value.string (ByteArray.mk #[(79 : UInt8), (65 :
 UInt8), (75 : UInt8), (83 : UInt8)]), .slice (Prod.fst (nthA ads (0 : Nat))) (2 : Nat) (Prod.snd (nthA ads (0 : Nat))), .int .i64 1, .int .i64 2], .slice none (0 : Nat) (0 : Nat)]) /\ (∀ (e : Ex), e ∈ rE -> e ∈ rE) /\ ∀ (a : Option Addr) (cap : Nat), AOK a 2 -> 2 ≤ cap -> ∀ (b : Nat), e2 b 4 (e1 b 3
 (b = b /\ True /\ (∀ (b b_2 : Nat), e2 b 4 (e1 b 3 (b = b /\ True /\ (∀ (b b_3 : Nat), b = b /\ b_3 = b_3 /\ b = b /\ b_3 = b_3 /\ b = b /\ b_3 = b_3 /\ b = b /\ b_3 = b_3 /\ (((0 : Int) ≤ (0 : Int) /\ (0 : Int) < (2 : Int)) /\ AOK a (2 : Nat)) /\ bk a = bk a /\ ofs a + (0 : Nat) = ofs a + (0 : Nat)
 /\ some (Value.string (ByteArray.mk (Array.mk [(65 : UInt8), (78 : UInt8), (78 : UInt8)]))) = some (Value.string (ByteArray.mk (Array.mk [(65 : UInt8), (78 : UInt8), (78 : UInt8)]))) /\ (((0 : Int) ≤ (0 : Int) /\ (0 : Int) < (2 : Int)) /\ AOK (some (Addr.mk b_2 (0 : Nat) none)) (2 : Nat)) /\ b_2 =
 b_2 /\ (((0 : Int) ≤ (1 : Int) /\ (1 : Int) < (2 : Int)) /\ AOK a (2 : Nat)) /\ bk a = bk a /\ ofs a + (1 : Nat) = ofs a + (1 : Nat) /\ some (Value.string (ByteArray.mk (Array.mk [(66 : UInt8), (69 : UInt8), (78 : UInt8)]))) = some (Value.string (ByteArray.mk (Array.mk [(66 : UInt8), (69 : UInt8),
 (78 : UInt8)]))) /\ (((0 : Int) ≤ (1 : Int) /\ (1 : Int) < (2 : Int)) /\ AOK (some (Addr.mk b_2 (0 : Nat) none)) (2 : Nat)) /\ b_2 = b_2 /\ True /\ (∀ (b b_4 : Nat), e2 b 4 (e1 b 3 (b = b /\ True /\ ([Value.string (ByteArray.mk (Array.mk [(65 : UInt8), (78 : UInt8), (78 : UInt8)])), .string
 (ByteArray.mk (Array.mk [(66 : UInt8), (69 : UInt8), (78 : UInt8)]))] = [Value.string (ByteArray.mk (Array.mk [(65 : UInt8), (78 : UInt8), (78 : UInt8)])), .string (ByteArray.mk (Array.mk [(66 : UInt8), (69 : UInt8), (78 : UInt8)]))] /\ (SpecG Tryd.prog [] [(some (Addr.mk b_4 (0 : Nat) none),
 [Value.string (ByteArray.mk #[(65 : UInt8), (78 : UInt8), (78 : UInt8)]), .string (ByteArray.mk #[(66 : UInt8), (69 : UInt8), (78 : UInt8)])])] (11 : FuncId) #[Value.agg #[Value.string (ByteArray.mk #[(79 : UInt8), (65 : UInt8), (75 : UInt8), (83 : UInt8)]), .slice (some (Addr.mk b_4 (0 : Nat)
 none)) (2 : Nat) (2 : Nat), .int .i64 1, .int .i64 2], .int .i64 1] [] fun x ↦ Value.string (ByteArray.mk #[(65 : UInt8), (78 : UInt8), (78 : UInt8), (32 : UInt8), (40 : UInt8), (99 : UInt8), (41 : UInt8)])) /\ (∀ (e : Ex), e ∈ [] -> e ∈ rE) /\ Value.bool true = Value.bool true) /\ True))) /\ True)
 /\ True))) /\ True))))) := by kernel_rfl
set_option maxHeartbeats 4000000 in
theorem awk_sp   : SpecG Tryd.prog rE ([]) 4 #[] ([]) (fun _ => .bool true) := by
  refine specG_of (h := awk_h ) (?_ : wpG Tryd.prog rE ([]) 400 4 [] (awk_h ) ([]) (fun _ => .bool true))
  rw [awk_x]
  (repeat' (first | with_reducible exact rfl | exact trivial | with_reducible assumption | (with_reducible exact txO_sp _ _ (by first | assumption | exact aokb _ _) (by first | assumption | exact Nat.le_refl _)) | (with_reducible exact pO_sp) | (with_reducible exact ttO_sp _ _ (by first | assumption | exact aokb _ _)) | exact aok0 | exact aokb _ _ | exact cU_len _ | exact cI_len _ | exact cB_len _ | exact cU_one _ | exact cI_one _ | exact cB_one _ | exact (fun _ h => h) | exact (fun _ h => (List.not_mem_nil h).elim) | (with_reducible refine e1_in ?_) | (with_reducible refine e2_in ?_) | (with_reducible refine lx_in (Nat.le_of_ble_eq_true rfl) ?_) | (with_reducible refine rqx_rf ?_) | (with_reducible refine rqx_in ?_ ?_ ?_) | (with_reducible apply And.intro) | (with_reducible intro _)))
  all_goals (first | rfl | decide | trace_state)
end Go.Proofs.YtjdldofgkhibnaaDoor
