/- Layer 5 (rules): the chapter's example. -/
import Derived.Test.YtjdldofgkhibnaaGreatDoorVz
import Derived.KernelRfl
import Derived.Test.YtjdldofgkhibnaaGreatDoorProg
import Derived.Test.YtjdldofgkhibnaaGreatDoorBrg
import Derived.Test.YtjdldofgkhibnaaGreatDoorBrt
import Derived.Test.YtjdldofgkhibnaaGreatDoorRda
import Derived.Test.YtjdldofgkhibnaaGreatDoorRub
import Derived.Test.YtjdldofgkhibnaaGreatDoorRca
import Derived.Test.YtjdldofgkhibnaaGreatDoorRcb
import Derived.Test.YtjdldofgkhibnaaGreatDoorRcc
set_option linter.unusedSimpArgs false
set_option linter.unusedVariables false
set_option maxRecDepth 100000
namespace Go.Proofs.YtjdldofgkhibnaaGreatDoor
open Go.RowKit


theorem tw_mo : mo twR = 120 := by decide +kernel
theorem moT_sp (a : Option Addr) (c : Nat) (hA : AOK a 1) : SpecG Tryz.prog [] [(a, [.int .i64 1, .int .i64 6, .int .i64 2])] 10 #[.agg #[.string ⟨#[84, 87, 69, 78, 84, 89]⟩, .int .i64 11, .int .i64 1, .int .i64 20, .int .i64 6, .int .i64 4, .int .i64 1, .int .i64 1, .bool true, .int .i64 0, .int .i64 0, .int .i64 2, .int .i64 5, .slice a 1 c]] [] (fun _ => .int .i64 120) := by
  have h := mst_sp twR ⟨a, c⟩ hA (by decide) (by decide)
  rw [tw_mo] at h
  exact h
theorem tw_al5 : alw twR (IntKind.i64.wrap (5 + 1)) = 2 := by decide +kernel
theorem tw_al6 : alw twR (IntKind.i64.wrap (6 + 1)) = 5 := by decide +kernel
theorem al5_sp (a : Option Addr) (c : Nat) (hA : AOK a 1) : SpecG Tryz.prog [] [(a, [.int .i64 1, .int .i64 6, .int .i64 2])] 11 #[.agg #[.string ⟨#[84, 87, 69, 78, 84, 89]⟩, .int .i64 11, .int .i64 1, .int .i64 20, .int .i64 6, .int .i64 4, .int .i64 1, .int .i64 1, .bool true, .int .i64 0, .int .i64 0, .int .i64 2, .int .i64 5, .slice a 1 c], .int .i64 5] [] (fun _ => .int .i64 2) := by
  have h := alp_sp twR ⟨a, c⟩ 5 hA (by decide)
  rw [tw_al5] at h
  exact h
theorem al6_sp (a : Option Addr) (c : Nat) (hA : AOK a 1) : SpecG Tryz.prog [] [(a, [.int .i64 1, .int .i64 6, .int .i64 2])] 11 #[.agg #[.string ⟨#[84, 87, 69, 78, 84, 89]⟩, .int .i64 11, .int .i64 1, .int .i64 20, .int .i64 6, .int .i64 4, .int .i64 1, .int .i64 1, .bool true, .int .i64 0, .int .i64 0, .int .i64 2, .int .i64 5, .slice a 1 c], .int .i64 6] [] (fun _ => .int .i64 5) := by
  have h := alp_sp twR ⟨a, c⟩ 6 hA (by decide)
  rw [tw_al6] at h
  exact h

def stT_h  : Hint := ho 1 14 (hp 3 (ho 1 20 (ho 0 28 (.perm [2] .nil))))
theorem stT_x  : wpG Tryz.prog [] ([]) 400 8 [.string ⟨#[84, 87, 69, 78, 84, 89]⟩] (stT_h ) ([⟨49, 3, 1, [.int .i64 1, .int .i64 6, .int .i64 2]⟩]) (fun ads => .tuple #[.agg #[.string ⟨#[84, 87, 69, 78, 84, 89]⟩, .int .i64 11, .int .i64 1, .int .i64 20, .int .i64 6, .int .i64 4, .int .i64 1, .int .i64 1, .bool true, .int .i64 0, .int .i64 0, .int .i64 2, .int .i64 5, .slice (nthA ads 0).1 1 (nthA ads 0).2], .int .i64 0]) = (∀ (b b_1 : Nat), e2 b_1 19 (∀ (b_2 : Nat), b_1 = b_1 /\ True /\ e1 b_1 14 (e2 b 14 (e1 b 14 ((49 : Nat) = (49 : Nat) /\ [Value.int .i64 1, .int .i64 6, .int .i64 2] = [Value.int .i64 1, .int .i64 6, .int .i64 2] /\ (List.length [Value.int .i64 1, .int .i64 6, .int .i64 2] = (3 : Nat) /\ (1 : Nat) ≤
 (9223372036854775807 : Nat) /\ (1 : Nat) ≤ (3 : Nat)) /\ Value.tuple (Array.mk [.agg (Array.mk [.string (ByteArray.mk (Array.mk [(84 : UInt8), (87 : UInt8), (69 : UInt8), (78 : UInt8), (84 : UInt8), (89 : UInt8)])), .int .i64 11, .int .i64 1, .int .i64 20, .int .i64 6, .int .i64 4, .int .i64 1, .int
 .i64 1, .bool true, .int .i64 0, .int .i64 0, .int .i64 2, .int .i64 5, .slice (some (Addr.mk b_2 (0 : Nat) none)) (1 : Nat) (1 : Nat)]), .int .i64 0]) = Value.tuple (Array.mk [.agg (Array.mk [.string (ByteArray.mk (Array.mk [(84 : UInt8), (87 : UInt8), (69 : UInt8), (78 : UInt8), (84 : UInt8), (89
 : UInt8)])), .int .i64 11, .int .i64 1, .int .i64 20, .int .i64 6, .int .i64 4, .int .i64 1, .int .i64 1, .bool true, .int .i64 0, .int .i64 0, .int .i64 2, .int .i64 5, .slice (some (Addr.mk b_2 (0 : Nat) none)) (1 : Nat) (1 : Nat)]), .int .i64 0])))))) := by kernel_rfl
set_option maxHeartbeats 4000000 in
theorem stT_sp   : SpecG Tryz.prog [] ([]) 8 #[.string ⟨#[84, 87, 69, 78, 84, 89]⟩] ([⟨49, 3, 1, [.int .i64 1, .int .i64 6, .int .i64 2]⟩]) (fun ads => .tuple #[.agg #[.string ⟨#[84, 87, 69, 78, 84, 89]⟩, .int .i64 11, .int .i64 1, .int .i64 20, .int .i64 6, .int .i64 4, .int .i64 1, .int .i64 1, .bool true, .int .i64 0, .int .i64 0, .int .i64 2, .int .i64 5, .slice (nthA ads 0).1 1 (nthA ads 0).2], .int .i64 0]) := by
  refine specG_of (h := stT_h ) (?_ : wpG Tryz.prog [] ([]) 400 8 [.string ⟨#[84, 87, 69, 78, 84, 89]⟩] (stT_h ) ([⟨49, 3, 1, [.int .i64 1, .int .i64 6, .int .i64 2]⟩]) (fun ads => .tuple #[.agg #[.string ⟨#[84, 87, 69, 78, 84, 89]⟩, .int .i64 11, .int .i64 1, .int .i64 20, .int .i64 6, .int .i64 4, .int .i64 1, .int .i64 1, .bool true, .int .i64 0, .int .i64 0, .int .i64 2, .int .i64 5, .slice (nthA ads 0).1 1 (nthA ads 0).2], .int .i64 0]))
  rw [stT_x]
  (repeat' (first | with_reducible exact rfl | exact trivial | with_reducible assumption | exact aok0 | exact aokb _ _ | exact cU_len _ | exact cI_len _ | exact cB_len _ | exact cU_one _ | exact cI_one _ | exact cB_one _ | exact (fun _ h => h) | exact (fun _ h => (List.not_mem_nil h).elim) | (with_reducible refine e1_in ?_) | (with_reducible refine e2_in ?_) | (with_reducible refine lx_in (Nat.le_of_ble_eq_true rfl) ?_) | (with_reducible refine rqx_rf ?_) | (with_reducible refine rqx_in ?_ ?_ ?_) | (with_reducible apply And.intro) | (with_reducible intro _)))
  all_goals (first | rfl | decide | trace_state)
def awk_h  : Hint := .specg [] [] [] [RowT.mk (49 : TypeId) (3 : Nat) (1 : Nat) [Value.int .i64 1, .int .i64 6, .int .i64 2]] (fun ads0 ads ↦ Value.tuple #[Value.agg #[Value.string (ByteArray.mk #[(84 : UInt8), (87 : UInt8), (69 : UInt8), (78 : UInt8), (84 : UInt8), (89 : UInt8)]), .int .i64 11, .int .i64 1, .int .i64
 20, .int .i64 6, .int .i64 4, .int .i64 1, .int .i64 1, .bool true, .int .i64 0, .int .i64 0, .int .i64 2, .int .i64 5, .slice (Prod.fst (nthA ads (0 : Nat))) (1 : Nat) (Prod.snd (nthA ads (0 : Nat)))], .int .i64 0]) (ho 1 28 (.specg rE [0] [[Value.int .i64 1, .int .i64 6, .int .i64 2]] [] (fun ads0
 x ↦ Value.tuple #[Value.string twS, .int .i64 0]) (.inl (ho 3 14 (hp 3 (ho 2 28 (ho 4 14 (.specg rE [] [] [RowT.mk (49 : TypeId) (3 : Nat) (1 : Nat) [Value.int .i64 1, .int .i64 6, .int .i64 2]] (fun ads0 ads ↦ Value.tuple #[Value.agg #[Value.string (ByteArray.mk #[(84 : UInt8), (87 : UInt8), (69 :
 UInt8), (78 : UInt8), (84 : UInt8), (89 : UInt8)]), .int .i64 11, .int .i64 1, .int .i64 20, .int .i64 6, .int .i64 4, .int .i64 1, .int .i64 1, .bool true, .int .i64 0, .int .i64 0, .int .i64 2, .int .i64 5, .slice (Prod.fst (nthA ads (0 : Nat))) (1 : Nat) (Prod.snd (nthA ads (0 : Nat)))], .slice
 none (0 : Nat) (0 : Nat)]) (ho 6 14 (.pl (.lit (.lit (.pl (hl 3 (.pl (.lit (.lit (ho 1 14 (.lit (.specg [] [0] [[Value.int .i64 1, .int .i64 6, .int .i64 2]] [] (fun ads0 x ↦ Value.int .i64 120) (.lit (.pl (.lit (.lit (ho 1 14 (.lit (.specg [] [0] [[Value.int .i64 1, .int .i64 6, .int .i64 2]] []
 (fun ads0 x ↦ Value.int .i64 2) (.lit (.pl (.lit (.lit (ho 1 14 (.lit (.specg [] [0] [[Value.int .i64 1, .int .i64 6, .int .i64 2]] [] (fun ads0 x ↦ Value.int .i64 5) (.lit (.pl (hl 3 (.inl (.inl (.pl (.pl (hl 3 (hp 2 (.lit (.pl (hl 4 (hp 2 (.lit (ho 6 14 (.lit (ho 1 14 (.lit (.inl (.ob 7 (.ob 8
 (.pl (.lit (.lit (.ob 7 (.lit (.lit (.ob 8 (.lit (.pl (hl 3 (.ob 7 (.lit (.lit (.ob 8 (.lit (.pl (hl 3 (.ob 7 (.lit (.lit (.ob 8 (.lit (.pl (hl 3 (.ob 7 (.lit (.lit (.ob 8 (.lit (.pl (hl 3 (.ob 7 (.lit (.lit (.ob 8 (.lit (.pl (hl 3 (.ob 7 (.lit (.lit (.ob 8 (.lit (.pl (hl 3 (.ob 7 (.lit (.lit (.ob 8
 (.lit (.pl (hl 3 (.ob 7 (.lit (.lit (.ob 8 (.lit (.pl (hl 3 (.ob 7 (.lit (.lit (.ob 8 (.lit (.pl (hl 3 (.ob 7 (.lit (.lit (.ob 8 (.lit (.pl (hl 3 (.ob 7 (.lit (.lit (.ob 8 (.lit (.pl (hl 3 (.ob 7 (.lit (.lit (.ob 8 (.lit (.pl (hl 3 (.ob 7 (.lit (.lit (.ob 8 (.lit (.inl (.pl (.pl (.pl (.lit (.pl
 (.rounds 64 (.lit (.draw (List.range 9) none (List.range 9) (.take 0 (.take 1 (.take 2 (.ix (.take 3 (.lst (5 : Nat) (0 : Nat) (Value.int .i64 1) (.lst (5 : Nat) (1 : Nat) (Value.int .i64 6) (.lst (5 : Nat) (2 : Nat) (Value.int .i64 2) (.take 4 (.take 5 (.take 6 (.ix (.take 7 (.lst (0 : Nat) (0 :
 Nat) (Value.int .i64 1) (.lst (0 : Nat) (1 : Nat) (Value.int .i64 6) (.lst (0 : Nat) (2 : Nat) (Value.int .i64 2) (.take 8 (hl 4 (.perm []
 .nil)))))))))))))))))))))))))))))))))))))))))))))))))))))))))))))))))))))))))))))))))))))))))))))))))))))))))))))))))))))))))))))))))))))))))))))))))))))))))))))))))))))))))))))))
theorem awk_x  : wpG Tryz.prog rE ([]) 400 4 [] (awk_h ) ([]) (fun _ => .bool true) = ((SpecG Tryz.prog [] [] (8 : FuncId) #[Value.string (ByteArray.mk #[(84 : UInt8), (87 : UInt8), (69 : UInt8), (78 : UInt8), (84 : UInt8), (89 : UInt8)])] [RowT.mk (49 : TypeId) (3 : Nat) (1 : Nat) [Value.int .i64 1, .int .i64 6, .int .i64 2]] fun ads ↦ Value.tuple #[Value.agg #[Value.string
 (ByteArray.mk #[(84 : UInt8), (87 : UInt8), (69 : UInt8), (78 : UInt8), (84 : UInt8), (89 : UInt8)]), .int .i64 11, .int .i64 1, .int .i64 20, .int .i64 6, .int .i64 4, .int .i64 1, .int .i64 1, .bool true, .int .i64 0, .int .i64 0, .int .i64 2, .int .i64 5, .slice (Prod.fst (nthA ads (0 : Nat))) (1
 : Nat) (Prod.snd (nthA ads (0 : Nat)))], .int .i64 0]) /\ (∀ (e : Ex), e ∈ [] -> e ∈ rE) /\ ∀ (a : Option Addr) (cap : Nat), AOK a 1 -> 1 ≤ cap -> ∀ (b : Nat), e2 b 14 (e1 b 14 ([Value.int .i64 1, .int .i64 6, .int .i64 2] = [Value.int .i64 1, .int .i64 6, .int .i64 2] /\ (SpecG Tryz.prog rE [(a,
 [Value.int .i64 1, .int .i64 6, .int .i64 2])] (6 : FuncId) #[Value.agg #[Value.string (ByteArray.mk #[(84 : UInt8), (87 : UInt8), (69 : UInt8), (78 : UInt8), (84 : UInt8), (89 : UInt8)]), .int .i64 11, .int .i64 1, .int .i64 20, .int .i64 6, .int .i64 4, .int .i64 1, .int .i64 1, .bool true, .int
 .i64 0, .int .i64 0, .int .i64 2, .int .i64 5, .slice a (1 : Nat) cap]] [] fun x ↦ Value.tuple #[Value.string twS, .int .i64 0]) /\ (∀ (e : Ex), e ∈ rE -> e ∈ rE) /\ ∀ (b_1 b_2 : Nat), e2 b_2 14 (e2 b_1 14 (e1 b_1 14 (∀ (b_3 : Nat), e2 b_3 14 ((SpecG Tryz.prog rE [] (9 : FuncId) #[Value.string twS]
 [RowT.mk (49 : TypeId) (3 : Nat) (1 : Nat) [Value.int .i64 1, .int .i64 6, .int .i64 2]] fun ads ↦ Value.tuple #[Value.agg #[Value.string (ByteArray.mk #[(84 : UInt8), (87 : UInt8), (69 : UInt8), (78 : UInt8), (84 : UInt8), (89 : UInt8)]), .int .i64 11, .int .i64 1, .int .i64 20, .int .i64 6, .int
 .i64 4, .int .i64 1, .int .i64 1, .bool true, .int .i64 0, .int .i64 0, .int .i64 2, .int .i64 5, .slice (Prod.fst (nthA ads (0 : Nat))) (1 : Nat) (Prod.snd (nthA ads (0 : Nat)))], .slice none (0 : Nat) (0 : Nat)]) /\ (∀ (e : Ex), e ∈ rE -> e ∈ rE) /\ ∀ (a_1 : Option Addr) (cap_1 : Nat), AOK a_1 1
 -> 1 ≤ cap_1 -> ∀ (b_4 : Nat), e2 b_4 14 (e1 b 14 ([Value.int .i64 1, .int .i64 6, .int .i64 2] = [Value.int .i64 1, .int .i64 6, .int .i64 2] /\ (SpecG Tryz.prog [] [(a, [Value.int .i64 1, .int .i64 6, .int .i64 2])] (10 : FuncId) #[Value.agg #[Value.string (ByteArray.mk #[(84 : UInt8), (87 :
 UInt8), (69 : UInt8), (78 : UInt8), (84 : UInt8), (89 : UInt8)]), .int .i64 11, .int .i64 1, .int .i64 20, .int .i64 6, .int .i64 4, .int .i64 1, .int .i64 1, .bool true, .int .i64 0, .int .i64 0, .int .i64 2, .int .i64 5, .slice a (1 : Nat) cap]] [] fun x ↦ Value.int .i64 120) /\ (∀ (e : Ex), e ∈
 [] -> e ∈ rE) /\ e1 b 14 ([Value.int .i64 1, .int .i64 6, .int .i64 2] = [Value.int .i64 1, .int .i64 6, .int .i64 2] /\ (SpecG Tryz.prog [] [(a, [Value.int .i64 1, .int .i64 6, .int .i64 2])] (11 : FuncId) #[Value.agg #[Value.string (ByteArray.mk #[(84 : UInt8), (87 : UInt8), (69 : UInt8), (78 :
 UInt8), (84 : UInt8), (89 : UInt8)]), .int .i64 11, .int .i64 1, .int .i64 20, .int .i64 6, .int .i64 4, .int .i64 1, .int .i64 1, .bool true, .int .i64 0, .int .i64 0, .int .i64 2, .int .i64 5, .slice a (1 : Nat) cap], .int .i64 5] [] fun x ↦ Value.int .i64 2) /\ (∀ (e : Ex), e ∈ [] -> e ∈ rE) /\
 e1 b 14 ([Value.int .i64 1, .int .i64 6, .int .i64 2] = [Value.int .i64 1, .int .i64 6, .int .i64 2] /\ (SpecG Tryz.prog [] [(a, [Value.int .i64 1, .int .i64 6, .int .i64 2])] (11 : FuncId) #[Value.agg #[Value.string (ByteArray.mk #[(84 : UInt8), (87 : UInt8), (69 : UInt8), (78 : UInt8), (84 :
 UInt8), (89 : UInt8)]), .int .i64 11, .int .i64 1, .int .i64 20, .int .i64 6, .int .i64 4, .int .i64 1, .int .i64 1, .bool true, .int .i64 0, .int .i64 0, .int .i64 2, .int .i64 5, .slice a (1 : Nat) cap], .int .i64 6] [] fun x ↦ Value.int .i64 5) /\ (∀ (e : Ex), e ∈ [] -> e ∈ rE) /\ e1 b_4 14 (e1 b
 14 (∀ (b b_5 : Nat), b = b /\ b_5 = b_5 /\ b = b /\ b_5 = b_5 /\ b = b /\ b_5 = b_5 /\ b = b /\ b_5 = b_5 /\ b = b /\ b_5 = b_5 /\ b = b /\ b_5 = b_5 /\ b = b /\ b_5 = b_5 /\ b = b /\ b_5 = b_5 /\ b = b /\ b_5 = b_5 /\ b = b /\ b_5 = b_5 /\ b = b /\ b_5 = b_5 /\ b = b /\ b_5 = b_5 /\ b = b /\ b_5 =
 b_5 /\ b = b /\ b_5 = b_5 /\ (((0 : Int) ≤ (0 : Int) /\ (0 : Int) < (1 : Int)) /\ AOK a_1 (1 : Nat)) /\ bk a_1 = bk a_1 /\ ofs a_1 + (0 : Nat) = ofs a_1 + (0 : Nat) /\ some (Value.int .i64 1) = some (Value.int .i64 1) /\ bk a_1 = bk a_1 /\ ofs a_1 + (0 : Nat) + (1 : Nat) = ofs a_1 + (1 : Nat) /\
 some (Value.int .i64 6) = some (Value.int .i64 6) /\ bk a_1 = bk a_1 /\ ofs a_1 + (0 : Nat) + (2 : Nat) = ofs a_1 + (2 : Nat) /\ some (Value.int .i64 2) = some (Value.int .i64 2) /\ (((0 : Int) ≤ (0 : Int) /\ (0 : Int) < (1 : Int)) /\ AOK a (1 : Nat)) /\ bk a = bk a /\ ofs a + (0 : Nat) = ofs a + (0
 : Nat) /\ some (Value.int .i64 1) = some (Value.int .i64 1) /\ bk a = bk a /\ ofs a + (0 : Nat) + (1 : Nat) = ofs a + (1 : Nat) /\ some (Value.int .i64 6) = some (Value.int .i64 6) /\ bk a = bk a /\ ofs a + (0 : Nat) + (2 : Nat) = ofs a + (2 : Nat) /\ some (Value.int .i64 2) = some (Value.int .i64
 2) /\ Value.bool true = Value.bool true))))))))))))) := by kernel_rfl
set_option maxHeartbeats 4000000 in
theorem awk_sp   : SpecG Tryz.prog rE ([]) 4 #[] ([]) (fun _ => .bool true) := by
  refine specG_of (h := awk_h ) (?_ : wpG Tryz.prog rE ([]) 400 4 [] (awk_h ) ([]) (fun _ => .bool true))
  rw [awk_x]
  (repeat' (first | with_reducible exact rfl | exact trivial | with_reducible assumption | (with_reducible exact stT_sp) | (with_reducible exact txT_sp _ _ (by first | assumption | exact aokb _ _)) | (with_reducible exact pT_sp) | (with_reducible exact moT_sp _ _ (by first | assumption | exact aokb _ _)) | (with_reducible exact al5_sp _ _ (by first | assumption | exact aokb _ _)) | (with_reducible exact al6_sp _ _ (by first | assumption | exact aokb _ _)) | exact aok0 | exact aokb _ _ | exact cU_len _ | exact cI_len _ | exact cB_len _ | exact cU_one _ | exact cI_one _ | exact cB_one _ | exact (fun _ h => h) | exact (fun _ h => (List.not_mem_nil h).elim) | (with_reducible refine e1_in ?_) | (with_reducible refine e2_in ?_) | (with_reducible refine lx_in (Nat.le_of_ble_eq_true rfl) ?_) | (with_reducible refine rqx_rf ?_) | (with_reducible refine rqx_in ?_ ?_ ?_) | (with_reducible apply And.intro) | (with_reducible intro _)))
  all_goals (first | rfl | decide | trace_state)
end Go.Proofs.YtjdldofgkhibnaaGreatDoor
