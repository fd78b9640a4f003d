/- Layer 7 (notation): the law that an over is read back from its symbols (NotationJoins). -/
import Derived.Test.YtkgdlimekkdekaaDoorVz
import Derived.KernelRfl
import Derived.Test.YtkgdlimekkdekaaDoorProg
import Derived.Test.YtkgdlimekkdekaaDoorBrd
import Derived.Test.YtkgdlimekkdekaaDoorNoK
import Derived.Test.YtkgdlimekkdekaaDoorSpc
import Derived.Test.YtkgdlimekkdekaaDoorSqw
import Derived.Test.YtkgdlimekkdekaaDoorNpa
import Derived.Test.YtkgdlimekkdekaaDoorNpb
set_option linter.unusedSimpArgs false
set_option linter.unusedVariables false
set_option maxRecDepth 100000
namespace Go.Proofs.YtkgdlimekkdekaaDoor
open Go.RowKit


def n12 (ds : List Dl) : Nat := (if (12 : Int) < ds.length then 12 else (ds.length : Int)).toNat
theorem n12_le (ds : List Dl) : n12 ds ≤ ds.length ∧ n12 ds ≤ 12 := by unfold n12; split <;> omega
theorem ov_sz12 (ds : List Dl) : (str (ovL (ds.take (n12 ds)))).size ≤ 1000000 := by
  rw [str_size]
  unfold ovL
  split
  · have h := join_len ((ds.take (n12 ds)).map sym) (fun x hx => by obtain ⟨d, _, rfl⟩ := List.mem_map.1 hx; exact sym_len d)
    have := n12_le ds
    rw [List.length_map, ln_take this.1] at h
    omega
  · simp
theorem n12_eq (ds : List Dl) : (if (12 : Int) < (ds.length : Int) then (12 : Int) else (ds.length : Int)).toNat = n12 ds := rfl
theorem wfT {ds : List Dl} (hw : ∀ d ∈ ds, Wf d) (n : Nat) : ∀ d ∈ ds.take n, Wf d := fun d hd => hw d (List.mem_of_mem_take hd)
theorem jn_cmp {ds : List Dl} (hw : ∀ d ∈ ds, Wf d) (h : ovE (ds.take (n12 ds)) = 0) (h0 : ¬ n12 ds = 0) : ((Lib.countByte (ovL (ds.take (n12 ds))) 32 : Nat) : Int) = IntKind.i64.wrap ((n12 ds : Int) - 1) := by
  have h1 := ov_cnt (wfT hw _) h
  rw [str_list, ln_take (n12_le ds).1] at h1
  rw [h1, IntWalk.i64_in _ (by have := n12_le ds; omega)]
  omega
theorem nz_f {n : Nat} (h : ((n : Int) == 0) = false) : ¬ n = 0 := fun e => by rw [e] at h; simp at h
theorem jn_all {ds : List Dl} (hw : ∀ d ∈ ds, Wf d) (h : ovE (ds.take (n12 ds)) = 0) : (poE (str (ovL (ds.take (n12 ds)))) == 0 && (decide ((poD (str (ovL (ds.take (n12 ds))))).take (poD (str (ovL (ds.take (n12 ds))))).length = ds.take (n12 ds)) && (((n12 ds : Nat) : Int) == 0 || ((Lib.countByte (ovL (ds.take (n12 ds))) 32 : Nat) : Int) == IntKind.i64.wrap ((n12 ds : Int) - 1)))) = true := by
  obtain ⟨f1, f2⟩ := po_back (wfT hw (n12 ds)) h
  rw [f1, f2, List.take_length, decide_eq_true rfl]
  by_cases h0 : n12 ds = 0
  · rw [h0]; rfl
  · rw [jn_cmp hw h h0]; simp

def notationJoins_h (a : Option Addr) (ds : List Dl) (c : Nat) : Hint := .specg [] [] [] [] (fun ads0 x ↦ Value.bool true) (.lit (.inl (.pl (.pl (.ix (.specg [] [0] [cD ds] [] (fun ads0 x ↦ Value.tuple #[Value.string (str (ovL (List.take (Int.toNat (if (12 : Int) < (↑(List.length ds) : Int) then (12 : Int) else (↑(List.length ds) : Int))) ds))), .int .i64 (ovE (List.take
 (Int.toNat (if (12 : Int) < (↑(List.length ds) : Int) then (12 : Int) else (↑(List.length ds) : Int))) ds))]) (.pl (.split (.pl (.perm [] .nil)) (.specg rE [] [] [RowT.mk (41 : TypeId) (12 : Nat) (List.length (poD (str (ovL (List.take (Int.toNat (if (12 : Int) < (↑(List.length ds) : Int) then (12 :
 Int) else (↑(List.length ds) : Int))) ds))))) (cD (poD (str (ovL (List.take (Int.toNat (if (12 : Int) < (↑(List.length ds) : Int) then (12 : Int) else (↑(List.length ds) : Int))) ds)))))] (fun ads0 ads ↦ Value.tuple #[Value.slice (Prod.fst (nthA ads (0 : Nat))) (List.length (poD (str (ovL (List.take
 (Int.toNat (if (12 : Int) < (↑(List.length ds) : Int) then (12 : Int) else (↑(List.length ds) : Int))) ds))))) (Prod.snd (nthA ads (0 : Nat))), .int .i64 (poE (str (ovL (List.take (Int.toNat (if (12 : Int) < (↑(List.length ds) : Int) then (12 : Int) else (↑(List.length ds) : Int))) ds))))]) (.cut
 [((2 : Nat), .bool (poE (str (ovL (List.take (Int.toNat (if (12 : Int) < (↑(List.length ds) : Int) then (12 : Int) else (↑(List.length ds) : Int))) ds))) == 0 && (decide (List.take (List.length (poD (str (ovL (List.take (Int.toNat (if (12 : Int) < (↑(List.length ds) : Int) then (12 : Int) else
 (↑(List.length ds) : Int))) ds))))) (poD (str (ovL (List.take (Int.toNat (if (12 : Int) < (↑(List.length ds) : Int) then (12 : Int) else (↑(List.length ds) : Int))) ds)))) = List.take (Int.toNat (if (12 : Int) < (↑(List.length ds) : Int) then (12 : Int) else (↑(List.length ds) : Int))) ds) &&
 ((↑(Int.toNat (if (12 : Int) < (↑(List.length ds) : Int) then (12 : Int) else (↑(List.length ds) : Int))) : Int) == (0 : Int) || (↑(Lib.countByte (ovL (List.take (Int.toNat (if (12 : Int) < (↑(List.length ds) : Int) then (12 : Int) else (↑(List.length ds) : Int))) ds)) (32 : UInt8)) : Int) ==
 IntKind.i64.wrap ((↑(Int.toNat (if (12 : Int) < (↑(List.length ds) : Int) then (12 : Int) else (↑(List.length ds) : Int))) : Int) - (1 : Int))))))] (.pl (.split (.lit (.lit (.specg [] [1, 0] [cD (poD (str (ovL (List.take (Int.toNat (if (12 : Int) < (↑(List.length ds) : Int) then (12 : Int) else
 (↑(List.length ds) : Int))) ds)))), cD ds] [] (fun ads0 x ↦ Value.bool (decide (List.take (List.length (poD (str (ovL (List.take (Int.toNat (if (12 : Int) < (↑(List.length ds) : Int) then (12 : Int) else (↑(List.length ds) : Int))) ds))))) (poD (str (ovL (List.take (Int.toNat (if (12 : Int) <
 (↑(List.length ds) : Int) then (12 : Int) else (↑(List.length ds) : Int))) ds)))) = List.take (Int.toNat (if (12 : Int) < (↑(List.length ds) : Int) then (12 : Int) else (↑(List.length ds) : Int))) ds))) (.lit (.split (.lit (hp 2 (.split (hl 7 (.lit .nil)) (.lit (.specg [] [] [] [] (fun ads0 x ↦
 Value.int .i64 (↑(Lib.countByte (Array.toList (ByteArray.data (str (ovL (List.take (Int.toNat (if (12 : Int) < (↑(List.length ds) : Int) then (12 : Int) else (↑(List.length ds) : Int))) ds))))) (32 : UInt8)) : Int)) (.lit (.lit (.pl (.lit (.lit (.pl (.lit (.lit (.lit .nil)))))))))))))) (hl 4 (.lit
 .nil))))))) (hl 8 (.lit .nil)))) (.perm [] .nil)))))))))))
theorem notationJoins_x (a : Option Addr) (ds : List Dl) (c : Nat) : wpG Tryd.prog rE ([(a, cD ds)]) 400 4 [.slice a ds.length c] (notationJoins_h a ds c) ([]) (fun _ => .bool true) = ((SpecG Tryd.prog [] [] (6 : FuncId) #[] [] fun x ↦ Value.bool true) /\ (∀ (e : Ex), e ∈ [] -> e ∈ rE) /\ (((0 : Int) ≤ if (12 : Int) < (↑(List.length ds) : Int) then (12 : Int) else (↑(List.length ds) : Int)) /\ (if (12 : Int) < (↑(List.length ds) : Int) then (12 : Int) else (↑(List.length ds) : Int))
 ≤ (↑c : Int)) /\ cD ds = cD ds /\ (SpecG Tryd.prog [] [(a, cD ds)] (8 : FuncId) #[Value.slice a (Int.toNat (if (12 : Int) < (↑(List.length ds) : Int) then (12 : Int) else (↑(List.length ds) : Int))) c] [] fun x ↦ Value.tuple #[Value.string (str (ovL (List.take (Int.toNat (if (12 : Int) <
 (↑(List.length ds) : Int) then (12 : Int) else (↑(List.length ds) : Int))) ds))), .int .i64 (ovE (List.take (Int.toNat (if (12 : Int) < (↑(List.length ds) : Int) then (12 : Int) else (↑(List.length ds) : Int))) ds))]) /\ (∀ (e : Ex), e ∈ [] -> e ∈ rE) /\ ((ovE (List.take (Int.toNat (if (12 : Int) <
 (↑(List.length ds) : Int) then (12 : Int) else (↑(List.length ds) : Int))) ds) != 0) = true -> Value.bool (ByteArray.toList (str (ovL (List.take (Int.toNat (if (12 : Int) < (↑(List.length ds) : Int) then (12 : Int) else (↑(List.length ds) : Int))) ds))) == ByteArray.toList (ByteArray.mk (Array.mk
 []))) = Value.bool true) /\ ((ovE (List.take (Int.toNat (if (12 : Int) < (↑(List.length ds) : Int) then (12 : Int) else (↑(List.length ds) : Int))) ds) != 0) = false -> (SpecG Tryd.prog rE [] (10 : FuncId) #[Value.string (str (ovL (List.take (Int.toNat (if (12 : Int) < (↑(List.length ds) : Int) then
 (12 : Int) else (↑(List.length ds) : Int))) ds)))] [RowT.mk (41 : TypeId) (12 : Nat) (List.length (poD (str (ovL (List.take (Int.toNat (if (12 : Int) < (↑(List.length ds) : Int) then (12 : Int) else (↑(List.length ds) : Int))) ds))))) (cD (poD (str (ovL (List.take (Int.toNat (if (12 : Int) <
 (↑(List.length ds) : Int) then (12 : Int) else (↑(List.length ds) : Int))) ds)))))] fun ads ↦ Value.tuple #[Value.slice (Prod.fst (nthA ads (0 : Nat))) (List.length (poD (str (ovL (List.take (Int.toNat (if (12 : Int) < (↑(List.length ds) : Int) then (12 : Int) else (↑(List.length ds) : Int)))
 ds))))) (Prod.snd (nthA ads (0 : Nat))), .int .i64 (poE (str (ovL (List.take (Int.toNat (if (12 : Int) < (↑(List.length ds) : Int) then (12 : Int) else (↑(List.length ds) : Int))) ds))))]) /\ (∀ (e : Ex), e ∈ rE -> e ∈ rE) /\ ∀ (a_1 : Option Addr) (cap : Nat), AOK a_1 (List.length (poD (str (ovL
 (List.take (Int.toNat (if (12 : Int) < (↑(List.length ds) : Int) then (12 : Int) else (↑(List.length ds) : Int))) ds))))) -> List.length (poD (str (ovL (List.take (Int.toNat (if (12 : Int) < (↑(List.length ds) : Int) then (12 : Int) else (↑(List.length ds) : Int))) ds)))) ≤ cap -> (((poE (str (ovL
 (List.take (Int.toNat (if (12 : Int) < (↑(List.length ds) : Int) then (12 : Int) else (↑(List.length ds) : Int))) ds))) == 0) = true -> cD (poD (str (ovL (List.take (Int.toNat (if (12 : Int) < (↑(List.length ds) : Int) then (12 : Int) else (↑(List.length ds) : Int))) ds)))) = cD (poD (str (ovL
 (List.take (Int.toNat (if (12 : Int) < (↑(List.length ds) : Int) then (12 : Int) else (↑(List.length ds) : Int))) ds)))) /\ cD ds = cD ds /\ (SpecG Tryd.prog [] [(a_1, cD (poD (str (ovL (List.take (Int.toNat (if (12 : Int) < (↑(List.length ds) : Int) then (12 : Int) else (↑(List.length ds) : Int)))
 ds))))), (a, cD ds)] (12 : FuncId) #[Value.slice a_1 (List.length (poD (str (ovL (List.take (Int.toNat (if (12 : Int) < (↑(List.length ds) : Int) then (12 : Int) else (↑(List.length ds) : Int))) ds))))) cap, .slice a (Int.toNat (if (12 : Int) < (↑(List.length ds) : Int) then (12 : Int) else
 (↑(List.length ds) : Int))) c] [] fun x ↦ Value.bool (decide (List.take (List.length (poD (str (ovL (List.take (Int.toNat (if (12 : Int) < (↑(List.length ds) : Int) then (12 : Int) else (↑(List.length ds) : Int))) ds))))) (poD (str (ovL (List.take (Int.toNat (if (12 : Int) < (↑(List.length ds) :
 Int) then (12 : Int) else (↑(List.length ds) : Int))) ds)))) = List.take (Int.toNat (if (12 : Int) < (↑(List.length ds) : Int) then (12 : Int) else (↑(List.length ds) : Int))) ds))) /\ (∀ (e : Ex), e ∈ [] -> e ∈ rE) /\ (decide (List.take (List.length (poD (str (ovL (List.take (Int.toNat (if (12 :
 Int) < (↑(List.length ds) : Int) then (12 : Int) else (↑(List.length ds) : Int))) ds))))) (poD (str (ovL (List.take (Int.toNat (if (12 : Int) < (↑(List.length ds) : Int) then (12 : Int) else (↑(List.length ds) : Int))) ds)))) = List.take (Int.toNat (if (12 : Int) < (↑(List.length ds) : Int) then (12
 : Int) else (↑(List.length ds) : Int))) ds) = true -> (((↑(Int.toNat (if (12 : Int) < (↑(List.length ds) : Int) then (12 : Int) else (↑(List.length ds) : Int))) : Int) == (0 : Int)) = true -> Value.bool true = Value.bool (poE (str (ovL (List.take (Int.toNat (if (12 : Int) < (↑(List.length ds) : Int)
 then (12 : Int) else (↑(List.length ds) : Int))) ds))) == 0 && (decide (List.take (List.length (poD (str (ovL (List.take (Int.toNat (if (12 : Int) < (↑(List.length ds) : Int) then (12 : Int) else (↑(List.length ds) : Int))) ds))))) (poD (str (ovL (List.take (Int.toNat (if (12 : Int) < (↑(List.length
 ds) : Int) then (12 : Int) else (↑(List.length ds) : Int))) ds)))) = List.take (Int.toNat (if (12 : Int) < (↑(List.length ds) : Int) then (12 : Int) else (↑(List.length ds) : Int))) ds) && ((↑(Int.toNat (if (12 : Int) < (↑(List.length ds) : Int) then (12 : Int) else (↑(List.length ds) : Int))) :
 Int) == (0 : Int) || (↑(Lib.countByte (ovL (List.take (Int.toNat (if (12 : Int) < (↑(List.length ds) : Int) then (12 : Int) else (↑(List.length ds) : Int))) ds)) (32 : UInt8)) : Int) == IntKind.i64.wrap ((↑(Int.toNat (if (12 : Int) < (↑(List.length ds) : Int) then (12 : Int) else (↑(List.length ds)
 : Int))) : Int) - (1 : Int))))) /\ True) /\ (((↑(Int.toNat (if (12 : Int) < (↑(List.length ds) : Int) then (12 : Int) else (↑(List.length ds) : Int))) : Int) == (0 : Int)) = false -> (SpecG Tryd.prog [] [] (13 : FuncId) #[Value.string (str (ovL (List.take (Int.toNat (if (12 : Int) < (↑(List.length
 ds) : Int) then (12 : Int) else (↑(List.length ds) : Int))) ds))), .string (ByteArray.mk #[(32 : UInt8)])] [] fun x ↦ Value.int .i64 (↑(Lib.countByte (Array.toList (ByteArray.data (str (ovL (List.take (Int.toNat (if (12 : Int) < (↑(List.length ds) : Int) then (12 : Int) else (↑(List.length ds) :
 Int))) ds))))) (32 : UInt8)) : Int)) /\ (∀ (e : Ex), e ∈ [] -> e ∈ rE) /\ Value.bool ((↑(Lib.countByte (ovL (List.take (Int.toNat (if (12 : Int) < (↑(List.length ds) : Int) then (12 : Int) else (↑(List.length ds) : Int))) ds)) (32 : UInt8)) : Int) == IntKind.i64.wrap ((↑(Int.toNat (if (12 : Int) <
 (↑(List.length ds) : Int) then (12 : Int) else (↑(List.length ds) : Int))) : Int) - (1 : Int))) = Value.bool (poE (str (ovL (List.take (Int.toNat (if (12 : Int) < (↑(List.length ds) : Int) then (12 : Int) else (↑(List.length ds) : Int))) ds))) == 0 && (decide (List.take (List.length (poD (str (ovL
 (List.take (Int.toNat (if (12 : Int) < (↑(List.length ds) : Int) then (12 : Int) else (↑(List.length ds) : Int))) ds))))) (poD (str (ovL (List.take (Int.toNat (if (12 : Int) < (↑(List.length ds) : Int) then (12 : Int) else (↑(List.length ds) : Int))) ds)))) = List.take (Int.toNat (if (12 : Int) <
 (↑(List.length ds) : Int) then (12 : Int) else (↑(List.length ds) : Int))) ds) && ((↑(Int.toNat (if (12 : Int) < (↑(List.length ds) : Int) then (12 : Int) else (↑(List.length ds) : Int))) : Int) == (0 : Int) || (↑(Lib.countByte (ovL (List.take (Int.toNat (if (12 : Int) < (↑(List.length ds) : Int)
 then (12 : Int) else (↑(List.length ds) : Int))) ds)) (32 : UInt8)) : Int) == IntKind.i64.wrap ((↑(Int.toNat (if (12 : Int) < (↑(List.length ds) : Int) then (12 : Int) else (↑(List.length ds) : Int))) : Int) - (1 : Int))))) /\ True)) /\ (decide (List.take (List.length (poD (str (ovL (List.take
 (Int.toNat (if (12 : Int) < (↑(List.length ds) : Int) then (12 : Int) else (↑(List.length ds) : Int))) ds))))) (poD (str (ovL (List.take (Int.toNat (if (12 : Int) < (↑(List.length ds) : Int) then (12 : Int) else (↑(List.length ds) : Int))) ds)))) = List.take (Int.toNat (if (12 : Int) <
 (↑(List.length ds) : Int) then (12 : Int) else (↑(List.length ds) : Int))) ds) = false -> Value.bool false = Value.bool (poE (str (ovL (List.take (Int.toNat (if (12 : Int) < (↑(List.length ds) : Int) then (12 : Int) else (↑(List.length ds) : Int))) ds))) == 0 && (decide (List.take (List.length (poD
 (str (ovL (List.take (Int.toNat (if (12 : Int) < (↑(List.length ds) : Int) then (12 : Int) else (↑(List.length ds) : Int))) ds))))) (poD (str (ovL (List.take (Int.toNat (if (12 : Int) < (↑(List.length ds) : Int) then (12 : Int) else (↑(List.length ds) : Int))) ds)))) = List.take (Int.toNat (if (12 :
 Int) < (↑(List.length ds) : Int) then (12 : Int) else (↑(List.length ds) : Int))) ds) && ((↑(Int.toNat (if (12 : Int) < (↑(List.length ds) : Int) then (12 : Int) else (↑(List.length ds) : Int))) : Int) == (0 : Int) || (↑(Lib.countByte (ovL (List.take (Int.toNat (if (12 : Int) < (↑(List.length ds) :
 Int) then (12 : Int) else (↑(List.length ds) : Int))) ds)) (32 : UInt8)) : Int) == IntKind.i64.wrap ((↑(Int.toNat (if (12 : Int) < (↑(List.length ds) : Int) then (12 : Int) else (↑(List.length ds) : Int))) : Int) - (1 : Int))))) /\ True)) /\ ((poE (str (ovL (List.take (Int.toNat (if (12 : Int) <
 (↑(List.length ds) : Int) then (12 : Int) else (↑(List.length ds) : Int))) ds))) == 0) = false -> Value.bool false = Value.bool (poE (str (ovL (List.take (Int.toNat (if (12 : Int) < (↑(List.length ds) : Int) then (12 : Int) else (↑(List.length ds) : Int))) ds))) == 0 && (decide (List.take
 (List.length (poD (str (ovL (List.take (Int.toNat (if (12 : Int) < (↑(List.length ds) : Int) then (12 : Int) else (↑(List.length ds) : Int))) ds))))) (poD (str (ovL (List.take (Int.toNat (if (12 : Int) < (↑(List.length ds) : Int) then (12 : Int) else (↑(List.length ds) : Int))) ds)))) = List.take
 (Int.toNat (if (12 : Int) < (↑(List.length ds) : Int) then (12 : Int) else (↑(List.length ds) : Int))) ds) && ((↑(Int.toNat (if (12 : Int) < (↑(List.length ds) : Int) then (12 : Int) else (↑(List.length ds) : Int))) : Int) == (0 : Int) || (↑(Lib.countByte (ovL (List.take (Int.toNat (if (12 : Int) <
 (↑(List.length ds) : Int) then (12 : Int) else (↑(List.length ds) : Int))) ds)) (32 : UInt8)) : Int) == IntKind.i64.wrap ((↑(Int.toNat (if (12 : Int) < (↑(List.length ds) : Int) then (12 : Int) else (↑(List.length ds) : Int))) : Int) - (1 : Int))))) /\ True)) /\ ∀ (junk : Nat -> Value), .bool (poE
 (str (ovL (List.take (Int.toNat (if (12 : Int) < (↑(List.length ds) : Int) then (12 : Int) else (↑(List.length ds) : Int))) ds))) == 0 && (decide (List.take (List.length (poD (str (ovL (List.take (Int.toNat (if (12 : Int) < (↑(List.length ds) : Int) then (12 : Int) else (↑(List.length ds) : Int)))
 ds))))) (poD (str (ovL (List.take (Int.toNat (if (12 : Int) < (↑(List.length ds) : Int) then (12 : Int) else (↑(List.length ds) : Int))) ds)))) = List.take (Int.toNat (if (12 : Int) < (↑(List.length ds) : Int) then (12 : Int) else (↑(List.length ds) : Int))) ds) && ((↑(Int.toNat (if (12 : Int) <
 (↑(List.length ds) : Int) then (12 : Int) else (↑(List.length ds) : Int))) : Int) == (0 : Int) || (↑(Lib.countByte (ovL (List.take (Int.toNat (if (12 : Int) < (↑(List.length ds) : Int) then (12 : Int) else (↑(List.length ds) : Int))) ds)) (32 : UInt8)) : Int) == IntKind.i64.wrap ((↑(Int.toNat (if
 (12 : Int) < (↑(List.length ds) : Int) then (12 : Int) else (↑(List.length ds) : Int))) : Int) - (1 : Int))))) = Value.bool true)) := by kernel_rfl
set_option maxHeartbeats 4000000 in
theorem notationJoins_sp (a : Option Addr) (ds : List Dl) (c : Nat) (hA : AOK a ds.length) (hc : ds.length ≤ c ∧ c ≤ 9223372036854775807) (hw : ∀ d ∈ ds, Wf d) : SpecG Tryd.prog rE ([(a, cD ds)]) 4 #[.slice a ds.length c] ([]) (fun _ => .bool true) := by
  refine specG_of (h := notationJoins_h a ds c) (?_ : wpG Tryd.prog rE ([(a, cD ds)]) 400 4 [.slice a ds.length c] (notationJoins_h a ds c) ([]) (fun _ => .bool true))
  rw [notationJoins_x]
  (repeat' (first | with_reducible exact rfl | exact trivial | with_reducible assumption | (with_reducible exact awk_sp) | exact cU_len _ | exact cI_len _ | exact cB_len _ | exact cU_one _ | exact cI_one _ | exact cB_one _ | exact (fun _ h => h) | exact (fun _ h => (List.not_mem_nil h).elim) | exact cS_len _ | exact cS_one _ | exact cD_len _ | exact cD_one _ | exact (fun _ h => h) | (with_reducible refine e1_in ?_) | (with_reducible refine e2_in ?_) | (with_reducible refine lx_in (Nat.le_of_ble_eq_true rfl) ?_) | (with_reducible refine rqx_rf ?_) | (with_reducible refine rqx_in ?_ ?_ ?_) | (with_reducible apply And.intro) | (with_reducible intro _)))
  all_goals (try simp only [n12_eq] at *)
  all_goals (have hn := n12_le ds)
  all_goals (try (first
    | (split <;> omega)
    | exact ovr_sp a ds (n12 ds) c ⟨(fun e => by have := hA.1 e; have := n12_le ds; omega), (fun h q hq => hA.2 (by have := n12_le ds; omega) q hq)⟩ hn.1 ⟨by omega, hc.2⟩ (by omega) hw
    | exact pov_sp _ (ov_sz12 ds)
    | exact smD_sp _ _ _ _ _ _ _ _ (by assumption) ⟨(fun e => by have := hA.1 e; have := n12_le ds; omega), (fun h q hq => hA.2 (by have := n12_le ds; omega) q hq)⟩ (Nat.le_refl _) hn.1 (by have hq := bne_f ‹(ovE _ != 0) = false›; rw [(po_back (wfT hw (n12 ds)) hq).2, ln_take hn.1]; omega)
    | exact cnt_sp _
    | (have hq := bne_t ‹(ovE _ != 0) = true›; rw [em_s0, decide_eq_true (ov_bad hq)])))
  all_goals (try (have hq := bne_f ‹(ovE _ != 0) = false›; have f4 := jn_all hw hq; obtain ⟨f1, f2⟩ := po_back (wfT hw (n12 ds)) hq; first
    | exact (congrArg Value.bool f4).symm
    | (have h0 : ¬ n12 ds = 0 := nz_f ‹(((_ : Nat) : Int) == 0) = false›; exact congrArg Value.bool ((beq_iff_eq.2 (jn_cmp hw hq h0)).trans f4.symm))
    | (exfalso; have hh := of_decide_eq_false ‹decide _ = false›; exact hh (by rw [f2, List.take_length]))
    | exact congrArg Value.bool f4
    | (rw [f4, jn_cmp hw hq (by have hh := ‹(((n12 ds : Nat) : Int) == 0) = false›; simpa using hh)]; simp; done)
    | (exfalso; rw [f1, f2] at *; simp at *; done)
    | (exfalso; simp [f1, f2] at *; done)))
  all_goals trace_state
end Go.Proofs.YtkgdlimekkdekaaDoor
