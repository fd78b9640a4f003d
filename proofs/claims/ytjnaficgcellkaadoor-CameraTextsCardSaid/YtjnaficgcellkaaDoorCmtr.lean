/- Layer 31 (camera): the text of no list and of a list with an error; the reference's text. The reference. -/
import Derived.Test.YtjnaficgcellkaaDoorVz
import Derived.KernelRfl
import Derived.Test.YtjnaficgcellkaaDoorProg
import Derived.Test.YtjnaficgcellkaaDoorCma
import Derived.Test.YtjnaficgcellkaaDoorCmar
import Derived.Test.YtjnaficgcellkaaDoorCmc
import Derived.Test.YtjnaficgcellkaaDoorBlc
import Derived.Test.YtjnaficgcellkaaDoorRnu
import Derived.Test.YtjnaficgcellkaaDoorCmt
set_option linter.unusedSimpArgs false
set_option linter.unusedVariables false
set_option maxRecDepth 100000
namespace Go.Proofs.YtjnaficgcellkaaDoor
open Go.RowKit

def rtx_h (a : Option Addr) (c : Nat) (l : List Sn) : Hint := .specg wE [0] [cSn l] [] (fun ads0 x ↦ Value.tuple #[Value.int .i64 (ckI l), .int .i64 (ckE l)]) (.pl (.known false (.pl (.inv (rtL l) fun x0 ↦ .split (.ix (.lst (0 : Nat) (x0 * (5 : Nat)) (Value.int .i64 (Sn.t (gSn l x0))) (.lst (0 : Nat) (x0 * (5 : Nat) + (1 : Nat)) (Value.int .i64 (Sn.x (gSn l
 x0))) (.lst (0 : Nat) (x0 * (5 : Nat) + (2 : Nat)) (Value.int .i64 (Sn.y (gSn l x0))) (.lst (0 : Nat) (x0 * (5 : Nat) + (3 : Nat)) (Value.int .i64 (Sn.z (gSn l x0))) (.lst (0 : Nat) (x0 * (5 : Nat) + (4 : Nat)) (Value.int .i64 (Sn.e (gSn l x0))) (ho 1 10 (.pl (.rounds 64 (.lit (.ix (.ob 2 (.lit
 (.specg [] [] [] [] (fun ads0 x ↦ Value.string (dcS (Sn.t (gSn l x0)))) (.ix (.lit (.ix (.ob 2 (.lit (.ix (.specg [] [] [] [] (fun ads0 x ↦ Value.string (dcS (Sn.x (gSn l x0)))) (.ix (.lit (.ix (.ob 2 (.lit (.ix (.specg [] [] [] [] (fun ads0 x ↦ Value.string (dcS (Sn.y (gSn l x0)))) (.ix (.lit (.ix
 (.ob 2 (.lit (.ix (.specg [] [] [] [] (fun ads0 x ↦ Value.string (dcS (Sn.z (gSn l x0)))) (.ix (.lit (.ix (.ob 2 (.lit (.ix (.specg [] [] [] [] (fun ads0 x ↦ Value.string (dcS (Sn.e (gSn l x0)))) (.ix (.lit (.ix (.perm [] .nil)))))))))))))))))))))))))))))))))))))))))))))) (.perm [] .nil)))))
theorem rtx_x (a : Option Addr) (c : Nat) (l : List Sn) : wpG Tryd.prog wE ([(a, cSn l)]) 400 23 [.slice a l.length c] (rtx_h a c l) ([]) (fun _ => .tuple #[.string (txB l l.length), .int .i64 0]) = (cSn l = cSn l /\ (SpecG Tryd.prog wE [(a, cSn l)] (12 : FuncId) #[Value.slice a (List.length l) c] [] fun x ↦ Value.tuple #[Value.int .i64 (ckI l), .int .i64 (ckE l)]) /\ (∀ (e : Ex), e ∈ wE -> e ∈ wE) /\ (ckE l != 0) = false /\ (∃ x, x ≤ List.length l /\ Value.int .i64 0 = Value.int .i64 (↑x : Int)
 /\ Value.string (ByteArray.mk (Array.mk [])) = Value.string (txB l x) /\ True) /\ ∀ (x0 : Nat), x0 ≤ List.length l -> ∀ (junk : Nat -> Value), (decide ((↑x0 : Int) < (↑(List.length l) : Int)) = true -> (((0 : Int) ≤ (↑x0 : Int) /\ (↑x0 : Int) < (↑(List.length l) : Int)) /\ AOK a (List.length l)) /\
 bk a = bk a /\ ofs a + x0 * (5 : Nat) = ofs a + x0 * (5 : Nat) /\ lgo (cSn l) (x0 * (5 : Nat)) = some (Value.int .i64 (Sn.t (gSn l x0))) /\ bk a = bk a /\ ofs a + x0 * (5 : Nat) + (1 : Nat) = ofs a + (x0 * (5 : Nat) + (1 : Nat)) /\ lgo (cSn l) (x0 * (5 : Nat) + (1 : Nat)) = some (Value.int .i64
 (Sn.x (gSn l x0))) /\ bk a = bk a /\ ofs a + x0 * (5 : Nat) + (2 : Nat) = ofs a + (x0 * (5 : Nat) + (2 : Nat)) /\ lgo (cSn l) (x0 * (5 : Nat) + (2 : Nat)) = some (Value.int .i64 (Sn.y (gSn l x0))) /\ bk a = bk a /\ ofs a + x0 * (5 : Nat) + (3 : Nat) = ofs a + (x0 * (5 : Nat) + (3 : Nat)) /\ lgo (cSn
 l) (x0 * (5 : Nat) + (3 : Nat)) = some (Value.int .i64 (Sn.z (gSn l x0))) /\ bk a = bk a /\ ofs a + x0 * (5 : Nat) + (4 : Nat) = ofs a + (x0 * (5 : Nat) + (4 : Nat)) /\ lgo (cSn l) (x0 * (5 : Nat) + (4 : Nat)) = some (Value.int .i64 (Sn.e (gSn l x0))) /\ ∀ (b : Nat), e2 b 5 (e1 b 5 (∀ (b : Nat),
 (((0 : Int) ≤ (0 : Int) /\ (0 : Int) < (5 : Int)) /\ AOK (some (Addr.mk b (0 : Nat) none)) (5 : Nat)) /\ b = b /\ (SpecG Tryd.prog [] [] (34 : FuncId) #[Value.int .i64 (Sn.t (gSn l x0))] [] fun x ↦ Value.string (dcS (Sn.t (gSn l x0)))) /\ (∀ (e : Ex), e ∈ [] -> e ∈ wE) /\ ByteArray.size (txB l x0) +
 ByteArray.size (dcS (Sn.t (gSn l x0))) ≤ (9223372036854775807 : Nat) /\ (((0 : Int) ≤ (1 : Int) /\ (1 : Int) < (5 : Int)) /\ AOK (some (Addr.mk b (0 : Nat) none)) (5 : Nat)) /\ b = b /\ ByteArray.size (catB (txB l x0) (dcS (Sn.t (gSn l x0)))) + (1 : Nat) ≤ (9223372036854775807 : Nat) /\ (SpecG
 Tryd.prog [] [] (34 : FuncId) #[Value.int .i64 (Sn.x (gSn l x0))] [] fun x ↦ Value.string (dcS (Sn.x (gSn l x0)))) /\ (∀ (e : Ex), e ∈ [] -> e ∈ wE) /\ ByteArray.size (catB (catB (txB l x0) (dcS (Sn.t (gSn l x0)))) (ByteArray.mk (Array.mk [(32 : UInt8)]))) + ByteArray.size (dcS (Sn.x (gSn l x0))) ≤
 (9223372036854775807 : Nat) /\ (((0 : Int) ≤ (2 : Int) /\ (2 : Int) < (5 : Int)) /\ AOK (some (Addr.mk b (0 : Nat) none)) (5 : Nat)) /\ b = b /\ ByteArray.size (catB (catB (catB (txB l x0) (dcS (Sn.t (gSn l x0)))) (ByteArray.mk (Array.mk [(32 : UInt8)]))) (dcS (Sn.x (gSn l x0)))) + (1 : Nat) ≤
 (9223372036854775807 : Nat) /\ (SpecG Tryd.prog [] [] (34 : FuncId) #[Value.int .i64 (Sn.y (gSn l x0))] [] fun x ↦ Value.string (dcS (Sn.y (gSn l x0)))) /\ (∀ (e : Ex), e ∈ [] -> e ∈ wE) /\ ByteArray.size (catB (catB (catB (catB (txB l x0) (dcS (Sn.t (gSn l x0)))) (ByteArray.mk (Array.mk [(32 :
 UInt8)]))) (dcS (Sn.x (gSn l x0)))) (ByteArray.mk (Array.mk [(32 : UInt8)]))) + ByteArray.size (dcS (Sn.y (gSn l x0))) ≤ (9223372036854775807 : Nat) /\ (((0 : Int) ≤ (3 : Int) /\ (3 : Int) < (5 : Int)) /\ AOK (some (Addr.mk b (0 : Nat) none)) (5 : Nat)) /\ b = b /\ ByteArray.size (catB (catB (catB
 (catB (catB (txB l x0) (dcS (Sn.t (gSn l x0)))) (ByteArray.mk (Array.mk [(32 : UInt8)]))) (dcS (Sn.x (gSn l x0)))) (ByteArray.mk (Array.mk [(32 : UInt8)]))) (dcS (Sn.y (gSn l x0)))) + (1 : Nat) ≤ (9223372036854775807 : Nat) /\ (SpecG Tryd.prog [] [] (34 : FuncId) #[Value.int .i64 (Sn.z (gSn l x0))]
 [] fun x ↦ Value.string (dcS (Sn.z (gSn l x0)))) /\ (∀ (e : Ex), e ∈ [] -> e ∈ wE) /\ ByteArray.size (catB (catB (catB (catB (catB (catB (txB l x0) (dcS (Sn.t (gSn l x0)))) (ByteArray.mk (Array.mk [(32 : UInt8)]))) (dcS (Sn.x (gSn l x0)))) (ByteArray.mk (Array.mk [(32 : UInt8)]))) (dcS (Sn.y (gSn l
 x0)))) (ByteArray.mk (Array.mk [(32 : UInt8)]))) + ByteArray.size (dcS (Sn.z (gSn l x0))) ≤ (9223372036854775807 : Nat) /\ (((0 : Int) ≤ (4 : Int) /\ (4 : Int) < (5 : Int)) /\ AOK (some (Addr.mk b (0 : Nat) none)) (5 : Nat)) /\ b = b /\ ByteArray.size (catB (catB (catB (catB (catB (catB (catB (txB l
 x0) (dcS (Sn.t (gSn l x0)))) (ByteArray.mk (Array.mk [(32 : UInt8)]))) (dcS (Sn.x (gSn l x0)))) (ByteArray.mk (Array.mk [(32 : UInt8)]))) (dcS (Sn.y (gSn l x0)))) (ByteArray.mk (Array.mk [(32 : UInt8)]))) (dcS (Sn.z (gSn l x0)))) + (1 : Nat) ≤ (9223372036854775807 : Nat) /\ (SpecG Tryd.prog [] [] (34
 : FuncId) #[Value.int .i64 (Sn.e (gSn l x0))] [] fun x ↦ Value.string (dcS (Sn.e (gSn l x0)))) /\ (∀ (e : Ex), e ∈ [] -> e ∈ wE) /\ ByteArray.size (catB (catB (catB (catB (catB (catB (catB (catB (txB l x0) (dcS (Sn.t (gSn l x0)))) (ByteArray.mk (Array.mk [(32 : UInt8)]))) (dcS (Sn.x (gSn l x0))))
 (ByteArray.mk (Array.mk [(32 : UInt8)]))) (dcS (Sn.y (gSn l x0)))) (ByteArray.mk (Array.mk [(32 : UInt8)]))) (dcS (Sn.z (gSn l x0)))) (ByteArray.mk (Array.mk [(32 : UInt8)]))) + ByteArray.size (dcS (Sn.e (gSn l x0))) ≤ (9223372036854775807 : Nat) /\ ByteArray.size (catB (catB (catB (catB (catB (catB
 (catB (catB (catB (txB l x0) (dcS (Sn.t (gSn l x0)))) (ByteArray.mk (Array.mk [(32 : UInt8)]))) (dcS (Sn.x (gSn l x0)))) (ByteArray.mk (Array.mk [(32 : UInt8)]))) (dcS (Sn.y (gSn l x0)))) (ByteArray.mk (Array.mk [(32 : UInt8)]))) (dcS (Sn.z (gSn l x0)))) (ByteArray.mk (Array.mk [(32 : UInt8)])))
 (dcS (Sn.e (gSn l x0)))) + (1 : Nat) ≤ (9223372036854775807 : Nat) /\ ∃ y, y ≤ List.length l /\ List.length l - y < List.length l - x0 /\ Value.int .i64 (IntKind.i64.wrap ((↑x0 : Int) + (1 : Int))) = Value.int .i64 (↑y : Int) /\ Value.string (catB (catB (catB (catB (catB (catB (catB (catB (catB
 (catB (txB l x0) (dcS (Sn.t (gSn l x0)))) (ByteArray.mk (Array.mk [(32 : UInt8)]))) (dcS (Sn.x (gSn l x0)))) (ByteArray.mk (Array.mk [(32 : UInt8)]))) (dcS (Sn.y (gSn l x0)))) (ByteArray.mk (Array.mk [(32 : UInt8)]))) (dcS (Sn.z (gSn l x0)))) (ByteArray.mk (Array.mk [(32 : UInt8)]))) (dcS (Sn.e (gSn
 l x0)))) (ByteArray.mk (Array.mk [(10 : UInt8)]))) = Value.string (txB l y) /\ True))) /\ (decide ((↑x0 : Int) < (↑(List.length l) : Int)) = false -> Value.tuple (Array.mk [.string (txB l x0), .int .i64 0]) = Value.tuple (Array.mk [.string (txB l (List.length l)), .int .i64 0]))) := by kernel_rfl
set_option maxHeartbeats 4000000 in
theorem rtx_sp (a : Option Addr) (c : Nat) (l : List Sn) (hA : AOK a l.length) (hl : l.length ≤ 9223372036854775807) (he : (ckE l != 0) = false) : SpecG Tryd.prog wE ([(a, cSn l)]) 23 #[.slice a l.length c] ([]) (fun _ => .tuple #[.string (txB l l.length), .int .i64 0]) := by
  refine specG_of (h := rtx_h a c l) (?_ : wpG Tryd.prog wE ([(a, cSn l)]) 400 23 [.slice a l.length c] (rtx_h a c l) ([]) (fun _ => .tuple #[.string (txB l l.length), .int .i64 0]))
  rw [rtx_x]
  (repeat' (first | with_reducible exact rfl | exact trivial | with_reducible assumption | (with_reducible exact rck_sp _ _ _ hA hl) | exact cSn_len _ | exact cSn_one _ | exact cU_len _ | exact cI_len _ | exact cB_len _ | exact cU_one _ | exact cI_one _ | exact cB_one _ | exact (fun _ h => h) | exact (fun _ h => List.mem_cons_of_mem _ h) | exact (fun _ h => (List.not_mem_nil h).elim) | (with_reducible refine e1_in ?_) | (with_reducible refine e2_in ?_) | (with_reducible refine lx_in (Nat.le_of_ble_eq_true rfl) ?_) | (with_reducible refine rqx_rf ?_) | (with_reducible refine rqx_in ?_ ?_ ?_) | (with_reducible apply And.intro) | (with_reducible intro _)))
  all_goals (try simp only [Int.toNat_natCast] at *)
  all_goals (first
    | rfl
    | (exact ⟨0, Nat.zero_le _, rfl, rfl, trivial⟩)
    | (have hi := lt_s ‹_›; first | omega | exact hA | exact cSn_get0 hi | exact cSn_get1 hi | exact cSn_get2 hi | exact cSn_get3 hi | exact cSn_get4 hi | exact aok_b _ _)
    | (have hi := lt_s ‹_›; obtain ⟨⟨g1, g2, g3, g4, g5⟩, s1, s2, s3, s4, s5⟩ := rt_b he hi; first | exact rnu_sp _ g1 | exact rnu_sp _ g2 | exact rnu_sp _ g3 | exact rnu_sp _ g4 | exact rnu_sp _ g5 | (have h6 := rt_t he (Nat.le_of_lt hi); (try simp only [cat_size, sz_1]); omega) | (refine ⟨_ + 1, hi, (by show _ - (_ + 1) < _; omega), wr_s (by omega), ?_, trivial⟩; rw [rt_ln]; rfl))
    | (have e := ge_s ‹_› ‹_›; rw [e])
    | trace_state)
def rtxx_h (a : Option Addr) (c : Nat) (l : List Sn) : Hint := .specg wE [0] [cSn l] [] (fun ads0 x ↦ Value.tuple #[Value.int .i64 (ckI l), .int .i64 (ckE l)]) (.pl (.known true (.perm [] .nil)))
theorem rtxx_x (a : Option Addr) (c : Nat) (l : List Sn) : wpG Tryd.prog wE ([(a, cSn l)]) 400 23 [.slice a l.length c] (rtxx_h a c l) ([]) (fun _ => .tuple #[.string ⟨#[]⟩, .int .i64 (ckE l)]) = (cSn l = cSn l /\ (SpecG Tryd.prog wE [(a, cSn l)] (12 : FuncId) #[Value.slice a (List.length l) c] [] fun x ↦ Value.tuple #[Value.int .i64 (ckI l), .int .i64 (ckE l)]) /\ (∀ (e : Ex), e ∈ wE -> e ∈ wE) /\ (ckE l != 0) = true /\ Value.tuple (Array.mk [.string (ByteArray.mk (Array.mk [])), .int .i64
 (ckE l)]) = Value.tuple (Array.mk [.string (ByteArray.mk (Array.mk [])), .int .i64 (ckE l)])) := by kernel_rfl
set_option maxHeartbeats 4000000 in
theorem rtxx_sp (a : Option Addr) (c : Nat) (l : List Sn) (hA : AOK a l.length) (hl : l.length ≤ 9223372036854775807) (he : (ckE l != 0) = true) : SpecG Tryd.prog wE ([(a, cSn l)]) 23 #[.slice a l.length c] ([]) (fun _ => .tuple #[.string ⟨#[]⟩, .int .i64 (ckE l)]) := by
  refine specG_of (h := rtxx_h a c l) (?_ : wpG Tryd.prog wE ([(a, cSn l)]) 400 23 [.slice a l.length c] (rtxx_h a c l) ([]) (fun _ => .tuple #[.string ⟨#[]⟩, .int .i64 (ckE l)]))
  rw [rtxx_x]
  (repeat' (first | with_reducible exact rfl | exact trivial | with_reducible assumption | (with_reducible exact rck_sp _ _ _ hA hl) | exact cSn_len _ | exact cSn_one _ | exact cU_len _ | exact cI_len _ | exact cB_len _ | exact cU_one _ | exact cI_one _ | exact cB_one _ | exact (fun _ h => h) | exact (fun _ h => List.mem_cons_of_mem _ h) | exact (fun _ h => (List.not_mem_nil h).elim) | (with_reducible refine e1_in ?_) | (with_reducible refine e2_in ?_) | (with_reducible refine lx_in (Nat.le_of_ble_eq_true rfl) ?_) | (with_reducible refine rqx_rf ?_) | (with_reducible refine rqx_in ?_ ?_ ?_) | (with_reducible apply And.intro) | (with_reducible intro _)))
  all_goals (try simp only [Int.toNat_natCast] at *)
  all_goals (first
    | rfl
    | (exact ⟨0, Nat.zero_le _, rfl, rfl, trivial⟩)
    | (have hi := lt_s ‹_›; first | omega | exact hA | exact cSn_get0 hi | exact cSn_get1 hi | exact cSn_get2 hi | exact cSn_get3 hi | exact cSn_get4 hi | exact aok_b _ _)
    | (have hi := lt_s ‹_›; obtain ⟨⟨g1, g2, g3, g4, g5⟩, s1, s2, s3, s4, s5⟩ := rt_b he hi; first | exact rnu_sp _ g1 | exact rnu_sp _ g2 | exact rnu_sp _ g3 | exact rnu_sp _ g4 | exact rnu_sp _ g5 | (have h6 := rt_t he (Nat.le_of_lt hi); (try simp only [cat_size, sz_1]); omega) | (refine ⟨_ + 1, hi, (by show _ - (_ + 1) < _; omega), wr_s (by omega), ?_, trivial⟩; rw [rt_ln]; rfl))
    | (have e := ge_s ‹_› ‹_›; rw [e])
    | trace_state)
end Go.Proofs.YtjnaficgcellkaaDoor
