/- Layer 31 (camera): texts, the law. -/
import Derived.Test.YtjnaficgcellkaaDoorVz
import Derived.KernelRfl
import Derived.Test.YtjnaficgcellkaaDoorProg
import Derived.Test.YtjnaficgcellkaaDoorCma
import Derived.Test.YtjnaficgcellkaaDoorCmar
import Derived.Test.YtjnaficgcellkaaDoorCmb
import Derived.Test.YtjnaficgcellkaaDoorCmbr
import Derived.Test.YtjnaficgcellkaaDoorCmc
import Derived.Test.YtjnaficgcellkaaDoorCmt
import Derived.Test.YtjnaficgcellkaaDoorCmtr
import Derived.Test.YtjnaficgcellkaaDoorCmd
import Derived.Test.YtjnaficgcellkaaDoorCpa
import Derived.Test.YtjnaficgcellkaaDoorBlc
import Derived.Test.YtjnaficgcellkaaDoorBlt
set_option linter.unusedSimpArgs false
set_option linter.unusedVariables false
set_option maxRecDepth 100000
namespace Go.Proofs.YtjnaficgcellkaaDoor
open Go.RowKit


theorem rtz_sp (a : Option Addr) (c : Nat) (hA : AOK a 0) : SpecG Tryd.prog wE [(a, cSn [])] 23 #[.slice a 0 c] [] (fun _ => .tuple #[.string ⟨#[]⟩, .int .i64 0]) := rtx_sp a c [] hA (Nat.zero_le _) rfl
theorem sme_z (a : Option Addr) (c : Nat) (hA : AOK a 0) : SpecG Tryd.prog [] [(none, cSn []), (a, cSn [])] 15 #[.slice none 0 0, .slice a 0 c] [] (fun _ => .bool true) := sme_sp none a 0 c [] aok_n hA (Nat.zero_le _)
theorem prs_t (l : List Sn) (he : (ckE l != 0) = false) (hn : 0 < l.length) (hl : l.length ≤ 9223372036854775807) : SpecG Tryd.prog tE [] 24 #[.string (txB l l.length)] [⟨33, 5, l.length, cSn l⟩] (fun ads => .tuple #[.slice (nthS ads 0).1 l.length (nthS ads 0).2, .int .i64 0]) := by
  rw [← rx_tx]
  exact prs_sp l he hn hl
theorem cSn_nil2 : cSn [] = [] := rfl
theorem lt_b {l : List Sn} (h : ((ckE l) != 0) = false) : decide ((l.length : Int) > 200) = false := decide_eq_false (by have := (ckE_0 (ck_n h)).1; omega)

def ltz_h (a : Option Addr) (c : Nat) : Hint := .specg kE [] [] [] (fun ads0 x ↦ Value.bool true) (.lit (.pl (.lit (.specg kE [0] [cSn []] [] (fun ads0 x ↦ Value.tuple #[Value.string (ByteArray.mk #[]), .int .i64 0]) (.specg wE [0] [cSn []] [] (fun ads0 x ↦ Value.tuple #[Value.string (ByteArray.mk #[]), .int .i64 0]) (.pl (hl 3 (.pl (.lit (.lit
 (.specg tE [] [] [] (fun ads0 x ↦ Value.tuple #[Value.slice none (0 : Nat) (0 : Nat), .int .i64 0]) (.pl (.lit (.lit (.pl (hl 4 (.specg [] [1000, 0] [cSn [], cSn []] [] (fun ads0 x ↦ Value.bool true) (hl 3 (.perm [] .nil)))))))))))))))))))
theorem ltz_x (a : Option Addr) (c : Nat) : wpG Tryd.prog tE ([(a, cSn [])]) 400 8 [.slice a 0 c] (ltz_h a c) ([]) (fun _ => .bool true) = ((SpecG Tryd.prog kE [] (10 : FuncId) #[] [] fun x ↦ Value.bool true) /\ (∀ (e : Ex), e ∈ kE -> e ∈ tE) /\ cSn [] = cSn [] /\ (SpecG Tryd.prog kE [(a, cSn [])] (22 : FuncId) #[Value.slice a (0 : Nat) c] [] fun x ↦ Value.tuple #[Value.string (ByteArray.mk #[]), .int .i64 0]) /\ (∀ (e : Ex), e ∈ kE -> e ∈
 tE) /\ cSn [] = cSn [] /\ (SpecG Tryd.prog wE [(a, cSn [])] (23 : FuncId) #[Value.slice a (0 : Nat) c] [] fun x ↦ Value.tuple #[Value.string (ByteArray.mk #[]), .int .i64 0]) /\ (∀ (e : Ex), e ∈ wE -> e ∈ tE) /\ (SpecG Tryd.prog tE [] (24 : FuncId) #[Value.string (ByteArray.mk #[])] [] fun x ↦
 Value.tuple #[Value.slice none (0 : Nat) (0 : Nat), .int .i64 0]) /\ (∀ (e : Ex), e ∈ tE -> e ∈ tE) /\ cSn ([] : List Sn) = [] /\ cSn [] = cSn [] /\ (SpecG Tryd.prog [] [(none, cSn []), (a, cSn [])] (15 : FuncId) #[Value.slice none (0 : Nat) (0 : Nat), .slice a (0 : Nat) c] [] fun x ↦ Value.bool
 true) /\ (∀ (e : Ex), e ∈ [] -> e ∈ tE) /\ Value.bool true = Value.bool true) := by kernel_rfl
set_option maxHeartbeats 4000000 in
theorem ltz_sp (a : Option Addr) (c : Nat) (hA : AOK a 0) : SpecG Tryd.prog tE ([(a, cSn [])]) 8 #[.slice a 0 c] ([]) (fun _ => .bool true) := by
  refine specG_of (h := ltz_h a c) (?_ : wpG Tryd.prog tE ([(a, cSn [])]) 400 8 [.slice a 0 c] (ltz_h a c) ([]) (fun _ => .bool true))
  rw [ltz_x]
  (repeat' (first | with_reducible exact rfl | exact trivial | with_reducible assumption | (with_reducible exact law_sp) | (with_reducible exact txz_sp _ _) | (with_reducible exact rtz_sp _ _ hA) | (with_reducible exact prz_sp) | (with_reducible exact sme_z _ _ hA) | exact cSn_len _ | exact cSn_one _ | exact cU_len _ | exact cI_len _ | exact cB_len _ | exact cU_one _ | exact cI_one _ | exact cB_one _ | exact (fun _ h => h) | exact kE_tE | exact wE_tE | exact (fun _ h => (List.not_mem_nil h).elim) | (with_reducible refine e1_in ?_) | (with_reducible refine e2_in ?_) | (with_reducible refine lx_in (Nat.le_of_ble_eq_true rfl) ?_) | (with_reducible refine rqx_rf ?_) | (with_reducible refine rqx_in ?_ ?_ ?_) | (with_reducible apply And.intro) | (with_reducible intro _)))
  all_goals (first | rfl | exact aok_n | exact aok_b _ _ | exact cSn_nil2 | (simp only [*, Bool.and_true, Bool.true_and, Bool.and_false, Bool.false_and, Bool.or_true, Bool.true_or, Bool.or_false, Bool.false_or, Bool.not_true, Bool.not_false, cond_true, cond_false]; done) |  (simp; done) | (simp at *; done) | omega | trace_state)
def ltx_h (a : Option Addr) (c : Nat) (l : List Sn) : Hint := .specg kE [] [] [] (fun ads0 x ↦ Value.bool true) (.lit (.pl (.split (.perm [] .nil) (.specg kE [0] [cSn l] [] (fun ads0 x ↦ Value.tuple #[Value.string (ByteArray.mk #[]), .int .i64 (ckE l)]) (.specg wE [0] [cSn l] [] (fun ads0 x ↦ Value.tuple #[Value.string (ByteArray.mk #[]), .int .i64 (ckE l)])
 (.pl (hl 3 (.pl (.lit (.known false (.specg tE [] [] [] (fun ads0 x ↦ Value.tuple #[Value.slice none (0 : Nat) (0 : Nat), .int .i64 0]) (.pl (.known true (hl 4 (.perm [] .nil)))))))))))))))
theorem ltx_x (a : Option Addr) (c : Nat) (l : List Sn) : wpG Tryd.prog tE ([(a, cSn l)]) 400 8 [.slice a l.length c] (ltx_h a c l) ([]) (fun _ => .bool true) = ((SpecG Tryd.prog kE [] (10 : FuncId) #[] [] fun x ↦ Value.bool true) /\ (∀ (e : Ex), e ∈ kE -> e ∈ tE) /\ (decide ((↑(List.length l) : Int) > (200 : Int)) = true -> Value.bool true = Value.bool true) /\ (decide ((↑(List.length l) : Int) > (200 : Int)) = false -> cSn l = cSn l /\ (SpecG Tryd.prog kE
 [(a, cSn l)] (22 : FuncId) #[Value.slice a (List.length l) c] [] fun x ↦ Value.tuple #[Value.string (ByteArray.mk #[]), .int .i64 (ckE l)]) /\ (∀ (e : Ex), e ∈ kE -> e ∈ tE) /\ cSn l = cSn l /\ (SpecG Tryd.prog wE [(a, cSn l)] (23 : FuncId) #[Value.slice a (List.length l) c] [] fun x ↦ Value.tuple
 #[Value.string (ByteArray.mk #[]), .int .i64 (ckE l)]) /\ (∀ (e : Ex), e ∈ wE -> e ∈ tE) /\ (ckE l != ckE l) = false /\ (SpecG Tryd.prog tE [] (24 : FuncId) #[Value.string (ByteArray.mk #[])] [] fun x ↦ Value.tuple #[Value.slice none (0 : Nat) (0 : Nat), .int .i64 0]) /\ (∀ (e : Ex), e ∈ tE -> e ∈
 tE) /\ (ckE l != 0) = true /\ Value.bool true = Value.bool true)) := by kernel_rfl
set_option maxHeartbeats 4000000 in
theorem ltx_sp (a : Option Addr) (c : Nat) (l : List Sn) (hA : AOK a l.length) (hl : l.length ≤ 9223372036854775807) (hc : l.length ≤ c) (he : (ckE l != 0) = true) : SpecG Tryd.prog tE ([(a, cSn l)]) 8 #[.slice a l.length c] ([]) (fun _ => .bool true) := by
  refine specG_of (h := ltx_h a c l) (?_ : wpG Tryd.prog tE ([(a, cSn l)]) 400 8 [.slice a l.length c] (ltx_h a c l) ([]) (fun _ => .bool true))
  rw [ltx_x]
  (repeat' (first | with_reducible exact rfl | exact trivial | with_reducible assumption | (with_reducible exact law_sp) | (with_reducible exact txx_sp _ _ _ hA hl he) | (with_reducible exact rtxx_sp _ _ _ hA hl he) | (with_reducible exact prz_sp) | exact cSn_len _ | exact cSn_one _ | exact cU_len _ | exact cI_len _ | exact cB_len _ | exact cU_one _ | exact cI_one _ | exact cB_one _ | exact (fun _ h => h) | exact kE_tE | exact wE_tE | exact (fun _ h => (List.not_mem_nil h).elim) | (with_reducible refine e1_in ?_) | (with_reducible refine e2_in ?_) | (with_reducible refine lx_in (Nat.le_of_ble_eq_true rfl) ?_) | (with_reducible refine rqx_rf ?_) | (with_reducible refine rqx_in ?_ ?_ ?_) | (with_reducible apply And.intro) | (with_reducible intro _)))
  all_goals (first | rfl | exact aok_n | exact aok_b _ _ | exact cSn_nil2 | (simp only [*, Bool.and_true, Bool.true_and, Bool.and_false, Bool.false_and, Bool.or_true, Bool.true_or, Bool.or_false, Bool.false_or, Bool.not_true, Bool.not_false, cond_true, cond_false]; done) |  (simp; done) | (simp at *; done) | omega | trace_state)
def lty_h (a : Option Addr) (c : Nat) (l : List Sn) : Hint := .specg kE [] [] [] (fun ads0 x ↦ Value.bool true) (.lit (.pl (.split (.perm [] .nil) (.specg kE [0] [cSn l] [] (fun ads0 x ↦ Value.tuple #[Value.string (txB l (List.length l)), .int .i64 0]) (.specg wE [0] [cSn l] [] (fun ads0 x ↦ Value.tuple #[Value.string (txB l (List.length l)), .int .i64 0]) (.pl
 (.known false (.lit (.lit (.pl (.lit (.lit (.specg tE [] [] [RowT.mk (33 : TypeId) (5 : Nat) (List.length l) (cSn l)] (fun ads0 ads ↦ Value.tuple #[Value.slice (Prod.fst (nthS ads (0 : Nat))) (List.length l) (Prod.snd (nthS ads (0 : Nat))), .int .i64 0]) (.pl (.lit (.lit (.pl (hl 4 (.specg [] [1, 0]
 [cSn l, cSn l] [] (fun ads0 x ↦ Value.bool true) (hl 3 (.perm [] .nil)))))))))))))))))))))
theorem lty_x (a : Option Addr) (c : Nat) (l : List Sn) : wpG Tryd.prog tE ([(a, cSn l)]) 400 8 [.slice a l.length c] (lty_h a c l) ([]) (fun _ => .bool true) = ((SpecG Tryd.prog kE [] (10 : FuncId) #[] [] fun x ↦ Value.bool true) /\ (∀ (e : Ex), e ∈ kE -> e ∈ tE) /\ (decide ((↑(List.length l) : Int) > (200 : Int)) = true -> Value.bool true = Value.bool true) /\ (decide ((↑(List.length l) : Int) > (200 : Int)) = false -> cSn l = cSn l /\ (SpecG Tryd.prog kE
 [(a, cSn l)] (22 : FuncId) #[Value.slice a (List.length l) c] [] fun x ↦ Value.tuple #[Value.string (txB l (List.length l)), .int .i64 0]) /\ (∀ (e : Ex), e ∈ kE -> e ∈ tE) /\ cSn l = cSn l /\ (SpecG Tryd.prog wE [(a, cSn l)] (23 : FuncId) #[Value.slice a (List.length l) c] [] fun x ↦ Value.tuple
 #[Value.string (txB l (List.length l)), .int .i64 0]) /\ (∀ (e : Ex), e ∈ wE -> e ∈ tE) /\ (!ByteArray.toList (txB l (List.length l)) == ByteArray.toList (txB l (List.length l))) = false /\ (SpecG Tryd.prog tE [] (24 : FuncId) #[Value.string (txB l (List.length l))] [RowT.mk (33 : TypeId) (5 : Nat)
 (List.length l) (cSn l)] fun ads ↦ Value.tuple #[Value.slice (Prod.fst (nthS ads (0 : Nat))) (List.length l) (Prod.snd (nthS ads (0 : Nat))), .int .i64 0]) /\ (∀ (e : Ex), e ∈ tE -> e ∈ tE) /\ ∀ (a_1 : Option Addr) (cap : Nat), AOK a_1 (List.length l) -> List.length l ≤ cap -> cSn l = cSn l /\ cSn l
 = cSn l /\ (SpecG Tryd.prog [] [(a_1, cSn l), (a, cSn l)] (15 : FuncId) #[Value.slice a_1 (List.length l) cap, .slice a (List.length l) c] [] fun x ↦ Value.bool true) /\ (∀ (e : Ex), e ∈ [] -> e ∈ tE) /\ Value.bool true = Value.bool true)) := by kernel_rfl
set_option maxHeartbeats 4000000 in
theorem lty_sp (a : Option Addr) (c : Nat) (l : List Sn) (hA : AOK a l.length) (hl : l.length ≤ 9223372036854775807) (hc : l.length ≤ c) (he : (ckE l != 0) = false) (hn : 0 < l.length) : SpecG Tryd.prog tE ([(a, cSn l)]) 8 #[.slice a l.length c] ([]) (fun _ => .bool true) := by
  refine specG_of (h := lty_h a c l) (?_ : wpG Tryd.prog tE ([(a, cSn l)]) 400 8 [.slice a l.length c] (lty_h a c l) ([]) (fun _ => .bool true))
  rw [lty_x]
  (repeat' (first | with_reducible exact rfl | exact trivial | with_reducible assumption | (with_reducible exact law_sp) | (with_reducible exact txt_sp _ _ _ hA hl he hn) | (with_reducible exact rtx_sp _ _ _ hA hl he) | (with_reducible exact prs_t _ he hn hl) | (with_reducible exact sme_sp _ _ _ _ _ (by assumption) hA (by have := (ckE_0 (ck_n he)).1; omega)) | exact cSn_len _ | exact cSn_one _ | exact cU_len _ | exact cI_len _ | exact cB_len _ | exact cU_one _ | exact cI_one _ | exact cB_one _ | exact (fun _ h => h) | exact kE_tE | exact wE_tE | exact (fun _ h => (List.not_mem_nil h).elim) | (with_reducible refine e1_in ?_) | (with_reducible refine e2_in ?_) | (with_reducible refine lx_in (Nat.le_of_ble_eq_true rfl) ?_) | (with_reducible refine rqx_rf ?_) | (with_reducible refine rqx_in ?_ ?_ ?_) | (with_reducible apply And.intro) | (with_reducible intro _)))
  all_goals (first | rfl | exact aok_n | exact aok_b _ _ | exact cSn_nil2 | (simp only [*, Bool.and_true, Bool.true_and, Bool.and_false, Bool.false_and, Bool.or_true, Bool.true_or, Bool.or_false, Bool.false_or, Bool.not_true, Bool.not_false, cond_true, cond_false]; done) |  (simp; done) | (simp at *; done) | omega | trace_state)
end Go.Proofs.YtjnaficgcellkaaDoor
