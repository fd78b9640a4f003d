/- Layer 31 (camera): the laws. -/
import Derived.Test.YtjnaficgcellkaaDoorVz
import Derived.KernelRfl
import Derived.Test.YtjnaficgcellkaaDoorProg
import Derived.Test.YtjnaficgcellkaaDoorCma
import Derived.Test.YtjnaficgcellkaaDoorCmar
import Derived.Test.YtjnaficgcellkaaDoorCmb
import Derived.Test.YtjnaficgcellkaaDoorCmbr
import Derived.Test.YtjnaficgcellkaaDoorCmc
import Derived.Test.YtjnaficgcellkaaDoorCms
import Derived.Test.YtjnaficgcellkaaDoorCmsr
import Derived.Test.YtjnaficgcellkaaDoorBlc
set_option linter.unusedSimpArgs false
set_option linter.unusedVariables false
set_option maxRecDepth 100000
namespace Go.Proofs.YtjnaficgcellkaaDoor
open Go.RowKit


def cSn_dec : List Value → List Sn
  | .int _ t :: .int _ x :: .int _ y :: .int _ z :: .int _ e :: l => ⟨t, x, y, z, e⟩ :: cSn_dec l
  | _ => []
def htL (z : Int) : List Sn := [⟨0, 100000, 0, 9000, 20⟩, ⟨20, 97000, 0, 4000, 20⟩, ⟨40, 94000, 0, z, 20⟩, ⟨60, 91000, 0, 3000, 20⟩]
theorem aok_gg (g n : Nat) : AOK (some ⟨g, 0, none⟩) n := ⟨(fun e => by cases e), (fun _ q hq => by injection hq with hq; subst hq; rfl)⟩

def hts_h (a : Option Addr) (c : Nat) (z : Int) : Hint := .pl (.rounds 64 (.lit (.ix (.lst (0 : Nat) (0 : Nat) (Value.int .i64 9000) (.appn (1 : Nat) (.lit (.ix (.lst (0 : Nat) (1 : Nat) (Value.int .i64 4000) (.app (2 : Nat) (3 : Nat) (.lit (.ix (.lst (0 : Nat) (2 : Nat) (Value.int .i64 z) (.app (2 : Nat) (4 : Nat) (.lit (.ix (.lst (0 : Nat) (3 : Nat)
 (Value.int .i64 3000) (.app (2 : Nat) (5 : Nat) (.lit (.perm [2] .nil)))))))))))))))))))
theorem hts_x (a : Option Addr) (c : Nat) (z : Int) : wpG Tryd.prog [] ([(a, [.int .i64 9000, .int .i64 4000, .int .i64 z, .int .i64 3000])]) 400 26 [.slice a 4 c] (hts_h a c z) ([⟨33, 5, 4, cSn (htL z)⟩]) (fun ads => .slice (nthS ads 0).1 4 (nthS ads 0).2) = ((((0 : Int) ≤ (0 : Int) /\ (0 : Int) < (4 : Int)) /\ AOK a (4 : Nat)) /\ bk a = bk a /\ ofs a + (0 : Nat) = ofs a + (0 : Nat) /\ some (Value.int .i64 9000) = some (Value.int .i64 9000) /\ ∀ (b : Nat), b = b /\ (41 : Nat) ≤ (140737488355328 : Nat) /\ ∀ (g cap : Nat), (((0 : Int) ≤ (1 : Int) /\ (1 :
 Int) < (4 : Int)) /\ AOK a (4 : Nat)) /\ bk a = bk a /\ ofs a + (1 : Nat) = ofs a + (1 : Nat) /\ some (Value.int .i64 4000) = some (Value.int .i64 4000) /\ ∀ (b : Nat), some (Addr.mk g (0 : Nat) none) = some (Addr.mk g (0 : Nat) none) /\ (1 : Nat) = (1 : Nat) /\ cap = cap /\ b = b /\ (82 : Nat) ≤
 (140737488355328 : Nat) /\ ∀ (g cap : Nat), (((0 : Int) ≤ (2 : Int) /\ (2 : Int) < (4 : Int)) /\ AOK a (4 : Nat)) /\ bk a = bk a /\ ofs a + (2 : Nat) = ofs a + (2 : Nat) /\ some (Value.int .i64 z) = some (Value.int .i64 z) /\ ∀ (b : Nat), some (Addr.mk g (0 : Nat) none) = some (Addr.mk g (0 : Nat)
 none) /\ (2 : Nat) = (2 : Nat) /\ cap = cap /\ b = b /\ (123 : Nat) ≤ (140737488355328 : Nat) /\ ∀ (g cap : Nat), (((0 : Int) ≤ (3 : Int) /\ (3 : Int) < (4 : Int)) /\ AOK a (4 : Nat)) /\ bk a = bk a /\ ofs a + (3 : Nat) = ofs a + (3 : Nat) /\ some (Value.int .i64 3000) = some (Value.int .i64 3000)
 /\ ∀ (b : Nat), some (Addr.mk g (0 : Nat) none) = some (Addr.mk g (0 : Nat) none) /\ (3 : Nat) = (3 : Nat) /\ cap = cap /\ b = b /\ (164 : Nat) ≤ (140737488355328 : Nat) /\ ∀ (g cap : Nat), (33 : Nat) = (33 : Nat) /\ (5 : Nat) = (5 : Nat) /\ (4 : Nat) = (4 : Nat) /\ [Value.int .i64 0, .int .i64
 100000, .int .i64 0, .int .i64 9000, .int .i64 20, .int .i64 20, .int .i64 97000, .int .i64 0, .int .i64 4000, .int .i64 20, .int .i64 40, .int .i64 94000, .int .i64 0, .int .i64 z, .int .i64 20, .int .i64 60, .int .i64 91000, .int .i64 0, .int .i64 3000, .int .i64 20] = List.flatten [[Value.int
 .i64 0, .int .i64 100000, .int .i64 0, .int .i64 9000, .int .i64 20], [Value.int .i64 20, .int .i64 97000, .int .i64 0, .int .i64 4000, .int .i64 20], [Value.int .i64 40, .int .i64 94000, .int .i64 0, .int .i64 z, .int .i64 20], [Value.int .i64 60, .int .i64 91000, .int .i64 0, .int .i64 3000, .int
 .i64 20]] /\ Value.slice (some (Addr.mk g (0 : Nat) none)) (4 : Nat) cap = Value.slice (some (Addr.mk g (0 : Nat) none)) (4 : Nat) cap) := by kernel_rfl
set_option maxHeartbeats 4000000 in
theorem hts_sp (a : Option Addr) (c : Nat) (z : Int) (hA : AOK a 4) : SpecG Tryd.prog [] ([(a, [.int .i64 9000, .int .i64 4000, .int .i64 z, .int .i64 3000])]) 26 #[.slice a 4 c] ([⟨33, 5, 4, cSn (htL z)⟩]) (fun ads => .slice (nthS ads 0).1 4 (nthS ads 0).2) := by
  refine specG_of (h := hts_h a c z) (?_ : wpG Tryd.prog [] ([(a, [.int .i64 9000, .int .i64 4000, .int .i64 z, .int .i64 3000])]) 400 26 [.slice a 4 c] (hts_h a c z) ([⟨33, 5, 4, cSn (htL z)⟩]) (fun ads => .slice (nthS ads 0).1 4 (nthS ads 0).2))
  rw [hts_x]
  (repeat' (first | with_reducible exact rfl | exact trivial | with_reducible assumption | exact cSn_len _ | exact cSn_one _ | exact cU_len _ | exact cI_len _ | exact cB_len _ | exact cU_one _ | exact cI_one _ | exact cB_one _ | exact (fun _ h => h) | exact (fun _ h => List.mem_cons_of_mem _ h) | exact (fun _ h => (List.not_mem_nil h).elim) | (with_reducible refine e1_in ?_) | (with_reducible refine e2_in ?_) | (with_reducible refine lx_in (Nat.le_of_ble_eq_true rfl) ?_) | (with_reducible refine rqx_rf ?_) | (with_reducible refine rqx_in ?_ ?_ ?_) | (with_reducible apply And.intro) | (with_reducible intro _)))
  all_goals (first | rfl | (have := hA; omega) | exact hA | (simp; done) | (simp at *; done) | omega | trace_state)
def law_h  : Hint := .specg [] [0] [[Value.int .i64 9000, .int .i64 4000, .int .i64 400, .int .i64 3000]] [RowT.mk (33 : TypeId) (5 : Nat) (4 : Nat) (cSn (htL (400 : Int)))] (fun ads0 ads ↦ Value.slice (Prod.fst (nthS ads (0 : Nat))) (4 : Nat) (Prod.snd (nthS ads (0 : Nat)))) (.specg wE [1] [cSn (htL (400 : Int))] []
 (fun ads0 x ↦ Value.tuple #[Value.int .i64 (↑(buN (htL (400 : Int))) : Int), .bool (buB (htL (400 : Int)))]) (.specg [] [2] [[Value.int .i64 9000, .int .i64 4000, .int .i64 1200, .int .i64 3000]] [RowT.mk (33 : TypeId) (5 : Nat) (4 : Nat) (cSn (htL (1200 : Int)))] (fun ads0 ads ↦ Value.slice
 (Prod.fst (nthS ads (0 : Nat))) (4 : Nat) (Prod.snd (nthS ads (0 : Nat)))) (.specg wE [3] [cSn (htL (1200 : Int))] [] (fun ads0 x ↦ Value.tuple #[Value.int .i64 (↑(buN (htL (1200 : Int))) : Int), .bool (buB (htL (1200 : Int)))]) (.specg kE [4] [cSn [Sn.mk (5 : Int) (70000 : Int) (-30 : Int) (900 :
 Int) (20 : Int)]] [] (fun ads0 x ↦ Value.tuple #[Value.string (txB [Sn.mk (5 : Int) (70000 : Int) (-30 : Int) (900 : Int) (20 : Int)] (List.length [Sn.mk (5 : Int) (70000 : Int) (-30 : Int) (900 : Int) (20 : Int)])), .int .i64 0]) (.pl (hl 7 (.pl (hl 3 (.pl (hl 3 (.specg [] [5] [[Value.int .i64
 9000, .int .i64 4000, .int .i64 400, .int .i64 3000]] [RowT.mk (33 : TypeId) (5 : Nat) (4 : Nat) (cSn (htL (400 : Int)))] (fun ads0 ads ↦ Value.slice (Prod.fst (nthS ads (0 : Nat))) (4 : Nat) (Prod.snd (nthS ads (0 : Nat)))) (.lit (.specg wE [6] [cSn (htL (400 : Int))] [RowT.mk (33 : TypeId) (5 :
 Nat) (List.length (bhS (htL (400 : Int)))) (cSn (bhS (htL (400 : Int))))] (fun ads0 ads ↦ Value.slice (Prod.fst (nthS ads (0 : Nat))) (List.length (bhS (htL (400 : Int)))) (Prod.snd (nthS ads (0 : Nat)))) (.lit (hp 2 (.perm [] .nil))))))))))))))))
theorem law_x  : wpG Tryd.prog kE ([]) 400 10 [] (law_h ) ([]) (fun _ => .bool true) = (∀ (b : Nat), [Value.int .i64 9000, .int .i64 4000, .int .i64 400, .int .i64 3000] = [Value.int .i64 9000, .int .i64 4000, .int .i64 400, .int .i64 3000] /\ (SpecG Tryd.prog [] [(some (Addr.mk b (0 : Nat) none), [Value.int .i64 9000, .int .i64 4000, .int .i64 400, .int .i64 3000])] (26 : FuncId)
 #[Value.slice (some (Addr.mk b (0 : Nat) none)) (4 : Nat) (4 : Nat)] [RowT.mk (33 : TypeId) (5 : Nat) (4 : Nat) (cSn (htL (400 : Int)))] fun ads ↦ Value.slice (Prod.fst (nthS ads (0 : Nat))) (4 : Nat) (Prod.snd (nthS ads (0 : Nat)))) /\ (∀ (e : Ex), e ∈ [] -> e ∈ kE) /\ ∀ (a : Option Addr) (cap :
 Nat), AOK a 4 -> 4 ≤ cap -> cSn (htL (400 : Int)) = cSn (htL (400 : Int)) /\ (SpecG Tryd.prog wE [(a, cSn (htL (400 : Int)))] (13 : FuncId) #[Value.slice a (List.length (htL (400 : Int))) cap] [] fun x ↦ Value.tuple #[Value.int .i64 (↑(buN (htL (400 : Int))) : Int), .bool (buB (htL (400 : Int)))]) /\
 (∀ (e : Ex), e ∈ wE -> e ∈ kE) /\ ∀ (b : Nat), [Value.int .i64 9000, .int .i64 4000, .int .i64 1200, .int .i64 3000] = [Value.int .i64 9000, .int .i64 4000, .int .i64 1200, .int .i64 3000] /\ (SpecG Tryd.prog [] [(some (Addr.mk b (0 : Nat) none), [Value.int .i64 9000, .int .i64 4000, .int .i64 1200,
 .int .i64 3000])] (26 : FuncId) #[Value.slice (some (Addr.mk b (0 : Nat) none)) (4 : Nat) (4 : Nat)] [RowT.mk (33 : TypeId) (5 : Nat) (4 : Nat) (cSn (htL (1200 : Int)))] fun ads ↦ Value.slice (Prod.fst (nthS ads (0 : Nat))) (4 : Nat) (Prod.snd (nthS ads (0 : Nat)))) /\ (∀ (e : Ex), e ∈ [] -> e ∈ kE)
 /\ ∀ (a : Option Addr) (cap : Nat), AOK a 4 -> 4 ≤ cap -> cSn (htL (1200 : Int)) = cSn (htL (1200 : Int)) /\ (SpecG Tryd.prog wE [(a, cSn (htL (1200 : Int)))] (13 : FuncId) #[Value.slice a (List.length (htL (1200 : Int))) cap] [] fun x ↦ Value.tuple #[Value.int .i64 (↑(buN (htL (1200 : Int))) : Int),
 .bool (buB (htL (1200 : Int)))]) /\ (∀ (e : Ex), e ∈ wE -> e ∈ kE) /\ ∀ (b : Nat), [Value.int .i64 5, .int .i64 70000, .int .i64 (-30 : Int), .int .i64 900, .int .i64 20] = cSn [Sn.mk (5 : Int) (70000 : Int) (-30 : Int) (900 : Int) (20 : Int)] /\ (SpecG Tryd.prog kE [(some (Addr.mk b (0 : Nat) none),
 cSn [Sn.mk (5 : Int) (70000 : Int) (-30 : Int) (900 : Int) (20 : Int)])] (22 : FuncId) #[Value.slice (some (Addr.mk b (0 : Nat) none)) (List.length [Sn.mk (5 : Int) (70000 : Int) (-30 : Int) (900 : Int) (20 : Int)]) (1 : Nat)] [] fun x ↦ Value.tuple #[Value.string (txB [Sn.mk (5 : Int) (70000 : Int)
 (-30 : Int) (900 : Int) (20 : Int)] (List.length [Sn.mk (5 : Int) (70000 : Int) (-30 : Int) (900 : Int) (20 : Int)])), .int .i64 0]) /\ (∀ (e : Ex), e ∈ kE -> e ∈ kE) /\ ∀ (b : Nat), [Value.int .i64 9000, .int .i64 4000, .int .i64 400, .int .i64 3000] = [Value.int .i64 9000, .int .i64 4000, .int
 .i64 400, .int .i64 3000] /\ (SpecG Tryd.prog [] [(some (Addr.mk b (0 : Nat) none), [Value.int .i64 9000, .int .i64 4000, .int .i64 400, .int .i64 3000])] (26 : FuncId) #[Value.slice (some (Addr.mk b (0 : Nat) none)) (4 : Nat) (4 : Nat)] [RowT.mk (33 : TypeId) (5 : Nat) (4 : Nat) (cSn (htL (400 :
 Int)))] fun ads ↦ Value.slice (Prod.fst (nthS ads (0 : Nat))) (4 : Nat) (Prod.snd (nthS ads (0 : Nat)))) /\ (∀ (e : Ex), e ∈ [] -> e ∈ kE) /\ ∀ (a : Option Addr) (cap : Nat), AOK a 4 -> 4 ≤ cap -> cSn (htL (400 : Int)) = cSn (htL (400 : Int)) /\ (SpecG Tryd.prog wE [(a, cSn (htL (400 : Int)))] (16 :
 FuncId) #[Value.slice a (List.length (htL (400 : Int))) cap] [RowT.mk (33 : TypeId) (5 : Nat) (List.length (bhS (htL (400 : Int)))) (cSn (bhS (htL (400 : Int))))] fun ads ↦ Value.slice (Prod.fst (nthS ads (0 : Nat))) (List.length (bhS (htL (400 : Int)))) (Prod.snd (nthS ads (0 : Nat)))) /\ (∀ (e :
 Ex), e ∈ wE -> e ∈ kE) /\ ∀ (a : Option Addr) (cap : Nat), AOK a 2 -> 2 ≤ cap -> Value.bool true = Value.bool true) := by kernel_rfl
set_option maxHeartbeats 4000000 in
theorem law_sp   : SpecG Tryd.prog kE ([]) 10 #[] ([]) (fun _ => .bool true) := by
  refine specG_of (h := law_h ) (?_ : wpG Tryd.prog kE ([]) 400 10 [] (law_h ) ([]) (fun _ => .bool true))
  rw [law_x]
  (repeat' (first | with_reducible exact rfl | exact trivial | with_reducible assumption | (with_reducible exact hts_sp _ _ _ (by first | assumption | exact aok_gg _ _)) | exact cSn_len _ | exact cSn_one _ | exact cU_len _ | exact cI_len _ | exact cB_len _ | exact cU_one _ | exact cI_one _ | exact cB_one _ | exact (fun _ h => h) | exact (fun _ h => List.mem_cons_of_mem _ h) | exact (fun _ h => (List.not_mem_nil h).elim) | (with_reducible refine e1_in ?_) | (with_reducible refine e2_in ?_) | (with_reducible refine lx_in (Nat.le_of_ble_eq_true rfl) ?_) | (with_reducible refine rqx_rf ?_) | (with_reducible refine rqx_in ?_ ?_ ?_) | (with_reducible apply And.intro) | (with_reducible intro _)))
  all_goals (first | rfl | exact aok_gg _ _ | (simp only [*, Bool.and_true, Bool.true_and, Bool.and_false, Bool.false_and, Bool.or_true, Bool.true_or, Bool.or_false, Bool.false_or, Bool.not_true, Bool.not_false, cond_true, cond_false]; done) | (simp; done) | (simp at *; done) | (decide +kernel) | exact bou_sp _ _ (htL 400) (by assumption) (show (4 : Nat) ≤ 9223372036854775807 by decide) | exact bou_sp _ _ (htL 1200) (by assumption) (show (4 : Nat) ≤ 9223372036854775807 by decide) | exact beh_sp _ _ (htL 400) (by assumption) (show (4 : Nat) ≤ 9223372036854775807 by decide) (by assumption) (by decide +kernel) | exact txt_sp _ _ [⟨5, 70000, -30, 900, 20⟩] (aok_gg _ _) (by decide) (by decide +kernel) (by decide) | omega | trace_state)

theorem q64_ {x : Int} (h0 : -9223372036854775808 ≤ x) (h1 : x ≤ 9223372036854775807) : IntKind.i64.wrap x = x := IntWalk.i64_in _ ⟨h0, h1⟩
/-! The other side of the pitch: only the line of Y turns. -/
def yOK (l : List Sn) : Prop := ∀ e ∈ l, -9223372036854775808 ≤ e.y ∧ e.y ≤ 9223372036854775807
theorem ng_i {y : Int} (h : -9223372036854775807 ≤ y ∧ y ≤ 9223372036854775807) : IntKind.i64.wrap (0 - y) = -y := by rw [q64_ (by omega) (by omega)]; omega
theorem mir_rng {s : Sn} (h : -9223372036854775808 ≤ s.y ∧ s.y ≤ 9223372036854775807) : sRng (mirF s) = sRng s := by
  by_cases e : s.y = -9223372036854775808
  · unfold sRng mirF
    rw [e]
    have : IntKind.i64.wrap (0 - -9223372036854775808) = -9223372036854775808 := by decide
    rw [this]
  · unfold sRng mirF
    simp only [ng_i (show -9223372036854775807 ≤ s.y ∧ s.y ≤ 9223372036854775807 by omega)]
    rw [Bool.eq_iff_iff]
    simp
    omega
theorem mir_bad {l : List Sn} (h : yOK l) {i : Nat} (hi : i < l.length) : badS (mirS l) i = badS l i := by
  unfold badS
  rw [mir_at hi, mir_rng (h _ (gSn_in hi))]
  by_cases h0 : 0 < i
  · rw [mir_at (show i - 1 < l.length by omega)]; rfl
  · rw [decide_eq_false h0, Bool.false_and, Bool.false_and]
theorem mir_fb {l : List Sn} (h : yOK l) : fbad (mirS l) = fbad l := by
  unfold fbad
  rw [mir_len]
  have : ∀ k, k ≤ l.length → (List.range k).find? (badS (mirS l)) = (List.range k).find? (badS l) := by
    intro k
    induction k with
    | zero => intro _; rfl
    | succ k ih =>
      intro hk
      rw [List.range_succ, List.find?_append, List.find?_append, ih (by omega)]
      simp only [List.find?_singleton, mir_bad h (show k < l.length by omega)]
  exact this _ (Nat.le_refl _)
theorem mir_rg {l : List Sn} (h : yOK l) {i : Nat} (hi : i < l.length) : sRng (gSn (mirS l) i) = sRng (gSn l i) := by rw [mir_at hi, mir_rng (h _ (gSn_in hi))]
theorem fb_lt {l : List Sn} {i : Nat} (h : fbad l = some i) : i < l.length := by
  unfold fbad at h
  exact List.mem_range.1 (List.mem_of_find?_eq_some h)
theorem mir_ckE {l : List Sn} (h : yOK l) : ckE (mirS l) = ckE l := by
  unfold ckE
  rw [mir_len, mir_fb h]
  cases hf : fbad l with
  | none => rfl
  | some i => simp only [mir_rg h (fb_lt hf)]
theorem mir_ckI {l : List Sn} (h : yOK l) : ckI (mirS l) = ckI l := by
  unfold ckI
  rw [mir_len, mir_fb h]
theorem mir_z {l : List Sn} {i : Nat} (hi : i < l.length) : (gSn (mirS l) i).z = (gSn l i).z := by rw [mir_at hi]; rfl
theorem mir_low (l : List Sn) : ∀ k, k ≤ l.length → lowI (mirS l) k = lowI l k := by
  intro k
  induction k with
  | zero => intro _; rfl
  | succ k ih =>
    intro hk
    have e := ih (by omega)
    simp only [lowI]
    rw [e, mir_z (show k < l.length by omega), mir_z (low_len (by omega) (by omega))]
theorem mir_buB {l : List Sn} (h : yOK l) : buB (mirS l) = buB l := by
  by_cases h0 : l.length = 0
  · have := nil_of h0; subst this; rfl
  · unfold buB
    rw [mir_ckE h, mir_len, mir_low l _ (Nat.le_refl _), mir_z (low_len (Nat.le_refl _) (by omega))]
theorem mir_buN {l : List Sn} (h : yOK l) : buN (mirS l) = buN l := by
  unfold buN
  rw [mir_buB h, mir_len, mir_low l _ (Nat.le_refl _)]

theorem sme_n {a b : Option Addr} {c d n : Nat} {M : List Sn} (h : M.length = n) (hA : AOK a n) (hB : AOK b n) (hn : n ≤ 200) : SpecG Tryd.prog [] [(a, cSn M), (b, cSn M)] 15 #[.slice a n c, .slice b n d] [] (fun _ => .bool true) := by
  subst h
  exact sme_sp a b c d M hA hB hn
theorem sme_0 : SpecG Tryd.prog [] [(none, cSn []), (none, cSn [])] 15 #[.slice none 0 0, .slice none 0 0] [] (fun _ => .bool true) := sme_sp none none 0 0 [] aok_n aok_n (Nat.zero_le _)
theorem bh_200 {l : List Sn} (h : (ckE l != 0) = false) : (bhS l).length ≤ 200 := by
  have := len_64 h
  rw [bh_len]; omega

def lcc_h (a : Option Addr) (c : Nat) (l : List Sn) : Hint := .specg kE [] [] [] (fun ads0 x ↦ Value.bool true) (.lit (.pl (.split (.perm [] .nil) (.specg wE [0] [cSn l] [] (fun ads0 x ↦ Value.tuple #[Value.int .i64 (ckI l), .int .i64 (ckE l)]) (.specg wE [0] [cSn l] [] (fun ads0 x ↦ Value.tuple #[Value.int .i64 (ckI l), .int .i64 (ckE l)]) (.pl (.known true
 (.lit (.lit (.pl (.lit (.perm [] .nil))))))))))))
theorem lcc_x (a : Option Addr) (c : Nat) (l : List Sn) : wpG Tryd.prog kE ([(a, cSn l)]) 400 3 [.slice a l.length c] (lcc_h a c l) ([]) (fun _ => .bool true) = ((SpecG Tryd.prog kE [] (10 : FuncId) #[] [] fun x ↦ Value.bool true) /\ (∀ (e : Ex), e ∈ kE -> e ∈ kE) /\ (decide ((↑(List.length l) : Int) > (200 : Int)) = true -> Value.bool true = Value.bool true) /\ (decide ((↑(List.length l) : Int) > (200 : Int)) = false -> cSn l = cSn l /\ (SpecG Tryd.prog wE
 [(a, cSn l)] (11 : FuncId) #[Value.slice a (List.length l) c] [] fun x ↦ Value.tuple #[Value.int .i64 (ckI l), .int .i64 (ckE l)]) /\ (∀ (e : Ex), e ∈ wE -> e ∈ kE) /\ cSn l = cSn l /\ (SpecG Tryd.prog wE [(a, cSn l)] (12 : FuncId) #[Value.slice a (List.length l) c] [] fun x ↦ Value.tuple #[Value.int
 .i64 (ckI l), .int .i64 (ckE l)]) /\ (∀ (e : Ex), e ∈ wE -> e ∈ kE) /\ (ckI l == ckI l) = true /\ Value.bool (ckE l == ckE l) = Value.bool true)) := by kernel_rfl
set_option maxHeartbeats 4000000 in
theorem lcc_sp (a : Option Addr) (c : Nat) (l : List Sn) (hA : AOK a l.length) (hl : l.length ≤ 9223372036854775807) (hc : l.length ≤ c) : SpecG Tryd.prog kE ([(a, cSn l)]) 3 #[.slice a l.length c] ([]) (fun _ => .bool true) := by
  refine specG_of (h := lcc_h a c l) (?_ : wpG Tryd.prog kE ([(a, cSn l)]) 400 3 [.slice a l.length c] (lcc_h a c l) ([]) (fun _ => .bool true))
  rw [lcc_x]
  (repeat' (first | with_reducible exact rfl | exact trivial | with_reducible assumption | (with_reducible exact law_sp) | (with_reducible exact chk_sp _ _ _ hA hl) | (with_reducible exact rck_sp _ _ _ hA hl) | exact cSn_len _ | exact cSn_one _ | exact cU_len _ | exact cI_len _ | exact cB_len _ | exact cU_one _ | exact cI_one _ | exact cB_one _ | exact (fun _ h => h) | exact (fun _ h => List.mem_cons_of_mem _ h) | exact (fun _ h => (List.not_mem_nil h).elim) | (with_reducible refine e1_in ?_) | (with_reducible refine e2_in ?_) | (with_reducible refine lx_in (Nat.le_of_ble_eq_true rfl) ?_) | (with_reducible refine rqx_rf ?_) | (with_reducible refine rqx_in ?_ ?_ ?_) | (with_reducible apply And.intro) | (with_reducible intro _)))
  all_goals (first | rfl | exact aok_gg _ _ | (simp only [*, Bool.and_true, Bool.true_and, Bool.and_false, Bool.false_and, Bool.or_true, Bool.true_or, Bool.or_false, Bool.false_or, Bool.not_true, Bool.not_false, cond_true, cond_false]; done) | (simp; done) | (simp at *; done) | (decide +kernel) |  omega | trace_state)
def lcb0_h (a : Option Addr) (c : Nat) (l : List Sn) : Hint := .specg kE [] [] [] (fun ads0 x ↦ Value.bool true) (.lit (.pl (.split (.perm [] .nil) (.specg wE [0] [cSn l] [] (fun ads0 x ↦ Value.tuple #[Value.int .i64 (↑(buN l) : Int), .bool (buB l)]) (.specg wE [0] [cSn l] [] (fun ads0 x ↦ Value.tuple #[Value.int .i64 (↑(buN l) : Int), .bool (buB l)]) (.pl
 (.known true (.lit (.lit (.pl (.lit (.known true (.lit (.specg wE [0] [cSn l] [RowT.mk (33 : TypeId) (5 : Nat) (List.length (bhS l)) (cSn (bhS l))] (fun ads0 ads ↦ Value.slice (Prod.fst (nthS ads (0 : Nat))) (List.length (bhS l)) (Prod.snd (nthS ads (0 : Nat)))) (.lit (.lit (.specg wE [0] [cSn l]
 [RowT.mk (33 : TypeId) (5 : Nat) (List.length (bhS l)) (cSn (bhS l))] (fun ads0 ads ↦ Value.slice (Prod.fst (nthS ads (0 : Nat))) (List.length (bhS l)) (Prod.snd (nthS ads (0 : Nat)))) (.lit (.specg [] [1, 2] [cSn (bhS l), cSn (bhS l)] [] (fun ads0 x ↦ Value.bool true) (.lit (.perm []
 .nil)))))))))))))))))))))
theorem lcb0_x (a : Option Addr) (c : Nat) (l : List Sn) : wpG Tryd.prog kE ([(a, cSn l)]) 400 4 [.slice a l.length c] (lcb0_h a c l) ([]) (fun _ => .bool true) = ((SpecG Tryd.prog kE [] (10 : FuncId) #[] [] fun x ↦ Value.bool true) /\ (∀ (e : Ex), e ∈ kE -> e ∈ kE) /\ (decide ((↑(List.length l) : Int) > (200 : Int)) = true -> Value.bool true = Value.bool true) /\ (decide ((↑(List.length l) : Int) > (200 : Int)) = false -> cSn l = cSn l /\ (SpecG Tryd.prog wE
 [(a, cSn l)] (13 : FuncId) #[Value.slice a (List.length l) c] [] fun x ↦ Value.tuple #[Value.int .i64 (↑(buN l) : Int), .bool (buB l)]) /\ (∀ (e : Ex), e ∈ wE -> e ∈ kE) /\ cSn l = cSn l /\ (SpecG Tryd.prog wE [(a, cSn l)] (14 : FuncId) #[Value.slice a (List.length l) c] [] fun x ↦ Value.tuple
 #[Value.int .i64 (↑(buN l) : Int), .bool (buB l)]) /\ (∀ (e : Ex), e ∈ wE -> e ∈ kE) /\ ((↑(buN l) : Int) == (↑(buN l) : Int)) = true /\ (buB l == buB l) = true /\ cSn l = cSn l /\ (SpecG Tryd.prog wE [(a, cSn l)] (16 : FuncId) #[Value.slice a (List.length l) c] [RowT.mk (33 : TypeId) (5 : Nat)
 (List.length (bhS l)) (cSn (bhS l))] fun ads ↦ Value.slice (Prod.fst (nthS ads (0 : Nat))) (List.length (bhS l)) (Prod.snd (nthS ads (0 : Nat)))) /\ (∀ (e : Ex), e ∈ wE -> e ∈ kE) /\ ∀ (a_1 : Option Addr) (cap : Nat), AOK a_1 (List.length (bhS l)) -> List.length (bhS l) ≤ cap -> cSn l = cSn l /\
 (SpecG Tryd.prog wE [(a, cSn l)] (17 : FuncId) #[Value.slice a (List.length l) c] [RowT.mk (33 : TypeId) (5 : Nat) (List.length (bhS l)) (cSn (bhS l))] fun ads ↦ Value.slice (Prod.fst (nthS ads (0 : Nat))) (List.length (bhS l)) (Prod.snd (nthS ads (0 : Nat)))) /\ (∀ (e : Ex), e ∈ wE -> e ∈ kE) /\ ∀
 (a : Option Addr) (cap_1 : Nat), AOK a (List.length (bhS l)) -> List.length (bhS l) ≤ cap_1 -> cSn (bhS l) = cSn (bhS l) /\ cSn (bhS l) = cSn (bhS l) /\ (SpecG Tryd.prog [] [(a_1, cSn (bhS l)), (a, cSn (bhS l))] (15 : FuncId) #[Value.slice a_1 (List.length (bhS l)) cap, .slice a (List.length (bhS l))
 cap_1] [] fun x ↦ Value.bool true) /\ (∀ (e : Ex), e ∈ [] -> e ∈ kE) /\ Value.bool true = Value.bool true)) := by kernel_rfl
set_option maxHeartbeats 4000000 in
theorem lcb0_sp (a : Option Addr) (c : Nat) (l : List Sn) (hA : AOK a l.length) (hl : l.length ≤ 9223372036854775807) (hc : l.length ≤ c) (he : (ckE l != 0) = false) : SpecG Tryd.prog kE ([(a, cSn l)]) 4 #[.slice a l.length c] ([]) (fun _ => .bool true) := by
  refine specG_of (h := lcb0_h a c l) (?_ : wpG Tryd.prog kE ([(a, cSn l)]) 400 4 [.slice a l.length c] (lcb0_h a c l) ([]) (fun _ => .bool true))
  rw [lcb0_x]
  (repeat' (first | with_reducible exact rfl | exact trivial | with_reducible assumption | (with_reducible exact law_sp) | (with_reducible exact bou_sp _ _ _ hA hl) | (with_reducible exact rbo_sp _ _ _ hA hl) | (with_reducible exact beh_sp _ _ _ hA hl hc he) | (with_reducible exact rbeh_sp _ _ _ hA hl hc he) | exact cSn_len _ | exact cSn_one _ | exact cU_len _ | exact cI_len _ | exact cB_len _ | exact cU_one _ | exact cI_one _ | exact cB_one _ | exact (fun _ h => h) | exact (fun _ h => List.mem_cons_of_mem _ h) | exact (fun _ h => (List.not_mem_nil h).elim) | (with_reducible refine e1_in ?_) | (with_reducible refine e2_in ?_) | (with_reducible refine lx_in (Nat.le_of_ble_eq_true rfl) ?_) | (with_reducible refine rqx_rf ?_) | (with_reducible refine rqx_in ?_ ?_ ?_) | (with_reducible apply And.intro) | (with_reducible intro _)))
  all_goals (first | rfl | exact aok_gg _ _ | (simp only [*, Bool.and_true, Bool.true_and, Bool.and_false, Bool.false_and, Bool.or_true, Bool.true_or, Bool.or_false, Bool.false_or, Bool.not_true, Bool.not_false, cond_true, cond_false]; done) | (simp; done) | (simp at *; done) | (decide +kernel) | exact sme_n rfl (by assumption) (by assumption) (bh_200 he) | omega | trace_state)
def lcb1_h (a : Option Addr) (c : Nat) (l : List Sn) : Hint := .specg kE [] [] [] (fun ads0 x ↦ Value.bool true) (.lit (.pl (.split (.perm [] .nil) (.specg wE [0] [cSn l] [] (fun ads0 x ↦ Value.tuple #[Value.int .i64 (↑(buN l) : Int), .bool (buB l)]) (.specg wE [0] [cSn l] [] (fun ads0 x ↦ Value.tuple #[Value.int .i64 (↑(buN l) : Int), .bool (buB l)]) (.pl
 (.known true (.lit (.lit (.pl (.lit (.known true (.lit (.specg wE [0] [cSn l] [] (fun ads0 x ↦ Value.slice none (0 : Nat) (0 : Nat)) (.lit (.lit (.specg wE [0] [cSn l] [] (fun ads0 x ↦ Value.slice none (0 : Nat) (0 : Nat)) (.lit (.specg [] [1000, 1001] [cSn [], cSn []] [] (fun ads0 x ↦ Value.bool
 true) (.lit (.perm [] .nil)))))))))))))))))))))
theorem lcb1_x (a : Option Addr) (c : Nat) (l : List Sn) : wpG Tryd.prog kE ([(a, cSn l)]) 400 4 [.slice a l.length c] (lcb1_h a c l) ([]) (fun _ => .bool true) = ((SpecG Tryd.prog kE [] (10 : FuncId) #[] [] fun x ↦ Value.bool true) /\ (∀ (e : Ex), e ∈ kE -> e ∈ kE) /\ (decide ((↑(List.length l) : Int) > (200 : Int)) = true -> Value.bool true = Value.bool true) /\ (decide ((↑(List.length l) : Int) > (200 : Int)) = false -> cSn l = cSn l /\ (SpecG Tryd.prog wE
 [(a, cSn l)] (13 : FuncId) #[Value.slice a (List.length l) c] [] fun x ↦ Value.tuple #[Value.int .i64 (↑(buN l) : Int), .bool (buB l)]) /\ (∀ (e : Ex), e ∈ wE -> e ∈ kE) /\ cSn l = cSn l /\ (SpecG Tryd.prog wE [(a, cSn l)] (14 : FuncId) #[Value.slice a (List.length l) c] [] fun x ↦ Value.tuple
 #[Value.int .i64 (↑(buN l) : Int), .bool (buB l)]) /\ (∀ (e : Ex), e ∈ wE -> e ∈ kE) /\ ((↑(buN l) : Int) == (↑(buN l) : Int)) = true /\ (buB l == buB l) = true /\ cSn l = cSn l /\ (SpecG Tryd.prog wE [(a, cSn l)] (16 : FuncId) #[Value.slice a (List.length l) c] [] fun x ↦ Value.slice none (0 : Nat)
 (0 : Nat)) /\ (∀ (e : Ex), e ∈ wE -> e ∈ kE) /\ cSn l = cSn l /\ (SpecG Tryd.prog wE [(a, cSn l)] (17 : FuncId) #[Value.slice a (List.length l) c] [] fun x ↦ Value.slice none (0 : Nat) (0 : Nat)) /\ (∀ (e : Ex), e ∈ wE -> e ∈ kE) /\ cSn ([] : List Sn) = [] /\ cSn ([] : List Sn) = [] /\ (SpecG
 Tryd.prog [] [(none, cSn []), (none, cSn [])] (15 : FuncId) #[Value.slice none (0 : Nat) (0 : Nat), .slice none (0 : Nat) (0 : Nat)] [] fun x ↦ Value.bool true) /\ (∀ (e : Ex), e ∈ [] -> e ∈ kE) /\ Value.bool true = Value.bool true)) := by kernel_rfl
set_option maxHeartbeats 4000000 in
theorem lcb1_sp (a : Option Addr) (c : Nat) (l : List Sn) (hA : AOK a l.length) (hl : l.length ≤ 9223372036854775807) (hc : l.length ≤ c) (he : (ckE l != 0) = true) : SpecG Tryd.prog kE ([(a, cSn l)]) 4 #[.slice a l.length c] ([]) (fun _ => .bool true) := by
  refine specG_of (h := lcb1_h a c l) (?_ : wpG Tryd.prog kE ([(a, cSn l)]) 400 4 [.slice a l.length c] (lcb1_h a c l) ([]) (fun _ => .bool true))
  rw [lcb1_x]
  (repeat' (first | with_reducible exact rfl | exact trivial | with_reducible assumption | (with_reducible exact law_sp) | (with_reducible exact bou_sp _ _ _ hA hl) | (with_reducible exact rbo_sp _ _ _ hA hl) | (with_reducible exact bhx_sp _ _ _ hA hl he) | (with_reducible exact rbhx_sp _ _ _ hA hl he) | (with_reducible exact sme_0) | exact cSn_len _ | exact cSn_one _ | exact cU_len _ | exact cI_len _ | exact cB_len _ | exact cU_one _ | exact cI_one _ | exact cB_one _ | exact (fun _ h => h) | exact (fun _ h => List.mem_cons_of_mem _ h) | exact (fun _ h => (List.not_mem_nil h).elim) | (with_reducible refine e1_in ?_) | (with_reducible refine e2_in ?_) | (with_reducible refine lx_in (Nat.le_of_ble_eq_true rfl) ?_) | (with_reducible refine rqx_rf ?_) | (with_reducible refine rqx_in ?_ ?_ ?_) | (with_reducible apply And.intro) | (with_reducible intro _)))
  all_goals (first | rfl | exact aok_gg _ _ | (simp only [*, Bool.and_true, Bool.true_and, Bool.and_false, Bool.false_and, Bool.or_true, Bool.true_or, Bool.or_false, Bool.false_or, Bool.not_true, Bool.not_false, cond_true, cond_false]; done) | (simp; done) | (simp at *; done) | (decide +kernel) |  omega | trace_state)

theorem low_min (l : List Sn) : ∀ k, ∀ m, m < k → (gSn l (lowI l k)).z ≤ (gSn l m).z ∧ (m < lowI l k → (gSn l (lowI l k)).z < (gSn l m).z) := by
  intro k
  induction k with
  | zero => intro m h; omega
  | succ k ih =>
    intro m hm
    simp only [lowI]
    split
    · rename_i h
      by_cases e : m < k
      · have := (ih m e).1
        exact ⟨by omega, fun _ => by omega⟩
      · have : m = k := by omega
        subst this
        exact ⟨Int.le_refl _, fun h2 => by omega⟩
    · rename_i h
      by_cases e : m < k
      · exact ih m e
      · have : m = k := by omega
        subst this
        have := low_lt l m
        exact ⟨by omega, fun h2 => by omega⟩
theorem bh_ck {l : List Sn} (h : (ckE l != 0) = false) : ckE (bhS l) = 0 := by
  obtain ⟨h1, h2⟩ := ckE_0 (ck_f h)
  refine (ck_0 (decide_eq_false (by rw [bh_len]; omega)) ⟨Nat.le_refl _, fun m hm => ?_⟩).2
  rw [bh_len] at hm
  have b := bad_0 (h2.2 (buN l + m) (by omega))
  refine bad_n (by rw [bh_at]; exact b.1) ?_
  by_cases h0 : m = 0
  · exact Or.inl h0
  · right
    rw [bh_at, bh_at]
    have := b.2 (by omega)
    have e : buN l + m - 1 = buN l + (m - 1) := by omega
    rw [e] at this
    omega
theorem bu_t {l : List Sn} (h : buB l = true) : buN l = lowI l l.length ∧ 0 < buN l ∧ buN l + 1 < l.length ∧ (gSn l (buN l)).z ≤ 1000 := by
  have e := bu_n h
  rw [e]
  unfold buB at h
  simp at h
  have := low_lt l l.length
  omega
theorem lw_1 {l : List Sn} (hb : buB l = true) (he : (ckE l != 0) = false) : (decide ((buN l : Int) < 1) || (decide ((buN l : Int) ≥ IntKind.i64.wrap ((l.length : Int) - 1)) || (decide ((gSn l (buN l)).z > 1000) || ((bhS l).length : Int) != IntKind.i64.wrap ((l.length : Int) - (buN l : Int))))) = false := by
  obtain ⟨_, h1, h2, h3⟩ := bu_t hb
  have h64 := len_64 he
  rw [q64_ (x := (l.length : Int) - 1) (by omega) (by omega), q64_ (x := (l.length : Int) - (buN l : Int)) (by omega) (by omega), bh_len]
  simp
  omega
theorem lw_2 {l : List Sn} (hb : buB l = true) {i : Nat} (hi : i < l.length) : (decide ((gSn l i).z < (gSn l (buN l)).z) || (decide ((i : Int) < (buN l : Int)) && (gSn l i).z == (gSn l (buN l)).z)) = false := by
  have h := low_min l l.length i hi
  rw [← (bu_t hb).1] at h
  by_cases e : i < buN l
  · have := h.2 e
    simp
    omega
  · simp
    omega
@[reducible] def lwL (l : List Sn) : LoopR := ⟨Nat, fun i => [(77, .int .i64 i)], [], fun _ => [], fun i => i ≤ l.length, fun i => l.length - i, []⟩
theorem bh_f {l : List Sn} (h : buB l = false) : (bhS l).length = l.length := by rw [bh_0 h]
theorem bh_63 {l : List Sn} (h : (ckE l != 0) = false) : (bhS l).length ≤ 9223372036854775807 := Nat.le_trans (bh_200 h) (by decide)

def lcl0_h (a : Option Addr) (c : Nat) (l : List Sn) : Hint := .specg kE [] [] [] (fun ads0 x ↦ Value.bool true) (.lit (.pl (.split (.perm [] .nil) (.specg wE [0] [cSn l] [] (fun ads0 x ↦ Value.tuple #[Value.int .i64 (↑(buN l) : Int), .bool (buB l)]) (.specg wE [0] [cSn l] [RowT.mk (33 : TypeId) (5 : Nat) (List.length (bhS l)) (cSn (bhS l))] (fun ads0 ads ↦
 Value.slice (Prod.fst (nthS ads (0 : Nat))) (List.length (bhS l)) (Prod.snd (nthS ads (0 : Nat)))) (.specg wE [0] [cSn l] [] (fun ads0 x ↦ Value.tuple #[Value.int .i64 (ckI l), .int .i64 (ckE l)]) (.pl (.known false (.split (.cut [((2 : Nat), .bool ((↑(buN l) : Int) == (0 : Int) && (↑(List.length
 (bhS l)) : Int) == (↑(List.length l) : Int)))] (.pl (.split (.lit (.pl (.lit (.lit (.pl (.lit (.pl (.lit .nil)))))))) (hl 4 (.lit .nil)))) (.perm [] .nil)) (.cut [((74 : Nat), .bool (decide ((↑(buN l) : Int) < (1 : Int)) || (decide ((↑(buN l) : Int) ≥ IntKind.i64.wrap ((↑(List.length l) : Int) - (1
 : Int))) || (decide (Sn.z (gSn l (Int.toNat (↑(buN l) : Int))) > 1000) || (↑(List.length (bhS l)) : Int) != IntKind.i64.wrap ((↑(List.length l) : Int) - (↑(buN l) : Int))))))] (.split (hl 19 (.lit .nil)) (.lit (.lit (.pl (hl 3 (.split (hl 13 (.lit .nil)) (.lit (.lit (.ix (.lit (.lit (.lst (0 : Nat)
 (Int.toNat (↑(buN l) : Int) * (5 : Nat) + (3 : Nat)) (Value.int .i64 (Sn.z (gSn l (Int.toNat (↑(buN l) : Int))))) (.lit (.lit (.split (hl 6 (.lit .nil)) (.lit (.pl (.lit (.lit (.pl (hl 3 (.pl (.lit .nil))))))))))))))))))))))) (.split (.perm [] .nil) (.pl (.inv (lwL l) fun x0 ↦ .split (.ix (.lst (0 :
 Nat) (x0 * (5 : Nat)) (Value.int .i64 (Sn.t (gSn l x0))) (.lst (0 : Nat) (x0 * (5 : Nat) + (1 : Nat)) (Value.int .i64 (Sn.x (gSn l x0))) (.lst (0 : Nat) (x0 * (5 : Nat) + (2 : Nat)) (Value.int .i64 (Sn.y (gSn l x0))) (.lst (0 : Nat) (x0 * (5 : Nat) + (3 : Nat)) (Value.int .i64 (Sn.z (gSn l x0)))
 (.lst (0 : Nat) (x0 * (5 : Nat) + (4 : Nat)) (Value.int .i64 (Sn.e (gSn l x0))) (ho 2 5 (.cut [((104 : Nat), .bool (decide (Sn.z (gSn l x0) < Sn.z (gSn l (Int.toNat (↑(buN l) : Int)))) || decide ((↑x0 : Int) < (↑(buN l) : Int)) && Sn.z (gSn l x0) == Sn.z (gSn l (Int.toNat (↑(buN l) : Int)))))]
 (.draw [0, 1, 2] none [0, 1, 2] (.take 0 (.take 1 (.ob 2 (.take 2 (.take 3 (.take 4 (.ix (.take 5 (.take 6 (.lst (0 : Nat) (Int.toNat (↑(buN l) : Int) * (5 : Nat) + (3 : Nat)) (Value.int .i64 (Sn.z (gSn l (Int.toNat (↑(buN l) : Int))))) (.take 7 (.take 8 (.take 9 (.split (.take 10 (.lit (.take 11
 (.lit (.take 12 (.lit (.take 13 (.take 14 (.take 15 (.take 16 (.take 17 (.take 18 (.take 19 (.take 20 (.take 21 (.lit (.take 22 (.lit .nil)))))))))))))))))) (.take 10 (.lit (.take 11 (.lit (.take 12 (.lit (.take 13 (.split (.take 14 (.lit (.ob 2 (.take 15 (.lit (.take 16 (.lit (.take 17 (.lit (.ix
 (.take 18 (.lit (.take 19 (.lit (.lst (0 : Nat) (Int.toNat (↑(buN l) : Int) * (5 : Nat) + (3 : Nat)) (Value.int .i64 (Sn.z (gSn l (Int.toNat (↑(buN l) : Int))))) (.take 20 (.lit (.pl (.take 21 (.lit (.lit (.take 22 (.lit .nil))))))))))))))))))))))) (.take 14 (.lit (.take 15 (.lit (.take 16 (.lit
 (.take 17 (.lit (.take 18 (.lit (.take 19 (.lit (.take 20 (.lit (.take 21 (.lit (.lit (.take 22 (.lit .nil)))))))))))))))))))))))))))))))))))))))))) (.split (.perm [] .nil) (.perm [] .nil)))))))))) (.specg wE [1] [cSn (bhS l)] [] (fun ads0 x ↦ Value.tuple #[Value.int .i64 (ckI (bhS l)), .int .i64
 (ckE (bhS l))]) (.cut [((2 : Nat), .bool (ckE (bhS l) == 0 && (Sn.t (gSn (bhS l) (0 : Nat)) == Sn.t (gSn l (Int.toNat (↑(buN l) : Int))) && (Sn.x (gSn (bhS l) (0 : Nat)) == Sn.x (gSn l (Int.toNat (↑(buN l) : Int))) && (Sn.y (gSn (bhS l) (0 : Nat)) == Sn.y (gSn l (Int.toNat (↑(buN l) : Int))) &&
 (Sn.z (gSn (bhS l) (0 : Nat)) == Sn.z (gSn l (Int.toNat (↑(buN l) : Int))) && (Sn.e (gSn (bhS l) (0 : Nat)) == Sn.e (gSn l (Int.toNat (↑(buN l) : Int))) && true)))))))] (.draw [0, 1] none [0, 1] (.take 0 (.take 1 (.pl (.take 2 (.take 3 (.split (.take 4 (.lit (.ix (.take 5 (.lit (.lst (1 : Nat) (0 :
 Nat) (Value.int .i64 (Sn.t (gSn (bhS l) (0 : Nat)))) (.lst (1 : Nat) (1 : Nat) (Value.int .i64 (Sn.x (gSn (bhS l) (0 : Nat)))) (.lst (1 : Nat) (2 : Nat) (Value.int .i64 (Sn.y (gSn (bhS l) (0 : Nat)))) (.lst (1 : Nat) (3 : Nat) (Value.int .i64 (Sn.z (gSn (bhS l) (0 : Nat)))) (.lst (1 : Nat) (4 : Nat)
 (Value.int .i64 (Sn.e (gSn (bhS l) (0 : Nat)))) (.take 6 (.lit (.take 7 (.lit (.take 8 (.lit (.ix (.take 9 (.lit (.lst (0 : Nat) (Int.toNat (↑(buN l) : Int) * (5 : Nat)) (Value.int .i64 (Sn.t (gSn l (Int.toNat (↑(buN l) : Int))))) (.lst (0 : Nat) (Int.toNat (↑(buN l) : Int) * (5 : Nat) + (1 : Nat))
 (Value.int .i64 (Sn.x (gSn l (Int.toNat (↑(buN l) : Int))))) (.lst (0 : Nat) (Int.toNat (↑(buN l) : Int) * (5 : Nat) + (2 : Nat)) (Value.int .i64 (Sn.y (gSn l (Int.toNat (↑(buN l) : Int))))) (.lst (0 : Nat) (Int.toNat (↑(buN l) : Int) * (5 : Nat) + (3 : Nat)) (Value.int .i64 (Sn.z (gSn l (Int.toNat
 (↑(buN l) : Int))))) (.lst (0 : Nat) (Int.toNat (↑(buN l) : Int) * (5 : Nat) + (4 : Nat)) (Value.int .i64 (Sn.e (gSn l (Int.toNat (↑(buN l) : Int))))) (.take 10 (.lit (.take 11 (.lit (.take 12 .nil))))))))))))))))))))))))))))) (.take 4 (.lit (.take 5 (.lit (.take 6 (.lit (.take 7 (.lit (.take 8
 (.lit (.take 9 (.lit (.take 10 (.lit (.take 11 (.lit (.take 12 .nil)))))))))))))))))))))))) (.perm [] .nil))))))))))))))))
theorem lcl0_x (a : Option Addr) (c : Nat) (l : List Sn) : wpG Tryd.prog kE ([(a, cSn l)]) 400 5 [.slice a l.length c] (lcl0_h a c l) ([]) (fun _ => .bool true) = ((SpecG Tryd.prog kE [] (10 : FuncId) #[] [] fun x ↦ Value.bool true) /\ (∀ (e : Ex), e ∈ kE -> e ∈ kE) /\ (decide ((↑(List.length l) : Int) > (200 : Int)) = true -> Value.bool true = Value.bool true) /\ (decide ((↑(List.length l) : Int) > (200 : Int)) = false -> cSn l = cSn l /\ (SpecG Tryd.prog wE
 [(a, cSn l)] (13 : FuncId) #[Value.slice a (List.length l) c] [] fun x ↦ Value.tuple #[Value.int .i64 (↑(buN l) : Int), .bool (buB l)]) /\ (∀ (e : Ex), e ∈ wE -> e ∈ kE) /\ cSn l = cSn l /\ (SpecG Tryd.prog wE [(a, cSn l)] (16 : FuncId) #[Value.slice a (List.length l) c] [RowT.mk (33 : TypeId) (5 :
 Nat) (List.length (bhS l)) (cSn (bhS l))] fun ads ↦ Value.slice (Prod.fst (nthS ads (0 : Nat))) (List.length (bhS l)) (Prod.snd (nthS ads (0 : Nat)))) /\ (∀ (e : Ex), e ∈ wE -> e ∈ kE) /\ ∀ (a_1 : Option Addr) (cap : Nat), AOK a_1 (List.length (bhS l)) -> List.length (bhS l) ≤ cap -> cSn l = cSn l
 /\ (SpecG Tryd.prog wE [(a, cSn l)] (11 : FuncId) #[Value.slice a (List.length l) c] [] fun x ↦ Value.tuple #[Value.int .i64 (ckI l), .int .i64 (ckE l)]) /\ (∀ (e : Ex), e ∈ wE -> e ∈ kE) /\ (ckE l != 0) = false /\ ((!buB l) = true -> ((((↑(buN l) : Int) == (0 : Int)) = true -> Value.bool
 ((↑(List.length (bhS l)) : Int) == (↑(List.length l) : Int)) = Value.bool ((↑(buN l) : Int) == (0 : Int) && (↑(List.length (bhS l)) : Int) == (↑(List.length l) : Int)) /\ True) /\ (((↑(buN l) : Int) == (0 : Int)) = false -> Value.bool false = Value.bool ((↑(buN l) : Int) == (0 : Int) &&
 (↑(List.length (bhS l)) : Int) == (↑(List.length l) : Int)) /\ True)) /\ ∀ (junk : Nat -> Value), .bool ((↑(buN l) : Int) == (0 : Int) && (↑(List.length (bhS l)) : Int) == (↑(List.length l) : Int)) = Value.bool true) /\ ((!buB l) = false -> ((decide ((↑(buN l) : Int) < (1 : Int)) = true ->
 Value.bool true = Value.bool (decide ((↑(buN l) : Int) < (1 : Int)) || (decide ((↑(buN l) : Int) ≥ IntKind.i64.wrap ((↑(List.length l) : Int) - (1 : Int))) || (decide (Sn.z (gSn l (Int.toNat (↑(buN l) : Int))) > 1000) || (↑(List.length (bhS l)) : Int) != IntKind.i64.wrap ((↑(List.length l) : Int) -
 (↑(buN l) : Int))))) /\ True) /\ (decide ((↑(buN l) : Int) < (1 : Int)) = false -> (decide ((↑(buN l) : Int) ≥ IntKind.i64.wrap ((↑(List.length l) : Int) - (1 : Int))) = true -> Value.bool true = Value.bool (decide ((↑(buN l) : Int) < (1 : Int)) || (decide ((↑(buN l) : Int) ≥ IntKind.i64.wrap
 ((↑(List.length l) : Int) - (1 : Int))) || (decide (Sn.z (gSn l (Int.toNat (↑(buN l) : Int))) > 1000) || (↑(List.length (bhS l)) : Int) != IntKind.i64.wrap ((↑(List.length l) : Int) - (↑(buN l) : Int))))) /\ True) /\ (decide ((↑(buN l) : Int) ≥ IntKind.i64.wrap ((↑(List.length l) : Int) - (1 :
 Int))) = false -> (((0 : Int) ≤ (↑(buN l) : Int) /\ (↑(buN l) : Int) < (↑(List.length l) : Int)) /\ AOK a (List.length l)) /\ bk a = bk a /\ ofs a + Int.toNat (↑(buN l) : Int) * (5 : Nat) + (3 : Nat) = ofs a + (Int.toNat (↑(buN l) : Int) * (5 : Nat) + (3 : Nat)) /\ lgo (cSn l) (Int.toNat (↑(buN l) :
 Int) * (5 : Nat) + (3 : Nat)) = some (Value.int .i64 (Sn.z (gSn l (Int.toNat (↑(buN l) : Int))))) /\ (decide (Sn.z (gSn l (Int.toNat (↑(buN l) : Int))) > 1000) = true -> Value.bool true = Value.bool (decide ((↑(buN l) : Int) < (1 : Int)) || (decide ((↑(buN l) : Int) ≥ IntKind.i64.wrap
 ((↑(List.length l) : Int) - (1 : Int))) || (decide (Sn.z (gSn l (Int.toNat (↑(buN l) : Int))) > 1000) || (↑(List.length (bhS l)) : Int) != IntKind.i64.wrap ((↑(List.length l) : Int) - (↑(buN l) : Int))))) /\ True) /\ (decide (Sn.z (gSn l (Int.toNat (↑(buN l) : Int))) > 1000) = false -> Value.bool
 ((↑(List.length (bhS l)) : Int) != IntKind.i64.wrap ((↑(List.length l) : Int) - (↑(buN l) : Int))) = Value.bool (decide ((↑(buN l) : Int) < (1 : Int)) || (decide ((↑(buN l) : Int) ≥ IntKind.i64.wrap ((↑(List.length l) : Int) - (1 : Int))) || (decide (Sn.z (gSn l (Int.toNat (↑(buN l) : Int))) > 1000)
 || (↑(List.length (bhS l)) : Int) != IntKind.i64.wrap ((↑(List.length l) : Int) - (↑(buN l) : Int))))) /\ True)))) /\ ∀ (junk : Nat -> Value), ((decide ((↑(buN l) : Int) < (1 : Int)) || (decide ((↑(buN l) : Int) ≥ IntKind.i64.wrap ((↑(List.length l) : Int) - (1 : Int))) || (decide (Sn.z (gSn l
 (Int.toNat (↑(buN l) : Int))) > 1000) || (↑(List.length (bhS l)) : Int) != IntKind.i64.wrap ((↑(List.length l) : Int) - (↑(buN l) : Int))))) = true -> Value.bool false = Value.bool true) /\ ((decide ((↑(buN l) : Int) < (1 : Int)) || (decide ((↑(buN l) : Int) ≥ IntKind.i64.wrap ((↑(List.length l) :
 Int) - (1 : Int))) || (decide (Sn.z (gSn l (Int.toNat (↑(buN l) : Int))) > 1000) || (↑(List.length (bhS l)) : Int) != IntKind.i64.wrap ((↑(List.length l) : Int) - (↑(buN l) : Int))))) = false -> (∃ x, x ≤ List.length l /\ Value.int .i64 0 = Value.int .i64 (↑x : Int) /\ True) /\ ∀ (x0 : Nat), x0 ≤
 List.length l -> ∀ (junk : Nat -> Value), (decide ((↑x0 : Int) < (↑(List.length l) : Int)) = true -> (((0 : Int) ≤ (↑x0 : Int) /\ (↑x0 : Int) < (↑(List.length l) : Int)) /\ AOK a (List.length l)) /\ bk a = bk a /\ ofs a + x0 * (5 : Nat) = ofs a + x0 * (5 : Nat) /\ lgo (cSn l) (x0 * (5 : Nat)) = some
 (Value.int .i64 (Sn.t (gSn l x0))) /\ bk a = bk a /\ ofs a + x0 * (5 : Nat) + (1 : Nat) = ofs a + (x0 * (5 : Nat) + (1 : Nat)) /\ lgo (cSn l) (x0 * (5 : Nat) + (1 : Nat)) = some (Value.int .i64 (Sn.x (gSn l x0))) /\ bk a = bk a /\ ofs a + x0 * (5 : Nat) + (2 : Nat) = ofs a + (x0 * (5 : Nat) + (2 :
 Nat)) /\ lgo (cSn l) (x0 * (5 : Nat) + (2 : Nat)) = some (Value.int .i64 (Sn.y (gSn l x0))) /\ bk a = bk a /\ ofs a + x0 * (5 : Nat) + (3 : Nat) = ofs a + (x0 * (5 : Nat) + (3 : Nat)) /\ lgo (cSn l) (x0 * (5 : Nat) + (3 : Nat)) = some (Value.int .i64 (Sn.z (gSn l x0))) /\ bk a = bk a /\ ofs a + x0 *
 (5 : Nat) + (4 : Nat) = ofs a + (x0 * (5 : Nat) + (4 : Nat)) /\ lgo (cSn l) (x0 * (5 : Nat) + (4 : Nat)) = some (Value.int .i64 (Sn.e (gSn l x0))) /\ ∀ (b : Nat), e2 b 5 ((b = b /\ (((0 : Int) ≤ (↑(buN l) : Int) /\ (↑(buN l) : Int) < (↑(List.length l) : Int)) /\ AOK a (List.length l)) /\ bk a = bk a
 /\ ofs a + Int.toNat (↑(buN l) : Int) * (5 : Nat) + (3 : Nat) = ofs a + (Int.toNat (↑(buN l) : Int) * (5 : Nat) + (3 : Nat)) /\ lgo (cSn l) (Int.toNat (↑(buN l) : Int) * (5 : Nat) + (3 : Nat)) = some (Value.int .i64 (Sn.z (gSn l (Int.toNat (↑(buN l) : Int))))) /\ (decide (Sn.z (gSn l x0) < Sn.z (gSn
 l (Int.toNat (↑(buN l) : Int)))) = true -> Value.bool true = Value.bool (decide (Sn.z (gSn l x0) < Sn.z (gSn l (Int.toNat (↑(buN l) : Int)))) || decide ((↑x0 : Int) < (↑(buN l) : Int)) && Sn.z (gSn l x0) == Sn.z (gSn l (Int.toNat (↑(buN l) : Int)))) /\ True) /\ (decide (Sn.z (gSn l x0) < Sn.z (gSn l
 (Int.toNat (↑(buN l) : Int)))) = false -> (decide ((↑x0 : Int) < (↑(buN l) : Int)) = true -> b = b /\ (((0 : Int) ≤ (↑(buN l) : Int) /\ (↑(buN l) : Int) < (↑(List.length l) : Int)) /\ AOK a (List.length l)) /\ bk a = bk a /\ ofs a + Int.toNat (↑(buN l) : Int) * (5 : Nat) + (3 : Nat) = ofs a +
 (Int.toNat (↑(buN l) : Int) * (5 : Nat) + (3 : Nat)) /\ lgo (cSn l) (Int.toNat (↑(buN l) : Int) * (5 : Nat) + (3 : Nat)) = some (Value.int .i64 (Sn.z (gSn l (Int.toNat (↑(buN l) : Int))))) /\ Value.bool (Sn.z (gSn l x0) == Sn.z (gSn l (Int.toNat (↑(buN l) : Int)))) = Value.bool (decide (Sn.z (gSn l
 x0) < Sn.z (gSn l (Int.toNat (↑(buN l) : Int)))) || decide ((↑x0 : Int) < (↑(buN l) : Int)) && Sn.z (gSn l x0) == Sn.z (gSn l (Int.toNat (↑(buN l) : Int)))) /\ True) /\ (decide ((↑x0 : Int) < (↑(buN l) : Int)) = false -> Value.bool false = Value.bool (decide (Sn.z (gSn l x0) < Sn.z (gSn l (Int.toNat
 (↑(buN l) : Int)))) || decide ((↑x0 : Int) < (↑(buN l) : Int)) && Sn.z (gSn l x0) == Sn.z (gSn l (Int.toNat (↑(buN l) : Int)))) /\ True))) /\ ∀ (junk : Nat -> Value), ((decide (Sn.z (gSn l x0) < Sn.z (gSn l (Int.toNat (↑(buN l) : Int)))) || decide ((↑x0 : Int) < (↑(buN l) : Int)) && Sn.z (gSn l x0)
 == Sn.z (gSn l (Int.toNat (↑(buN l) : Int)))) = true -> Value.bool false = Value.bool true) /\ ((decide (Sn.z (gSn l x0) < Sn.z (gSn l (Int.toNat (↑(buN l) : Int)))) || decide ((↑x0 : Int) < (↑(buN l) : Int)) && Sn.z (gSn l x0) == Sn.z (gSn l (Int.toNat (↑(buN l) : Int)))) = false -> ∃ y, y ≤
 List.length l /\ List.length l - y < List.length l - x0 /\ Value.int .i64 (IntKind.i64.wrap ((↑x0 : Int) + (1 : Int))) = Value.int .i64 (↑y : Int) /\ True))) /\ (decide ((↑x0 : Int) < (↑(List.length l) : Int)) = false -> cSn (bhS l) = cSn (bhS l) /\ (SpecG Tryd.prog wE [(a_1, cSn (bhS l))] (11 :
 FuncId) #[Value.slice a_1 (List.length (bhS l)) cap] [] fun x ↦ Value.tuple #[Value.int .i64 (ckI (bhS l)), .int .i64 (ckE (bhS l))]) /\ (∀ (e : Ex), e ∈ wE -> e ∈ kE) /\ (((ckE (bhS l) == 0) = true -> (((0 : Int) ≤ (0 : Int) /\ (0 : Int) < (↑(List.length (bhS l)) : Int)) /\ AOK a_1 (List.length
 (bhS l))) /\ bk a_1 = bk a_1 /\ ofs a_1 + (0 : Nat) = ofs a_1 + (0 : Nat) /\ lgo (cSn (bhS l)) (0 : Nat) = some (Value.int .i64 (Sn.t (gSn (bhS l) (0 : Nat)))) /\ bk a_1 = bk a_1 /\ ofs a_1 + (0 : Nat) + (1 : Nat) = ofs a_1 + (1 : Nat) /\ lgo (cSn (bhS l)) (1 : Nat) = some (Value.int .i64 (Sn.x (gSn
 (bhS l) (0 : Nat)))) /\ bk a_1 = bk a_1 /\ ofs a_1 + (0 : Nat) + (2 : Nat) = ofs a_1 + (2 : Nat) /\ lgo (cSn (bhS l)) (2 : Nat) = some (Value.int .i64 (Sn.y (gSn (bhS l) (0 : Nat)))) /\ bk a_1 = bk a_1 /\ ofs a_1 + (0 : Nat) + (3 : Nat) = ofs a_1 + (3 : Nat) /\ lgo (cSn (bhS l)) (3 : Nat) = some
 (Value.int .i64 (Sn.z (gSn (bhS l) (0 : Nat)))) /\ bk a_1 = bk a_1 /\ ofs a_1 + (0 : Nat) + (4 : Nat) = ofs a_1 + (4 : Nat) /\ lgo (cSn (bhS l)) (4 : Nat) = some (Value.int .i64 (Sn.e (gSn (bhS l) (0 : Nat)))) /\ (((0 : Int) ≤ (↑(buN l) : Int) /\ (↑(buN l) : Int) < (↑(List.length l) : Int)) /\ AOK a
 (List.length l)) /\ bk a = bk a /\ ofs a + Int.toNat (↑(buN l) : Int) * (5 : Nat) = ofs a + Int.toNat (↑(buN l) : Int) * (5 : Nat) /\ lgo (cSn l) (Int.toNat (↑(buN l) : Int) * (5 : Nat)) = some (Value.int .i64 (Sn.t (gSn l (Int.toNat (↑(buN l) : Int))))) /\ bk a = bk a /\ ofs a + Int.toNat (↑(buN l)
 : Int) * (5 : Nat) + (1 : Nat) = ofs a + (Int.toNat (↑(buN l) : Int) * (5 : Nat) + (1 : Nat)) /\ lgo (cSn l) (Int.toNat (↑(buN l) : Int) * (5 : Nat) + (1 : Nat)) = some (Value.int .i64 (Sn.x (gSn l (Int.toNat (↑(buN l) : Int))))) /\ bk a = bk a /\ ofs a + Int.toNat (↑(buN l) : Int) * (5 : Nat) + (2
 : Nat) = ofs a + (Int.toNat (↑(buN l) : Int) * (5 : Nat) + (2 : Nat)) /\ lgo (cSn l) (Int.toNat (↑(buN l) : Int) * (5 : Nat) + (2 : Nat)) = some (Value.int .i64 (Sn.y (gSn l (Int.toNat (↑(buN l) : Int))))) /\ bk a = bk a /\ ofs a + Int.toNat (↑(buN l) : Int) * (5 : Nat) + (3 : Nat) = ofs a +
 (Int.toNat (↑(buN l) : Int) * (5 : Nat) + (3 : Nat)) /\ lgo (cSn l) (Int.toNat (↑(buN l) : Int) * (5 : Nat) + (3 : Nat)) = some (Value.int .i64 (Sn.z (gSn l (Int.toNat (↑(buN l) : Int))))) /\ bk a = bk a /\ ofs a + Int.toNat (↑(buN l) : Int) * (5 : Nat) + (4 : Nat) = ofs a + (Int.toNat (↑(buN l) :
 Int) * (5 : Nat) + (4 : Nat)) /\ lgo (cSn l) (Int.toNat (↑(buN l) : Int) * (5 : Nat) + (4 : Nat)) = some (Value.int .i64 (Sn.e (gSn l (Int.toNat (↑(buN l) : Int))))) /\ Value.bool (Sn.t (gSn (bhS l) (0 : Nat)) == Sn.t (gSn l (Int.toNat (↑(buN l) : Int))) && (Sn.x (gSn (bhS l) (0 : Nat)) == Sn.x (gSn
 l (Int.toNat (↑(buN l) : Int))) && (Sn.y (gSn (bhS l) (0 : Nat)) == Sn.y (gSn l (Int.toNat (↑(buN l) : Int))) && (Sn.z (gSn (bhS l) (0 : Nat)) == Sn.z (gSn l (Int.toNat (↑(buN l) : Int))) && (Sn.e (gSn (bhS l) (0 : Nat)) == Sn.e (gSn l (Int.toNat (↑(buN l) : Int))) && true))))) = Value.bool (ckE
 (bhS l) == 0 && (Sn.t (gSn (bhS l) (0 : Nat)) == Sn.t (gSn l (Int.toNat (↑(buN l) : Int))) && (Sn.x (gSn (bhS l) (0 : Nat)) == Sn.x (gSn l (Int.toNat (↑(buN l) : Int))) && (Sn.y (gSn (bhS l) (0 : Nat)) == Sn.y (gSn l (Int.toNat (↑(buN l) : Int))) && (Sn.z (gSn (bhS l) (0 : Nat)) == Sn.z (gSn l
 (Int.toNat (↑(buN l) : Int))) && (Sn.e (gSn (bhS l) (0 : Nat)) == Sn.e (gSn l (Int.toNat (↑(buN l) : Int))) && true)))))) /\ True) /\ ((ckE (bhS l) == 0) = false -> Value.bool false = Value.bool (ckE (bhS l) == 0 && (Sn.t (gSn (bhS l) (0 : Nat)) == Sn.t (gSn l (Int.toNat (↑(buN l) : Int))) && (Sn.x
 (gSn (bhS l) (0 : Nat)) == Sn.x (gSn l (Int.toNat (↑(buN l) : Int))) && (Sn.y (gSn (bhS l) (0 : Nat)) == Sn.y (gSn l (Int.toNat (↑(buN l) : Int))) && (Sn.z (gSn (bhS l) (0 : Nat)) == Sn.z (gSn l (Int.toNat (↑(buN l) : Int))) && (Sn.e (gSn (bhS l) (0 : Nat)) == Sn.e (gSn l (Int.toNat (↑(buN l) :
 Int))) && true)))))) /\ True)) /\ ∀ (junk : Nat -> Value), .bool (ckE (bhS l) == 0 && (Sn.t (gSn (bhS l) (0 : Nat)) == Sn.t (gSn l (Int.toNat (↑(buN l) : Int))) && (Sn.x (gSn (bhS l) (0 : Nat)) == Sn.x (gSn l (Int.toNat (↑(buN l) : Int))) && (Sn.y (gSn (bhS l) (0 : Nat)) == Sn.y (gSn l (Int.toNat
 (↑(buN l) : Int))) && (Sn.z (gSn (bhS l) (0 : Nat)) == Sn.z (gSn l (Int.toNat (↑(buN l) : Int))) && (Sn.e (gSn (bhS l) (0 : Nat)) == Sn.e (gSn l (Int.toNat (↑(buN l) : Int))) && true)))))) = Value.bool true))))) := by kernel_rfl
set_option maxHeartbeats 4000000 in
theorem lcl0_sp (a : Option Addr) (c : Nat) (l : List Sn) (hA : AOK a l.length) (hl : l.length ≤ 9223372036854775807) (hc : l.length ≤ c) (he : (ckE l != 0) = false) : SpecG Tryd.prog kE ([(a, cSn l)]) 5 #[.slice a l.length c] ([]) (fun _ => .bool true) := by
  refine specG_of (h := lcl0_h a c l) (?_ : wpG Tryd.prog kE ([(a, cSn l)]) 400 5 [.slice a l.length c] (lcl0_h a c l) ([]) (fun _ => .bool true))
  rw [lcl0_x]
  (repeat' (first | with_reducible exact rfl | exact trivial | with_reducible assumption | (with_reducible exact law_sp) | (with_reducible exact bou_sp _ _ _ hA hl) | (with_reducible exact beh_sp _ _ _ hA hl hc he) | (with_reducible exact chk_sp _ _ _ hA hl) | (with_reducible exact chk_sp _ _ _ (by assumption) (bh_63 he)) | exact cSn_len _ | exact cSn_one _ | exact cU_len _ | exact cI_len _ | exact cB_len _ | exact cU_one _ | exact cI_one _ | exact cB_one _ | exact (fun _ h => h) | exact (fun _ h => List.mem_cons_of_mem _ h) | exact (fun _ h => (List.not_mem_nil h).elim) | (with_reducible refine e1_in ?_) | (with_reducible refine e2_in ?_) | (with_reducible refine lx_in (Nat.le_of_ble_eq_true rfl) ?_) | (with_reducible refine rqx_rf ?_) | (with_reducible refine rqx_in ?_ ?_ ?_) | (with_reducible apply And.intro) | (with_reducible intro _)))
  all_goals (try simp only [Int.toNat_natCast] at *)
  all_goals (try (first | rfl | (simp only [*, Bool.and_true, Bool.true_and, Bool.and_false, Bool.false_and, Bool.or_true, Bool.true_or, Bool.or_false, Bool.false_or, Bool.not_true, Bool.not_false, cond_true, cond_false]; done)))
  all_goals (have h64 := len_64 he)
  all_goals (try (have hb : buB l = false := (by simpa using ‹(!buB l) = true›); rw [bu_0 hb, bh_f hb]; simp; done))
  all_goals (have hb : buB l = true := (by simpa using ‹(!buB l) = false›); obtain ⟨e0, h1, h2, h3⟩ := bu_t hb; have w1 := lw_1 hb he; have hbl : (bhS l).length = l.length - buN l := bh_len l)
  all_goals (first
    | omega
    | exact cSn_get0 (by omega) | exact cSn_get1 (by omega) | exact cSn_get2 (by omega) | exact cSn_get3 (by omega) | exact cSn_get4 (by omega)
    | (have hh : false = true := w1.symm.trans (by assumption); cases hh)
    | (exact ⟨0, Nat.zero_le _, rfl, trivial⟩)
    | (have hi := lt_s ‹decide (_ < (l.length : Int)) = true›; first | omega | exact hA | exact cSn_get0 hi | exact cSn_get1 hi | exact cSn_get2 hi | exact cSn_get3 hi | exact cSn_get4 hi | (have w2 := lw_2 hb hi; have hh : false = true := w2.symm.trans (by assumption); cases hh) | exact ⟨_ + 1, hi, (by show _ - (_ + 1) < _; omega), wr_s (by omega), trivial⟩ | (refine congrArg Value.bool ?_; have hh := ‹decide ((gSn l _).z < _) = _›; rw [hh]; first | rfl | (have hk := ‹decide ((_ : Int) < (buN l : Int)) = _›; rw [hk]; rfl)))
    | exact cSn_get0 (m := 0) (by rw [bh_len]; omega) | exact cSn_get1 (m := 0) (by rw [bh_len]; omega) | exact cSn_get2 (m := 0) (by rw [bh_len]; omega) | exact cSn_get3 (m := 0) (by rw [bh_len]; omega) | exact cSn_get4 (m := 0) (by rw [bh_len]; omega)
    | (simp only [bh_ck he, bh_at, Nat.add_zero]; simp; done)
    | (refine congrArg Value.bool ?_; have hh := ‹(ckE (bhS l) == 0) = _›; rw [hh]; rfl)
    | (exfalso; have hh := ‹(ckE (bhS l) == 0) = false›; rw [bh_ck he] at hh; cases hh)
    | trace_state)
def lcl1_h (a : Option Addr) (c : Nat) (l : List Sn) : Hint := .specg kE [] [] [] (fun ads0 x ↦ Value.bool true) (.lit (.pl (.split (.perm [] .nil) (.specg wE [0] [cSn l] [] (fun ads0 x ↦ Value.tuple #[Value.int .i64 (↑(buN l) : Int), .bool (buB l)]) (.specg wE [0] [cSn l] [] (fun ads0 x ↦ Value.slice none (0 : Nat) (0 : Nat)) (.specg wE [0] [cSn l] [] (fun ads0
 x ↦ Value.tuple #[Value.int .i64 (ckI l), .int .i64 (ckE l)]) (.pl (.known true (.cut [((2 : Nat), .bool !buB l)] (.split (.lit (.pl (.lit (.pl (.lit .nil))))) (.lit (.lit (.lit .nil)))) (.perm [] .nil))))))))))
theorem lcl1_x (a : Option Addr) (c : Nat) (l : List Sn) : wpG Tryd.prog kE ([(a, cSn l)]) 400 5 [.slice a l.length c] (lcl1_h a c l) ([]) (fun _ => .bool true) = ((SpecG Tryd.prog kE [] (10 : FuncId) #[] [] fun x ↦ Value.bool true) /\ (∀ (e : Ex), e ∈ kE -> e ∈ kE) /\ (decide ((↑(List.length l) : Int) > (200 : Int)) = true -> Value.bool true = Value.bool true) /\ (decide ((↑(List.length l) : Int) > (200 : Int)) = false -> cSn l = cSn l /\ (SpecG Tryd.prog wE
 [(a, cSn l)] (13 : FuncId) #[Value.slice a (List.length l) c] [] fun x ↦ Value.tuple #[Value.int .i64 (↑(buN l) : Int), .bool (buB l)]) /\ (∀ (e : Ex), e ∈ wE -> e ∈ kE) /\ cSn l = cSn l /\ (SpecG Tryd.prog wE [(a, cSn l)] (16 : FuncId) #[Value.slice a (List.length l) c] [] fun x ↦ Value.slice none
 (0 : Nat) (0 : Nat)) /\ (∀ (e : Ex), e ∈ wE -> e ∈ kE) /\ cSn l = cSn l /\ (SpecG Tryd.prog wE [(a, cSn l)] (11 : FuncId) #[Value.slice a (List.length l) c] [] fun x ↦ Value.tuple #[Value.int .i64 (ckI l), .int .i64 (ckE l)]) /\ (∀ (e : Ex), e ∈ wE -> e ∈ kE) /\ (ckE l != 0) = true /\ (((!buB l) =
 true -> Value.bool true = Value.bool !buB l /\ True) /\ ((!buB l) = false -> Value.bool false = Value.bool !buB l /\ True)) /\ ∀ (junk : Nat -> Value), (Value.bool !buB l) = Value.bool true)) := by kernel_rfl
set_option maxHeartbeats 4000000 in
theorem lcl1_sp (a : Option Addr) (c : Nat) (l : List Sn) (hA : AOK a l.length) (hl : l.length ≤ 9223372036854775807) (hc : l.length ≤ c) (he : (ckE l != 0) = true) : SpecG Tryd.prog kE ([(a, cSn l)]) 5 #[.slice a l.length c] ([]) (fun _ => .bool true) := by
  refine specG_of (h := lcl1_h a c l) (?_ : wpG Tryd.prog kE ([(a, cSn l)]) 400 5 [.slice a l.length c] (lcl1_h a c l) ([]) (fun _ => .bool true))
  rw [lcl1_x]
  (repeat' (first | with_reducible exact rfl | exact trivial | with_reducible assumption | (with_reducible exact law_sp) | (with_reducible exact bou_sp _ _ _ hA hl) | (with_reducible exact bhx_sp _ _ _ hA hl he) | (with_reducible exact chk_sp _ _ _ hA hl) | exact cSn_len _ | exact cSn_one _ | exact cU_len _ | exact cI_len _ | exact cB_len _ | exact cU_one _ | exact cI_one _ | exact cB_one _ | exact (fun _ h => h) | exact (fun _ h => List.mem_cons_of_mem _ h) | exact (fun _ h => (List.not_mem_nil h).elim) | (with_reducible refine e1_in ?_) | (with_reducible refine e2_in ?_) | (with_reducible refine lx_in (Nat.le_of_ble_eq_true rfl) ?_) | (with_reducible refine rqx_rf ?_) | (with_reducible refine rqx_in ?_ ?_ ?_) | (with_reducible apply And.intro) | (with_reducible intro _)))
  all_goals (first | rfl | exact aok_gg _ _ | (simp only [*, Bool.and_true, Bool.true_and, Bool.and_false, Bool.false_and, Bool.or_true, Bool.true_or, Bool.or_false, Bool.false_or, Bool.not_true, Bool.not_false, cond_true, cond_false]; done) | (simp; done) | (simp at *; done) | (decide +kernel) | (rw [bu_v1 hl he]; done) | (simp [bu_v1 hl he]; done) | omega | trace_state)

theorem mir_mir {l : List Sn} (h : yOK l) : mirS (mirS l) = l := by
  unfold mirS
  rw [List.map_map]
  have : ∀ s ∈ l, (mirF ∘ mirF) s = id s := by
    intro s hs
    have hy := h s hs
    show Sn.mk s.t s.x (IntKind.i64.wrap (0 - IntKind.i64.wrap (0 - s.y))) s.z s.e = s
    have e : IntKind.i64.wrap (0 - IntKind.i64.wrap (0 - s.y)) = s.y := by
      by_cases e : s.y = -9223372036854775808
      · rw [e]; decide
      · have i1 : IntKind.i64.wrap (0 - s.y) = -s.y := ng_i (by omega)
        rw [i1, ng_i (by omega)]; omega
    rw [e]
  rw [List.map_congr_left this, List.map_id]
theorem sh_at {n : Int} {l : List Sn} {m : Nat} (h : m < l.length) : gSn (shS n l) m = shF n (gSn l m) := by
  rw [gSn_el h, gSn_el (by rw [sh_len]; exact h)]
  simp [shS]
theorem sh_ck {n : Int} {l : List Sn} (he : (ckE l != 0) = false) (ho : shO n l = true) : ckE (shS n l) = 0 := by
  obtain ⟨h1, h2⟩ := ckE_0 (ck_f he)
  refine (ck_0 (decide_eq_false (by rw [sh_len]; omega)) ⟨Nat.le_refl _, fun m hm => ?_⟩).2
  rw [sh_len] at hm
  have b := bad_0 (h2.2 m hm)
  have r := sRng_b b.1
  have i := sh_in ho hm
  refine bad_n ?_ ?_
  · rw [sh_at hm]
    unfold sRng shF
    simp
    omega
  · by_cases h0 : m = 0
    · exact Or.inl h0
    · right
      have := b.2 (by omega)
      rw [sh_at hm, sh_at (show m - 1 < l.length by omega)]
      show ¬ (gSn l m).t + n ≤ (gSn l (m - 1)).t + n
      omega
theorem sh_z {n : Int} {l : List Sn} {i : Nat} (hi : i < l.length) : (gSn (shS n l) i).z = (gSn l i).z := by rw [sh_at hi]; rfl
theorem sh_low (n : Int) (l : List Sn) : ∀ k, k ≤ l.length → lowI (shS n l) k = lowI l k := by
  intro k
  induction k with
  | zero => intro _; rfl
  | succ k ih =>
    intro hk
    have e := ih (by omega)
    simp only [lowI]
    rw [e, sh_z (show k < l.length by omega), sh_z (low_len (by omega) (by omega))]
theorem sh_buB {n : Int} {l : List Sn} (he : (ckE l != 0) = false) (ho : shO n l = true) : buB (shS n l) = buB l := by
  by_cases h0 : l.length = 0
  · have := nil_of h0; subst this; rfl
  · unfold buB
    rw [sh_ck he ho, ck_f he, sh_len, sh_low n l _ (Nat.le_refl _), sh_z (low_len (Nat.le_refl _) (by omega))]
theorem sh_buN {n : Int} {l : List Sn} (he : (ckE l != 0) = false) (ho : shO n l = true) : buN (shS n l) = buN l := by
  unfold buN
  rw [sh_buB he ho, sh_len, sh_low n l _ (Nat.le_refl _)]
theorem sh_00 {n : Int} {l : List Sn} (h : shE n l = 0) : (ckE l != 0) = false ∧ shO n l = true := by
  unfold shE at h
  split at h
  · rename_i h1
    split at h
    · rename_i h2; exact ⟨by simp [h1], h2⟩
    · omega
  · rename_i h1; exact absurd h h1
theorem sh_neg {n : Int} {l : List Sn} (hn : -9223372036854775808 ≤ n ∧ n ≤ 9223372036854775807) (he : (ckE l != 0) = false) (ho : shO n l = true) : (-9223372036854775808 ≤ IntKind.i64.wrap (0 - n) ∧ IntKind.i64.wrap (0 - n) ≤ 9223372036854775807) ∧ (ckE (shS n l) != 0) = false ∧ shO (IntKind.i64.wrap (0 - n)) (shS n l) = true ∧ shS (IntKind.i64.wrap (0 - n)) (shS n l) = l := by
  have hw : -9223372036854775808 ≤ IntKind.i64.wrap (0 - n) ∧ IntKind.i64.wrap (0 - n) ≤ 9223372036854775807 := by
    by_cases e : n = -9223372036854775808
    · rw [e]; decide
    · rw [ng_i (by omega)]; omega
  refine ⟨hw, by rw [sh_ck he ho]; rfl, ?_, ?_⟩
  · by_cases h0 : l.length = 0
    · have := nil_of h0; subst this; rfl
    · have i0 := sh_in ho (i := 0) (by omega)
      have t0 := tm_b he (i := 0) (by omega)
      rw [ng_i (by omega)]
      unfold shO
      rw [List.all_eq_true]
      intro s hs
      obtain ⟨m, hm, rfl⟩ := List.mem_iff_getElem.1 hs
      rw [sh_len] at hm
      have t := tm_b he hm
      have i := sh_in ho hm
      have e := sh_at (n := n) hm
      rw [gSn_el (by rw [sh_len]; exact hm)] at e
      rw [e]
      unfold inT shF
      simp
      omega
  · by_cases h0 : l.length = 0
    · have := nil_of h0; subst this; rfl
    · have i0 := sh_in ho (i := 0) (by omega)
      have t0 := tm_b he (i := 0) (by omega)
      rw [ng_i (by omega)]
      unfold shS
      rw [List.map_map]
      have : ∀ s ∈ l, (shF (-n) ∘ shF n) s = id s := by
        intro s hs
        show Sn.mk (s.t + n + -n) s.x s.y s.z s.e = s
        have e : s.t + n + -n = s.t := by omega
        rw [e]
      rw [List.map_congr_left this, List.map_id]
theorem bou_n {a : Option Addr} {c k : Nat} {M : List Sn} (h : M.length = k) (hA : AOK a k) (hk : k ≤ 9223372036854775807) : SpecG Tryd.prog wE [(a, cSn M)] 13 #[.slice a k c] [] (fun _ => .tuple #[.int .i64 (buN M : Nat), .bool (buB M)]) := by
  subst h
  exact bou_sp a c M hA hk
theorem bou_0 : SpecG Tryd.prog wE [(none, cSn [])] 13 #[.slice none 0 0] [] (fun _ => .tuple #[.int .i64 (buN [] : Nat), .bool (buB [])]) := bou_sp none 0 [] aok_n (Nat.zero_le _)

def lcm0_h (a : Option Addr) (c : Nat) (l : List Sn) (n : Int) : Hint := .specg kE [] [] [] (fun ads0 x ↦ Value.bool true) (.lit (.pl (.split (.perm [] .nil) (.specg wE [0] [cSn l] [] (fun ads0 x ↦ Value.tuple #[Value.int .i64 (↑(buN l) : Int), .bool (buB l)]) (.specg [] [0] [cSn l] [RowT.mk (33 : TypeId) (5 : Nat) (List.length l) (cSn (mirS l))] (fun ads0 ads ↦
 Value.slice (Prod.fst (nthS ads (0 : Nat))) (List.length l) (Prod.snd (nthS ads (0 : Nat)))) (.specg wE [1] [cSn (mirS l)] [] (fun ads0 x ↦ Value.tuple #[Value.int .i64 (↑(buN (mirS l)) : Int), .bool (buB (mirS l))]) (.cut [((36 : Nat), .bool ((↑(buN (mirS l)) : Int) != (↑(buN l) : Int) || !buB
 (mirS l) == buB l))] (.pl (.split (.lit (.lit (.lit .nil))) (.lit (.lit (.pl (.lit .nil)))))) (.split (.perm [] .nil) (.specg wE [0] [cSn l] [RowT.mk (33 : TypeId) (5 : Nat) (List.length l) (cSn (shS n l))] (fun ads0 ads ↦ Value.tuple #[Value.slice (Prod.fst (nthS ads (0 : Nat))) (List.length l)
 (Prod.snd (nthS ads (0 : Nat))), .int .i64 0]) (.specg wE [2] [cSn (shS n l)] [] (fun ads0 x ↦ Value.tuple #[Value.int .i64 (↑(buN (shS n l)) : Int), .bool (buB (shS n l))]) (.cut [((4 : Nat), .bool ((↑(buN (shS n l)) : Int) == (↑(buN l) : Int) && buB (shS n l) == buB l))] (.pl (hl 3 (.pl (.lit
 (.split (.lit (.lit (.pl (.lit (.lit (.lit .nil)))))) (hl 4 (.lit .nil))))))) (.perm [] .nil))))))))))))
theorem lcm0_x (a : Option Addr) (c : Nat) (l : List Sn) (n : Int) : wpG Tryd.prog kE ([(a, cSn l)]) 400 7 [.slice a l.length c, .int .i64 n] (lcm0_h a c l n) ([]) (fun _ => .bool true) = ((SpecG Tryd.prog kE [] (10 : FuncId) #[] [] fun x ↦ Value.bool true) /\ (∀ (e : Ex), e ∈ kE -> e ∈ kE) /\ (decide ((↑(List.length l) : Int) > (200 : Int)) = true -> Value.bool true = Value.bool true) /\ (decide ((↑(List.length l) : Int) > (200 : Int)) = false -> cSn l = cSn l /\ (SpecG Tryd.prog wE
 [(a, cSn l)] (13 : FuncId) #[Value.slice a (List.length l) c] [] fun x ↦ Value.tuple #[Value.int .i64 (↑(buN l) : Int), .bool (buB l)]) /\ (∀ (e : Ex), e ∈ wE -> e ∈ kE) /\ cSn l = cSn l /\ (SpecG Tryd.prog [] [(a, cSn l)] (20 : FuncId) #[Value.slice a (List.length l) c] [RowT.mk (33 : TypeId) (5 :
 Nat) (List.length l) (cSn (mirS l))] fun ads ↦ Value.slice (Prod.fst (nthS ads (0 : Nat))) (List.length l) (Prod.snd (nthS ads (0 : Nat)))) /\ (∀ (e : Ex), e ∈ [] -> e ∈ kE) /\ ∀ (a_1 : Option Addr) (cap : Nat), AOK a_1 (List.length l) -> List.length l ≤ cap -> cSn (mirS l) = cSn (mirS l) /\ (SpecG
 Tryd.prog wE [(a_1, cSn (mirS l))] (13 : FuncId) (Array.mk [.slice a_1 (List.length l) cap]) [] fun x ↦ Value.tuple #[Value.int .i64 (↑(buN (mirS l)) : Int), .bool (buB (mirS l))]) /\ (∀ (e : Ex), e ∈ wE -> e ∈ kE) /\ ((((↑(buN (mirS l)) : Int) != (↑(buN l) : Int)) = true -> Value.bool true =
 Value.bool ((↑(buN (mirS l)) : Int) != (↑(buN l) : Int) || !buB (mirS l) == buB l) /\ True) /\ (((↑(buN (mirS l)) : Int) != (↑(buN l) : Int)) = false -> (Value.bool !buB (mirS l) == buB l) = Value.bool ((↑(buN (mirS l)) : Int) != (↑(buN l) : Int) || !buB (mirS l) == buB l) /\ True)) /\ ∀ (junk : Nat
 -> Value), (((↑(buN (mirS l)) : Int) != (↑(buN l) : Int) || !buB (mirS l) == buB l) = true -> Value.bool false = Value.bool true) /\ (((↑(buN (mirS l)) : Int) != (↑(buN l) : Int) || !buB (mirS l) == buB l) = false -> cSn l = cSn l /\ (SpecG Tryd.prog wE [(a, cSn l)] (18 : FuncId) #[Value.slice a
 (List.length l) c, .int .i64 n] [RowT.mk (33 : TypeId) (5 : Nat) (List.length l) (cSn (shS n l))] fun ads ↦ Value.tuple #[Value.slice (Prod.fst (nthS ads (0 : Nat))) (List.length l) (Prod.snd (nthS ads (0 : Nat))), .int .i64 0]) /\ (∀ (e : Ex), e ∈ wE -> e ∈ kE) /\ ∀ (a : Option Addr) (cap : Nat),
 AOK a (List.length l) -> List.length l ≤ cap -> cSn (shS n l) = cSn (shS n l) /\ (SpecG Tryd.prog wE [(a, cSn (shS n l))] (13 : FuncId) (Array.mk [.slice a (List.length l) cap]) [] fun x ↦ Value.tuple #[Value.int .i64 (↑(buN (shS n l)) : Int), .bool (buB (shS n l))]) /\ (∀ (e : Ex), e ∈ wE -> e ∈ kE)
 /\ ((((↑(buN (shS n l)) : Int) == (↑(buN l) : Int)) = true -> Value.bool (buB (shS n l) == buB l) = Value.bool ((↑(buN (shS n l)) : Int) == (↑(buN l) : Int) && buB (shS n l) == buB l) /\ True) /\ (((↑(buN (shS n l)) : Int) == (↑(buN l) : Int)) = false -> Value.bool false = Value.bool ((↑(buN (shS n
 l)) : Int) == (↑(buN l) : Int) && buB (shS n l) == buB l) /\ True)) /\ ∀ (junk : Nat -> Value), .bool ((↑(buN (shS n l)) : Int) == (↑(buN l) : Int) && buB (shS n l) == buB l) = Value.bool true))) := by kernel_rfl
set_option maxHeartbeats 4000000 in
theorem lcm0_sp (a : Option Addr) (c : Nat) (l : List Sn) (n : Int) (hA : AOK a l.length) (hl : l.length ≤ 9223372036854775807) (hc : l.length ≤ c) (n_ : -9223372036854775808 ≤ n ∧ n ≤ 9223372036854775807) (hy : yOK l) (he : (ckE l != 0) = false) (ho : shO n l = true) : SpecG Tryd.prog kE ([(a, cSn l)]) 7 #[.slice a l.length c, .int .i64 n] ([]) (fun _ => .bool true) := by
  refine specG_of (h := lcm0_h a c l n) (?_ : wpG Tryd.prog kE ([(a, cSn l)]) 400 7 [.slice a l.length c, .int .i64 n] (lcm0_h a c l n) ([]) (fun _ => .bool true))
  rw [lcm0_x]
  (repeat' (first | with_reducible exact rfl | exact trivial | with_reducible assumption | (with_reducible exact law_sp) | (with_reducible exact bou_sp _ _ _ hA hl) | (with_reducible exact mir_sp _ _ _ hA (by have := ‹decide ((l.length : Int) > 200) = false›; have := of_decide_eq_false this; omega)) | (with_reducible exact shw_sp _ _ _ _ hA hl n_ he ho) | exact cSn_len _ | exact cSn_one _ | exact cU_len _ | exact cI_len _ | exact cB_len _ | exact cU_one _ | exact cI_one _ | exact cB_one _ | exact (fun _ h => h) | exact (fun _ h => List.mem_cons_of_mem _ h) | exact (fun _ h => (List.not_mem_nil h).elim) | (with_reducible refine e1_in ?_) | (with_reducible refine e2_in ?_) | (with_reducible refine lx_in (Nat.le_of_ble_eq_true rfl) ?_) | (with_reducible refine rqx_rf ?_) | (with_reducible refine rqx_in ?_ ?_ ?_) | (with_reducible apply And.intro) | (with_reducible intro _)))
  all_goals (first | rfl | exact aok_gg _ _ | (simp only [*, Bool.and_true, Bool.true_and, Bool.and_false, Bool.false_and, Bool.or_true, Bool.true_or, Bool.or_false, Bool.false_or, Bool.not_true, Bool.not_false, cond_true, cond_false]; done) | (simp; done) | (simp at *; done) | (decide +kernel) | exact bou_n (mir_len _) (by assumption) hl | exact bou_n (sh_len _ _) (by assumption) hl | (simp only [mir_buN hy, mir_buB hy] at *; simp at *; done) | (simp only [mir_buN hy, mir_buB hy, sh_buN he ho, sh_buB he ho]; simp; done) |  omega | trace_state)
def lcm1_h (a : Option Addr) (c : Nat) (l : List Sn) (n : Int) : Hint := .specg kE [] [] [] (fun ads0 x ↦ Value.bool true) (.lit (.pl (.split (.perm [] .nil) (.specg wE [0] [cSn l] [] (fun ads0 x ↦ Value.tuple #[Value.int .i64 (↑(buN l) : Int), .bool (buB l)]) (.specg [] [0] [cSn l] [RowT.mk (33 : TypeId) (5 : Nat) (List.length l) (cSn (mirS l))] (fun ads0 ads ↦
 Value.slice (Prod.fst (nthS ads (0 : Nat))) (List.length l) (Prod.snd (nthS ads (0 : Nat)))) (.specg wE [1] [cSn (mirS l)] [] (fun ads0 x ↦ Value.tuple #[Value.int .i64 (↑(buN (mirS l)) : Int), .bool (buB (mirS l))]) (.cut [((36 : Nat), .bool ((↑(buN (mirS l)) : Int) != (↑(buN l) : Int) || !buB
 (mirS l) == buB l))] (.pl (.split (.lit (.lit (.lit .nil))) (.lit (.lit (.pl (.lit .nil)))))) (.split (.perm [] .nil) (.specg wE [0] [cSn l] [] (fun ads0 x ↦ Value.tuple #[Value.slice none (0 : Nat) (0 : Nat), .int .i64 (shE n l)]) (.specg wE [1000] [cSn []] [] (fun ads0 x ↦ Value.tuple #[Value.int
 .i64 (↑(buN []) : Int), .bool (buB [])]) (.cut [((4 : Nat), .bool (shE n l != 0 || (0 : Int) == (↑(buN l) : Int) && false == buB l))] (.pl (.split (hl 4 (.lit .nil)) (.lit (.lit (.pl (.lit (.split (.lit (.lit (.pl (.lit (.lit (.lit .nil)))))) (hl 4 (.lit .nil))))))))) (.perm [] .nil))))))))))))
theorem lcm1_x (a : Option Addr) (c : Nat) (l : List Sn) (n : Int) : wpG Tryd.prog kE ([(a, cSn l)]) 400 7 [.slice a l.length c, .int .i64 n] (lcm1_h a c l n) ([]) (fun _ => .bool true) = ((SpecG Tryd.prog kE [] (10 : FuncId) #[] [] fun x ↦ Value.bool true) /\ (∀ (e : Ex), e ∈ kE -> e ∈ kE) /\ (decide ((↑(List.length l) : Int) > (200 : Int)) = true -> Value.bool true = Value.bool true) /\ (decide ((↑(List.length l) : Int) > (200 : Int)) = false -> cSn l = cSn l /\ (SpecG Tryd.prog wE
 [(a, cSn l)] (13 : FuncId) #[Value.slice a (List.length l) c] [] fun x ↦ Value.tuple #[Value.int .i64 (↑(buN l) : Int), .bool (buB l)]) /\ (∀ (e : Ex), e ∈ wE -> e ∈ kE) /\ cSn l = cSn l /\ (SpecG Tryd.prog [] [(a, cSn l)] (20 : FuncId) #[Value.slice a (List.length l) c] [RowT.mk (33 : TypeId) (5 :
 Nat) (List.length l) (cSn (mirS l))] fun ads ↦ Value.slice (Prod.fst (nthS ads (0 : Nat))) (List.length l) (Prod.snd (nthS ads (0 : Nat)))) /\ (∀ (e : Ex), e ∈ [] -> e ∈ kE) /\ ∀ (a_1 : Option Addr) (cap : Nat), AOK a_1 (List.length l) -> List.length l ≤ cap -> cSn (mirS l) = cSn (mirS l) /\ (SpecG
 Tryd.prog wE [(a_1, cSn (mirS l))] (13 : FuncId) (Array.mk [.slice a_1 (List.length l) cap]) [] fun x ↦ Value.tuple #[Value.int .i64 (↑(buN (mirS l)) : Int), .bool (buB (mirS l))]) /\ (∀ (e : Ex), e ∈ wE -> e ∈ kE) /\ ((((↑(buN (mirS l)) : Int) != (↑(buN l) : Int)) = true -> Value.bool true =
 Value.bool ((↑(buN (mirS l)) : Int) != (↑(buN l) : Int) || !buB (mirS l) == buB l) /\ True) /\ (((↑(buN (mirS l)) : Int) != (↑(buN l) : Int)) = false -> (Value.bool !buB (mirS l) == buB l) = Value.bool ((↑(buN (mirS l)) : Int) != (↑(buN l) : Int) || !buB (mirS l) == buB l) /\ True)) /\ ∀ (junk : Nat
 -> Value), (((↑(buN (mirS l)) : Int) != (↑(buN l) : Int) || !buB (mirS l) == buB l) = true -> Value.bool false = Value.bool true) /\ (((↑(buN (mirS l)) : Int) != (↑(buN l) : Int) || !buB (mirS l) == buB l) = false -> cSn l = cSn l /\ (SpecG Tryd.prog wE [(a, cSn l)] (18 : FuncId) #[Value.slice a
 (List.length l) c, .int .i64 n] [] fun x ↦ Value.tuple #[Value.slice none (0 : Nat) (0 : Nat), .int .i64 (shE n l)]) /\ (∀ (e : Ex), e ∈ wE -> e ∈ kE) /\ cSn ([] : List Sn) = [] /\ (SpecG Tryd.prog wE [(none, cSn [])] (13 : FuncId) #[Value.slice none (List.length ([] : List Int)) (0 : Nat)] [] fun x
 ↦ Value.tuple #[Value.int .i64 (↑(buN []) : Int), .bool (buB [])]) /\ (∀ (e : Ex), e ∈ wE -> e ∈ kE) /\ (((shE n l != 0) = true -> Value.bool true = Value.bool (shE n l != 0 || (0 : Int) == (↑(buN l) : Int) && false == buB l) /\ True) /\ ((shE n l != 0) = false -> (((0 : Int) == (↑(buN l) : Int)) =
 true -> Value.bool (false == buB l) = Value.bool (shE n l != 0 || (0 : Int) == (↑(buN l) : Int) && false == buB l) /\ True) /\ (((0 : Int) == (↑(buN l) : Int)) = false -> Value.bool false = Value.bool (shE n l != 0 || (0 : Int) == (↑(buN l) : Int) && false == buB l) /\ True))) /\ ∀ (junk : Nat ->
 Value), .bool (shE n l != 0 || (0 : Int) == (↑(buN l) : Int) && false == buB l) = Value.bool true))) := by kernel_rfl
set_option maxHeartbeats 4000000 in
theorem lcm1_sp (a : Option Addr) (c : Nat) (l : List Sn) (n : Int) (hA : AOK a l.length) (hl : l.length ≤ 9223372036854775807) (hc : l.length ≤ c) (n_ : -9223372036854775808 ≤ n ∧ n ≤ 9223372036854775807) (hy : yOK l) (hz : ¬ shE n l = 0) : SpecG Tryd.prog kE ([(a, cSn l)]) 7 #[.slice a l.length c, .int .i64 n] ([]) (fun _ => .bool true) := by
  refine specG_of (h := lcm1_h a c l n) (?_ : wpG Tryd.prog kE ([(a, cSn l)]) 400 7 [.slice a l.length c, .int .i64 n] (lcm1_h a c l n) ([]) (fun _ => .bool true))
  rw [lcm1_x]
  (repeat' (first | with_reducible exact rfl | exact trivial | with_reducible assumption | (with_reducible exact law_sp) | (with_reducible exact bou_sp _ _ _ hA hl) | (with_reducible exact mir_sp _ _ _ hA (by have := ‹decide ((l.length : Int) > 200) = false›; have := of_decide_eq_false this; omega)) | (with_reducible exact shx_sp _ _ _ _ hA hl n_ hz) | (with_reducible exact bou_0) | exact cSn_len _ | exact cSn_one _ | exact cU_len _ | exact cI_len _ | exact cB_len _ | exact cU_one _ | exact cI_one _ | exact cB_one _ | exact (fun _ h => h) | exact (fun _ h => List.mem_cons_of_mem _ h) | exact (fun _ h => (List.not_mem_nil h).elim) | (with_reducible refine e1_in ?_) | (with_reducible refine e2_in ?_) | (with_reducible refine lx_in (Nat.le_of_ble_eq_true rfl) ?_) | (with_reducible refine rqx_rf ?_) | (with_reducible refine rqx_in ?_ ?_ ?_) | (with_reducible apply And.intro) | (with_reducible intro _)))
  all_goals (first | rfl | exact aok_gg _ _ | (simp only [*, Bool.and_true, Bool.true_and, Bool.and_false, Bool.false_and, Bool.or_true, Bool.true_or, Bool.or_false, Bool.false_or, Bool.not_true, Bool.not_false, cond_true, cond_false]; done) | (simp; done) | (simp at *; done) | (decide +kernel) | exact bou_n (mir_len _) (by assumption) hl | exact bou_n (sh_len _ _) (by assumption) hl | (simp only [mir_buN hy, mir_buB hy] at *; simp at *; done) | (simp only [mir_buN hy, mir_buB hy]; simp; done) | exact bou_0 | (have hh : (shE n l != 0) = true := (by simpa using hz); rw [hh]; rfl) |  omega | trace_state)
end Go.Proofs.YtjnaficgcellkaaDoor
