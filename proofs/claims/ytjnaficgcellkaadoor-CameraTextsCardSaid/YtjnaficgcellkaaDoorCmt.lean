/- Layer 31 (camera): the text of no list and of a list with an error; the reference's text. -/
import Derived.Test.YtjnaficgcellkaaDoorVz
import Derived.KernelRfl
import Derived.Test.YtjnaficgcellkaaDoorProg
import Derived.Test.YtjnaficgcellkaaDoorCma
import Derived.Test.YtjnaficgcellkaaDoorCmar
import Derived.Test.YtjnaficgcellkaaDoorCmc
import Derived.Test.YtjnaficgcellkaaDoorBlc
import Derived.Test.YtjnaficgcellkaaDoorRnu
set_option linter.unusedSimpArgs false
set_option linter.unusedVariables false
set_option maxRecDepth 100000
namespace Go.Proofs.YtjnaficgcellkaaDoor
open Go.RowKit


theorem rnu_sp (n : Int) (hn : -9223372036854775807 ≤ n ∧ n ≤ 9223372036854775807) : SpecG Tryd.prog [] [] 34 #[.int .i64 n] [] (fun _ => .string (dcS n)) := by
  intro w hE _
  exact (rnum_any n w hn.1 hn.2).mono fun e w' ⟨he, hb⟩ => ⟨[], he, ownsL_nil _ _, hb⟩
def spB1 : ByteArray := ⟨#[32]⟩
theorem cat_data (a b : ByteArray) : (catB a b).data.toList = a.data.toList ++ b.data.toList := by unfold catB; simp
theorem ba_ext {a b : ByteArray} (h : a.data.toList = b.data.toList) : a = b := by
  apply ByteArray.ext
  exact Array.toList_inj.1 h
/-- The reference's way to a line. -/
theorem rt_ln (t a b c d e : ByteArray) : catB (catB (catB (catB (catB (catB (catB (catB (catB (catB t a) ⟨#[32]⟩) b) ⟨#[32]⟩) c) ⟨#[32]⟩) d) ⟨#[32]⟩) e) ⟨#[10]⟩ = catB t (catB (j5 a b c d e) ⟨#[10]⟩) := by
  apply ba_ext
  have hj : (j5 a b c d e).data.toList = a.data.toList ++ (32 :: (b.data.toList ++ (32 :: (c.data.toList ++ (32 :: (d.data.toList ++ (32 :: e.data.toList))))))) := by
    unfold j5 jnB
    rw [str_list]
    simp [Lib.join_cons, Lib.joinTail]
  simp only [cat_data, hj]
  simp
theorem rt_b {l : List Sn} (he : (ckE l != 0) = false) {i : Nat} (hi : i < l.length) : ((-9223372036854775807 ≤ (gSn l i).t ∧ (gSn l i).t ≤ 9223372036854775807) ∧ (-9223372036854775807 ≤ (gSn l i).x ∧ (gSn l i).x ≤ 9223372036854775807) ∧ (-9223372036854775807 ≤ (gSn l i).y ∧ (gSn l i).y ≤ 9223372036854775807) ∧ (-9223372036854775807 ≤ (gSn l i).z ∧ (gSn l i).z ≤ 9223372036854775807) ∧ (-9223372036854775807 ≤ (gSn l i).e ∧ (gSn l i).e ≤ 9223372036854775807)) ∧ (dcS (gSn l i).t).size ≤ 21 ∧ (dcS (gSn l i).x).size ≤ 21 ∧ (dcS (gSn l i).y).size ≤ 21 ∧ (dcS (gSn l i).z).size ≤ 21 ∧ (dcS (gSn l i).e).size ≤ 21 := by
  have hr := (bad_0 ((ckE_0 (ck_n he)).2.2 i hi)).1
  have hb := sRng_b hr
  exact ⟨⟨⟨by omega, by omega⟩, ⟨by omega, by omega⟩, ⟨by omega, by omega⟩, ⟨by omega, by omega⟩, ⟨by omega, by omega⟩⟩, (rg_64 (a := (gSn l i).t) (b := (gSn l i).x) (c := (gSn l i).y) (d := (gSn l i).z) (e := (gSn l i).e) hr).2⟩
theorem rt_t {l : List Sn} (he : (ckE l != 0) = false) {i : Nat} (hi : i ≤ l.length) : (txB l i).size ≤ 7040 := by
  obtain ⟨h1, h2⟩ := ckE_0 (ck_n he)
  have := tx_size h2 i hi
  omega
theorem sz_1 (b : UInt8) : (⟨#[b]⟩ : ByteArray).size = 1 := rfl
@[reducible] def rtL (l : List Sn) : LoopR := ⟨Nat, fun i => [(21, .int .i64 i), (6, .string (txB l i))], [], fun _ => [], fun i => i ≤ l.length, fun i => l.length - i, []⟩

def txx_h (a : Option Addr) (c : Nat) (l : List Sn) : Hint := .specg wE [0] [cSn l] [] (fun ads0 x ↦ Value.tuple #[Value.int .i64 (ckI l), .int .i64 (ckE l)]) (.pl (.known true (.perm [] .nil)))
theorem txx_x (a : Option Addr) (c : Nat) (l : List Sn) : wpG Tryd.prog kE ([(a, cSn l)]) 400 22 [.slice a l.length c] (txx_h a c l) ([]) (fun _ => .tuple #[.string ⟨#[]⟩, .int .i64 (ckE l)]) = (cSn l = cSn l /\ (SpecG Tryd.prog wE [(a, cSn l)] (11 : FuncId) #[Value.slice a (List.length l) c] [] fun x ↦ Value.tuple #[Value.int .i64 (ckI l), .int .i64 (ckE l)]) /\ (∀ (e : Ex), e ∈ wE -> e ∈ kE) /\ (ckE l != 0) = true /\ Value.tuple (Array.mk [.string (ByteArray.mk (Array.mk [])), .int .i64
 (ckE l)]) = Value.tuple (Array.mk [.string (ByteArray.mk (Array.mk [])), .int .i64 (ckE l)])) := by kernel_rfl
set_option maxHeartbeats 4000000 in
theorem txx_sp (a : Option Addr) (c : Nat) (l : List Sn) (hA : AOK a l.length) (hl : l.length ≤ 9223372036854775807) (he : (ckE l != 0) = true) : SpecG Tryd.prog kE ([(a, cSn l)]) 22 #[.slice a l.length c] ([]) (fun _ => .tuple #[.string ⟨#[]⟩, .int .i64 (ckE l)]) := by
  refine specG_of (h := txx_h a c l) (?_ : wpG Tryd.prog kE ([(a, cSn l)]) 400 22 [.slice a l.length c] (txx_h a c l) ([]) (fun _ => .tuple #[.string ⟨#[]⟩, .int .i64 (ckE l)]))
  rw [txx_x]
  (repeat' (first | with_reducible exact rfl | exact trivial | with_reducible assumption | (with_reducible exact chk_sp _ _ _ hA hl) | exact cSn_len _ | exact cSn_one _ | exact cU_len _ | exact cI_len _ | exact cB_len _ | exact cU_one _ | exact cI_one _ | exact cB_one _ | exact (fun _ h => h) | exact (fun _ h => List.mem_cons_of_mem _ h) | exact (fun _ h => (List.not_mem_nil h).elim) | (with_reducible refine e1_in ?_) | (with_reducible refine e2_in ?_) | (with_reducible refine lx_in (Nat.le_of_ble_eq_true rfl) ?_) | (with_reducible refine rqx_rf ?_) | (with_reducible refine rqx_in ?_ ?_ ?_) | (with_reducible apply And.intro) | (with_reducible intro _)))
  all_goals (try simp only [Int.toNat_natCast] at *)
  all_goals (first
    | rfl
    | (exact ⟨0, Nat.zero_le _, rfl, rfl, trivial⟩)
    | (have hi := lt_s ‹_›; first | omega | exact hA | exact cSn_get0 hi | exact cSn_get1 hi | exact cSn_get2 hi | exact cSn_get3 hi | exact cSn_get4 hi | exact aok_b _ _)
    | (have hi := lt_s ‹_›; obtain ⟨⟨g1, g2, g3, g4, g5⟩, s1, s2, s3, s4, s5⟩ := rt_b he hi; first | exact rnu_sp _ g1 | exact rnu_sp _ g2 | exact rnu_sp _ g3 | exact rnu_sp _ g4 | exact rnu_sp _ g5 | (have h6 := rt_t he (Nat.le_of_lt hi); (try simp only [cat_size, sz_1]); omega) | (refine ⟨_ + 1, hi, (by show _ - (_ + 1) < _; omega), wr_s (by omega), ?_, trivial⟩; rw [rt_ln]; rfl))
    | (have e := ge_s ‹_› ‹_›; rw [e])
    | trace_state)
def tx0_h  : Hint := .inl (.pl (.lit (.pl (.rounds 64 (.lit (.pl (.lit (.pl (.rounds 64 (.lit (.osf fun l ↦ .specc [] [] [] [Ob.mk (bk (Prod.fst (nthO l (1 : Nat)))) [Value.pointer none, .slice none (0 : Nat) (0 : Nat)] (50 : TypeId) noOw] Un (fun x ↦ x = Un.un) (fun x ↦ []) (fun x ↦ Value.string (ByteArray.mk #[])) []
 [] [1] fun x_208 ↦ .perm [] .nil)))))))))))
theorem tx0_x  : wpG Tryd.prog kE ([(none, cSn [])]) 400 22 [.slice none 0 0] (tx0_h ) ([]) (fun _ => .tuple #[.string ⟨#[]⟩, .int .i64 0]) = (∀ (b : Nat), (SpecC Tryd.prog [] [] [] [Ob.mk b [Value.pointer none, .slice none (0 : Nat) (0 : Nat)] (50 : TypeId) noOw] (33 : FuncId) #[Value.pointer (some (Addr.mk b (0 : Nat) none))] Un (fun x ↦ x = Un.un) (fun x ↦ []) fun x ↦ Value.string (ByteArray.mk #[])) /\ (∀ (e : Ex), e ∈ [] -> e ∈ kE) /\
 ((b = b /\ [Value.pointer none, .slice none (0 : Nat) (0 : Nat)] = [Value.pointer none, .slice none (0 : Nat) (0 : Nat)] /\ (50 : Nat) = (50 : Nat) /\ noOw = noOw) /\ True) /\ True /\ True /\ ∀ (x_208 : Un), x_208 = Un.un -> Value.tuple (Array.mk [.string (ByteArray.mk (Array.mk [])), .int .i64 0])
 = Value.tuple (Array.mk [.string (ByteArray.mk (Array.mk [])), .int .i64 0])) := by kernel_rfl
set_option maxHeartbeats 4000000 in
theorem tx0_sp   : SpecG Tryd.prog kE ([(none, cSn [])]) 22 #[.slice none 0 0] ([]) (fun _ => .tuple #[.string ⟨#[]⟩, .int .i64 0]) := by
  refine specG_of (h := tx0_h ) (?_ : wpG Tryd.prog kE ([(none, cSn [])]) 400 22 [.slice none 0 0] (tx0_h ) ([]) (fun _ => .tuple #[.string ⟨#[]⟩, .int .i64 0]))
  rw [tx0_x]
  (repeat' (first | with_reducible exact rfl | exact trivial | with_reducible assumption | (with_reducible exact bs0_n _ _) | exact cSn_len _ | exact cSn_one _ | exact cU_len _ | exact cI_len _ | exact cB_len _ | exact cU_one _ | exact cI_one _ | exact cB_one _ | exact (fun _ h => h) | exact (fun _ h => List.mem_cons_of_mem _ h) | exact (fun _ h => (List.not_mem_nil h).elim) | (with_reducible refine e1_in ?_) | (with_reducible refine e2_in ?_) | (with_reducible refine lx_in (Nat.le_of_ble_eq_true rfl) ?_) | (with_reducible refine rqx_rf ?_) | (with_reducible refine rqx_in ?_ ?_ ?_) | (with_reducible apply And.intro) | (with_reducible intro _)))
  all_goals (try simp only [Int.toNat_natCast] at *)
  all_goals (first
    | rfl
    | (exact ⟨0, Nat.zero_le _, rfl, rfl, trivial⟩)
    | (have hi := lt_s ‹_›; first | omega | exact hA | exact cSn_get0 hi | exact cSn_get1 hi | exact cSn_get2 hi | exact cSn_get3 hi | exact cSn_get4 hi | exact aok_b _ _)
    | (have hi := lt_s ‹_›; obtain ⟨⟨g1, g2, g3, g4, g5⟩, s1, s2, s3, s4, s5⟩ := rt_b he hi; first | exact rnu_sp _ g1 | exact rnu_sp _ g2 | exact rnu_sp _ g3 | exact rnu_sp _ g4 | exact rnu_sp _ g5 | (have h6 := rt_t he (Nat.le_of_lt hi); (try simp only [cat_size, sz_1]); omega) | (refine ⟨_ + 1, hi, (by show _ - (_ + 1) < _; omega), wr_s (by omega), ?_, trivial⟩; rw [rt_ln]; rfl))
    | (have e := ge_s ‹_› ‹_›; rw [e])
    | trace_state)
end Go.Proofs.YtjnaficgcellkaaDoor
