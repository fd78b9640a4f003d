/- Layer 5 (rules): equal lists of powerplays, equal rules, copies. -/
import Derived.Test.YtkhhjdbnihbcjaaGreatDoorVz
import Derived.KernelRfl
import Derived.Test.YtkhhjdbnihbcjaaGreatDoorProg
import Derived.Test.YtkhhjdbnihbcjaaGreatDoorRda
import Derived.Test.YtkhhjdbnihbcjaaGreatDoorRdar
import Derived.Test.YtkhhjdbnihbcjaaGreatDoorRcc
set_option linter.unusedSimpArgs false
set_option linter.unusedVariables false
set_option maxRecDepth 100000
namespace Go.Proofs.YtkhhjdbnihbcjaaGreatDoor
open Go.RowKit


instance phDec : DecidableEq Ph := fun a b => decidable_of_iff (a.pf = b.pf ∧ a.pt = b.pt ∧ a.po = b.po) (by cases a; cases b; simp)
def eI {α : Type} (l m : List α) (i : Nat) : Prop := i ≤ l.length ∧ l.length = m.length ∧ l.take i = m.take i
theorem eI_0 {α : Type} {l m : List α} (h : l.length = m.length) : eI l m 0 := ⟨Nat.zero_le _, h, by simp⟩
theorem take_step {α : Type} {l m : List α} {i : Nat} {d : α} (h1 : i < l.length) (h2 : i < m.length) : l.take (i + 1) = m.take (i + 1) ↔ l.take i = m.take i ∧ l.getD i d = m.getD i d := by
  rw [List.take_add_one, List.take_add_one, List.getD_eq_getElem?_getD, List.getD_eq_getElem?_getD, List.getElem?_eq_getElem h1, List.getElem?_eq_getElem h2]
  simp only [Option.toList_some, Option.getD_some]
  constructor
  · intro h
    have := List.append_inj h (by simp; omega)
    exact ⟨this.1, by simpa using this.2⟩
  · rintro ⟨h, e⟩
    rw [h, e]
theorem eI_step {α : Type} {d : α} {l m : List α} {i : Nat} (h : eI l m i) (hi : i < l.length) (e : l.getD i d = m.getD i d) : eI l m (i + 1) :=
  ⟨hi, h.2.1, (take_step (d := d) hi (by have := h.2.1; omega)).2 ⟨h.2.2, e⟩⟩
theorem eI_fin {α : Type} {l m : List α} {i : Nat} (h : eI l m i) (hi : ¬ (i : Int) < l.length) : l = m := by
  have e : i = l.length := by have := h.1; omega
  subst e
  have := h.2.2
  rw [List.take_length, h.2.1, List.take_length] at this
  exact this
theorem ne_at {α : Type} {l m : List α} {i : Nat} {d : α} (e : l.getD i d ≠ m.getD i d) : l ≠ m := fun h => e (by rw [h])
@[reducible] def ePL (l m : List Ph) : LoopR := ⟨Nat, fun i => [(13, .int .i64 i)], [], fun _ => [], eI l m, fun i => l.length - i, []⟩
theorem ne_ph {l m : List Ph} {i : Nat} (h : ¬ (l.getD i ⟨0, 0, 0⟩).pf = (m.getD i ⟨0, 0, 0⟩).pf ∨ ¬ (l.getD i ⟨0, 0, 0⟩).pt = (m.getD i ⟨0, 0, 0⟩).pt ∨ ¬ (l.getD i ⟨0, 0, 0⟩).po = (m.getD i ⟨0, 0, 0⟩).po ∨ true = false) : l ≠ m := by
  intro e
  subst e
  simp at h
theorem ph_eq {x y : Ph} (h1 : x.pf = y.pf) (h2 : x.pt = y.pt) (h3 : x.po = y.po) : x = y := by
  cases x; cases y; simp only at h1 h2 h3; rw [h1, h2, h3]
theorem cP_one (l : List Ph) : ∀ u ∈ cP l, u.oneCell' = true := by
  intro u hu
  simp only [cP, List.mem_flatMap, List.mem_cons, List.not_mem_nil, or_false] at hu
  obtain ⟨p, _, h | h | h⟩ := hu <;> (rw [h]; rfl)

def eqP_h (a b : Option Addr) (l m : List Ph) (c d : Nat) : Hint := .pl (.pl (.pl (.split (.perm [] .nil) (.pl (.inv (ePL l m) fun x0 ↦ .split (.draw [0, 1] none [0, 1] (.take 0 (.take 1 (.take 2 (.ix (.take 3 (.lst (0 : Nat) (x0 * (3 : Nat)) (Value.int .i64 (Ph.pf (List.getD l x0 (Ph.mk (0 : Int) (0 : Int) (0 : Int))))) (.lst (0 : Nat) (x0 * (3 : Nat) + (1 : Nat))
 (Value.int .i64 (Ph.pt (List.getD l x0 (Ph.mk (0 : Int) (0 : Int) (0 : Int))))) (.lst (0 : Nat) (x0 * (3 : Nat) + (2 : Nat)) (Value.int .i64 (Ph.po (List.getD l x0 (Ph.mk (0 : Int) (0 : Int) (0 : Int))))) (.take 4 (.take 5 (.take 6 (.ix (.take 7 (.lst (1 : Nat) (x0 * (3 : Nat)) (Value.int .i64
 (Ph.pf (List.getD m x0 (Ph.mk (0 : Int) (0 : Int) (0 : Int))))) (.lst (1 : Nat) (x0 * (3 : Nat) + (1 : Nat)) (Value.int .i64 (Ph.pt (List.getD m x0 (Ph.mk (0 : Int) (0 : Int) (0 : Int))))) (.lst (1 : Nat) (x0 * (3 : Nat) + (2 : Nat)) (Value.int .i64 (Ph.po (List.getD m x0 (Ph.mk (0 : Int) (0 : Int)
 (0 : Int))))) (.take 8 (.split (.perm [] .nil) (.perm [] .nil)))))))))))))))))))) (.perm [] .nil))))))
theorem eqP_x (a b : Option Addr) (l m : List Ph) (c d : Nat) : wpG Tryz.prog [] ([(a, cP l), (b, cP m)]) 400 39 [.slice a l.length c, .slice b m.length d] (eqP_h a b l m c d) ([]) (fun _ => .bool (decide (l = m))) = ((((↑(List.length l) : Int) != (↑(List.length m) : Int)) = true -> Value.bool false = Value.bool (decide (l = m))) /\ (((↑(List.length l) : Int) != (↑(List.length m) : Int)) = false -> (∃ x, eI l m x /\ Value.int .i64 0 = Value.int .i64 (↑x : Int) /\ True) /\ ∀ (x0 : Nat), eI l m x0 -> ∀ (junk : Nat
 -> Value), (decide ((↑x0 : Int) < (↑(List.length l) : Int)) = true -> (((0 : Int) ≤ (↑x0 : Int) /\ (↑x0 : Int) < (↑(List.length l) : Int)) /\ AOK a (List.length l)) /\ bk a = bk a /\ ofs a + x0 * (3 : Nat) = ofs a + x0 * (3 : Nat) /\ lgo (cP l) (x0 * (3 : Nat)) = some (Value.int .i64 (Ph.pf
 (List.getD l x0 (Ph.mk (0 : Int) (0 : Int) (0 : Int))))) /\ bk a = bk a /\ ofs a + x0 * (3 : Nat) + (1 : Nat) = ofs a + (x0 * (3 : Nat) + (1 : Nat)) /\ lgo (cP l) (x0 * (3 : Nat) + (1 : Nat)) = some (Value.int .i64 (Ph.pt (List.getD l x0 (Ph.mk (0 : Int) (0 : Int) (0 : Int))))) /\ bk a = bk a /\ ofs
 a + x0 * (3 : Nat) + (2 : Nat) = ofs a + (x0 * (3 : Nat) + (2 : Nat)) /\ lgo (cP l) (x0 * (3 : Nat) + (2 : Nat)) = some (Value.int .i64 (Ph.po (List.getD l x0 (Ph.mk (0 : Int) (0 : Int) (0 : Int))))) /\ (((0 : Int) ≤ (↑x0 : Int) /\ (↑x0 : Int) < (↑(List.length m) : Int)) /\ AOK b (List.length m)) /\
 bk b = bk b /\ ofs b + x0 * (3 : Nat) = ofs b + x0 * (3 : Nat) /\ lgo (cP m) (x0 * (3 : Nat)) = some (Value.int .i64 (Ph.pf (List.getD m x0 (Ph.mk (0 : Int) (0 : Int) (0 : Int))))) /\ bk b = bk b /\ ofs b + x0 * (3 : Nat) + (1 : Nat) = ofs b + (x0 * (3 : Nat) + (1 : Nat)) /\ lgo (cP m) (x0 * (3 :
 Nat) + (1 : Nat)) = some (Value.int .i64 (Ph.pt (List.getD m x0 (Ph.mk (0 : Int) (0 : Int) (0 : Int))))) /\ bk b = bk b /\ ofs b + x0 * (3 : Nat) + (2 : Nat) = ofs b + (x0 * (3 : Nat) + (2 : Nat)) /\ lgo (cP m) (x0 * (3 : Nat) + (2 : Nat)) = some (Value.int .i64 (Ph.po (List.getD m x0 (Ph.mk (0 :
 Int) (0 : Int) (0 : Int))))) /\ ((!(Ph.pf (List.getD l x0 (Ph.mk (0 : Int) (0 : Int) (0 : Int))) == Ph.pf (List.getD m x0 (Ph.mk (0 : Int) (0 : Int) (0 : Int))) && (Ph.pt (List.getD l x0 (Ph.mk (0 : Int) (0 : Int) (0 : Int))) == Ph.pt (List.getD m x0 (Ph.mk (0 : Int) (0 : Int) (0 : Int))) && (Ph.po
 (List.getD l x0 (Ph.mk (0 : Int) (0 : Int) (0 : Int))) == Ph.po (List.getD m x0 (Ph.mk (0 : Int) (0 : Int) (0 : Int))) && true)))) = true -> Value.bool false = Value.bool (decide (l = m))) /\ ((!(Ph.pf (List.getD l x0 (Ph.mk (0 : Int) (0 : Int) (0 : Int))) == Ph.pf (List.getD m x0 (Ph.mk (0 : Int)
 (0 : Int) (0 : Int))) && (Ph.pt (List.getD l x0 (Ph.mk (0 : Int) (0 : Int) (0 : Int))) == Ph.pt (List.getD m x0 (Ph.mk (0 : Int) (0 : Int) (0 : Int))) && (Ph.po (List.getD l x0 (Ph.mk (0 : Int) (0 : Int) (0 : Int))) == Ph.po (List.getD m x0 (Ph.mk (0 : Int) (0 : Int) (0 : Int))) && true)))) = false
 -> ∃ y, eI l m y /\ List.length l - y < List.length l - x0 /\ Value.int .i64 (IntKind.i64.wrap ((↑x0 : Int) + (1 : Int))) = Value.int .i64 (↑y : Int) /\ True)) /\ (decide ((↑x0 : Int) < (↑(List.length l) : Int)) = false -> Value.bool true = Value.bool (decide (l = m))))) := by kernel_rfl
set_option maxHeartbeats 4000000 in
theorem eqP_sp (a b : Option Addr) (l m : List Ph) (c d : Nat) (hA : AOK a l.length) (hB : AOK b m.length) (hl : l.length ≤ 1000000) : SpecG Tryz.prog [] ([(a, cP l), (b, cP m)]) 39 #[.slice a l.length c, .slice b m.length d] ([]) (fun _ => .bool (decide (l = m))) := by
  refine specG_of (h := eqP_h a b l m c d) (?_ : wpG Tryz.prog [] ([(a, cP l), (b, cP m)]) 400 39 [.slice a l.length c, .slice b m.length d] (eqP_h a b l m c d) ([]) (fun _ => .bool (decide (l = m))))
  rw [eqP_x]
  (repeat' (first | with_reducible exact rfl | exact trivial | with_reducible assumption | exact cU_len _ | exact cI_len _ | exact cB_len _ | exact cU_one _ | exact cI_one _ | exact cB_one _ | exact (fun _ h => h) | exact (fun _ h => (List.not_mem_nil h).elim) | (with_reducible refine e1_in ?_) | (with_reducible refine e2_in ?_) | (with_reducible refine lx_in (Nat.le_of_ble_eq_true rfl) ?_) | (with_reducible refine rqx_rf ?_) | (with_reducible refine rqx_in ?_ ?_ ?_) | (with_reducible apply And.intro) | (with_reducible intro _)))
  all_goals (try simp only [Int.toNat_natCast] at *)
  all_goals (try simp only [decide_eq_true_eq, decide_eq_false_iff_not, bne_iff_ne, ne_eq, Int.natCast_inj, bne_eq_false_iff_eq, Bool.and_eq_true, Bool.not_eq_true', Bool.not_eq_false', Bool.and_eq_false_iff, beq_iff_eq, beq_eq_false_iff_ne] at *)
  all_goals first
    | (have hx := ‹eI _ _ _›; have := hx.2.1; first | omega | (refine cP_get0 ?_; omega) | (refine cP_get1 ?_; omega) | (refine cP_get2 ?_; omega))
    | exact ⟨0, eI_0 (by omega), rfl, trivial⟩
    | (have hx := ‹eI _ _ _›; have he := ‹_ ∧ _ ∧ _ ∧ True›; exact ⟨_, eI_step hx (by omega) (ph_eq he.1 he.2.1 he.2.2.1), (by show _ - (_ + 1) < _; omega), (by rw [IntWalk.i64_in _ (by omega)]; rfl), trivial⟩)
    | (have he := ‹_ ∨ _›; rw [decide_eq_false (ne_ph he)])
    | (have he := ‹¬ l.length = m.length›; rw [decide_eq_false (fun e => he (by rw [e]))])
    | (rw [decide_eq_true (eI_fin ‹eI _ _ _› (by assumption))])
    | trace_state
def clP_h (a : Option Addr) (l : List Ph) (c : Nat) : Hint := .split (.perm [1000] .nil) (.apl (1 : Nat) (0 : Nat) (cP l) (.perm [1] .nil))
theorem clP_x (a : Option Addr) (l : List Ph) (c : Nat) : wpG Tryz.prog [] ([(a, cP l)]) 400 57 [.slice a l.length c] (clP_h a l c) ([⟨45, 3, l.length, cP l⟩]) (fun ads => .slice (nthA ads 0).1 l.length (nthA ads 0).2) = ((Option.isNone a = true → List.length l = (0 : Nat) ∧ cP l = [] ∧ (1 : Nat) ≤ (3 : Nat) ∧ Value.slice none (0 : Nat) (0 : Nat) = Value.slice none (List.length l) (0 : Nat)) ∧ (Option.isNone a = false → ∀ (b : Nat), a = a ∧ AOK a (List.length l) ∧ List.length (cP l) = List.length l * (3 : Nat) ∧ (∀ (u
 : Value), u ∈ Ob.cells (Ob.mk (0 : Nat) (Prod.snd (a, cP l)) (0 : TypeId) (some (Ow.mk (Prod.fst (a, cP l)) (0 : Nat) (0 : Nat) (0 : Nat)))) → Value.oneCell' u = true) ∧ ((0 : Nat) + List.length l) * (25 : Nat) ≤ (140737488355328 : Nat) ∧ cP l = cP l ∧ some (Addr.mk b (0 : Nat) none) = some (Addr.mk
 b (0 : Nat) none) ∧ ∀ (a' : Option Addr) (cap : Nat), AOK a' (List.length l) → (45 : Nat) = (45 : Nat) ∧ (3 : Nat) = (3 : Nat) ∧ List.length l = List.length l ∧ cP l = cP l ∧ Value.slice a' (List.length l) cap = Value.slice a' (List.length l) cap)) := by kernel_rfl
set_option maxHeartbeats 4000000 in
theorem clP_sp (a : Option Addr) (l : List Ph) (c : Nat) (hA : AOK a l.length) (hl : l.length ≤ 1000000) : SpecG Tryz.prog [] ([(a, cP l)]) 57 #[.slice a l.length c] ([⟨45, 3, l.length, cP l⟩]) (fun ads => .slice (nthA ads 0).1 l.length (nthA ads 0).2) := by
  refine specG_of (h := clP_h a l c) (?_ : wpG Tryz.prog [] ([(a, cP l)]) 400 57 [.slice a l.length c] (clP_h a l c) ([⟨45, 3, l.length, cP l⟩]) (fun ads => .slice (nthA ads 0).1 l.length (nthA ads 0).2))
  rw [clP_x]
  refine ⟨fun e => ?_, fun e b => ⟨rfl, hA, cP_len l, cP_one l, by omega, rfl, rfl, fun a' cap _ => ⟨rfl, rfl, rfl, rfl, rfl⟩⟩⟩
  have h0 : l = [] := List.eq_nil_of_length_eq_zero (hA.1 (by cases a <;> simp_all))
  subst h0
  exact ⟨rfl, rfl, by decide, rfl⟩
def clR_h (r : Rul) (B : RAd) : Hint := .ob 1 (.specg [] [0] [cP r.pw] [RowT.mk (45 : TypeId) (3 : Nat) (r.pw.length) (cP r.pw)] (fun ads0 ads ↦ Value.slice (Prod.fst (nthA ads (0 : Nat))) (r.pw.length) (Prod.snd (nthA ads (0 : Nat)))) (ho 1 15 (ho 2 28 (.perm [3] .nil))))
theorem clR_x (r : Rul) (B : RAd) : wpG Tryz.prog [] ([(B.a, cP r.pw)]) 400 28 [ruV r B] (clR_h r B) ([⟨45, 3, r.pw.length, cP r.pw⟩]) (fun ads => ruV r ⟨(nthA ads 0).1, (nthA ads 0).2⟩) = (∀ (b b_1 : Nat), b = b /\ cP r.pw = cP r.pw /\ (SpecG Tryz.prog [] [(RAd.a B, cP r.pw)] (57 : FuncId) #[Value.slice (RAd.a B) (r.pw.length) (RAd.c B)] [RowT.mk (45 : TypeId) (3 : Nat) (r.pw.length) (cP r.pw)] fun ads ↦ Value.slice (Prod.fst (nthA ads (0 : Nat))) (r.pw.length) (Prod.snd (nthA ads (0 :
 Nat)))) /\ (∀ (e : Ex), e ∈ [] -> e ∈ []) /\ ∀ (a : Option Addr) (cap : Nat), AOK a (r.pw.length) -> r.pw.length ≤ cap -> b = b /\ True /\ e1 b 14 (e2 b_1 14 (e1 b_1 14 ((45 : Nat) = (45 : Nat) /\ (3 : Nat) = (3 : Nat) /\ r.pw.length = r.pw.length /\ cP r.pw = cP r.pw /\ Value.agg (Array.mk [.string
 r.nm, .int .i64 r.q1, .int .i64 r.q2, .int .i64 r.q3, .int .i64 r.q4, .int .i64 r.q5, .int .i64 r.q6, .int .i64 r.q7, .bool r.fh, .int .i64 r.q8, .int .i64 r.q9, .int .i64 r.qa, .int .i64 r.qo, .slice a (r.pw.length) cap]) = Value.agg (Array.mk [.string r.nm, .int .i64 r.q1, .int .i64 r.q2, .int
 .i64 r.q3, .int .i64 r.q4, .int .i64 r.q5, .int .i64 r.q6, .int .i64 r.q7, .bool r.fh, .int .i64 r.q8, .int .i64 r.q9, .int .i64 r.qa, .int .i64 r.qo, .slice a (r.pw.length) cap]))))) := by kernel_rfl
set_option maxHeartbeats 4000000 in
theorem clR_sp (r : Rul) (B : RAd) (hB : AOK B.a r.pw.length) (hl : r.pw.length ≤ 1000000) : SpecG Tryz.prog [] ([(B.a, cP r.pw)]) 28 #[ruV r B] ([⟨45, 3, r.pw.length, cP r.pw⟩]) (fun ads => ruV r ⟨(nthA ads 0).1, (nthA ads 0).2⟩) := by
  refine specG_of (h := clR_h r B) (?_ : wpG Tryz.prog [] ([(B.a, cP r.pw)]) 400 28 [ruV r B] (clR_h r B) ([⟨45, 3, r.pw.length, cP r.pw⟩]) (fun ads => ruV r ⟨(nthA ads 0).1, (nthA ads 0).2⟩))
  rw [clR_x]
  (repeat' (first | with_reducible exact rfl | exact trivial | with_reducible assumption | exact clP_sp _ _ _ hB hl | exact cU_len _ | exact cI_len _ | exact cB_len _ | exact cU_one _ | exact cI_one _ | exact cB_one _ | exact (fun _ h => h) | exact (fun _ h => (List.not_mem_nil h).elim) | (with_reducible refine e1_in ?_) | (with_reducible refine e2_in ?_) | (with_reducible refine lx_in (Nat.le_of_ble_eq_true rfl) ?_) | (with_reducible refine rqx_rf ?_) | (with_reducible refine rqx_in ?_ ?_ ?_) | (with_reducible apply And.intro) | (with_reducible intro _)))
  all_goals (first | rfl | exact cP_len _ | exact cP_one _ | omega | trace_state)
def crR_h (r : Rul) (B : RAd) : Hint := .ob 1 (.apl (3 : Nat) (0 : Nat) (cP r.pw) (ho 1 15 (ho 2 28 (.perm [3] .nil))))
theorem crR_x (r : Rul) (B : RAd) : wpG Tryz.prog [] ([(B.a, cP r.pw)]) 400 29 [ruV r B] (crR_h r B) ([⟨45, 3, r.pw.length, cP r.pw⟩]) (fun ads => ruV r ⟨(nthA ads 0).1, (nthA ads 0).2⟩) = (∀ (b b_1 b_2 : Nat), b = b /\ RAd.a B = RAd.a B /\ AOK (RAd.a B) (r.pw.length) /\ List.length (cP r.pw) = r.pw.length * (3 : Nat) /\ (∀ (u : Value), u ∈ Ob.cells (Ob.mk (0 : Nat) (Prod.snd (RAd.a B, cP r.pw)) (0 : TypeId) (some (Ow.mk (Prod.fst (RAd.a B, cP r.pw)) (0 : Nat) (0 : Nat) (0 : Nat)))) ->
 Value.oneCell' u = true) /\ ((0 : Nat) + r.pw.length) * (25 : Nat) ≤ (140737488355328 : Nat) /\ cP r.pw = cP r.pw /\ some (Addr.mk b_2 (0 : Nat) none) = some (Addr.mk b_2 (0 : Nat) none) /\ ∀ (a' : Option Addr) (cap : Nat), AOK a' (r.pw.length) -> b = b /\ True /\ e1 b 14 (e2 b_1 14 (e1 b_1 14 ((45
 : Nat) = (45 : Nat) /\ (3 : Nat) = (3 : Nat) /\ r.pw.length = r.pw.length /\ cP r.pw = cP r.pw /\ Value.agg (Array.mk [.string r.nm, .int .i64 r.q1, .int .i64 r.q2, .int .i64 r.q3, .int .i64 r.q4, .int .i64 r.q5, .int .i64 r.q6, .int .i64 r.q7, .bool r.fh, .int .i64 r.q8, .int .i64 r.q9, .int .i64
 r.qa, .int .i64 r.qo, .slice a' (r.pw.length) cap]) = Value.agg (Array.mk [.string r.nm, .int .i64 r.q1, .int .i64 r.q2, .int .i64 r.q3, .int .i64 r.q4, .int .i64 r.q5, .int .i64 r.q6, .int .i64 r.q7, .bool r.fh, .int .i64 r.q8, .int .i64 r.q9, .int .i64 r.qa, .int .i64 r.qo, .slice a' (r.pw.length)
 cap]))))) := by kernel_rfl
set_option maxHeartbeats 4000000 in
theorem crR_sp (r : Rul) (B : RAd) (hB : AOK B.a r.pw.length) (hl : r.pw.length ≤ 1000000) : SpecG Tryz.prog [] ([(B.a, cP r.pw)]) 29 #[ruV r B] ([⟨45, 3, r.pw.length, cP r.pw⟩]) (fun ads => ruV r ⟨(nthA ads 0).1, (nthA ads 0).2⟩) := by
  refine specG_of (h := crR_h r B) (?_ : wpG Tryz.prog [] ([(B.a, cP r.pw)]) 400 29 [ruV r B] (crR_h r B) ([⟨45, 3, r.pw.length, cP r.pw⟩]) (fun ads => ruV r ⟨(nthA ads 0).1, (nthA ads 0).2⟩))
  rw [crR_x]
  (repeat' (first | with_reducible exact rfl | exact trivial | with_reducible assumption | exact cU_len _ | exact cI_len _ | exact cB_len _ | exact cU_one _ | exact cI_one _ | exact cB_one _ | exact (fun _ h => h) | exact (fun _ h => (List.not_mem_nil h).elim) | (with_reducible refine e1_in ?_) | (with_reducible refine e2_in ?_) | (with_reducible refine lx_in (Nat.le_of_ble_eq_true rfl) ?_) | (with_reducible refine rqx_rf ?_) | (with_reducible refine rqx_in ?_ ?_ ?_) | (with_reducible apply And.intro) | (with_reducible intro _)))
  all_goals (first | rfl | exact hB | exact cP_one _ _ (by assumption) | exact cP_len _ | exact cP_one _ | omega | (rw [lapp_eq]; rfl) | trace_state)
def smP_h (nm : ByteArray) (q1 q2 q3 q4 q5 q6 q7 : Int) (fh : Bool) (q8 q9 qa qo : Int) (l m : List Ph) (a b : Option Addr) (c d : Nat) : Hint := .ob 2 (.ob 3 (.pl (.known true (.lit (.ob 2 (.lit (.lit (.ob 3 (.lit (.pl (.lit (.known true (.lit (.ob 2 (.lit (.lit (.ob 3 (.lit (.pl (.lit (.known true (.lit (.ob 2 (.lit (.lit (.ob 3 (.lit (.pl (.lit (.known true (.lit (.ob 2 (.lit (.lit (.ob 3 (.lit (.pl (.lit (.known true (.lit (.ob 2 (.lit
 (.lit (.ob 3 (.lit (.pl (.lit (.known true (.lit (.ob 2 (.lit (.lit (.ob 3 (.lit (.pl (.lit (.known true (.lit (.ob 2 (.lit (.lit (.ob 3 (.lit (.pl (.lit (.known true (.lit (.ob 2 (.lit (.lit (.ob 3 (.lit (.pl (.lit (.known true (.lit (.ob 2 (.lit (.lit (.ob 3 (.lit (.pl (.lit (.known true (.lit
 (.ob 2 (.lit (.lit (.ob 3 (.lit (.pl (.lit (.known true (.lit (.ob 2 (.lit (.lit (.ob 3 (.lit (.pl (.lit (.known true (.lit (.ob 2 (.lit (.lit (.ob 3 (.lit (.pl (.lit (.known true (.lit (.ob 2 (.lit (.lit (.ob 3 (.lit (.specg [] [0, 1] [cP l, cP m] [] (fun ads0 x ↦ Value.bool (decide (l = m))) (.lit
 (.perm [] .nil))))))))))))))))))))))))))))))))))))))))))))))))))))))))))))))))))))))))))))))))))))))))))))))))))))))))))))))))))))))))
theorem smP_x (nm : ByteArray) (q1 q2 q3 q4 q5 q6 q7 : Int) (fh : Bool) (q8 q9 qa qo : Int) (l m : List Ph) (a b : Option Addr) (c d : Nat) : wpG Tryz.prog [] ([(a, cP l), (b, cP m)]) 400 20 [.agg #[.string nm, .int .i64 q1, .int .i64 q2, .int .i64 q3, .int .i64 q4, .int .i64 q5, .int .i64 q6, .int .i64 q7, .bool fh, .int .i64 q8, .int .i64 q9, .int .i64 qa, .int .i64 qo, .slice a l.length c], .agg #[.string nm, .int .i64 q1, .int .i64 q2, .int .i64 q3, .int .i64 q4, .int .i64 q5, .int .i64 q6, .int .i64 q7, .bool fh, .int .i64 q8, .int .i64 q9, .int .i64 qa, .int .i64 qo, .slice b m.length d]] (smP_h nm q1 q2 q3 q4 q5 q6 q7 fh q8 q9 qa qo l m a b c d) ([]) (fun _ => .bool (decide (l = m))) = (∀ (b_1 b_2 : Nat), b_1 = b_1 /\ b_2 = b_2 /\ (ByteArray.toList nm == ByteArray.toList nm) = true /\ b_1 = b_1 /\ b_2 = b_2 /\ (q1 == q1) = true /\ b_1 = b_1 /\ b_2 = b_2 /\ (q2 == q2) = true /\ b_1 = b_1 /\ b_2 = b_2 /\ (q3 == q3) = true /\ b_1 = b_1 /\ b_2 = b_2 /\ (q4 == q4) = true /\ b_1 = b_1 /\
 b_2 = b_2 /\ (q5 == q5) = true /\ b_1 = b_1 /\ b_2 = b_2 /\ (q6 == q6) = true /\ b_1 = b_1 /\ b_2 = b_2 /\ (q7 == q7) = true /\ b_1 = b_1 /\ b_2 = b_2 /\ (fh == fh) = true /\ b_1 = b_1 /\ b_2 = b_2 /\ (q8 == q8) = true /\ b_1 = b_1 /\ b_2 = b_2 /\ (q9 == q9) = true /\ b_1 = b_1 /\ b_2 = b_2 /\ (qa
 == qa) = true /\ b_1 = b_1 /\ b_2 = b_2 /\ (qo == qo) = true /\ b_1 = b_1 /\ b_2 = b_2 /\ cP l = cP l /\ cP m = cP m /\ (SpecG Tryz.prog [] [(a, cP l), (b, cP m)] (39 : FuncId) #[Value.slice a (List.length l) c, .slice b (List.length m) d] [] fun x ↦ Value.bool (decide (l = m))) /\ (∀ (e : Ex), e ∈
 [] -> e ∈ []) /\ Value.bool (decide (l = m)) = Value.bool (decide (l = m))) := by kernel_rfl
set_option maxHeartbeats 4000000 in
theorem smP_sp (nm : ByteArray) (q1 q2 q3 q4 q5 q6 q7 : Int) (fh : Bool) (q8 q9 qa qo : Int) (l m : List Ph) (a b : Option Addr) (c d : Nat) (hA : AOK a l.length) (hB : AOK b m.length) (hl : l.length ≤ 1000000) : SpecG Tryz.prog [] ([(a, cP l), (b, cP m)]) 20 #[.agg #[.string nm, .int .i64 q1, .int .i64 q2, .int .i64 q3, .int .i64 q4, .int .i64 q5, .int .i64 q6, .int .i64 q7, .bool fh, .int .i64 q8, .int .i64 q9, .int .i64 qa, .int .i64 qo, .slice a l.length c], .agg #[.string nm, .int .i64 q1, .int .i64 q2, .int .i64 q3, .int .i64 q4, .int .i64 q5, .int .i64 q6, .int .i64 q7, .bool fh, .int .i64 q8, .int .i64 q9, .int .i64 qa, .int .i64 qo, .slice b m.length d]] ([]) (fun _ => .bool (decide (l = m))) := by
  refine specG_of (h := smP_h nm q1 q2 q3 q4 q5 q6 q7 fh q8 q9 qa qo l m a b c d) (?_ : wpG Tryz.prog [] ([(a, cP l), (b, cP m)]) 400 20 [.agg #[.string nm, .int .i64 q1, .int .i64 q2, .int .i64 q3, .int .i64 q4, .int .i64 q5, .int .i64 q6, .int .i64 q7, .bool fh, .int .i64 q8, .int .i64 q9, .int .i64 qa, .int .i64 qo, .slice a l.length c], .agg #[.string nm, .int .i64 q1, .int .i64 q2, .int .i64 q3, .int .i64 q4, .int .i64 q5, .int .i64 q6, .int .i64 q7, .bool fh, .int .i64 q8, .int .i64 q9, .int .i64 qa, .int .i64 qo, .slice b m.length d]] (smP_h nm q1 q2 q3 q4 q5 q6 q7 fh q8 q9 qa qo l m a b c d) ([]) (fun _ => .bool (decide (l = m))))
  rw [smP_x]
  (repeat' (first | with_reducible exact rfl | exact trivial | with_reducible assumption | exact eqP_sp _ _ _ _ _ _ hA hB hl | exact cU_len _ | exact cI_len _ | exact cB_len _ | exact cU_one _ | exact cI_one _ | exact cB_one _ | exact (fun _ h => h) | exact (fun _ h => (List.not_mem_nil h).elim) | (with_reducible refine e1_in ?_) | (with_reducible refine e2_in ?_) | (with_reducible refine lx_in (Nat.le_of_ble_eq_true rfl) ?_) | (with_reducible refine rqx_rf ?_) | (with_reducible refine rqx_in ?_ ?_ ?_) | (with_reducible apply And.intro) | (with_reducible intro _)))
  all_goals (first | rfl | exact beq_self_eq_true _ | (simp; done) | (simp_all; done) | trace_state)
end Go.Proofs.YtkhhjdbnihbcjaaGreatDoor
