/- Layer 11 (field), the laws' parts: few players, equal lists, equal states. -/
import Derived.Test.YtjdldofgkhibnaaVz
import Derived.KernelRfl
import Derived.Test.YtjdldofgkhibnaaProg
import Derived.Test.YtjdldofgkhibnaaFda
import Derived.Test.YtjdldofgkhibnaaFdb
import Derived.Test.YtjdldofgkhibnaaFdc
set_option linter.unusedSimpArgs false
set_option linter.unusedVariables false
set_option maxRecDepth 100000
namespace Go.Proofs.Ytjdldofgkhibnaa
open Go.RowKit


def few (s : Inn) : Inn := { s with bts := s.bts.take 13, bws := s.bws.take 13, bfs := s.bfs.take 13, bwd := s.bwd.take 13, sbs := s.sbs.take 13 }
/-- The lists lie well. -/
structure OkA (s : Inn) (A : Adr) : Prop where
  k1 : AOK A.a1 s.bts.length
  k2 : AOK A.a2 s.bws.length
  k3 : AOK A.a3 s.bfs.length
  k4 : AOK A.a4 s.bwd.length
  k5 : AOK A.a5 s.sbs.length
structure CapI (s : Inn) (A : Adr) : Prop where
  h1 : s.bts.length ≤ A.c1
  h2 : s.bws.length ≤ A.c2
  h3 : s.bfs.length ≤ A.c3
  h4 : s.bwd.length ≤ A.c4
  h5 : s.sbs.length ≤ A.c5
theorem take13 {α : Type} (l : List α) : (if (13 : Int) < l.length then 13 else (l.length : Int)).toNat = (l.take 13).length := by
  rw [List.length_take]
  split <;> omega
/-- The first i elements are equal. -/
def eI {α : Type} (l m : List α) (i : Nat) : Prop := i ≤ l.length ∧ l.length = m.length ∧ l.take i = m.take i
theorem eI_0 {α : Type} {l m : List α} (h : l.length = m.length) : eI l m 0 := ⟨Nat.zero_le _, h, by simp⟩
theorem take_step {α : Type} {l m : List α} {i : Nat} {d : α} (h1 : i < l.length) (h2 : i < m.length) : l.take (i + 1) = m.take (i + 1) ↔ l.take i = m.take i ∧ l.getD i d = m.getD i d := by
  rw [List.take_add_one, List.take_add_one, List.getD_eq_getElem?_getD, List.getD_eq_getElem?_getD, List.getElem?_eq_getElem h1, List.getElem?_eq_getElem h2]
  simp only [Option.toList_some, Option.getD_some]
  constructor
  · intro h
    have := List.append_inj h (by simp; omega)
    exact ⟨this.1, by simpa using this.2⟩
  · rintro ⟨h, e⟩
    rw [h, e]
theorem eI_step {α : Type} {d : α} {l m : List α} {i : Nat} (h : eI l m i) (hi : i < l.length) (e : l.getD i d = m.getD i d) : eI l m (i + 1) :=
  ⟨hi, h.2.1, (take_step (d := d) hi (by have := h.2.1; omega)).2 ⟨h.2.2, e⟩⟩
theorem eI_end {α : Type} {l m : List α} (h : eI l m l.length) : l = m := by
  have := h.2.2
  rw [List.take_length, h.2.1, List.take_length] at this
  exact this
theorem eI_fin {α : Type} {l m : List α} {i : Nat} (h : eI l m i) (hi : ¬ (i : Int) < l.length) : l = m := by
  have e : i = l.length := by have := h.1; omega
  subst e
  exact eI_end h
theorem ne_at {α : Type} {l m : List α} {i : Nat} {d : α} (e : l.getD i d ≠ m.getD i d) : l ≠ m := fun h => e (by rw [h])
@[reducible] def eL (l m : List Int) : LoopR := ⟨Nat, fun i => [(13, .int .i64 i)], [], fun _ => [], eI l m, fun i => l.length - i, []⟩

def eq_h (a b : Option Addr) (l m : List Int) (c d : Nat) : Hint := .pl (.pl (.pl (.split (.perm [] .nil) (.pl (.inv (eL l m) fun x0 ↦ .split (.draw [0, 1] none [0, 1] (.take 0 (.take 1 (.take 2 (.ix (.take 3 (.lst (0 : Nat) (x0 * (1 : Nat)) (Value.int .i64 (List.getD l x0 (0 : Int))) (.take 4 (.take 5 (.take 6 (.ix (.take 7 (.lst (1 : Nat) (x0 * (1 : Nat))
 (Value.int .i64 (List.getD m x0 (0 : Int))) (.take 8 (.pl (.split (.perm [] .nil) (.perm [] .nil))))))))))))))))) (.perm [] .nil))))))
theorem eq_x (a b : Option Addr) (l m : List Int) (c d : Nat) : wpG Try.prog [] ([(a, cI l), (b, cI m)]) 400 9 [.slice a l.length c, .slice b m.length d] (eq_h a b l m c d) ([]) (fun _ => .bool (decide (l = m))) = ((((↑(List.length l) : Int) != (↑(List.length m) : Int)) = true -> Value.bool false = Value.bool (decide (l = m))) /\ (((↑(List.length l) : Int) != (↑(List.length m) : Int)) = false -> (∃ x, eI l m x /\ Value.int .i64 0 = Value.int .i64 (↑x : Int) /\ True) /\ ∀ (x0 : Nat), eI l m x0 -> ∀ (junk : Nat
 -> Value), (decide ((↑x0 : Int) < (↑(List.length l) : Int)) = true -> (((0 : Int) ≤ (↑x0 : Int) /\ (↑x0 : Int) < (↑(List.length l) : Int)) /\ AOK a (List.length l)) /\ bk a = bk a /\ ofs a + x0 * (1 : Nat) = ofs a + x0 * (1 : Nat) /\ lgo (cI l) (x0 * (1 : Nat)) = some (Value.int .i64 (List.getD l x0
 (0 : Int))) /\ (((0 : Int) ≤ (↑x0 : Int) /\ (↑x0 : Int) < (↑(List.length m) : Int)) /\ AOK b (List.length m)) /\ bk b = bk b /\ ofs b + x0 * (1 : Nat) = ofs b + x0 * (1 : Nat) /\ lgo (cI m) (x0 * (1 : Nat)) = some (Value.int .i64 (List.getD m x0 (0 : Int))) /\ ((List.getD l x0 (0 : Int) != List.getD
 m x0 (0 : Int)) = true -> Value.bool false = Value.bool (decide (l = m))) /\ ((List.getD l x0 (0 : Int) != List.getD m x0 (0 : Int)) = false -> ∃ y, eI l m y /\ List.length l - y < List.length l - x0 /\ Value.int .i64 (IntKind.i64.wrap ((↑x0 : Int) + (1 : Int))) = Value.int .i64 (↑y : Int) /\ True))
 /\ (decide ((↑x0 : Int) < (↑(List.length l) : Int)) = false -> Value.bool true = Value.bool (decide (l = m))))) := by kernel_rfl
set_option maxHeartbeats 4000000 in
theorem eq_sp (a b : Option Addr) (l m : List Int) (c d : Nat) (hA : AOK a l.length) (hB : AOK b m.length) (hl : l.length ≤ 1000000) : SpecG Try.prog [] ([(a, cI l), (b, cI m)]) 9 #[.slice a l.length c, .slice b m.length d] ([]) (fun _ => .bool (decide (l = m))) := by
  refine specG_of (h := eq_h a b l m c d) (?_ : wpG Try.prog [] ([(a, cI l), (b, cI m)]) 400 9 [.slice a l.length c, .slice b m.length d] (eq_h a b l m c d) ([]) (fun _ => .bool (decide (l = m))))
  rw [eq_x]
  (repeat' (first | with_reducible exact rfl | exact trivial | with_reducible assumption | exact cU_len _ | exact cI_len _ | exact cB_len _ | exact cU_one _ | exact cI_one _ | exact cB_one _ | exact (fun _ h => h) | exact (fun _ h => (List.not_mem_nil h).elim) | (with_reducible refine e1_in ?_) | (with_reducible refine e2_in ?_) | (with_reducible refine lx_in (Nat.le_of_ble_eq_true rfl) ?_) | (with_reducible refine rqx_rf ?_) | (with_reducible refine rqx_in ?_ ?_ ?_) | (with_reducible apply And.intro) | (with_reducible intro _)))
  all_goals (try simp only [decide_eq_true_eq, decide_eq_false_iff_not, bne_iff_ne, ne_eq, Int.natCast_inj, bne_eq_false_iff_eq] at *)
  all_goals first
    | (have hx := ‹eI _ _ _›; have := hx.2.1; first | omega | (refine cI_get ?_; omega))
    | (have hx := ‹eI _ _ _›; have he := ‹List.getD l _ 0 = List.getD m _ 0›; exact ⟨_, eI_step hx (by omega) he, (by show _ - (_ + 1) < _; omega), (by rw [IntWalk.i64_in _ (by omega)]; rfl), trivial⟩)
    | (have he := ‹¬ List.getD l _ 0 = List.getD m _ 0›; rw [decide_eq_false (ne_at he)])
    | exact ⟨0, eI_0 (by omega), rfl, trivial⟩
    | (have he := ‹¬ l.length = m.length›; rw [decide_eq_false (fun e => he (by rw [e]))])
    | (rw [decide_eq_true (eI_fin ‹eI _ _ _› (by assumption))])
    | trace_state
end Go.Proofs.Ytjdldofgkhibnaa
