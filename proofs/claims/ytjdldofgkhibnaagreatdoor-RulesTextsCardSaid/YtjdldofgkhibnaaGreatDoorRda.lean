/- Layer 11 (field): what may be bowled: Allowed of both, Ready and Named of both. -/
import Derived.Test.YtjdldofgkhibnaaGreatDoorVz
import Derived.KernelRfl
import Derived.Test.YtjdldofgkhibnaaGreatDoorProg
import Derived.Test.YtjdldofgkhibnaaGreatDoorFda
set_option linter.unusedSimpArgs false
set_option linter.unusedVariables false
set_option maxRecDepth 100000
namespace Go.Proofs.YtjdldofgkhibnaaGreatDoor
open Go.RowKit


theorem boolI {a b : Bool} (h : a = true ↔ b = true) : Value.bool a = Value.bool b := by rw [Bool.eq_iff_iff.2 h]
theorem intI {k : IntKind} {a b : Int} (h : a = b) : Value.int k a = Value.int k b := by rw [h]


/-- A phase of the powerplay. -/
structure Ph where
  pf : Int
  pt : Int
  po : Int
def cP (l : List Ph) : List Value := l.flatMap fun p => [.int .i64 p.pf, .int .i64 p.pt, .int .i64 p.po]
def cP_rd (l : List Ph) (m : Nat) : Nat → Value
  | 0 => .int .i64 (l.getD m ⟨0, 0, 0⟩).pf
  | 1 => .int .i64 (l.getD m ⟨0, 0, 0⟩).pt
  | _ => .int .i64 (l.getD m ⟨0, 0, 0⟩).po
theorem cP_len (l : List Ph) : (cP l).length = l.length * 3 := by
  induction l with
  | nil => rfl
  | cons p l ih => simp only [cP, List.flatMap_cons, List.length_append] at *; rw [ih]; simp; omega
theorem cP_at {l : List Ph} {m j : Nat} (h : m < l.length) (hj : j < 3) : (cP l)[m * 3 + j]? = some (cP_rd l m j) := by
  induction l generalizing m with
  | nil => simp at h
  | cons p l ih =>
    have e : cP (p :: l) = [.int .i64 p.pf, .int .i64 p.pt, .int .i64 p.po] ++ cP l := rfl
    rw [e]
    cases m with
    | zero =>
      rw [List.getElem?_append_left (by simp; omega)]
      have : j = 0 ∨ j = 1 ∨ j = 2 := by omega
      rcases this with rfl | rfl | rfl <;> rfl
    | succ m =>
      rw [List.getElem?_append_right (by simp; omega)]
      have e2 : (m + 1) * 3 + j - [Value.int .i64 p.pf, .int .i64 p.pt, .int .i64 p.po].length = m * 3 + j := by simp; omega
      rw [e2, ih (by simpa using h)]
      have : j = 0 ∨ j = 1 ∨ j = 2 := by omega
      rcases this with rfl | rfl | rfl <;> simp [cP_rd]
theorem cP_get0 {l : List Ph} {m : Nat} (h : m < l.length) : lgo (cP l) (m * 3) = some (.int .i64 (l.getD m ⟨0, 0, 0⟩).pf) := by rw [lgo_eq]; exact cP_at (j := 0) h (by omega)
theorem cP_get1 {l : List Ph} {m : Nat} (h : m < l.length) : lgo (cP l) (m * 3 + 1) = some (.int .i64 (l.getD m ⟨0, 0, 0⟩).pt) := by rw [lgo_eq]; exact cP_at (j := 1) h (by omega)
theorem cP_get2 {l : List Ph} {m : Nat} (h : m < l.length) : lgo (cP l) (m * 3 + 2) = some (.int .i64 (l.getD m ⟨0, 0, 0⟩).po) := by rw [lgo_eq]; exact cP_at (j := 2) h (by omega)
structure Rul where
  nm : ByteArray
  q1 : Int
  q2 : Int
  q3 : Int
  q4 : Int
  q5 : Int
  q6 : Int
  q7 : Int
  fh : Bool
  q8 : Int
  q9 : Int
  qa : Int
  qo : Int
  pw : List Ph
structure RAd where
  a : Option Addr
  c : Nat
def ruV (r : Rul) (B : RAd) : Value := .agg #[.string r.nm, .int .i64 r.q1, .int .i64 r.q2, .int .i64 r.q3, .int .i64 r.q4, .int .i64 r.q5, .int .i64 r.q6, .int .i64 r.q7, .bool r.fh, .int .i64 r.q8, .int .i64 r.q9, .int .i64 r.qa, .int .i64 r.qo, .slice B.a r.pw.length B.c]
def cov (n : Int) (p : Ph) : Bool := decide (p.pf ≤ n) && decide (n ≤ p.pt)
/-- The fielders allowed outside the circle in the over with this number. -/
def alw (r : Rul) (n : Int) : Int := match r.pw.find? (cov n) with | some p => p.po | none => r.qo
def aI (r : Rul) (n : Int) (i : Nat) : Prop := i ≤ r.pw.length ∧ ∀ p ∈ r.pw.take i, cov n p = false
theorem alw_hit {r : Rul} {n : Int} {i : Nat} (h : aI r n i) (hi : i < r.pw.length) (hc : cov n (r.pw.getD i ⟨0, 0, 0⟩) = true) : alw r n = (r.pw.getD i ⟨0, 0, 0⟩).po := by
  unfold alw
  have e : r.pw = r.pw.take i ++ r.pw.getD i ⟨0, 0, 0⟩ :: r.pw.drop (i + 1) := by
    rw [List.getD_eq_getElem?_getD, List.getElem?_eq_getElem hi]
    simp
  have h1 : (r.pw.take i).find? (cov n) = none := by rw [List.find?_eq_none]; intro p hp; simp [h.2 p hp]
  rw [e, List.find?_append, h1]
  simp only [Option.none_or, List.find?_cons, ← e]
  rw [hc]
theorem alw_no {r : Rul} {n : Int} (h : aI r n r.pw.length) : alw r n = r.qo := by
  unfold alw
  have h1 : r.pw.find? (cov n) = none := by rw [List.find?_eq_none]; intro p hp; simp [h.2 p (by simpa using hp)]
  rw [h1]
theorem aI_0 (r : Rul) (n : Int) : aI r n 0 := ⟨Nat.zero_le _, fun p hp => by simp at hp⟩
theorem aI_step {r : Rul} {n : Int} {i : Nat} (h : aI r n i) (hi : i < r.pw.length) (hc : cov n (r.pw.getD i ⟨0, 0, 0⟩) = false) : aI r n (i + 1) := by
  refine ⟨hi, fun p hp => ?_⟩
  rw [List.take_add_one, List.getElem?_eq_getElem hi] at hp
  rw [List.getD_eq_getElem?_getD, List.getElem?_eq_getElem hi] at hc
  rw [List.mem_append] at hp
  rcases hp with hp | hp
  · exact h.2 p hp
  · simp at hp; subst hp; exact hc
@[reducible] def apL (r : Rul) (n : Int) : LoopR := ⟨Nat, fun i => [(8, .int .i64 i)], [], fun _ => [], aI r n, fun i => r.pw.length - i, []⟩
@[reducible] def arL (r : Rul) (n : Int) : LoopR := ⟨Nat, fun i => [(10, .int .i64 i)], [], fun _ => [], aI r n, fun i => r.pw.length - i, []⟩

def alp_h (r : Rul) (B : RAd) (o : Int) : Hint := .ob 2 (.ob 1 (.inl (.pl (.inv (apL r (IntKind.i64.wrap (o + 1))) fun x0 ↦ .split (.ix (.lst (0 : Nat) (x0 * (3 : Nat)) (Value.int .i64 (Ph.pf (List.getD r.pw x0 (Ph.mk (0 : Int) (0 : Int) (0 : Int))))) (.lst (0 : Nat) (x0 * (3 : Nat) + (1 : Nat)) (Value.int .i64 (Ph.pt (List.getD r.pw x0 (Ph.mk (0 :
 Int) (0 : Int) (0 : Int))))) (.lst (0 : Nat) (x0 * (3 : Nat) + (2 : Nat)) (Value.int .i64 (Ph.po (List.getD r.pw x0 (Ph.mk (0 : Int) (0 : Int) (0 : Int))))) (.inl (.ob 2 (ho 3 2 (.inl (.nc (.cut [((6 : Nat), .bool (decide (Ph.pf (List.getD r.pw x0 (Ph.mk (0 : Int) (0 : Int) (0 : Int))) ≤
 IntKind.i64.wrap (o + 1)) && decide (IntKind.i64.wrap (o + 1) ≤ Ph.pt (List.getD r.pw x0 (Ph.mk (0 : Int) (0 : Int) (0 : Int))))))] (.split (.lit (.lit (.lit .nil))) (.lit (.lit (.lit .nil)))) (.split (.split (.ob 1 (.perm [] .nil)) (.ob 1 (.ix (.lst (0 : Nat) (x0 * (3 : Nat) + (2 : Nat)) (Value.int
 .i64 (Ph.po (List.getD r.pw x0 (Ph.mk (0 : Int) (0 : Int) (0 : Int))))) (.perm [] .nil))))) (.perm [] .nil)))))))))))) (.lit (.ob 1 (.perm [] .nil)))))))
theorem alp_x (r : Rul) (B : RAd) (o : Int) : wpG Tryz.prog [] ([(B.a, cP r.pw)]) 400 11 [ruV r B, .int .i64 o] (alp_h r B o) ([]) (fun _ => .int .i64 (alw r (IntKind.i64.wrap (o + 1)))) = (∀ (b b_1 : Nat), b_1 = b_1 /\ True /\ b = b /\ (∃ x, aI r (IntKind.i64.wrap (o + 1)) x /\ Value.int .i64 0 = Value.int .i64 (↑x : Int) /\ True) /\ ∀ (x0 : Nat), aI r (IntKind.i64.wrap (o + 1)) x0 -> ∀ (junk : Nat -> Value), (decide ((↑x0 : Int) < (↑(r.pw.length) : Int)) = true -> (((0 : Int) ≤ (↑x0 :
 Int) /\ (↑x0 : Int) < (↑(r.pw.length) : Int)) /\ AOK (RAd.a B) (r.pw.length)) /\ bk (RAd.a B) = bk (RAd.a B) /\ ofs (RAd.a B) + x0 * (3 : Nat) = ofs (RAd.a B) + x0 * (3 : Nat) /\ lgo (cP r.pw) (x0 * (3 : Nat)) = some (Value.int .i64 (Ph.pf (List.getD r.pw x0 (Ph.mk (0 : Int) (0 : Int) (0 : Int)))))
 /\ bk (RAd.a B) = bk (RAd.a B) /\ ofs (RAd.a B) + x0 * (3 : Nat) + (1 : Nat) = ofs (RAd.a B) + (x0 * (3 : Nat) + (1 : Nat)) /\ lgo (cP r.pw) (x0 * (3 : Nat) + (1 : Nat)) = some (Value.int .i64 (Ph.pt (List.getD r.pw x0 (Ph.mk (0 : Int) (0 : Int) (0 : Int))))) /\ bk (RAd.a B) = bk (RAd.a B) /\ ofs
 (RAd.a B) + x0 * (3 : Nat) + (2 : Nat) = ofs (RAd.a B) + (x0 * (3 : Nat) + (2 : Nat)) /\ lgo (cP r.pw) (x0 * (3 : Nat) + (2 : Nat)) = some (Value.int .i64 (Ph.po (List.getD r.pw x0 (Ph.mk (0 : Int) (0 : Int) (0 : Int))))) /\ ∀ (b_2 : Nat), b_1 = b_1 /\ b_2 = b_2 /\ b_2 = b_2 /\ ((decide (Ph.pf
 (List.getD r.pw x0 (Ph.mk (0 : Int) (0 : Int) (0 : Int))) ≤ IntKind.i64.wrap (o + 1)) = true -> Value.bool (decide (IntKind.i64.wrap (o + 1) ≤ Ph.pt (List.getD r.pw x0 (Ph.mk (0 : Int) (0 : Int) (0 : Int))))) = Value.bool (decide (Ph.pf (List.getD r.pw x0 (Ph.mk (0 : Int) (0 : Int) (0 : Int))) ≤
 IntKind.i64.wrap (o + 1)) && decide (IntKind.i64.wrap (o + 1) ≤ Ph.pt (List.getD r.pw x0 (Ph.mk (0 : Int) (0 : Int) (0 : Int))))) /\ True) /\ (decide (Ph.pf (List.getD r.pw x0 (Ph.mk (0 : Int) (0 : Int) (0 : Int))) ≤ IntKind.i64.wrap (o + 1)) = false -> Value.bool false = Value.bool (decide (Ph.pf
 (List.getD r.pw x0 (Ph.mk (0 : Int) (0 : Int) (0 : Int))) ≤ IntKind.i64.wrap (o + 1)) && decide (IntKind.i64.wrap (o + 1) ≤ Ph.pt (List.getD r.pw x0 (Ph.mk (0 : Int) (0 : Int) (0 : Int))))) /\ True)) /\ ∀ (junk : Nat -> Value), ((decide (Ph.pf (List.getD r.pw x0 (Ph.mk (0 : Int) (0 : Int) (0 :
 Int))) ≤ IntKind.i64.wrap (o + 1)) && decide (IntKind.i64.wrap (o + 1) ≤ Ph.pt (List.getD r.pw x0 (Ph.mk (0 : Int) (0 : Int) (0 : Int))))) = true -> (decide ((↑x0 : Int) < (0 : Int)) = true -> b = b /\ Value.int .i64 r.qo = Value.int .i64 (alw r (IntKind.i64.wrap (o + 1)))) /\ (decide ((↑x0 : Int) <
 (0 : Int)) = false -> b = b /\ (((0 : Int) ≤ (↑x0 : Int) /\ (↑x0 : Int) < (↑(r.pw.length) : Int)) /\ AOK (RAd.a B) (r.pw.length)) /\ bk (RAd.a B) = bk (RAd.a B) /\ ofs (RAd.a B) + x0 * (3 : Nat) + (2 : Nat) = ofs (RAd.a B) + (x0 * (3 : Nat) + (2 : Nat)) /\ lgo (cP r.pw) (x0 * (3 : Nat) + (2 : Nat))
 = some (Value.int .i64 (Ph.po (List.getD r.pw x0 (Ph.mk (0 : Int) (0 : Int) (0 : Int))))) /\ Value.int .i64 (Ph.po (List.getD r.pw x0 (Ph.mk (0 : Int) (0 : Int) (0 : Int)))) = Value.int .i64 (alw r (IntKind.i64.wrap (o + 1))))) /\ ((decide (Ph.pf (List.getD r.pw x0 (Ph.mk (0 : Int) (0 : Int) (0 :
 Int))) ≤ IntKind.i64.wrap (o + 1)) && decide (IntKind.i64.wrap (o + 1) ≤ Ph.pt (List.getD r.pw x0 (Ph.mk (0 : Int) (0 : Int) (0 : Int))))) = false -> ∃ y, aI r (IntKind.i64.wrap (o + 1)) y /\ r.pw.length - y < r.pw.length - x0 /\ Value.int .i64 (IntKind.i64.wrap ((↑x0 : Int) + (1 : Int))) =
 Value.int .i64 (↑y : Int) /\ True)) /\ (decide ((↑x0 : Int) < (↑(r.pw.length) : Int)) = false -> b = b /\ Value.int .i64 r.qo = Value.int .i64 (alw r (IntKind.i64.wrap (o + 1))))) := by kernel_rfl
set_option maxHeartbeats 4000000 in
theorem alp_sp (r : Rul) (B : RAd) (o : Int) (hB : AOK B.a r.pw.length) (hl : r.pw.length ≤ 1000000) : SpecG Tryz.prog [] ([(B.a, cP r.pw)]) 11 #[ruV r B, .int .i64 o] ([]) (fun _ => .int .i64 (alw r (IntKind.i64.wrap (o + 1)))) := by
  refine specG_of (h := alp_h r B o) (?_ : wpG Tryz.prog [] ([(B.a, cP r.pw)]) 400 11 [ruV r B, .int .i64 o] (alp_h r B o) ([]) (fun _ => .int .i64 (alw r (IntKind.i64.wrap (o + 1)))))
  rw [alp_x]
  (repeat' (first | with_reducible exact rfl | exact trivial | with_reducible assumption | exact cU_len _ | exact cI_len _ | exact cB_len _ | exact cU_one _ | exact cI_one _ | exact cB_one _ | exact (fun _ h => h) | exact (fun _ h => (List.not_mem_nil h).elim) | (with_reducible refine e1_in ?_) | (with_reducible refine e2_in ?_) | (with_reducible refine lx_in (Nat.le_of_ble_eq_true rfl) ?_) | (with_reducible refine rqx_rf ?_) | (with_reducible refine rqx_in ?_ ?_ ?_) | (with_reducible apply And.intro) | (with_reducible intro _)))
  all_goals (try simp only [Int.toNat_natCast] at *)
  all_goals (try (first | exact ⟨0, aI_0 _ _, rfl, trivial⟩ | (simp only [*, Bool.and_true, Bool.true_and, Bool.and_false, Bool.false_and, Bool.or_true, Bool.true_or, Bool.or_false, Bool.false_or, Bool.not_true, Bool.not_false, cond_true, cond_false]; done)))
  all_goals (try simp only [decide_eq_true_eq, decide_eq_false_iff_not] at *)
  all_goals (first | omega | (refine cP_get0 ?_; omega) | (refine cP_get1 ?_; omega) | (refine cP_get2 ?_; omega) | (exfalso; omega) | skip)
  all_goals first
    | (have hx := ‹aI _ _ _›
       have hc := ‹(decide _ && decide _) = false›
       have h1 := aI_step hx (by omega) hc
       exact ⟨_, h1, (by show _ - (_ + 1) < _; omega), (by rw [IntWalk.i64_in _ (by omega)]; rfl), trivial⟩)
    | (have hx := ‹aI _ _ _›
       have hc := ‹(decide _ && decide _) = true›
       rw [alw_hit hx (by omega) hc])
    | (rename_i x0 hx junk hlt
       have e : x0 = r.pw.length := by have := hx.1; omega
       subst e
       rw [alw_no hx])
    | trace_state
end Go.Proofs.YtjdldofgkhibnaaGreatDoor
