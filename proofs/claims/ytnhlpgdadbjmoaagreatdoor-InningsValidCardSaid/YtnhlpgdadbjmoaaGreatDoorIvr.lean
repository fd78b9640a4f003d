/- Layer 14 (innings): the reference's Valid, which is the program's. -/
import Derived.Test.YtnhlpgdadbjmoaaGreatDoorVz
import Derived.KernelRfl
import Derived.Test.YtnhlpgdadbjmoaaGreatDoorProg
import Derived.Test.YtnhlpgdadbjmoaaGreatDoorFda
import Derived.Test.YtnhlpgdadbjmoaaGreatDoorFdb
import Derived.Test.YtnhlpgdadbjmoaaGreatDoorFdf
import Derived.Test.YtnhlpgdadbjmoaaGreatDoorFdh
import Derived.Test.YtnhlpgdadbjmoaaGreatDoorFdk
import Derived.Test.YtnhlpgdadbjmoaaGreatDoorRua
import Derived.Test.YtnhlpgdadbjmoaaGreatDoorRuar
import Derived.Test.YtnhlpgdadbjmoaaGreatDoorCra
import Derived.Test.YtnhlpgdadbjmoaaGreatDoorCrb
import Derived.Test.YtnhlpgdadbjmoaaGreatDoorCrs
import Derived.Test.YtnhlpgdadbjmoaaGreatDoorSpa
import Derived.Test.YtnhlpgdadbjmoaaGreatDoorIva
import Derived.Test.YtnhlpgdadbjmoaaGreatDoorIvar
import Derived.Test.YtnhlpgdadbjmoaaGreatDoorIvb
set_option linter.unusedSimpArgs false
set_option linter.unusedVariables false
set_option maxRecDepth 100000
namespace Go.Proofs.YtnhlpgdadbjmoaaGreatDoor
open Go.RowKit


def c1 (l : List Int) : Nat → Nat
  | 0 => 0
  | k + 1 => c1 l k + (if l.getD k 0 = 1 then 1 else 0)
theorem c1_le (l : List Int) (k : Nat) : c1 l k ≤ k := by
  induction k with
  | zero => simp [c1]
  | succ k ih => simp only [c1]; split <;> omega
def rbA (s : Inn) : Nat → Bool
  | 0 => true
  | k + 1 => rbA s k && (!decide (s.bts.getD k 0 > 3) && plB s k)
theorem rbA_all {s : Inn} {n : Nat} : rbA s n = true ↔ ∀ k, k < n → ¬ s.bts.getD k 0 > 3 ∧ plB s k = true := by
  induction n with
  | zero => simp [rbA]
  | succ n ih =>
    simp only [rbA, Bool.and_eq_true, ih, Bool.not_eq_true', decide_eq_false_iff_not]
    constructor
    · rintro ⟨h1, h2⟩ k hk
      by_cases e : k = n
      · subst e; exact h2
      · exact h1 k (by omega)
    · exact fun h => ⟨fun k hk => h k (by omega), h n (by omega)⟩
def rbB (s : Inn) : Bool := rbA s s.bts.length && (!((beg s && decide ((c1 s.bts s.bts.length : Int) < 1)) || (s.st != 0 && s.st == s.ot)) && (s.wk == (c2 s.bts s.bts.length : Int)))
def rbI (s : Inn) (i : Nat) : Prop := i ≤ s.bts.length ∧ rbA s i = true
@[reducible] def rbL (s : Inn) : LoopR := ⟨Nat, fun i => [(10, .int .i64 i), (3, .int .i64 (c2 s.bts i : Nat)), (4, .int .i64 (c1 s.bts i : Nat))], [], fun _ => [], rbI s, fun i => s.bts.length - i, []⟩
theorem rpl_eq {s : Inn} {i : Nat} (hi : i < s.bts.length) (hl : s.bts.length ≤ 1000000) : plB s i = ((s.st == IntKind.i64.wrap ((i : Int) + 1) || s.ot == IntKind.i64.wrap ((i : Int) + 1)) == (s.bts.getD i 0 == 1)) := by
  unfold plB
  rw [IntWalk.i64_in _ (by omega)]
theorem rb_step {s : Inn} {i : Nat} (h : rbI s i) (hi : i < s.bts.length) (hl : s.bts.length ≤ 1000000) (h3 : decide (s.bts.getD i 0 > 3) = false) (ho : ((s.bts.getD i 0 == 1) != (s.st == IntKind.i64.wrap ((i : Int) + 1) || s.ot == IntKind.i64.wrap ((i : Int) + 1))) = false) : rbI s (i + 1) := by
  refine ⟨hi, ?_⟩
  simp only [rbA, h.2, Bool.true_and, rpl_eq hi hl, h3, Bool.not_false]
  revert ho
  generalize (s.st == IntKind.i64.wrap ((i : Int) + 1) || s.ot == IntKind.i64.wrap ((i : Int) + 1)) = x
  generalize (s.bts.getD i 0 == 1) = y
  cases x <;> cases y <;> simp
theorem rb_no3 {s : Inn} {i : Nat} (hi : i < s.bts.length) (h3 : decide (s.bts.getD i 0 > 3) = true) : rbB s = false := by
  have : rbA s s.bts.length = false := by
    cases e : rbA s s.bts.length with
    | false => rfl
    | true => exact absurd (of_decide_eq_true h3) (rbA_all.1 e i hi).1
  unfold rbB
  rw [this]; rfl
theorem rb_no {s : Inn} {i : Nat} (hi : i < s.bts.length) (hl : s.bts.length ≤ 1000000) (ho : ((s.bts.getD i 0 == 1) != (s.st == IntKind.i64.wrap ((i : Int) + 1) || s.ot == IntKind.i64.wrap ((i : Int) + 1))) = true) : rbB s = false := by
  have hp : plB s i = false := by
    rw [rpl_eq hi hl]
    revert ho
    generalize (s.st == IntKind.i64.wrap ((i : Int) + 1) || s.ot == IntKind.i64.wrap ((i : Int) + 1)) = x
    generalize (s.bts.getD i 0 == 1) = y
    cases x <;> cases y <;> simp
  have : rbA s s.bts.length = false := by
    cases e : rbA s s.bts.length with
    | false => rfl
    | true => rw [(rbA_all.1 e i hi).2] at hp; cases hp
  unfold rbB
  rw [this]; rfl
theorem rb_end {s : Inn} {i : Nat} (h : rbI s i) (hf : ¬ (i : Int) < (s.bts.length : Int)) : i = s.bts.length ∧ rbA s s.bts.length = true := by
  have e : i = s.bts.length := by have := h.1; omega
  exact ⟨e, by rw [← e]; exact h.2⟩
theorem rbq (a b y : Bool) : (bif a then !(y == true) else !(y == b)) = (y != (a || b)) := by cases a <;> cases b <;> cases y <;> rfl
theorem c1_st {l : List Int} {i : Nat} (hl : l.length ≤ 1000000) (hi : i < l.length) : Value.int .i64 (bif l.getD i 0 == 1 then IntKind.i64.wrap ((c1 l i : Nat) + 1) else (c1 l i : Nat)) = Value.int .i64 (c1 l (i + 1) : Nat) := by
  have h1 := c1_le l i
  rw [IntWalk.i64_in _ (by omega)]
  simp only [c1]
  by_cases c : l.getD i 0 = 1
  · rw [c]; rfl
  · rw [beq_eq_false_iff_ne.2 c, if_neg c]; rfl

def rba_h (s : Inn) (A : Adr) : Hint := .ob 5 (.pl (.inv (rbL s) fun x0 ↦ .split (.ix (.lst (0 : Nat) (x0 * (1 : Nat)) (Value.int .u8 (List.getD s.bts x0 (0 : Int))) (.split (.perm [] .nil) (.pl (.cut [((3 : Nat), .int .i64 (bif List.getD s.bts x0 (0 : Int) == (2 : Int) then IntKind.i64.wrap ((↑(c2 s.bts x0) : Int) + (1 : Int)) else (↑(c2
 s.bts x0) : Int)))] (.split .nil .nil) (.pl (.cut [((4 : Nat), .int .i64 (bif List.getD s.bts x0 (0 : Int) == (1 : Int) then IntKind.i64.wrap ((↑(c1 s.bts x0) : Int) + (1 : Int)) else (↑(c1 s.bts x0) : Int)))] (.split .nil .nil) (.cut [((39 : Nat), .bool (bif s.st == IntKind.i64.wrap ((↑x0 : Int) +
 (1 : Int)) then !(List.getD s.bts x0 (0 : Int) == (1 : Int)) == true else !(List.getD s.bts x0 (0 : Int) == (1 : Int)) == (s.ot == IntKind.i64.wrap ((↑x0 : Int) + (1 : Int)))))] (.pl (.ob 5 (.pl (.split (hl 5 (.pl .nil)) (.lit (.ob 5 (hl 3 (.pl (.lit (.pl .nil)))))))))) (.split (.perm [] .nil)
 (.perm [] .nil)))))))))) (.cut [((58 : Nat), .bool (bif beg s then decide ((↑(c1 s.bts x0) : Int) < (1 : Int)) || s.st != 0 && s.st == s.ot else s.st != 0 && s.st == s.ot))] (ho 5 28 (.specg [] [0, 1, 2, 3, 4] [cU s.bts, cI s.bws, cI s.bfs, cI s.bwd, cB s.sbs] [] (fun ads0 x ↦ Value.bool (beg s))
 (.split (.lit (.lit (.split (hl 4 (.lit .nil)) (.lit (.ob 5 (.lit (.pl (.lit (.split (.lit (.ob 5 (.lit (.lit (.ob 5 (.lit (.pl (.lit (.lit (.lit .nil)))))))))) (hl 6 (.lit .nil))))))))))) (hl 4 (.ob 5 (.lit (.pl (.lit (.split (.lit (.ob 5 (.lit (.lit (.ob 5 (.lit (.pl (.lit (.lit (.lit
 .nil)))))))))) (hl 6 (.lit .nil))))))))))) (.split (.perm [] .nil) (.ob 5 (.pl (.perm [] .nil)))))))
theorem rba_x (s : Inn) (A : Adr) : wpG Tryz.prog [] (rdI s A) 400 42 [inV s A] (rba_h s A) ([]) (fun _ => .bool (rbB s)) = (∀ (b : Nat), b = b /\ (∃ x, rbI s x /\ Value.int .i64 0 = Value.int .i64 (↑x : Int) /\ Value.int .i64 0 = Value.int .i64 (↑(c2 s.bts x) : Int) /\ Value.int .i64 0 = Value.int .i64 (↑(c1 s.bts x) : Int) /\ True) /\ ∀ (x0 : Nat), rbI s x0 -> ∀ (junk : Nat -> Value), (decide ((↑x0 : Int) <
 (↑(s.bts.length) : Int)) = true -> (((0 : Int) ≤ (↑x0 : Int) /\ (↑x0 : Int) < (↑(s.bts.length) : Int)) /\ AOK (Adr.a1 A) (s.bts.length)) /\ bk (Adr.a1 A) = bk (Adr.a1 A) /\ ofs (Adr.a1 A) + x0 * (1 : Nat) = ofs (Adr.a1 A) + x0 * (1 : Nat) /\ lgo (cU s.bts) (x0 * (1 : Nat)) = some (Value.int .u8
 (List.getD s.bts x0 (0 : Int))) /\ (decide (List.getD s.bts x0 (0 : Int) > (3 : Int)) = true -> Value.bool false = Value.bool (rbB s)) /\ (decide (List.getD s.bts x0 (0 : Int) > (3 : Int)) = false -> (((List.getD s.bts x0 (0 : Int) == (2 : Int)) = true -> Value.int .i64 (IntKind.i64.wrap ((↑(c2
 s.bts x0) : Int) + (1 : Int))) = Value.int .i64 (bif List.getD s.bts x0 (0 : Int) == (2 : Int) then IntKind.i64.wrap ((↑(c2 s.bts x0) : Int) + (1 : Int)) else (↑(c2 s.bts x0) : Int)) /\ True) /\ ((List.getD s.bts x0 (0 : Int) == (2 : Int)) = false -> Value.int .i64 (↑(c2 s.bts x0) : Int) = Value.int
 .i64 (bif List.getD s.bts x0 (0 : Int) == (2 : Int) then IntKind.i64.wrap ((↑(c2 s.bts x0) : Int) + (1 : Int)) else (↑(c2 s.bts x0) : Int)) /\ True)) /\ ∀ (junk : Nat -> Value), (((List.getD s.bts x0 (0 : Int) == (1 : Int)) = true -> Value.int .i64 (IntKind.i64.wrap ((↑(c1 s.bts x0) : Int) + (1 :
 Int))) = Value.int .i64 (bif List.getD s.bts x0 (0 : Int) == (1 : Int) then IntKind.i64.wrap ((↑(c1 s.bts x0) : Int) + (1 : Int)) else (↑(c1 s.bts x0) : Int)) /\ True) /\ ((List.getD s.bts x0 (0 : Int) == (1 : Int)) = false -> Value.int .i64 (↑(c1 s.bts x0) : Int) = Value.int .i64 (bif List.getD
 s.bts x0 (0 : Int) == (1 : Int) then IntKind.i64.wrap ((↑(c1 s.bts x0) : Int) + (1 : Int)) else (↑(c1 s.bts x0) : Int)) /\ True)) /\ ∀ (junk : Nat -> Value), (b = b /\ ((s.st == IntKind.i64.wrap ((↑x0 : Int) + (1 : Int))) = true -> (Value.bool !(List.getD s.bts x0 (0 : Int) == (1 : Int)) == true) =
 Value.bool (bif s.st == IntKind.i64.wrap ((↑x0 : Int) + (1 : Int)) then !(List.getD s.bts x0 (0 : Int) == (1 : Int)) == true else !(List.getD s.bts x0 (0 : Int) == (1 : Int)) == (s.ot == IntKind.i64.wrap ((↑x0 : Int) + (1 : Int)))) /\ True) /\ ((s.st == IntKind.i64.wrap ((↑x0 : Int) + (1 : Int))) =
 false -> b = b /\ (Value.bool !(List.getD s.bts x0 (0 : Int) == (1 : Int)) == (s.ot == IntKind.i64.wrap ((↑x0 : Int) + (1 : Int)))) = Value.bool (bif s.st == IntKind.i64.wrap ((↑x0 : Int) + (1 : Int)) then !(List.getD s.bts x0 (0 : Int) == (1 : Int)) == true else !(List.getD s.bts x0 (0 : Int) == (1
 : Int)) == (s.ot == IntKind.i64.wrap ((↑x0 : Int) + (1 : Int)))) /\ True)) /\ ∀ (junk : Nat -> Value), ((bif s.st == IntKind.i64.wrap ((↑x0 : Int) + (1 : Int)) then !(List.getD s.bts x0 (0 : Int) == (1 : Int)) == true else !(List.getD s.bts x0 (0 : Int) == (1 : Int)) == (s.ot == IntKind.i64.wrap
 ((↑x0 : Int) + (1 : Int)))) = true -> Value.bool false = Value.bool (rbB s)) /\ ((bif s.st == IntKind.i64.wrap ((↑x0 : Int) + (1 : Int)) then !(List.getD s.bts x0 (0 : Int) == (1 : Int)) == true else !(List.getD s.bts x0 (0 : Int) == (1 : Int)) == (s.ot == IntKind.i64.wrap ((↑x0 : Int) + (1 :
 Int)))) = false -> ∃ y, rbI s y /\ s.bts.length - y < s.bts.length - x0 /\ Value.int .i64 (IntKind.i64.wrap ((↑x0 : Int) + (1 : Int))) = Value.int .i64 (↑y : Int) /\ Value.int .i64 (bif List.getD s.bts x0 (0 : Int) == (2 : Int) then IntKind.i64.wrap ((↑(c2 s.bts x0) : Int) + (1 : Int)) else (↑(c2
 s.bts x0) : Int)) = Value.int .i64 (↑(c2 s.bts y) : Int) /\ Value.int .i64 (bif List.getD s.bts x0 (0 : Int) == (1 : Int) then IntKind.i64.wrap ((↑(c1 s.bts x0) : Int) + (1 : Int)) else (↑(c1 s.bts x0) : Int)) = Value.int .i64 (↑(c1 s.bts y) : Int) /\ True))) /\ (decide ((↑x0 : Int) <
 (↑(s.bts.length) : Int)) = false -> (e1 b 28 (cU s.bts = cU s.bts /\ cI s.bws = cI s.bws /\ cI s.bfs = cI s.bfs /\ cI s.bwd = cI s.bwd /\ cB s.sbs = cB s.sbs /\ (SpecG Tryz.prog [] (rdI s A) (57 : FuncId) #[inV s A] [] fun x ↦ Value.bool (beg s)) /\ (∀ (e : Ex), e ∈ [] -> e ∈ []) /\ (beg s = true ->
 (decide ((↑(c1 s.bts x0) : Int) < (1 : Int)) = true -> Value.bool true = Value.bool (bif beg s then decide ((↑(c1 s.bts x0) : Int) < (1 : Int)) || s.st != 0 && s.st == s.ot else s.st != 0 && s.st == s.ot) /\ True) /\ (decide ((↑(c1 s.bts x0) : Int) < (1 : Int)) = false -> b = b /\ ((s.st != 0) =
 true -> b = b /\ b = b /\ Value.bool (s.st == s.ot) = Value.bool (bif beg s then decide ((↑(c1 s.bts x0) : Int) < (1 : Int)) || s.st != 0 && s.st == s.ot else s.st != 0 && s.st == s.ot) /\ True) /\ ((s.st != 0) = false -> Value.bool false = Value.bool (bif beg s then decide ((↑(c1 s.bts x0) : Int) <
 (1 : Int)) || s.st != 0 && s.st == s.ot else s.st != 0 && s.st == s.ot) /\ True))) /\ (beg s = false -> b = b /\ ((s.st != 0) = true -> b = b /\ b = b /\ Value.bool (s.st == s.ot) = Value.bool (bif beg s then decide ((↑(c1 s.bts x0) : Int) < (1 : Int)) || s.st != 0 && s.st == s.ot else s.st != 0 &&
 s.st == s.ot) /\ True) /\ ((s.st != 0) = false -> Value.bool false = Value.bool (bif beg s then decide ((↑(c1 s.bts x0) : Int) < (1 : Int)) || s.st != 0 && s.st == s.ot else s.st != 0 && s.st == s.ot) /\ True)))) /\ ∀ (junk : Nat -> Value), ((bif beg s then decide ((↑(c1 s.bts x0) : Int) < (1 :
 Int)) || s.st != 0 && s.st == s.ot else s.st != 0 && s.st == s.ot) = true -> Value.bool false = Value.bool (rbB s)) /\ ((bif beg s then decide ((↑(c1 s.bts x0) : Int) < (1 : Int)) || s.st != 0 && s.st == s.ot else s.st != 0 && s.st == s.ot) = false -> b = b /\ Value.bool (s.wk == (↑(c2 s.bts x0) :
 Int)) = Value.bool (rbB s)))) := by kernel_rfl
set_option maxHeartbeats 4000000 in
theorem rba_sp (s : Inn) (A : Adr) (hA : OkI s A) : SpecG Tryz.prog [] (rdI s A) 42 #[inV s A] ([]) (fun _ => .bool (rbB s)) := by
  refine specG_of (h := rba_h s A) (?_ : wpG Tryz.prog [] (rdI s A) 400 42 [inV s A] (rba_h s A) ([]) (fun _ => .bool (rbB s)))
  rw [rba_x]
  (repeat' (first | with_reducible exact rfl | exact trivial | with_reducible assumption | exact rbg_sp _ _ hA | exact cU_len _ | exact cI_len _ | exact cB_len _ | exact cU_one _ | exact cI_one _ | exact cB_one _ | exact (fun _ h => h) | exact (fun _ h => (List.not_mem_nil h).elim) | (with_reducible refine e1_in ?_) | (with_reducible refine e2_in ?_) | (with_reducible refine lx_in (Nat.le_of_ble_eq_true rfl) ?_) | (with_reducible refine rqx_rf ?_) | (with_reducible refine rqx_in ?_ ?_ ?_) | (with_reducible apply And.intro) | (with_reducible intro _)))
  all_goals (try (first | (simp only [*, Bool.and_true, Bool.true_and, Bool.and_false, Bool.false_and, Bool.or_true, Bool.true_or, Bool.or_false, Bool.false_or, Bool.not_true, Bool.not_false, cond_true, cond_false]; done)))
  all_goals (try simp only [Int.toNat_natCast, rbq, rrb] at *)
  all_goals first
    | exact ⟨0, ⟨Nat.zero_le _, rfl⟩, rfl, rfl, rfl, trivial⟩
    | exact Int.natCast_nonneg _
    | exact hA.k1
    | (simp only [*, Bool.and_true, Bool.true_and, Bool.and_false, Bool.false_and, Bool.or_true, Bool.true_or, Bool.or_false, Bool.false_or, Bool.not_true, Bool.not_false, cond_true, cond_false]; done)
    | (have hf := of_decide_eq_true ‹decide (((_ : Nat) : Int) < (s.bts.length : Int)) = true›; have hl := hA.l1; first | omega | (refine cU_get ?_; omega) | (have hx := ‹rbI _ _›; have h3 := ‹decide (List.getD s.bts _ 0 > 3) = false›; have ho := ‹((List.getD s.bts _ 0 == 1) != _) = false›; exact ⟨_, rb_step hx (by omega) hl h3 ho, (by show _ - (_ + 1) < _; omega), (by rw [IntWalk.i64_in _ (by omega)]; rfl), c2_st hl (by omega), c1_st hl (by omega), trivial⟩) | (have h3 := ‹decide (List.getD s.bts _ 0 > 3) = true›; exact congrArg Value.bool (rb_no3 (by omega) h3).symm) | (have ho := ‹((List.getD s.bts _ 0 == 1) != _) = true›; exact congrArg Value.bool (rb_no (by omega) hl ho).symm))
    | (have hf := of_decide_eq_false ‹decide (((_ : Nat) : Int) < (s.bts.length : Int)) = false›; obtain ⟨e, ha⟩ := rb_end ‹rbI _ _› hf; subst e; unfold rbB; rw [ha]; first | (have hz := ‹(beg s && _ || _) = true›; rw [hz]; rfl) | (have hz := ‹(beg s && _ || _) = false›; rw [hz]; simp; done))
    | trace_state

def ovR (r : Rul) (s : Inn) : Bool := !((r.q3 == 0 && s.ov != 0) || ((decide (0 < r.q3) && !(wiB s.ov 1 r.q3)) || !(wiB s.io 0 (IntKind.i64.wrap (r.q4 - 1)))))
def rvB (r : Rul) (s : Inn) : Bool := (rck r == 0) && (wiB s.sd 1 2 && (((s.bts.length : Int) == r.q1) && (((s.bwd.length : Int) == r.q1) && (((s.sbs.length : Int) == r.q1) && (decide (s.en ≤ 5) &&
  (wiB s.st 0 r.q1 && (wiB s.ot 0 r.q1 && (wiB s.bw 0 r.q1 && (wiB s.kp 0 r.q1 && (difB s.bws r.q1 s.bws.length && (difB s.bfs r.q1 s.bfs.length && (rbB s && (ovR r s &&
  (cnB [s.tg, s.rn, s.e1, s.e2, s.e3, s.e4, s.e5, s.cm, s.ba, s.ou, s.r1, s.r2] && cnB s.bwd))))))))))))))
@[reducible] def rcL (s : Inn) : LoopR := ⟨Nat, fun i => [(170, .int .i64 i)], [], fun _ => [], cnI s.bwd, fun i => s.bwd.length - i, []⟩
theorem rcn_step {l : List Int} {i : Nat} (h : cnI l i) (hi : i < l.length) (hn : (!(decide (l.getD i 0 ≥ 0) && decide (l.getD i 0 ≤ 1000000000))) = false) : cnI l (i + 1) := cnI_step h hi (inb_t hn)
theorem rcn_hit {l : List Int} {i : Nat} (hi : i < l.length) (hn : (!(decide (l.getD i 0 ≥ 0) && decide (l.getD i 0 ≤ 1000000000))) = true) : cnB l = false := cn_hit hi (inb_f hn)
theorem inb_ge (x : Int) : (decide (x ≥ 0) && decide (x ≤ 1000000000)) = inb x := rfl
theorem wi_ge (x a b : Int) : (decide (x ≥ a) && decide (x ≤ b)) = wiB x a b := rfl

def rvl0_h (r : Rul) (B : RAd) (s : Inn) (A : Adr) : Hint := .nc (.cut [((47 : Nat), .bool (rck r != 0 || (!(decide (s.sd ≥ 1) && decide (s.sd ≤ 2)) || ((↑(s.bts.length) : Int) != r.q1 || ((↑(s.bwd.length) : Int) != r.q1 || ((↑(s.sbs.length) : Int) != r.q1 || decide (s.en > 5)))))))] (ho 6 14 (.specg [] [0] [cP r.pw] [] (fun ads0 x ↦ Value.int .i64 (rck r))
 (.pl (.split (hl 28 (.lit .nil)) (.lit (.ob 7 (.lit (.inl (.nc (.cut [((6 : Nat), .bool (decide (s.sd ≥ 1) && decide (s.sd ≤ 2)))] (.split (.lit (.lit (.lit .nil))) (.lit (.lit (.lit .nil)))) (.lit (.lit (.split (hl 23 (.lit .nil)) (.lit (.ob 7 (.lit (.pl (.lit (.lit (.ob 6 (.lit (.pl (.lit (.split
 (hl 16 (.lit .nil)) (.lit (.ob 7 (.lit (.pl (.lit (.lit (.ob 6 (.lit (.pl (.lit (.split (hl 9 (.lit .nil)) (.lit (.ob 7 (.lit (.pl (.lit (.lit (.ob 6 (.lit (.pl (.lit (.split (.lit (.lit (.lit .nil))) (.lit (.ob 7 (.lit (.lit .nil)))))))))))))))))))))))))))))))))))))))))))))))))) (.split (.perm []
 .nil) (.cut [((98 : Nat), .bool (!(decide (s.st ≥ 0) && decide (s.st ≤ r.q1)) || (!(decide (s.ot ≥ 0) && decide (s.ot ≤ r.q1)) || (!(decide (s.bw ≥ 0) && decide (s.bw ≤ r.q1)) || (!(decide (s.kp ≥ 0) && decide (s.kp ≤ r.q1)) || (!difB s.bws r.q1 (s.bws.length) || (!difB s.bfs r.q1 (s.bfs.length) ||
 !rbB s)))))))] (.ob 7 (.ob 6 (.inl (.nc (.cut [((6 : Nat), .bool (decide (s.st ≥ 0) && decide (s.st ≤ r.q1)))] (.split (.lit (.lit (.lit .nil))) (.lit (.lit (.lit .nil)))) (.split (hl 37 (.lit .nil)) (.lit (.ob 7 (.lit (.lit (.ob 6 (.lit (.inl (.nc (.cut [((6 : Nat), .bool (decide (s.ot ≥ 0) &&
 decide (s.ot ≤ r.q1)))] (.split (.lit (.lit (.lit .nil))) (.lit (.lit (.lit .nil)))) (.lit (.lit (.split (hl 30 (.lit .nil)) (.lit (.ob 7 (.lit (.lit (.ob 6 (.lit (.inl (.nc (.cut [((6 : Nat), .bool (decide (s.bw ≥ 0) && decide (s.bw ≤ r.q1)))] (.split (.lit (.lit (.lit .nil))) (.lit (.lit (.lit
 .nil)))) (.lit (.lit (.split (hl 23 (.lit .nil)) (.lit (.ob 7 (.lit (.lit (.ob 6 (.lit (.inl (.nc (.cut [((6 : Nat), .bool (decide (s.kp ≥ 0) && decide (s.kp ≤ r.q1)))] (.split (.lit (.lit (.lit .nil))) (.lit (.lit (.lit .nil)))) (.lit (.lit (.split (hl 16 (.lit .nil)) (.lit (.ob 7 (.lit (.lit (.ob
 6 (.lit (.specg [] [2] [cI s.bws] [] (fun ads0 x ↦ Value.bool (difB s.bws r.q1 (s.bws.length))) (.lit (.lit (.split (hl 9 (.lit .nil)) (.lit (.ob 7 (.lit (.lit (.ob 6 (.lit (.specg [] [3] [cI s.bfs] [] (fun ads0 x ↦ Value.bool (difB s.bfs r.q1 (s.bfs.length))) (.lit (.lit (.split (.lit (.lit (.lit
 .nil))) (ho 7 28 (.lit (.specg [] [1, 2, 3, 4, 5] [cU s.bts, cI s.bws, cI s.bfs, cI s.bwd, cB s.sbs] [] (fun ads0 x ↦ Value.bool (rbB s)) (.lit (.lit .nil))))))))))))))))))))))))))))))))))))))))))))))))))))))))))))))))))) (.split (.perm [] .nil) (.cut [((128 : Nat), .bool (bif r.q3 == 0 then s.ov !=
 0 || bif decide (r.q3 > 0) then !(decide (s.ov ≥ 1) && decide (s.ov ≤ r.q3)) || !(decide (s.io ≥ 0) && decide (s.io ≤ IntKind.i64.wrap (r.q4 - 1))) else !(decide (s.io ≥ 0) && decide (s.io ≤ IntKind.i64.wrap (r.q4 - 1))) else bif decide (r.q3 > 0) then !(decide (s.ov ≥ 1) && decide (s.ov ≤ r.q3)) ||
 !(decide (s.io ≥ 0) && decide (s.io ≤ IntKind.i64.wrap (r.q4 - 1))) else !(decide (s.io ≥ 0) && decide (s.io ≤ IntKind.i64.wrap (r.q4 - 1)))))] (.ob 6 (.pl (.split (.lit (.ob 7 (.lit (.pl (.lit (.split (hl 12 (.lit .nil)) (.lit (.ob 6 (.lit (.lit (.split (.lit (.ob 7 (.lit (.lit (.ob 6 (.lit (.inl
 (.nc (.cut [((6 : Nat), .bool (decide (s.ov ≥ 1) && decide (s.ov ≤ r.q3)))] (.split (.lit (.lit (.lit .nil))) (.lit (.lit (.lit .nil)))) (hl 4 (.split (hl 6 (.lit .nil)) (.lit (.ob 7 (.lit (.lit (.ob 6 (.lit (.lit (.inl (.nc (.cut [((6 : Nat), .bool (decide (s.io ≥ 0) && decide (s.io ≤
 IntKind.i64.wrap (r.q4 - 1))))] (.split (.lit (.lit (.lit .nil))) (.lit (.lit (.lit .nil)))) (.lit (.lit .nil))))))))))))))))))))))) (hl 10 (.ob 7 (.lit (.lit (.ob 6 (.lit (.lit (.inl (.nc (.cut [((6 : Nat), .bool (decide (s.io ≥ 0) && decide (s.io ≤ IntKind.i64.wrap (r.q4 - 1))))] (.split (.lit
 (.lit (.lit .nil))) (.lit (.lit (.lit .nil)))) (.lit (.lit .nil))))))))))))))))))))))) (hl 5 (.ob 6 (.lit (.lit (.split (.lit (.ob 7 (.lit (.lit (.ob 6 (.lit (.inl (.nc (.cut [((6 : Nat), .bool (decide (s.ov ≥ 1) && decide (s.ov ≤ r.q3)))] (.split (.lit (.lit (.lit .nil))) (.lit (.lit (.lit .nil))))
 (hl 4 (.split (hl 6 (.lit .nil)) (.lit (.ob 7 (.lit (.lit (.ob 6 (.lit (.lit (.inl (.nc (.cut [((6 : Nat), .bool (decide (s.io ≥ 0) && decide (s.io ≤ IntKind.i64.wrap (r.q4 - 1))))] (.split (.lit (.lit (.lit .nil))) (.lit (.lit (.lit .nil)))) (.lit (.lit .nil))))))))))))))))))))))) (hl 10 (.ob 7
 (.lit (.lit (.ob 6 (.lit (.lit (.inl (.nc (.cut [((6 : Nat), .bool (decide (s.io ≥ 0) && decide (s.io ≤ IntKind.i64.wrap (r.q4 - 1))))] (.split (.lit (.lit (.lit .nil))) (.lit (.lit (.lit .nil)))) (.lit (.lit .nil)))))))))))))))))))) (.split (.perm [] .nil) (ho 7 5 (ho 8 5 (ho 7 2 (ho 8 5 (ho 7 3
 (.pl (.ob 7 (.pl (.ob 7 (.pl (.rounds 64 (.lit (.ix (.ob 9 (.inl (.nc (.cut [((6 : Nat), .bool (decide (s.tg ≥ 0) && decide (s.tg ≤ 1000000000)))] (.split (.lit (.lit (.lit .nil))) (.lit (.lit (.lit .nil)))) (.split (.perm [] .nil) (.lit (.ix (.ob 9 (.inl (.nc (.cut [((6 : Nat), .bool (decide (s.rn
 ≥ 0) && decide (s.rn ≤ 1000000000)))] (.split (.lit (.lit (.lit .nil))) (.lit (.lit (.lit .nil)))) (.split (.perm [] .nil) (.lit (.ix (.ob 9 (.inl (.nc (.cut [((6 : Nat), .bool (decide (s.e1 ≥ 0) && decide (s.e1 ≤ 1000000000)))] (.split (.lit (.lit (.lit .nil))) (.lit (.lit (.lit .nil)))) (.split
 (.perm [] .nil) (.lit (.ix (.ob 9 (.inl (.nc (.cut [((6 : Nat), .bool (decide (s.e2 ≥ 0) && decide (s.e2 ≤ 1000000000)))] (.split (.lit (.lit (.lit .nil))) (.lit (.lit (.lit .nil)))) (.split (.perm [] .nil) (.lit (.ix (.ob 9 (.inl (.nc (.cut [((6 : Nat), .bool (decide (s.e3 ≥ 0) && decide (s.e3 ≤
 1000000000)))] (.split (.lit (.lit (.lit .nil))) (.lit (.lit (.lit .nil)))) (.split (.perm [] .nil) (.lit (.ix (.ob 9 (.inl (.nc (.cut [((6 : Nat), .bool (decide (s.e4 ≥ 0) && decide (s.e4 ≤ 1000000000)))] (.split (.lit (.lit (.lit .nil))) (.lit (.lit (.lit .nil)))) (.split (.perm [] .nil) (.lit
 (.ix (.ob 9 (.inl (.nc (.cut [((6 : Nat), .bool (decide (s.e5 ≥ 0) && decide (s.e5 ≤ 1000000000)))] (.split (.lit (.lit (.lit .nil))) (.lit (.lit (.lit .nil)))) (.split (.perm [] .nil) (.lit (.ix (.ob 9 (.inl (.nc (.cut [((6 : Nat), .bool (decide (s.cm ≥ 0) && decide (s.cm ≤ 1000000000)))] (.split
 (.lit (.lit (.lit .nil))) (.lit (.lit (.lit .nil)))) (.split (.perm [] .nil) (.lit (.ix (.ob 9 (.inl (.nc (.cut [((6 : Nat), .bool (decide (s.ba ≥ 0) && decide (s.ba ≤ 1000000000)))] (.split (.lit (.lit (.lit .nil))) (.lit (.lit (.lit .nil)))) (.split (.perm [] .nil) (.lit (.ix (.ob 9 (.inl (.nc
 (.cut [((6 : Nat), .bool (decide (s.ou ≥ 0) && decide (s.ou ≤ 1000000000)))] (.split (.lit (.lit (.lit .nil))) (.lit (.lit (.lit .nil)))) (.split (.perm [] .nil) (.lit (.ix (.ob 9 (.inl (.nc (.cut [((6 : Nat), .bool (decide (s.r1 ≥ 0) && decide (s.r1 ≤ 1000000000)))] (.split (.lit (.lit (.lit
 .nil))) (.lit (.lit (.lit .nil)))) (.split (.perm [] .nil) (.lit (.ix (.ob 9 (.inl (.nc (.cut [((6 : Nat), .bool (decide (s.r2 ≥ 0) && decide (s.r2 ≤ 1000000000)))] (.split (.lit (.lit (.lit .nil))) (.lit (.lit (.lit .nil)))) (.split (.perm [] .nil) (.lit (.ob 7 (.pl (.inv (rcL s) fun x0 ↦ .split
 (.ix (.lst (4 : Nat) (x0 * (1 : Nat)) (Value.int .i64 (List.getD s.bwd x0 (0 : Int))) (.inl (.nc (.cut [((6 : Nat), .bool (decide (List.getD s.bwd x0 (0 : Int) ≥ (0 : Int)) && decide (List.getD s.bwd x0 (0 : Int) ≤ (1000000000 : Int))))] (.split (.lit (.lit (.lit .nil))) (.lit (.lit (.lit .nil))))
 (.split (.perm [] .nil) (.perm [] .nil))))))) (.perm [] .nil))))))))))))))))))))))))))))))))))))))))))))))))))))))))))))))))))))))))))))))))))))))))))))))))))))))))))
theorem rvl0_x (r : Rul) (B : RAd) (s : Inn) (A : Adr) : wpG Tryz.prog [] ((B.a, cP r.pw) :: rdI s A) 400 13 [ruV r B, inV s A] (rvl0_h r B s A) ([]) (fun _ => .bool (rvB r s)) = (∀ (b b_1 : Nat), (e1 b 14 (cP r.pw = cP r.pw /\ (SpecG Tryz.prog [] [(RAd.a B, cP r.pw)] (39 : FuncId) #[ruV r B] [] fun x ↦ Value.int .i64 (rck r)) /\ (∀ (e : Ex), e ∈ [] -> e ∈ []) /\ ((rck r != 0) = true -> Value.bool true = Value.bool (rck r != 0 || (!(decide (s.sd ≥ 1) && decide (s.sd ≤ 2)) ||
 ((↑(s.bts.length) : Int) != r.q1 || ((↑(s.bwd.length) : Int) != r.q1 || ((↑(s.sbs.length) : Int) != r.q1 || decide (s.en > 5)))))) /\ True) /\ ((rck r != 0) = false -> b_1 = b_1 /\ ((decide (s.sd ≥ 1) = true -> Value.bool (decide (s.sd ≤ 2)) = Value.bool (decide (s.sd ≥ 1) && decide (s.sd ≤ 2)) /\
 True) /\ (decide (s.sd ≥ 1) = false -> Value.bool false = Value.bool (decide (s.sd ≥ 1) && decide (s.sd ≤ 2)) /\ True)) /\ ∀ (junk : Nat -> Value), ((!(decide (s.sd ≥ 1) && decide (s.sd ≤ 2))) = true -> Value.bool true = Value.bool (rck r != 0 || (!(decide (s.sd ≥ 1) && decide (s.sd ≤ 2)) ||
 ((↑(s.bts.length) : Int) != r.q1 || ((↑(s.bwd.length) : Int) != r.q1 || ((↑(s.sbs.length) : Int) != r.q1 || decide (s.en > 5)))))) /\ True) /\ ((!(decide (s.sd ≥ 1) && decide (s.sd ≤ 2))) = false -> b_1 = b_1 /\ b = b /\ (((↑(s.bts.length) : Int) != r.q1) = true -> Value.bool true = Value.bool (rck
 r != 0 || (!(decide (s.sd ≥ 1) && decide (s.sd ≤ 2)) || ((↑(s.bts.length) : Int) != r.q1 || ((↑(s.bwd.length) : Int) != r.q1 || ((↑(s.sbs.length) : Int) != r.q1 || decide (s.en > 5)))))) /\ True) /\ (((↑(s.bts.length) : Int) != r.q1) = false -> b_1 = b_1 /\ b = b /\ (((↑(s.bwd.length) : Int) !=
 r.q1) = true -> Value.bool true = Value.bool (rck r != 0 || (!(decide (s.sd ≥ 1) && decide (s.sd ≤ 2)) || ((↑(s.bts.length) : Int) != r.q1 || ((↑(s.bwd.length) : Int) != r.q1 || ((↑(s.sbs.length) : Int) != r.q1 || decide (s.en > 5)))))) /\ True) /\ (((↑(s.bwd.length) : Int) != r.q1) = false -> b_1 =
 b_1 /\ b = b /\ (((↑(s.sbs.length) : Int) != r.q1) = true -> Value.bool true = Value.bool (rck r != 0 || (!(decide (s.sd ≥ 1) && decide (s.sd ≤ 2)) || ((↑(s.bts.length) : Int) != r.q1 || ((↑(s.bwd.length) : Int) != r.q1 || ((↑(s.sbs.length) : Int) != r.q1 || decide (s.en > 5)))))) /\ True) /\
 (((↑(s.sbs.length) : Int) != r.q1) = false -> b_1 = b_1 /\ Value.bool (decide (s.en > 5)) = Value.bool (rck r != 0 || (!(decide (s.sd ≥ 1) && decide (s.sd ≤ 2)) || ((↑(s.bts.length) : Int) != r.q1 || ((↑(s.bwd.length) : Int) != r.q1 || ((↑(s.sbs.length) : Int) != r.q1 || decide (s.en > 5)))))) /\
 True))))))) /\ ∀ (junk : Nat -> Value), ((rck r != 0 || (!(decide (s.sd ≥ 1) && decide (s.sd ≤ 2)) || ((↑(s.bts.length) : Int) != r.q1 || ((↑(s.bwd.length) : Int) != r.q1 || ((↑(s.sbs.length) : Int) != r.q1 || decide (s.en > 5)))))) = true -> Value.bool false = Value.bool (rvB r s)) /\ ((rck r != 0
 || (!(decide (s.sd ≥ 1) && decide (s.sd ≤ 2)) || ((↑(s.bts.length) : Int) != r.q1 || ((↑(s.bwd.length) : Int) != r.q1 || ((↑(s.sbs.length) : Int) != r.q1 || decide (s.en > 5)))))) = false -> (b_1 = b_1 /\ b = b /\ ((decide (s.st ≥ 0) = true -> Value.bool (decide (s.st ≤ r.q1)) = Value.bool (decide
 (s.st ≥ 0) && decide (s.st ≤ r.q1)) /\ True) /\ (decide (s.st ≥ 0) = false -> Value.bool false = Value.bool (decide (s.st ≥ 0) && decide (s.st ≤ r.q1)) /\ True)) /\ ∀ (junk : Nat -> Value), ((!(decide (s.st ≥ 0) && decide (s.st ≤ r.q1))) = true -> Value.bool true = Value.bool (!(decide (s.st ≥ 0) &&
 decide (s.st ≤ r.q1)) || (!(decide (s.ot ≥ 0) && decide (s.ot ≤ r.q1)) || (!(decide (s.bw ≥ 0) && decide (s.bw ≤ r.q1)) || (!(decide (s.kp ≥ 0) && decide (s.kp ≤ r.q1)) || (!difB s.bws r.q1 (s.bws.length) || (!difB s.bfs r.q1 (s.bfs.length) || !rbB s)))))) /\ True) /\ ((!(decide (s.st ≥ 0) && decide
 (s.st ≤ r.q1))) = false -> b_1 = b_1 /\ b = b /\ ((decide (s.ot ≥ 0) = true -> Value.bool (decide (s.ot ≤ r.q1)) = Value.bool (decide (s.ot ≥ 0) && decide (s.ot ≤ r.q1)) /\ True) /\ (decide (s.ot ≥ 0) = false -> Value.bool false = Value.bool (decide (s.ot ≥ 0) && decide (s.ot ≤ r.q1)) /\ True)) /\ ∀
 (junk : Nat -> Value), ((!(decide (s.ot ≥ 0) && decide (s.ot ≤ r.q1))) = true -> Value.bool true = Value.bool (!(decide (s.st ≥ 0) && decide (s.st ≤ r.q1)) || (!(decide (s.ot ≥ 0) && decide (s.ot ≤ r.q1)) || (!(decide (s.bw ≥ 0) && decide (s.bw ≤ r.q1)) || (!(decide (s.kp ≥ 0) && decide (s.kp ≤
 r.q1)) || (!difB s.bws r.q1 (s.bws.length) || (!difB s.bfs r.q1 (s.bfs.length) || !rbB s)))))) /\ True) /\ ((!(decide (s.ot ≥ 0) && decide (s.ot ≤ r.q1))) = false -> b_1 = b_1 /\ b = b /\ ((decide (s.bw ≥ 0) = true -> Value.bool (decide (s.bw ≤ r.q1)) = Value.bool (decide (s.bw ≥ 0) && decide (s.bw
 ≤ r.q1)) /\ True) /\ (decide (s.bw ≥ 0) = false -> Value.bool false = Value.bool (decide (s.bw ≥ 0) && decide (s.bw ≤ r.q1)) /\ True)) /\ ∀ (junk : Nat -> Value), ((!(decide (s.bw ≥ 0) && decide (s.bw ≤ r.q1))) = true -> Value.bool true = Value.bool (!(decide (s.st ≥ 0) && decide (s.st ≤ r.q1)) ||
 (!(decide (s.ot ≥ 0) && decide (s.ot ≤ r.q1)) || (!(decide (s.bw ≥ 0) && decide (s.bw ≤ r.q1)) || (!(decide (s.kp ≥ 0) && decide (s.kp ≤ r.q1)) || (!difB s.bws r.q1 (s.bws.length) || (!difB s.bfs r.q1 (s.bfs.length) || !rbB s)))))) /\ True) /\ ((!(decide (s.bw ≥ 0) && decide (s.bw ≤ r.q1))) = false
 -> b_1 = b_1 /\ b = b /\ ((decide (s.kp ≥ 0) = true -> Value.bool (decide (s.kp ≤ r.q1)) = Value.bool (decide (s.kp ≥ 0) && decide (s.kp ≤ r.q1)) /\ True) /\ (decide (s.kp ≥ 0) = false -> Value.bool false = Value.bool (decide (s.kp ≥ 0) && decide (s.kp ≤ r.q1)) /\ True)) /\ ∀ (junk : Nat -> Value),
 ((!(decide (s.kp ≥ 0) && decide (s.kp ≤ r.q1))) = true -> Value.bool true = Value.bool (!(decide (s.st ≥ 0) && decide (s.st ≤ r.q1)) || (!(decide (s.ot ≥ 0) && decide (s.ot ≤ r.q1)) || (!(decide (s.bw ≥ 0) && decide (s.bw ≤ r.q1)) || (!(decide (s.kp ≥ 0) && decide (s.kp ≤ r.q1)) || (!difB s.bws r.q1
 (s.bws.length) || (!difB s.bfs r.q1 (s.bfs.length) || !rbB s)))))) /\ True) /\ ((!(decide (s.kp ≥ 0) && decide (s.kp ≤ r.q1))) = false -> b_1 = b_1 /\ b = b /\ cI s.bws = cI s.bws /\ (SpecG Tryz.prog [] [(Adr.a2 A, cI s.bws)] (41 : FuncId) #[Value.slice (Adr.a2 A) (s.bws.length) (Adr.c2 A), .int .i64
 r.q1] [] fun x ↦ Value.bool (difB s.bws r.q1 (s.bws.length))) /\ (∀ (e : Ex), e ∈ [] -> e ∈ []) /\ ((!difB s.bws r.q1 (s.bws.length)) = true -> Value.bool true = Value.bool (!(decide (s.st ≥ 0) && decide (s.st ≤ r.q1)) || (!(decide (s.ot ≥ 0) && decide (s.ot ≤ r.q1)) || (!(decide (s.bw ≥ 0) &&
 decide (s.bw ≤ r.q1)) || (!(decide (s.kp ≥ 0) && decide (s.kp ≤ r.q1)) || (!difB s.bws r.q1 (s.bws.length) || (!difB s.bfs r.q1 (s.bfs.length) || !rbB s)))))) /\ True) /\ ((!difB s.bws r.q1 (s.bws.length)) = false -> b_1 = b_1 /\ b = b /\ cI s.bfs = cI s.bfs /\ (SpecG Tryz.prog [] [(Adr.a3 A, cI
 s.bfs)] (41 : FuncId) #[Value.slice (Adr.a3 A) (s.bfs.length) (Adr.c3 A), .int .i64 r.q1] [] fun x ↦ Value.bool (difB s.bfs r.q1 (s.bfs.length))) /\ (∀ (e : Ex), e ∈ [] -> e ∈ []) /\ ((!difB s.bfs r.q1 (s.bfs.length)) = true -> Value.bool true = Value.bool (!(decide (s.st ≥ 0) && decide (s.st ≤
 r.q1)) || (!(decide (s.ot ≥ 0) && decide (s.ot ≤ r.q1)) || (!(decide (s.bw ≥ 0) && decide (s.bw ≤ r.q1)) || (!(decide (s.kp ≥ 0) && decide (s.kp ≤ r.q1)) || (!difB s.bws r.q1 (s.bws.length) || (!difB s.bfs r.q1 (s.bfs.length) || !rbB s)))))) /\ True) /\ ((!difB s.bfs r.q1 (s.bfs.length)) = false ->
 e1 b_1 28 (cU s.bts = cU s.bts /\ cI s.bws = cI s.bws /\ cI s.bfs = cI s.bfs /\ cI s.bwd = cI s.bwd /\ cB s.sbs = cB s.sbs /\ (SpecG Tryz.prog [] (rdI s A) (42 : FuncId) #[inV s A] [] fun x ↦ Value.bool (rbB s)) /\ (∀ (e : Ex), e ∈ [] -> e ∈ []) /\ (Value.bool !rbB s) = Value.bool (!(decide (s.st ≥
 0) && decide (s.st ≤ r.q1)) || (!(decide (s.ot ≥ 0) && decide (s.ot ≤ r.q1)) || (!(decide (s.bw ≥ 0) && decide (s.bw ≤ r.q1)) || (!(decide (s.kp ≥ 0) && decide (s.kp ≤ r.q1)) || (!difB s.bws r.q1 (s.bws.length) || (!difB s.bfs r.q1 (s.bfs.length) || !rbB s)))))) /\ True)))))))) /\ ∀ (junk : Nat ->
 Value), ((!(decide (s.st ≥ 0) && decide (s.st ≤ r.q1)) || (!(decide (s.ot ≥ 0) && decide (s.ot ≤ r.q1)) || (!(decide (s.bw ≥ 0) && decide (s.bw ≤ r.q1)) || (!(decide (s.kp ≥ 0) && decide (s.kp ≤ r.q1)) || (!difB s.bws r.q1 (s.bws.length) || (!difB s.bfs r.q1 (s.bfs.length) || !rbB s)))))) = true ->
 Value.bool false = Value.bool (rvB r s)) /\ ((!(decide (s.st ≥ 0) && decide (s.st ≤ r.q1)) || (!(decide (s.ot ≥ 0) && decide (s.ot ≤ r.q1)) || (!(decide (s.bw ≥ 0) && decide (s.bw ≤ r.q1)) || (!(decide (s.kp ≥ 0) && decide (s.kp ≤ r.q1)) || (!difB s.bws r.q1 (s.bws.length) || (!difB s.bfs r.q1
 (s.bfs.length) || !rbB s)))))) = false -> (b = b /\ ((r.q3 == 0) = true -> b_1 = b_1 /\ ((s.ov != 0) = true -> Value.bool true = Value.bool (bif r.q3 == 0 then s.ov != 0 || bif decide (r.q3 > 0) then !(decide (s.ov ≥ 1) && decide (s.ov ≤ r.q3)) || !(decide (s.io ≥ 0) && decide (s.io ≤
 IntKind.i64.wrap (r.q4 - 1))) else !(decide (s.io ≥ 0) && decide (s.io ≤ IntKind.i64.wrap (r.q4 - 1))) else bif decide (r.q3 > 0) then !(decide (s.ov ≥ 1) && decide (s.ov ≤ r.q3)) || !(decide (s.io ≥ 0) && decide (s.io ≤ IntKind.i64.wrap (r.q4 - 1))) else !(decide (s.io ≥ 0) && decide (s.io ≤
 IntKind.i64.wrap (r.q4 - 1)))) /\ True) /\ ((s.ov != 0) = false -> b = b /\ (decide (r.q3 > 0) = true -> b_1 = b_1 /\ b = b /\ ((decide (s.ov ≥ 1) = true -> Value.bool (decide (s.ov ≤ r.q3)) = Value.bool (decide (s.ov ≥ 1) && decide (s.ov ≤ r.q3)) /\ True) /\ (decide (s.ov ≥ 1) = false -> Value.bool
 false = Value.bool (decide (s.ov ≥ 1) && decide (s.ov ≤ r.q3)) /\ True)) /\ ∀ (junk : Nat -> Value), ((!(decide (s.ov ≥ 1) && decide (s.ov ≤ r.q3))) = true -> Value.bool true = Value.bool (bif r.q3 == 0 then s.ov != 0 || bif decide (r.q3 > 0) then !(decide (s.ov ≥ 1) && decide (s.ov ≤ r.q3)) ||
 !(decide (s.io ≥ 0) && decide (s.io ≤ IntKind.i64.wrap (r.q4 - 1))) else !(decide (s.io ≥ 0) && decide (s.io ≤ IntKind.i64.wrap (r.q4 - 1))) else bif decide (r.q3 > 0) then !(decide (s.ov ≥ 1) && decide (s.ov ≤ r.q3)) || !(decide (s.io ≥ 0) && decide (s.io ≤ IntKind.i64.wrap (r.q4 - 1))) else
 !(decide (s.io ≥ 0) && decide (s.io ≤ IntKind.i64.wrap (r.q4 - 1)))) /\ True) /\ ((!(decide (s.ov ≥ 1) && decide (s.ov ≤ r.q3))) = false -> b_1 = b_1 /\ b = b /\ ((decide (s.io ≥ 0) = true -> Value.bool (decide (s.io ≤ IntKind.i64.wrap (r.q4 - 1))) = Value.bool (decide (s.io ≥ 0) && decide (s.io ≤
 IntKind.i64.wrap (r.q4 - 1))) /\ True) /\ (decide (s.io ≥ 0) = false -> Value.bool false = Value.bool (decide (s.io ≥ 0) && decide (s.io ≤ IntKind.i64.wrap (r.q4 - 1))) /\ True)) /\ ∀ (junk : Nat -> Value), (Value.bool !(decide (s.io ≥ 0) && decide (s.io ≤ IntKind.i64.wrap (r.q4 - 1)))) = Value.bool
 (bif r.q3 == 0 then s.ov != 0 || bif decide (r.q3 > 0) then !(decide (s.ov ≥ 1) && decide (s.ov ≤ r.q3)) || !(decide (s.io ≥ 0) && decide (s.io ≤ IntKind.i64.wrap (r.q4 - 1))) else !(decide (s.io ≥ 0) && decide (s.io ≤ IntKind.i64.wrap (r.q4 - 1))) else bif decide (r.q3 > 0) then !(decide (s.ov ≥ 1)
 && decide (s.ov ≤ r.q3)) || !(decide (s.io ≥ 0) && decide (s.io ≤ IntKind.i64.wrap (r.q4 - 1))) else !(decide (s.io ≥ 0) && decide (s.io ≤ IntKind.i64.wrap (r.q4 - 1)))) /\ True)) /\ (decide (r.q3 > 0) = false -> b_1 = b_1 /\ b = b /\ ((decide (s.io ≥ 0) = true -> Value.bool (decide (s.io ≤
 IntKind.i64.wrap (r.q4 - 1))) = Value.bool (decide (s.io ≥ 0) && decide (s.io ≤ IntKind.i64.wrap (r.q4 - 1))) /\ True) /\ (decide (s.io ≥ 0) = false -> Value.bool false = Value.bool (decide (s.io ≥ 0) && decide (s.io ≤ IntKind.i64.wrap (r.q4 - 1))) /\ True)) /\ ∀ (junk : Nat -> Value), (Value.bool
 !(decide (s.io ≥ 0) && decide (s.io ≤ IntKind.i64.wrap (r.q4 - 1)))) = Value.bool (bif r.q3 == 0 then s.ov != 0 || bif decide (r.q3 > 0) then !(decide (s.ov ≥ 1) && decide (s.ov ≤ r.q3)) || !(decide (s.io ≥ 0) && decide (s.io ≤ IntKind.i64.wrap (r.q4 - 1))) else !(decide (s.io ≥ 0) && decide (s.io ≤
 IntKind.i64.wrap (r.q4 - 1))) else bif decide (r.q3 > 0) then !(decide (s.ov ≥ 1) && decide (s.ov ≤ r.q3)) || !(decide (s.io ≥ 0) && decide (s.io ≤ IntKind.i64.wrap (r.q4 - 1))) else !(decide (s.io ≥ 0) && decide (s.io ≤ IntKind.i64.wrap (r.q4 - 1)))) /\ True))) /\ ((r.q3 == 0) = false -> b = b /\
 (decide (r.q3 > 0) = true -> b_1 = b_1 /\ b = b /\ ((decide (s.ov ≥ 1) = true -> Value.bool (decide (s.ov ≤ r.q3)) = Value.bool (decide (s.ov ≥ 1) && decide (s.ov ≤ r.q3)) /\ True) /\ (decide (s.ov ≥ 1) = false -> Value.bool false = Value.bool (decide (s.ov ≥ 1) && decide (s.ov ≤ r.q3)) /\ True)) /\
 ∀ (junk : Nat -> Value), ((!(decide (s.ov ≥ 1) && decide (s.ov ≤ r.q3))) = true -> Value.bool true = Value.bool (bif r.q3 == 0 then s.ov != 0 || bif decide (r.q3 > 0) then !(decide (s.ov ≥ 1) && decide (s.ov ≤ r.q3)) || !(decide (s.io ≥ 0) && decide (s.io ≤ IntKind.i64.wrap (r.q4 - 1))) else
 !(decide (s.io ≥ 0) && decide (s.io ≤ IntKind.i64.wrap (r.q4 - 1))) else bif decide (r.q3 > 0) then !(decide (s.ov ≥ 1) && decide (s.ov ≤ r.q3)) || !(decide (s.io ≥ 0) && decide (s.io ≤ IntKind.i64.wrap (r.q4 - 1))) else !(decide (s.io ≥ 0) && decide (s.io ≤ IntKind.i64.wrap (r.q4 - 1)))) /\ True)
 /\ ((!(decide (s.ov ≥ 1) && decide (s.ov ≤ r.q3))) = false -> b_1 = b_1 /\ b = b /\ ((decide (s.io ≥ 0) = true -> Value.bool (decide (s.io ≤ IntKind.i64.wrap (r.q4 - 1))) = Value.bool (decide (s.io ≥ 0) && decide (s.io ≤ IntKind.i64.wrap (r.q4 - 1))) /\ True) /\ (decide (s.io ≥ 0) = false ->
 Value.bool false = Value.bool (decide (s.io ≥ 0) && decide (s.io ≤ IntKind.i64.wrap (r.q4 - 1))) /\ True)) /\ ∀ (junk : Nat -> Value), (Value.bool !(decide (s.io ≥ 0) && decide (s.io ≤ IntKind.i64.wrap (r.q4 - 1)))) = Value.bool (bif r.q3 == 0 then s.ov != 0 || bif decide (r.q3 > 0) then !(decide
 (s.ov ≥ 1) && decide (s.ov ≤ r.q3)) || !(decide (s.io ≥ 0) && decide (s.io ≤ IntKind.i64.wrap (r.q4 - 1))) else !(decide (s.io ≥ 0) && decide (s.io ≤ IntKind.i64.wrap (r.q4 - 1))) else bif decide (r.q3 > 0) then !(decide (s.ov ≥ 1) && decide (s.ov ≤ r.q3)) || !(decide (s.io ≥ 0) && decide (s.io ≤
 IntKind.i64.wrap (r.q4 - 1))) else !(decide (s.io ≥ 0) && decide (s.io ≤ IntKind.i64.wrap (r.q4 - 1)))) /\ True)) /\ (decide (r.q3 > 0) = false -> b_1 = b_1 /\ b = b /\ ((decide (s.io ≥ 0) = true -> Value.bool (decide (s.io ≤ IntKind.i64.wrap (r.q4 - 1))) = Value.bool (decide (s.io ≥ 0) && decide
 (s.io ≤ IntKind.i64.wrap (r.q4 - 1))) /\ True) /\ (decide (s.io ≥ 0) = false -> Value.bool false = Value.bool (decide (s.io ≥ 0) && decide (s.io ≤ IntKind.i64.wrap (r.q4 - 1))) /\ True)) /\ ∀ (junk : Nat -> Value), (Value.bool !(decide (s.io ≥ 0) && decide (s.io ≤ IntKind.i64.wrap (r.q4 - 1)))) =
 Value.bool (bif r.q3 == 0 then s.ov != 0 || bif decide (r.q3 > 0) then !(decide (s.ov ≥ 1) && decide (s.ov ≤ r.q3)) || !(decide (s.io ≥ 0) && decide (s.io ≤ IntKind.i64.wrap (r.q4 - 1))) else !(decide (s.io ≥ 0) && decide (s.io ≤ IntKind.i64.wrap (r.q4 - 1))) else bif decide (r.q3 > 0) then !(decide
 (s.ov ≥ 1) && decide (s.ov ≤ r.q3)) || !(decide (s.io ≥ 0) && decide (s.io ≤ IntKind.i64.wrap (r.q4 - 1))) else !(decide (s.io ≥ 0) && decide (s.io ≤ IntKind.i64.wrap (r.q4 - 1)))) /\ True))) /\ ∀ (junk : Nat -> Value), ((bif r.q3 == 0 then s.ov != 0 || bif decide (r.q3 > 0) then !(decide (s.ov ≥ 1)
 && decide (s.ov ≤ r.q3)) || !(decide (s.io ≥ 0) && decide (s.io ≤ IntKind.i64.wrap (r.q4 - 1))) else !(decide (s.io ≥ 0) && decide (s.io ≤ IntKind.i64.wrap (r.q4 - 1))) else bif decide (r.q3 > 0) then !(decide (s.ov ≥ 1) && decide (s.ov ≤ r.q3)) || !(decide (s.io ≥ 0) && decide (s.io ≤
 IntKind.i64.wrap (r.q4 - 1))) else !(decide (s.io ≥ 0) && decide (s.io ≤ IntKind.i64.wrap (r.q4 - 1)))) = true -> Value.bool false = Value.bool (rvB r s)) /\ ((bif r.q3 == 0 then s.ov != 0 || bif decide (r.q3 > 0) then !(decide (s.ov ≥ 1) && decide (s.ov ≤ r.q3)) || !(decide (s.io ≥ 0) && decide
 (s.io ≤ IntKind.i64.wrap (r.q4 - 1))) else !(decide (s.io ≥ 0) && decide (s.io ≤ IntKind.i64.wrap (r.q4 - 1))) else bif decide (r.q3 > 0) then !(decide (s.ov ≥ 1) && decide (s.ov ≤ r.q3)) || !(decide (s.io ≥ 0) && decide (s.io ≤ IntKind.i64.wrap (r.q4 - 1))) else !(decide (s.io ≥ 0) && decide (s.io
 ≤ IntKind.i64.wrap (r.q4 - 1)))) = false -> e1 b_1 5 (∀ (b : Nat), e2 b 5 (b_1 = b_1 /\ b_1 = b_1 /\ e1 b 5 (e1 b_1 5 (∀ (b : Nat), (((0 : Int) ≤ (0 : Int) /\ (0 : Int) < (12 : Int)) /\ AOK (some (Addr.mk b (0 : Nat) none)) (12 : Nat)) /\ b = b /\ ((decide (s.tg ≥ 0) = true -> Value.bool (decide
 (s.tg ≤ 1000000000)) = Value.bool (decide (s.tg ≥ 0) && decide (s.tg ≤ 1000000000)) /\ True) /\ (decide (s.tg ≥ 0) = false -> Value.bool false = Value.bool (decide (s.tg ≥ 0) && decide (s.tg ≤ 1000000000)) /\ True)) /\ ∀ (junk : Nat -> Value), ((!(decide (s.tg ≥ 0) && decide (s.tg ≤ 1000000000))) =
 true -> Value.bool false = Value.bool (rvB r s)) /\ ((!(decide (s.tg ≥ 0) && decide (s.tg ≤ 1000000000))) = false -> (((0 : Int) ≤ (1 : Int) /\ (1 : Int) < (12 : Int)) /\ AOK (some (Addr.mk b (0 : Nat) none)) (12 : Nat)) /\ b = b /\ ((decide (s.rn ≥ 0) = true -> Value.bool (decide (s.rn ≤
 1000000000)) = Value.bool (decide (s.rn ≥ 0) && decide (s.rn ≤ 1000000000)) /\ True) /\ (decide (s.rn ≥ 0) = false -> Value.bool false = Value.bool (decide (s.rn ≥ 0) && decide (s.rn ≤ 1000000000)) /\ True)) /\ ∀ (junk : Nat -> Value), ((!(decide (s.rn ≥ 0) && decide (s.rn ≤ 1000000000))) = true ->
 Value.bool false = Value.bool (rvB r s)) /\ ((!(decide (s.rn ≥ 0) && decide (s.rn ≤ 1000000000))) = false -> (((0 : Int) ≤ (2 : Int) /\ (2 : Int) < (12 : Int)) /\ AOK (some (Addr.mk b (0 : Nat) none)) (12 : Nat)) /\ b = b /\ ((decide (s.e1 ≥ 0) = true -> Value.bool (decide (s.e1 ≤ 1000000000)) =
 Value.bool (decide (s.e1 ≥ 0) && decide (s.e1 ≤ 1000000000)) /\ True) /\ (decide (s.e1 ≥ 0) = false -> Value.bool false = Value.bool (decide (s.e1 ≥ 0) && decide (s.e1 ≤ 1000000000)) /\ True)) /\ ∀ (junk : Nat -> Value), ((!(decide (s.e1 ≥ 0) && decide (s.e1 ≤ 1000000000))) = true -> Value.bool
 false = Value.bool (rvB r s)) /\ ((!(decide (s.e1 ≥ 0) && decide (s.e1 ≤ 1000000000))) = false -> (((0 : Int) ≤ (3 : Int) /\ (3 : Int) < (12 : Int)) /\ AOK (some (Addr.mk b (0 : Nat) none)) (12 : Nat)) /\ b = b /\ ((decide (s.e2 ≥ 0) = true -> Value.bool (decide (s.e2 ≤ 1000000000)) = Value.bool
 (decide (s.e2 ≥ 0) && decide (s.e2 ≤ 1000000000)) /\ True) /\ (decide (s.e2 ≥ 0) = false -> Value.bool false = Value.bool (decide (s.e2 ≥ 0) && decide (s.e2 ≤ 1000000000)) /\ True)) /\ ∀ (junk : Nat -> Value), ((!(decide (s.e2 ≥ 0) && decide (s.e2 ≤ 1000000000))) = true -> Value.bool false =
 Value.bool (rvB r s)) /\ ((!(decide (s.e2 ≥ 0) && decide (s.e2 ≤ 1000000000))) = false -> (((0 : Int) ≤ (4 : Int) /\ (4 : Int) < (12 : Int)) /\ AOK (some (Addr.mk b (0 : Nat) none)) (12 : Nat)) /\ b = b /\ ((decide (s.e3 ≥ 0) = true -> Value.bool (decide (s.e3 ≤ 1000000000)) = Value.bool (decide
 (s.e3 ≥ 0) && decide (s.e3 ≤ 1000000000)) /\ True) /\ (decide (s.e3 ≥ 0) = false -> Value.bool false = Value.bool (decide (s.e3 ≥ 0) && decide (s.e3 ≤ 1000000000)) /\ True)) /\ ∀ (junk : Nat -> Value), ((!(decide (s.e3 ≥ 0) && decide (s.e3 ≤ 1000000000))) = true -> Value.bool false = Value.bool (rvB
 r s)) /\ ((!(decide (s.e3 ≥ 0) && decide (s.e3 ≤ 1000000000))) = false -> (((0 : Int) ≤ (5 : Int) /\ (5 : Int) < (12 : Int)) /\ AOK (some (Addr.mk b (0 : Nat) none)) (12 : Nat)) /\ b = b /\ ((decide (s.e4 ≥ 0) = true -> Value.bool (decide (s.e4 ≤ 1000000000)) = Value.bool (decide (s.e4 ≥ 0) &&
 decide (s.e4 ≤ 1000000000)) /\ True) /\ (decide (s.e4 ≥ 0) = false -> Value.bool false = Value.bool (decide (s.e4 ≥ 0) && decide (s.e4 ≤ 1000000000)) /\ True)) /\ ∀ (junk : Nat -> Value), ((!(decide (s.e4 ≥ 0) && decide (s.e4 ≤ 1000000000))) = true -> Value.bool false = Value.bool (rvB r s)) /\
 ((!(decide (s.e4 ≥ 0) && decide (s.e4 ≤ 1000000000))) = false -> (((0 : Int) ≤ (6 : Int) /\ (6 : Int) < (12 : Int)) /\ AOK (some (Addr.mk b (0 : Nat) none)) (12 : Nat)) /\ b = b /\ ((decide (s.e5 ≥ 0) = true -> Value.bool (decide (s.e5 ≤ 1000000000)) = Value.bool (decide (s.e5 ≥ 0) && decide (s.e5 ≤
 1000000000)) /\ True) /\ (decide (s.e5 ≥ 0) = false -> Value.bool false = Value.bool (decide (s.e5 ≥ 0) && decide (s.e5 ≤ 1000000000)) /\ True)) /\ ∀ (junk : Nat -> Value), ((!(decide (s.e5 ≥ 0) && decide (s.e5 ≤ 1000000000))) = true -> Value.bool false = Value.bool (rvB r s)) /\ ((!(decide (s.e5 ≥
 0) && decide (s.e5 ≤ 1000000000))) = false -> (((0 : Int) ≤ (7 : Int) /\ (7 : Int) < (12 : Int)) /\ AOK (some (Addr.mk b (0 : Nat) none)) (12 : Nat)) /\ b = b /\ ((decide (s.cm ≥ 0) = true -> Value.bool (decide (s.cm ≤ 1000000000)) = Value.bool (decide (s.cm ≥ 0) && decide (s.cm ≤ 1000000000)) /\
 True) /\ (decide (s.cm ≥ 0) = false -> Value.bool false = Value.bool (decide (s.cm ≥ 0) && decide (s.cm ≤ 1000000000)) /\ True)) /\ ∀ (junk : Nat -> Value), ((!(decide (s.cm ≥ 0) && decide (s.cm ≤ 1000000000))) = true -> Value.bool false = Value.bool (rvB r s)) /\ ((!(decide (s.cm ≥ 0) && decide
 (s.cm ≤ 1000000000))) = false -> (((0 : Int) ≤ (8 : Int) /\ (8 : Int) < (12 : Int)) /\ AOK (some (Addr.mk b (0 : Nat) none)) (12 : Nat)) /\ b = b /\ ((decide (s.ba ≥ 0) = true -> Value.bool (decide (s.ba ≤ 1000000000)) = Value.bool (decide (s.ba ≥ 0) && decide (s.ba ≤ 1000000000)) /\ True) /\
 (decide (s.ba ≥ 0) = false -> Value.bool false = Value.bool (decide (s.ba ≥ 0) && decide (s.ba ≤ 1000000000)) /\ True)) /\ ∀ (junk : Nat -> Value), ((!(decide (s.ba ≥ 0) && decide (s.ba ≤ 1000000000))) = true -> Value.bool false = Value.bool (rvB r s)) /\ ((!(decide (s.ba ≥ 0) && decide (s.ba ≤
 1000000000))) = false -> (((0 : Int) ≤ (9 : Int) /\ (9 : Int) < (12 : Int)) /\ AOK (some (Addr.mk b (0 : Nat) none)) (12 : Nat)) /\ b = b /\ ((decide (s.ou ≥ 0) = true -> Value.bool (decide (s.ou ≤ 1000000000)) = Value.bool (decide (s.ou ≥ 0) && decide (s.ou ≤ 1000000000)) /\ True) /\ (decide (s.ou
 ≥ 0) = false -> Value.bool false = Value.bool (decide (s.ou ≥ 0) && decide (s.ou ≤ 1000000000)) /\ True)) /\ ∀ (junk : Nat -> Value), ((!(decide (s.ou ≥ 0) && decide (s.ou ≤ 1000000000))) = true -> Value.bool false = Value.bool (rvB r s)) /\ ((!(decide (s.ou ≥ 0) && decide (s.ou ≤ 1000000000))) =
 false -> (((0 : Int) ≤ (10 : Int) /\ (10 : Int) < (12 : Int)) /\ AOK (some (Addr.mk b (0 : Nat) none)) (12 : Nat)) /\ b = b /\ ((decide (s.r1 ≥ 0) = true -> Value.bool (decide (s.r1 ≤ 1000000000)) = Value.bool (decide (s.r1 ≥ 0) && decide (s.r1 ≤ 1000000000)) /\ True) /\ (decide (s.r1 ≥ 0) = false
 -> Value.bool false = Value.bool (decide (s.r1 ≥ 0) && decide (s.r1 ≤ 1000000000)) /\ True)) /\ ∀ (junk : Nat -> Value), ((!(decide (s.r1 ≥ 0) && decide (s.r1 ≤ 1000000000))) = true -> Value.bool false = Value.bool (rvB r s)) /\ ((!(decide (s.r1 ≥ 0) && decide (s.r1 ≤ 1000000000))) = false -> (((0 :
 Int) ≤ (11 : Int) /\ (11 : Int) < (12 : Int)) /\ AOK (some (Addr.mk b (0 : Nat) none)) (12 : Nat)) /\ b = b /\ ((decide (s.r2 ≥ 0) = true -> Value.bool (decide (s.r2 ≤ 1000000000)) = Value.bool (decide (s.r2 ≥ 0) && decide (s.r2 ≤ 1000000000)) /\ True) /\ (decide (s.r2 ≥ 0) = false -> Value.bool
 false = Value.bool (decide (s.r2 ≥ 0) && decide (s.r2 ≤ 1000000000)) /\ True)) /\ ∀ (junk : Nat -> Value), ((!(decide (s.r2 ≥ 0) && decide (s.r2 ≤ 1000000000))) = true -> Value.bool false = Value.bool (rvB r s)) /\ ((!(decide (s.r2 ≥ 0) && decide (s.r2 ≤ 1000000000))) = false -> b_1 = b_1 /\ (∃ x,
 cnI s.bwd x /\ Value.int .i64 0 = Value.int .i64 (↑x : Int) /\ True) /\ ∀ (x0 : Nat), cnI s.bwd x0 -> ∀ (junk : Nat -> Value), (decide ((↑x0 : Int) < (↑(s.bwd.length) : Int)) = true -> (((0 : Int) ≤ (↑x0 : Int) /\ (↑x0 : Int) < (↑(s.bwd.length) : Int)) /\ AOK (Adr.a4 A) (s.bwd.length)) /\ bk (Adr.a4
 A) = bk (Adr.a4 A) /\ ofs (Adr.a4 A) + x0 * (1 : Nat) = ofs (Adr.a4 A) + x0 * (1 : Nat) /\ lgo (cI s.bwd) (x0 * (1 : Nat)) = some (Value.int .i64 (List.getD s.bwd x0 (0 : Int))) /\ ((decide (List.getD s.bwd x0 (0 : Int) ≥ (0 : Int)) = true -> Value.bool (decide (List.getD s.bwd x0 (0 : Int) ≤
 (1000000000 : Int))) = Value.bool (decide (List.getD s.bwd x0 (0 : Int) ≥ (0 : Int)) && decide (List.getD s.bwd x0 (0 : Int) ≤ (1000000000 : Int))) /\ True) /\ (decide (List.getD s.bwd x0 (0 : Int) ≥ (0 : Int)) = false -> Value.bool false = Value.bool (decide (List.getD s.bwd x0 (0 : Int) ≥ (0 :
 Int)) && decide (List.getD s.bwd x0 (0 : Int) ≤ (1000000000 : Int))) /\ True)) /\ ∀ (junk : Nat -> Value), ((!(decide (List.getD s.bwd x0 (0 : Int) ≥ (0 : Int)) && decide (List.getD s.bwd x0 (0 : Int) ≤ (1000000000 : Int)))) = true -> Value.bool false = Value.bool (rvB r s)) /\ ((!(decide (List.getD
 s.bwd x0 (0 : Int) ≥ (0 : Int)) && decide (List.getD s.bwd x0 (0 : Int) ≤ (1000000000 : Int)))) = false -> ∃ y, cnI s.bwd y /\ s.bwd.length - y < s.bwd.length - x0 /\ Value.int .i64 (IntKind.i64.wrap ((↑x0 : Int) + (1 : Int))) = Value.int .i64 (↑y : Int) /\ True)) /\ (decide ((↑x0 : Int) <
 (↑(s.bwd.length) : Int)) = false -> Value.bool true = Value.bool (rvB r s)))))))))))))))))))))) := by kernel_rfl
set_option maxHeartbeats 4000000 in
theorem rvl0_sp (r : Rul) (B : RAd) (s : Inn) (A : Adr) (hB : AOK B.a r.pw.length) (hl : r.pw.length ≤ 1000000) (hn : r.nm.size ≤ 1000000) (hA : OkI s A) (hc : CapI s A) : SpecG Tryz.prog [] ((B.a, cP r.pw) :: rdI s A) 13 #[ruV r B, inV s A] ([]) (fun _ => .bool (rvB r s)) := by
  refine specG_of (h := rvl0_h r B s A) (?_ : wpG Tryz.prog [] ((B.a, cP r.pw) :: rdI s A) 400 13 [ruV r B, inV s A] (rvl0_h r B s A) ([]) (fun _ => .bool (rvB r s)))
  rw [rvl0_x]
  (repeat' (first | with_reducible exact rfl | exact trivial | with_reducible assumption | exact rrc_sp _ _ hB hl hn | exact ifw_sp _ _ _ _ hA.k2 hA.l2 hc.h2 | exact ifw_sp _ _ _ _ hA.k3 hA.l3 hc.h3 | exact rba_sp _ _ hA | exact cU_len _ | exact cI_len _ | exact cB_len _ | exact cU_one _ | exact cI_one _ | exact cB_one _ | exact (fun _ h => h) | exact (fun _ h => (List.not_mem_nil h).elim) | (with_reducible refine e1_in ?_) | (with_reducible refine e2_in ?_) | (with_reducible refine lx_in (Nat.le_of_ble_eq_true rfl) ?_) | (with_reducible refine rqx_rf ?_) | (with_reducible refine rqx_in ?_ ?_ ?_) | (with_reducible apply And.intro) | (with_reducible intro _)))
  all_goals (try (first | (simp only [*, Bool.and_true, Bool.true_and, Bool.and_false, Bool.false_and, Bool.or_true, Bool.true_or, Bool.or_false, Bool.false_or, Bool.not_true, Bool.not_false, cond_true, cond_false]; done)))
  all_goals (try simp only [Int.toNat_natCast, rrb] at *)
  all_goals first
    | exact ⟨0, cnI_0 _, rfl, trivial⟩
    | exact Int.natCast_nonneg _
    | exact hA.k4
    | exact aokb _ _
    | omega
    | (simp only [*, Bool.and_true, Bool.true_and, Bool.and_false, Bool.false_and, Bool.or_true, Bool.true_or, Bool.or_false, Bool.false_or, Bool.not_true, Bool.not_false, cond_true, cond_false]; done)
    | (have hf := of_decide_eq_true ‹decide (((_ : Nat) : Int) < (s.bwd.length : Int)) = true›; have hl := hA.l4; first | omega | (refine cI_get ?_; omega) | (have hx := ‹cnI _ _›; have ho := ‹(!(decide (List.getD s.bwd _ 0 ≥ 0) && _)) = false›; exact ⟨_, rcn_step hx (by omega) ho, (by show _ - (_ + 1) < _; omega), (by rw [IntWalk.i64_in _ (by omega)]; rfl), trivial⟩) | (have ho := ‹(!(decide (List.getD s.bwd _ 0 ≥ 0) && _)) = true›; refine congrArg Value.bool ?_; unfold rvB; rw [rcn_hit (by omega) ho]; simp only [Bool.and_false]; done))
    | (have hf := of_decide_eq_false ‹decide (((_ : Nat) : Int) < (s.bwd.length : Int)) = false›; refine congrArg Value.bool ?_; have hc := cn_no ‹cnI _ _› hf; have hq : cnB [s.tg, s.rn, s.e1, s.e2, s.e3, s.e4, s.e5, s.cm, s.ba, s.ou, s.r1, s.r2] = true := (by unfold cnB; simp only [Bool.not_eq_false', inb_ge] at *; simp only [List.all_cons, List.all_nil, *, Bool.and_true, Bool.true_and]; done); unfold rvB ovR; rw [hc, hq]; simp only [wi_ge, Bool.or_eq_false_iff, bne_eq_false_iff_eq, Bool.not_eq_false', decide_eq_false_iff_not] at *; first | (simp [*]; done) | (simp_all; done) | (simp_all; omega) | grind)
    | (have hz := ‹(!(decide (_ ≥ (0 : Int)) && decide (_ ≤ (1000000000 : Int)))) = true›; refine congrArg Value.bool ?_; have hq : cnB [s.tg, s.rn, s.e1, s.e2, s.e3, s.e4, s.e5, s.cm, s.ba, s.ou, s.r1, s.r2] = false := (by unfold cnB; simp only [List.all_cons, inb_f hz, Bool.false_and, Bool.and_false]; done); unfold rvB; rw [hq]; simp only [Bool.false_and, Bool.and_false]; done)
    | (refine congrArg Value.bool ?_; unfold rvB ovR; simp only [inb_ge, wi_ge] at *; simp_all; done)
    | (refine congrArg Value.bool ?_; unfold rvB ovR; simp only [wi_ge] at *; generalize cnB [s.tg, s.rn, s.e1, s.e2, s.e3, s.e4, s.e5, s.cm, s.ba, s.ou, s.r1, s.r2] = q; generalize cnB s.bwd = q2; grind)
    | trace_state
end Go.Proofs.YtnhlpgdadbjmoaaGreatDoor
