/- Layer 14 (innings): the program's Valid. -/
import Derived.Test.YtnhlpgdadbjmoaaGreatDoorVz
import Derived.KernelRfl
import Derived.Test.YtnhlpgdadbjmoaaGreatDoorProg
import Derived.Test.YtnhlpgdadbjmoaaGreatDoorFda
import Derived.Test.YtnhlpgdadbjmoaaGreatDoorFdf
import Derived.Test.YtnhlpgdadbjmoaaGreatDoorFdh
import Derived.Test.YtnhlpgdadbjmoaaGreatDoorRua
import Derived.Test.YtnhlpgdadbjmoaaGreatDoorCra
import Derived.Test.YtnhlpgdadbjmoaaGreatDoorSpa
import Derived.Test.YtnhlpgdadbjmoaaGreatDoorIva
set_option linter.unusedSimpArgs false
set_option linter.unusedVariables false
set_option maxRecDepth 100000
namespace Go.Proofs.YtnhlpgdadbjmoaaGreatDoor
open Go.RowKit


def gtB (l : List Int) : Bool := l.any fun x => decide (x > 3)
def gtI (l : List Int) (i : Nat) : Prop := i ≤ l.length ∧ ∀ x ∈ l.take i, ¬ x > 3
theorem gt_step {l : List Int} {i : Nat} (h : gtI l i) (hi : i < l.length) (hn : decide (l.getD i 0 > 3) = false) : gtI l (i + 1) := by
  refine ⟨hi, fun x hm => ?_⟩
  rw [List.take_add_one, List.getElem?_eq_getElem hi, List.mem_append] at hm
  rcases hm with hm | hm
  · exact h.2 x hm
  · rw [List.getD_eq_getElem?_getD, List.getElem?_eq_getElem hi] at hn
    simp at hm hn
    rw [hm]; omega
theorem gt_hit {l : List Int} {i : Nat} (hi : i < l.length) (he : decide (l.getD i 0 > 3) = true) : gtB l = true := by
  unfold gtB
  rw [List.any_eq_true]
  refine ⟨l[i], List.getElem_mem _, ?_⟩
  rw [List.getD_eq_getElem?_getD, List.getElem?_eq_getElem hi] at he
  simpa using he
theorem gt_no {l : List Int} {i : Nat} (h : gtI l i) (hi : ¬ (i : Int) < l.length) : gtB l = false := by
  have e : i = l.length := by have := h.1; omega
  have := h.2
  rw [e, List.take_length] at this
  unfold gtB
  rw [List.any_eq_false]
  intro x hx
  simpa using this x hx
@[reducible] def gtL (l : List Int) : LoopR := ⟨Nat, fun i => [(8, .int .i64 i)], [], fun _ => [], gtI l, fun i => l.length - i, []⟩


def wiB (n lo hi : Int) : Bool := decide (lo ≤ n) && decide (n ≤ hi)
def knB (r : Rul) (s : Inn) : Bool := wiB s.sd 1 2 && (decide (s.en ≤ 5) && (((s.bts.length : Int) == r.q1) && (((s.bwd.length : Int) == r.q1) && (((s.sbs.length : Int) == r.q1) && (wiB s.st 0 r.q1 && (wiB s.ot 0 r.q1 && (wiB s.bw 0 r.q1 && (wiB s.kp 0 r.q1 && !gtB s.bts))))))))


def c2 (l : List Int) : Nat → Nat
  | 0 => 0
  | k + 1 => c2 l k + (if l.getD k 0 = 2 then 1 else 0)
theorem c2_le (l : List Int) (k : Nat) : c2 l k ≤ k := by
  induction k with
  | zero => simp [c2]
  | succ k ih => simp only [c2]; split <;> omega
def plA2 (s : Inn) : Nat → Bool
  | 0 => true
  | k + 1 => plA2 s k && plB s k
theorem plA2_all {s : Inn} {n : Nat} : plA2 s n = true ↔ ∀ k, k < n → plB s k = true := by
  induction n with
  | zero => simp [plA2]
  | succ n ih =>
    simp only [plA2, Bool.and_eq_true, ih]
    constructor
    · rintro ⟨h1, h2⟩ k hk
      by_cases e : k = n
      · subst e; exact h2
      · exact h1 k (by omega)
    · exact fun h => ⟨fun k hk => h k (by omega), h n (by omega)⟩
def baB (s : Inn) : Bool := !(((s.st == s.ot) && !((s.st == 0) && (s.ot == 0))) || (((s.st == 0) && (s.ot == 0)) && beg s)) && (plA2 s s.bts.length && (s.wk == (c2 s.bts s.bts.length : Int)))
def baI (s : Inn) (i : Nat) : Prop := i ≤ s.bts.length ∧ plA2 s i = true
@[reducible] def bfL (s : Inn) : LoopR := ⟨Nat, fun i => [(35, .int .i64 i), (4, .int .i64 (c2 s.bts i : Nat))], [], fun _ => [], baI s, fun i => s.bts.length - i, []⟩


theorem ba_bad {s : Inn} (h : (bif s.st == s.ot then !(s.st == 0 && s.ot == 0) || s.st == 0 && s.ot == 0 && beg s else s.st == 0 && s.ot == 0 && beg s) = true) : baB s = false := by
  unfold baB
  revert h
  generalize (s.st == s.ot) = x
  generalize (s.st == 0 && s.ot == 0) = y
  generalize beg s = z
  cases x <;> cases y <;> cases z <;> simp
theorem ba_good {s : Inn} (h : (bif s.st == s.ot then !(s.st == 0 && s.ot == 0) || s.st == 0 && s.ot == 0 && beg s else s.st == 0 && s.ot == 0 && beg s) = false) : baB s = (plA2 s s.bts.length && (s.wk == (c2 s.bts s.bts.length : Int))) := by
  unfold baB
  revert h
  generalize (s.st == s.ot) = x
  generalize (s.st == 0 && s.ot == 0) = y
  generalize beg s = z
  cases x <;> cases y <;> cases z <;> simp
theorem bq (a b : Int) : (a == b) = (b == a) := by
  by_cases h : a = b
  · subst h; rfl
  · rw [beq_eq_false_iff_ne.2 h, beq_eq_false_iff_ne.2 (fun e => h e.symm)]
theorem plB_eq {s : Inn} {i : Nat} (hi : i < s.bts.length) (hl : s.bts.length ≤ 1000000) : plB s i = ((IntKind.i64.wrap ((i : Int) + 1) == s.st || IntKind.i64.wrap ((i : Int) + 1) == s.ot) == (s.bts.getD i 0 == 1)) := by
  unfold plB
  rw [IntWalk.i64_in _ (by omega), bq s.st, bq s.ot]
theorem ba_step {s : Inn} {i : Nat} (h : baI s i) (hi : i < s.bts.length) (hl : s.bts.length ≤ 1000000) (ho : (!(IntKind.i64.wrap ((i : Int) + 1) == s.st || IntKind.i64.wrap ((i : Int) + 1) == s.ot) == (s.bts.getD i 0 == 1)) = false) : baI s (i + 1) := by
  refine ⟨hi, ?_⟩
  simp only [plA2, h.2, Bool.true_and, plB_eq hi hl]
  revert ho
  generalize (IntKind.i64.wrap ((i : Int) + 1) == s.st || IntKind.i64.wrap ((i : Int) + 1) == s.ot) = x
  generalize (s.bts.getD i 0 == 1) = y
  cases x <;> cases y <;> simp
theorem ba_no {s : Inn} {i : Nat} (hg : baB s = (plA2 s s.bts.length && (s.wk == (c2 s.bts s.bts.length : Int)))) (hi : i < s.bts.length) (hl : s.bts.length ≤ 1000000) (ho : (!(IntKind.i64.wrap ((i : Int) + 1) == s.st || IntKind.i64.wrap ((i : Int) + 1) == s.ot) == (s.bts.getD i 0 == 1)) = true) : baB s = false := by
  have hp : plB s i = false := by
    rw [plB_eq hi hl]
    revert ho
    generalize (IntKind.i64.wrap ((i : Int) + 1) == s.st || IntKind.i64.wrap ((i : Int) + 1) == s.ot) = x
    generalize (s.bts.getD i 0 == 1) = y
    cases x <;> cases y <;> simp
  have : plA2 s s.bts.length = false := by
    cases e : plA2 s s.bts.length with
    | false => rfl
    | true => rw [plA2_all.1 e i hi] at hp; cases hp
  rw [hg, this]
  rfl
theorem ba_end {s : Inn} {i : Nat} (hg : baB s = (plA2 s s.bts.length && (s.wk == (c2 s.bts s.bts.length : Int)))) (h : baI s i) (hf : ¬ (i : Int) < (s.bts.length : Int)) : baB s = (s.wk == (c2 s.bts i : Int)) := by
  have e : i = s.bts.length := by have := h.1; omega
  rw [hg, ← e, h.2, Bool.true_and]
theorem c2_st {l : List Int} {i : Nat} (hl : l.length ≤ 1000000) (hi : i < l.length) : Value.int .i64 (bif l.getD i 0 == 2 then IntKind.i64.wrap ((c2 l i : Nat) + 1) else (c2 l i : Nat)) = Value.int .i64 (c2 l (i + 1) : Nat) := by
  have h1 := c2_le l i
  rw [IntWalk.i64_in _ (by omega)]
  simp only [c2]
  by_cases c : l.getD i 0 = 2
  · rw [c]; rfl
  · rw [beq_eq_false_iff_ne.2 c, if_neg c]; rfl

def igt_h (a : Option Addr) (l : List Int) (c : Nat) : Hint := Hint.inl (Hint.pl (Hint.inv (gtL l) fun x0 ↦ Hint.split (Hint.ix (Hint.lst (0 : Nat) (x0 * (1 : Nat)) (Value.int .u8 (List.getD l x0 (0 : Int))) (Hint.inl (Hint.split (Hint.perm [] Hint.nil) (Hint.perm [] Hint.nil))))) (Hint.perm [] Hint.nil)))
theorem igt_x (a : Option Addr) (l : List Int) (c : Nat) : wpG Tryz.prog [] ([(a, cU l)]) 400 64 [.slice a l.length c, .func (.func 65) #[] #[]] (igt_h a l c) ([]) (fun _ => .bool (gtB l)) = ((∃ x, gtI l x /\ Value.int .i64 0 = Value.int .i64 (↑x : Int) /\ True) /\ ∀ (x0 : Nat), gtI l x0 -> ∀ (junk : Nat -> Value), (decide ((↑x0 : Int) < (↑(List.length l) : Int)) = true -> (((0 : Int) ≤ (↑x0 : Int) /\ (↑x0 : Int) < (↑(List.length l) : Int)) /\ AOK a (List.length l)) /\ bk a = bk a /\ ofs
 a + x0 * (1 : Nat) = ofs a + x0 * (1 : Nat) /\ lgo (cU l) (x0 * (1 : Nat)) = some (Value.int .u8 (List.getD l x0 (0 : Int))) /\ (decide (List.getD l x0 (0 : Int) > (3 : Int)) = true -> Value.bool (decide ((↑x0 : Int) ≥ (0 : Int))) = Value.bool (gtB l)) /\ (decide (List.getD l x0 (0 : Int) > (3 :
 Int)) = false -> ∃ y, gtI l y /\ List.length l - y < List.length l - x0 /\ Value.int .i64 (IntKind.i64.wrap ((↑x0 : Int) + (1 : Int))) = Value.int .i64 (↑y : Int) /\ True)) /\ (decide ((↑x0 : Int) < (↑(List.length l) : Int)) = false -> Value.bool false = Value.bool (gtB l))) := by kernel_rfl
set_option maxHeartbeats 4000000 in
theorem igt_sp (a : Option Addr) (l : List Int) (c : Nat) (hA : AOK a l.length) (hl : l.length ≤ 1000000) : SpecG Tryz.prog [] ([(a, cU l)]) 64 #[.slice a l.length c, .func (.func 65) #[] #[]] ([]) (fun _ => .bool (gtB l)) := by
  refine specG_of (h := igt_h a l c) (?_ : wpG Tryz.prog [] ([(a, cU l)]) 400 64 [.slice a l.length c, .func (.func 65) #[] #[]] (igt_h a l c) ([]) (fun _ => .bool (gtB l)))
  rw [igt_x]
  (repeat' (first | with_reducible exact rfl | exact trivial | with_reducible assumption | exact cU_len _ | exact cI_len _ | exact cB_len _ | exact cU_one _ | exact cI_one _ | exact cB_one _ | exact (fun _ h => h) | exact (fun _ h => (List.not_mem_nil h).elim) | (with_reducible refine e1_in ?_) | (with_reducible refine e2_in ?_) | (with_reducible refine lx_in (Nat.le_of_ble_eq_true rfl) ?_) | (with_reducible refine rqx_rf ?_) | (with_reducible refine rqx_in ?_ ?_ ?_) | (with_reducible apply And.intro) | (with_reducible intro _)))
  all_goals (try simp only [Int.toNat_natCast] at *)
  all_goals first
    | exact ⟨0, ⟨Nat.zero_le _, fun x hx => by simp at hx⟩, rfl, trivial⟩
    | exact Int.natCast_nonneg _
    | exact hA
    | (simp only [*, Bool.and_true, Bool.true_and, Bool.and_false, Bool.false_and, Bool.or_true, Bool.true_or, Bool.or_false, Bool.false_or, Bool.not_true, Bool.not_false, cond_true, cond_false]; done)
    | (have hf := of_decide_eq_true ‹decide (((_ : Nat) : Int) < (l.length : Int)) = true›; first | omega | (refine cU_get ?_; omega) | (have hx := ‹gtI _ _›; have ho := ‹decide (List.getD l _ 0 > 3) = false›; exact ⟨_, gt_step hx (by omega) ho, (by show _ - (_ + 1) < _; omega), (by rw [IntWalk.i64_in _ (by omega)]; rfl), trivial⟩) | (have ho := ‹decide (List.getD l _ 0 > 3) = true›; rw [gt_hit (by omega) ho]; first | done | rw [decide_eq_true (show _ ≥ (0 : Int) from Int.natCast_nonneg _)]))
    | (have hf := of_decide_eq_false ‹decide (((_ : Nat) : Int) < (l.length : Int)) = false›; rw [gt_no ‹gtI _ _› hf]; done)
    | (have hf := of_decide_eq_false ‹decide (((_ : Nat) : Int) < (l.length : Int)) = false›; rw [gt_no ‹gtI _ _› hf]; rfl)
    | trace_state
def ikn_h (r : Rul) (B : RAd) (s : Inn) (A : Adr) : Hint := Hint.nc (Hint.cut [((4 : Nat), .bool (decide ((1 : Int) ≤ s.sd) && decide (s.sd ≤ 2) && (decide (s.en ≤ 5) && ((↑(s.bts.length) : Int) == r.q1 && ((↑(s.bwd.length) : Int) == r.q1 && ((↑(s.sbs.length) : Int) == r.q1 && (decide ((0 : Int) ≤ s.st) && decide (s.st ≤ r.q1) && (decide ((0 : Int) ≤ s.ot) &&
 decide (s.ot ≤ r.q1) && (decide ((0 : Int) ≤ s.bw) && decide (s.bw ≤ r.q1) && (decide ((0 : Int) ≤ s.kp) && decide (s.kp ≤ r.q1) && !gtB s.bts))))))))))] (Hint.ob 6 (Hint.inl (Hint.nc (Hint.cut [((6 : Nat), .bool (decide ((1 : Int) ≤ s.sd) && decide (s.sd ≤ 2)))] (Hint.split (Hint.lit (Hint.lit
 (Hint.lit Hint.nil))) (Hint.lit (Hint.lit (Hint.lit Hint.nil)))) (Hint.split (Hint.lit (Hint.ob 6 (Hint.lit (Hint.lit (Hint.split (Hint.lit (Hint.ob 6 (Hint.lit (Hint.pl (Hint.lit (Hint.lit (Hint.ob 5 (Hint.lit (Hint.pl (Hint.lit (Hint.split (Hint.lit (Hint.ob 6 (Hint.lit (Hint.pl (Hint.lit
 (Hint.lit (Hint.ob 5 (Hint.lit (Hint.pl (Hint.lit (Hint.split (Hint.lit (Hint.ob 6 (Hint.lit (Hint.pl (Hint.lit (Hint.lit (Hint.ob 5 (Hint.lit (Hint.pl (Hint.lit (Hint.split (Hint.lit (Hint.ob 6 (Hint.lit (Hint.lit (Hint.ob 5 (Hint.lit (Hint.inl (Hint.nc (Hint.cut [((6 : Nat), .bool (decide ((0 :
 Int) ≤ s.st) && decide (s.st ≤ r.q1)))] (Hint.split (Hint.lit (Hint.lit (Hint.lit Hint.nil))) (Hint.lit (Hint.lit (Hint.lit Hint.nil)))) (Hint.lit (Hint.split (Hint.lit (Hint.ob 6 (Hint.lit (Hint.lit (Hint.ob 5 (Hint.lit (Hint.inl (Hint.nc (Hint.cut [((6 : Nat), .bool (decide ((0 : Int) ≤ s.ot) &&
 decide (s.ot ≤ r.q1)))] (Hint.split (Hint.lit (Hint.lit (Hint.lit Hint.nil))) (Hint.lit (Hint.lit (Hint.lit Hint.nil)))) (Hint.lit (Hint.split (Hint.lit (Hint.ob 6 (Hint.lit (Hint.lit (Hint.ob 5 (Hint.lit (Hint.inl (Hint.nc (Hint.cut [((6 : Nat), .bool (decide ((0 : Int) ≤ s.bw) && decide (s.bw ≤
 r.q1)))] (Hint.split (Hint.lit (Hint.lit (Hint.lit Hint.nil))) (Hint.lit (Hint.lit (Hint.lit Hint.nil)))) (Hint.lit (Hint.split (Hint.lit (Hint.ob 6 (Hint.lit (Hint.lit (Hint.ob 5 (Hint.lit (Hint.inl (Hint.nc (Hint.cut [((6 : Nat), .bool (decide ((0 : Int) ≤ s.kp) && decide (s.kp ≤ r.q1)))]
 (Hint.split (Hint.lit (Hint.lit (Hint.lit Hint.nil))) (Hint.lit (Hint.lit (Hint.lit Hint.nil)))) (Hint.lit (Hint.split (Hint.lit (Hint.ob 6 (Hint.lit (Hint.specg [] [0] [cU s.bts] [] (fun ads0 x ↦ Value.bool (gtB s.bts)) (Hint.lit (Hint.lit Hint.nil)))))) (hl 3 (Hint.lit Hint.nil))))))))))))) (hl 9
 (Hint.lit Hint.nil))))))))))))) (hl 15 (Hint.lit Hint.nil))))))))))))) (hl 21 (Hint.lit Hint.nil))))))))))))) (hl 27 (Hint.lit Hint.nil))))))))))))) (hl 34 (Hint.lit Hint.nil))))))))))))) (hl 41 (Hint.lit Hint.nil))))))))))))) (hl 48 (Hint.lit Hint.nil))))))) (hl 52 (Hint.lit Hint.nil)))))))
 (Hint.perm [] Hint.nil))
theorem ikn_x (r : Rul) (B : RAd) (s : Inn) (A : Adr) : wpG Tryz.prog [] (rdI s A) 401 34 [ruV r B, inV s A] (ikn_h r B s A) ([]) (fun _ => .bool (knB r s)) = (∀ (b b_1 : Nat), (b_1 = b_1 /\ ((decide ((1 : Int) ≤ s.sd) = true -> Value.bool (decide (s.sd ≤ 2)) = Value.bool (decide ((1 : Int) ≤ s.sd) && decide (s.sd ≤ 2)) /\ True) /\ (decide ((1 : Int) ≤ s.sd) = false -> Value.bool false = Value.bool (decide ((1 : Int) ≤ s.sd) && decide (s.sd ≤ 2)) /\ True))
 /\ ∀ (junk : Nat -> Value), ((decide ((1 : Int) ≤ s.sd) && decide (s.sd ≤ 2)) = true -> b_1 = b_1 /\ (decide (s.en ≤ 5) = true -> b_1 = b_1 /\ b = b /\ (((↑(s.bts.length) : Int) == r.q1) = true -> b_1 = b_1 /\ b = b /\ (((↑(s.bwd.length) : Int) == r.q1) = true -> b_1 = b_1 /\ b = b /\
 (((↑(s.sbs.length) : Int) == r.q1) = true -> b_1 = b_1 /\ b = b /\ ((decide ((0 : Int) ≤ s.st) = true -> Value.bool (decide (s.st ≤ r.q1)) = Value.bool (decide ((0 : Int) ≤ s.st) && decide (s.st ≤ r.q1)) /\ True) /\ (decide ((0 : Int) ≤ s.st) = false -> Value.bool false = Value.bool (decide ((0 :
 Int) ≤ s.st) && decide (s.st ≤ r.q1)) /\ True)) /\ ∀ (junk : Nat -> Value), ((decide ((0 : Int) ≤ s.st) && decide (s.st ≤ r.q1)) = true -> b_1 = b_1 /\ b = b /\ ((decide ((0 : Int) ≤ s.ot) = true -> Value.bool (decide (s.ot ≤ r.q1)) = Value.bool (decide ((0 : Int) ≤ s.ot) && decide (s.ot ≤ r.q1)) /\
 True) /\ (decide ((0 : Int) ≤ s.ot) = false -> Value.bool false = Value.bool (decide ((0 : Int) ≤ s.ot) && decide (s.ot ≤ r.q1)) /\ True)) /\ ∀ (junk : Nat -> Value), ((decide ((0 : Int) ≤ s.ot) && decide (s.ot ≤ r.q1)) = true -> b_1 = b_1 /\ b = b /\ ((decide ((0 : Int) ≤ s.bw) = true -> Value.bool
 (decide (s.bw ≤ r.q1)) = Value.bool (decide ((0 : Int) ≤ s.bw) && decide (s.bw ≤ r.q1)) /\ True) /\ (decide ((0 : Int) ≤ s.bw) = false -> Value.bool false = Value.bool (decide ((0 : Int) ≤ s.bw) && decide (s.bw ≤ r.q1)) /\ True)) /\ ∀ (junk : Nat -> Value), ((decide ((0 : Int) ≤ s.bw) && decide
 (s.bw ≤ r.q1)) = true -> b_1 = b_1 /\ b = b /\ ((decide ((0 : Int) ≤ s.kp) = true -> Value.bool (decide (s.kp ≤ r.q1)) = Value.bool (decide ((0 : Int) ≤ s.kp) && decide (s.kp ≤ r.q1)) /\ True) /\ (decide ((0 : Int) ≤ s.kp) = false -> Value.bool false = Value.bool (decide ((0 : Int) ≤ s.kp) && decide
 (s.kp ≤ r.q1)) /\ True)) /\ ∀ (junk : Nat -> Value), ((decide ((0 : Int) ≤ s.kp) && decide (s.kp ≤ r.q1)) = true -> b_1 = b_1 /\ cU s.bts = cU s.bts /\ (SpecG Tryz.prog [] [(Adr.a1 A, cU s.bts)] (64 : FuncId) #[Value.slice (Adr.a1 A) (s.bts.length) (Adr.c1 A), Value.func (Fn.func (65 : FuncId)) #[]
 #[]] [] fun x ↦ Value.bool (gtB s.bts)) /\ (∀ (e : Ex), e ∈ [] -> e ∈ []) /\ (Value.bool !gtB s.bts) = Value.bool (decide ((1 : Int) ≤ s.sd) && decide (s.sd ≤ 2) && (decide (s.en ≤ 5) && ((↑(s.bts.length) : Int) == r.q1 && ((↑(s.bwd.length) : Int) == r.q1 && ((↑(s.sbs.length) : Int) == r.q1 &&
 (decide ((0 : Int) ≤ s.st) && decide (s.st ≤ r.q1) && (decide ((0 : Int) ≤ s.ot) && decide (s.ot ≤ r.q1) && (decide ((0 : Int) ≤ s.bw) && decide (s.bw ≤ r.q1) && (decide ((0 : Int) ≤ s.kp) && decide (s.kp ≤ r.q1) && !gtB s.bts))))))))) /\ True) /\ ((decide ((0 : Int) ≤ s.kp) && decide (s.kp ≤ r.q1))
 = false -> Value.bool false = Value.bool (decide ((1 : Int) ≤ s.sd) && decide (s.sd ≤ 2) && (decide (s.en ≤ 5) && ((↑(s.bts.length) : Int) == r.q1 && ((↑(s.bwd.length) : Int) == r.q1 && ((↑(s.sbs.length) : Int) == r.q1 && (decide ((0 : Int) ≤ s.st) && decide (s.st ≤ r.q1) && (decide ((0 : Int) ≤
 s.ot) && decide (s.ot ≤ r.q1) && (decide ((0 : Int) ≤ s.bw) && decide (s.bw ≤ r.q1) && (decide ((0 : Int) ≤ s.kp) && decide (s.kp ≤ r.q1) && !gtB s.bts))))))))) /\ True)) /\ ((decide ((0 : Int) ≤ s.bw) && decide (s.bw ≤ r.q1)) = false -> Value.bool false = Value.bool (decide ((1 : Int) ≤ s.sd) &&
 decide (s.sd ≤ 2) && (decide (s.en ≤ 5) && ((↑(s.bts.length) : Int) == r.q1 && ((↑(s.bwd.length) : Int) == r.q1 && ((↑(s.sbs.length) : Int) == r.q1 && (decide ((0 : Int) ≤ s.st) && decide (s.st ≤ r.q1) && (decide ((0 : Int) ≤ s.ot) && decide (s.ot ≤ r.q1) && (decide ((0 : Int) ≤ s.bw) && decide
 (s.bw ≤ r.q1) && (decide ((0 : Int) ≤ s.kp) && decide (s.kp ≤ r.q1) && !gtB s.bts))))))))) /\ True)) /\ ((decide ((0 : Int) ≤ s.ot) && decide (s.ot ≤ r.q1)) = false -> Value.bool false = Value.bool (decide ((1 : Int) ≤ s.sd) && decide (s.sd ≤ 2) && (decide (s.en ≤ 5) && ((↑(s.bts.length) : Int) ==
 r.q1 && ((↑(s.bwd.length) : Int) == r.q1 && ((↑(s.sbs.length) : Int) == r.q1 && (decide ((0 : Int) ≤ s.st) && decide (s.st ≤ r.q1) && (decide ((0 : Int) ≤ s.ot) && decide (s.ot ≤ r.q1) && (decide ((0 : Int) ≤ s.bw) && decide (s.bw ≤ r.q1) && (decide ((0 : Int) ≤ s.kp) && decide (s.kp ≤ r.q1) && !gtB
 s.bts))))))))) /\ True)) /\ ((decide ((0 : Int) ≤ s.st) && decide (s.st ≤ r.q1)) = false -> Value.bool false = Value.bool (decide ((1 : Int) ≤ s.sd) && decide (s.sd ≤ 2) && (decide (s.en ≤ 5) && ((↑(s.bts.length) : Int) == r.q1 && ((↑(s.bwd.length) : Int) == r.q1 && ((↑(s.sbs.length) : Int) == r.q1
 && (decide ((0 : Int) ≤ s.st) && decide (s.st ≤ r.q1) && (decide ((0 : Int) ≤ s.ot) && decide (s.ot ≤ r.q1) && (decide ((0 : Int) ≤ s.bw) && decide (s.bw ≤ r.q1) && (decide ((0 : Int) ≤ s.kp) && decide (s.kp ≤ r.q1) && !gtB s.bts))))))))) /\ True)) /\ (((↑(s.sbs.length) : Int) == r.q1) = false ->
 Value.bool false = Value.bool (decide ((1 : Int) ≤ s.sd) && decide (s.sd ≤ 2) && (decide (s.en ≤ 5) && ((↑(s.bts.length) : Int) == r.q1 && ((↑(s.bwd.length) : Int) == r.q1 && ((↑(s.sbs.length) : Int) == r.q1 && (decide ((0 : Int) ≤ s.st) && decide (s.st ≤ r.q1) && (decide ((0 : Int) ≤ s.ot) &&
 decide (s.ot ≤ r.q1) && (decide ((0 : Int) ≤ s.bw) && decide (s.bw ≤ r.q1) && (decide ((0 : Int) ≤ s.kp) && decide (s.kp ≤ r.q1) && !gtB s.bts))))))))) /\ True)) /\ (((↑(s.bwd.length) : Int) == r.q1) = false -> Value.bool false = Value.bool (decide ((1 : Int) ≤ s.sd) && decide (s.sd ≤ 2) && (decide
 (s.en ≤ 5) && ((↑(s.bts.length) : Int) == r.q1 && ((↑(s.bwd.length) : Int) == r.q1 && ((↑(s.sbs.length) : Int) == r.q1 && (decide ((0 : Int) ≤ s.st) && decide (s.st ≤ r.q1) && (decide ((0 : Int) ≤ s.ot) && decide (s.ot ≤ r.q1) && (decide ((0 : Int) ≤ s.bw) && decide (s.bw ≤ r.q1) && (decide ((0 :
 Int) ≤ s.kp) && decide (s.kp ≤ r.q1) && !gtB s.bts))))))))) /\ True)) /\ (((↑(s.bts.length) : Int) == r.q1) = false -> Value.bool false = Value.bool (decide ((1 : Int) ≤ s.sd) && decide (s.sd ≤ 2) && (decide (s.en ≤ 5) && ((↑(s.bts.length) : Int) == r.q1 && ((↑(s.bwd.length) : Int) == r.q1 &&
 ((↑(s.sbs.length) : Int) == r.q1 && (decide ((0 : Int) ≤ s.st) && decide (s.st ≤ r.q1) && (decide ((0 : Int) ≤ s.ot) && decide (s.ot ≤ r.q1) && (decide ((0 : Int) ≤ s.bw) && decide (s.bw ≤ r.q1) && (decide ((0 : Int) ≤ s.kp) && decide (s.kp ≤ r.q1) && !gtB s.bts))))))))) /\ True)) /\ (decide (s.en ≤
 5) = false -> Value.bool false = Value.bool (decide ((1 : Int) ≤ s.sd) && decide (s.sd ≤ 2) && (decide (s.en ≤ 5) && ((↑(s.bts.length) : Int) == r.q1 && ((↑(s.bwd.length) : Int) == r.q1 && ((↑(s.sbs.length) : Int) == r.q1 && (decide ((0 : Int) ≤ s.st) && decide (s.st ≤ r.q1) && (decide ((0 : Int) ≤
 s.ot) && decide (s.ot ≤ r.q1) && (decide ((0 : Int) ≤ s.bw) && decide (s.bw ≤ r.q1) && (decide ((0 : Int) ≤ s.kp) && decide (s.kp ≤ r.q1) && !gtB s.bts))))))))) /\ True)) /\ ((decide ((1 : Int) ≤ s.sd) && decide (s.sd ≤ 2)) = false -> Value.bool false = Value.bool (decide ((1 : Int) ≤ s.sd) &&
 decide (s.sd ≤ 2) && (decide (s.en ≤ 5) && ((↑(s.bts.length) : Int) == r.q1 && ((↑(s.bwd.length) : Int) == r.q1 && ((↑(s.sbs.length) : Int) == r.q1 && (decide ((0 : Int) ≤ s.st) && decide (s.st ≤ r.q1) && (decide ((0 : Int) ≤ s.ot) && decide (s.ot ≤ r.q1) && (decide ((0 : Int) ≤ s.bw) && decide
 (s.bw ≤ r.q1) && (decide ((0 : Int) ≤ s.kp) && decide (s.kp ≤ r.q1) && !gtB s.bts))))))))) /\ True)) /\ ∀ (junk : Nat -> Value), .bool (decide ((1 : Int) ≤ s.sd) && decide (s.sd ≤ 2) && (decide (s.en ≤ 5) && ((↑(s.bts.length) : Int) == r.q1 && ((↑(s.bwd.length) : Int) == r.q1 && ((↑(s.sbs.length) :
 Int) == r.q1 && (decide ((0 : Int) ≤ s.st) && decide (s.st ≤ r.q1) && (decide ((0 : Int) ≤ s.ot) && decide (s.ot ≤ r.q1) && (decide ((0 : Int) ≤ s.bw) && decide (s.bw ≤ r.q1) && (decide ((0 : Int) ≤ s.kp) && decide (s.kp ≤ r.q1) && !gtB s.bts))))))))) = Value.bool (decide ((1 : Int) ≤ s.sd) &&
 decide (s.sd ≤ 2) && (decide (s.en ≤ 5) && ((↑(s.bts.length) : Int) == r.q1 && ((↑(s.bwd.length) : Int) == r.q1 && ((↑(s.sbs.length) : Int) == r.q1 && (decide ((0 : Int) ≤ s.st) && decide (s.st ≤ r.q1) && (decide ((0 : Int) ≤ s.ot) && decide (s.ot ≤ r.q1) && (decide ((0 : Int) ≤ s.bw) && decide
 (s.bw ≤ r.q1) && (decide ((0 : Int) ≤ s.kp) && decide (s.kp ≤ r.q1) && !gtB s.bts)))))))))) := by kernel_rfl
set_option maxHeartbeats 4000000 in
theorem ikn_sp (r : Rul) (B : RAd) (s : Inn) (A : Adr) (hA : OkI s A) : SpecG Tryz.prog [] (rdI s A) 34 #[ruV r B, inV s A] ([]) (fun _ => .bool (knB r s)) := by
  refine specG_of (h := ikn_h r B s A) (?_ : wpG Tryz.prog [] (rdI s A) 401 34 [ruV r B, inV s A] (ikn_h r B s A) ([]) (fun _ => .bool (knB r s)))
  rw [ikn_x]
  (repeat' (first | with_reducible exact rfl | exact trivial | with_reducible assumption | exact igt_sp _ _ _ hA.k1 hA.l1 | exact cU_len _ | exact cI_len _ | exact cB_len _ | exact cU_one _ | exact cI_one _ | exact cB_one _ | exact (fun _ h => h) | exact (fun _ h => (List.not_mem_nil h).elim) | (with_reducible refine e1_in ?_) | (with_reducible refine e2_in ?_) | (with_reducible refine lx_in (Nat.le_of_ble_eq_true rfl) ?_) | (with_reducible refine rqx_rf ?_) | (with_reducible refine rqx_in ?_ ?_ ?_) | (with_reducible apply And.intro) | (with_reducible intro _)))
  all_goals (first | (simp only [*, Bool.and_true, Bool.true_and, Bool.and_false, Bool.false_and, Bool.or_true, Bool.true_or, Bool.or_false, Bool.false_or, Bool.not_true, Bool.not_false, cond_true, cond_false]; done) | (unfold knB wiB; simp_all; done) | trace_state)
def iba_h (s : Inn) (A : Adr) : Hint := Hint.nc (Hint.cut [((3 : Nat), .bool (s.st == 0 && s.ot == 0))] (Hint.ob 5 (Hint.pl (Hint.split (Hint.lit (Hint.ob 5 (Hint.lit (Hint.pl (Hint.lit Hint.nil))))) (Hint.lit (Hint.lit (Hint.lit Hint.nil)))))) (Hint.cut [((31 : Nat), .bool (bif s.st == s.ot then !(s.st == 0 && s.ot == 0) || s.st == 0 &&
 s.ot == 0 && beg s else s.st == 0 && s.ot == 0 && beg s))] (ho 5 2 (Hint.pl (Hint.split (Hint.lit (Hint.lit (Hint.split (Hint.lit (Hint.lit (Hint.lit Hint.nil))) (Hint.lit (Hint.split (ho 5 28 (Hint.lit (Hint.specg [] [0, 1, 2, 3, 4] [cU s.bts, cI s.bws, cI s.bfs, cI s.bwd, cB s.sbs] [] (fun ads0 x
 ↦ Value.bool (beg s)) (Hint.lit (Hint.lit (Hint.lit Hint.nil)))))) (hl 3 (Hint.lit Hint.nil))))))) (hl 4 (Hint.split (ho 5 28 (Hint.lit (Hint.specg [] [0, 1, 2, 3, 4] [cU s.bts, cI s.bws, cI s.bfs, cI s.bwd, cB s.sbs] [] (fun ads0 x ↦ Value.bool (beg s)) (Hint.lit (Hint.lit (Hint.lit Hint.nil))))))
 (hl 3 (Hint.lit Hint.nil))))))) (Hint.split (Hint.perm [] Hint.nil) (Hint.ob 5 (Hint.pl (Hint.inv (bfL s) fun x0 ↦ Hint.split (Hint.ix (Hint.lst (0 : Nat) (x0 * (1 : Nat)) (Value.int .u8 (List.getD s.bts x0 (0 : Int))) (Hint.cut [((7 : Nat), .bool (IntKind.i64.wrap ((↑x0 : Int) + (1 : Int)) == s.st
 || IntKind.i64.wrap ((↑x0 : Int) + (1 : Int)) == s.ot))] (Hint.ob 5 (Hint.pl (Hint.split (hl 4 (Hint.lit Hint.nil)) (hl 3 (Hint.ob 5 (Hint.lit (Hint.pl (Hint.lit Hint.nil)))))))) (Hint.pl (Hint.pl (Hint.split (Hint.perm [] Hint.nil) (Hint.pl (Hint.cut [((4 : Nat), .int .i64 (bif List.getD s.bts x0
 (0 : Int) == (2 : Int) then IntKind.i64.wrap ((↑(c2 s.bts x0) : Int) + (1 : Int)) else (↑(c2 s.bts x0) : Int)))] (Hint.split Hint.nil Hint.nil) (Hint.perm [] Hint.nil))))))))) (Hint.ob 5 (Hint.pl (Hint.perm [] Hint.nil)))))))))
theorem iba_x (s : Inn) (A : Adr) : wpG Tryz.prog [] (rdI s A) 400 35 [inV s A] (iba_h s A) ([]) (fun _ => .bool (baB s)) = (∀ (b : Nat), (b = b /\ ((s.st == 0) = true -> b = b /\ Value.bool (s.ot == 0) = Value.bool (s.st == 0 && s.ot == 0) /\ True) /\ ((s.st == 0) = false -> Value.bool false = Value.bool (s.st == 0 && s.ot == 0) /\ True)) /\ ∀ (junk : Nat -> Value), (b = b /\ b = b /\ ((s.st == s.ot) = true -> ((!(s.st ==
 0 && s.ot == 0)) = true -> Value.bool true = Value.bool (bif s.st == s.ot then !(s.st == 0 && s.ot == 0) || s.st == 0 && s.ot == 0 && beg s else s.st == 0 && s.ot == 0 && beg s) /\ True) /\ ((!(s.st == 0 && s.ot == 0)) = false -> ((s.st == 0 && s.ot == 0) = true -> e1 b 28 (cU s.bts = cU s.bts /\ cI
 s.bws = cI s.bws /\ cI s.bfs = cI s.bfs /\ cI s.bwd = cI s.bwd /\ cB s.sbs = cB s.sbs /\ (SpecG Tryz.prog [] (rdI s A) (66 : FuncId) #[inV s A] [] fun x ↦ Value.bool (beg s)) /\ (∀ (e : Ex), e ∈ [] -> e ∈ []) /\ Value.bool (beg s) = Value.bool (bif s.st == s.ot then !(s.st == 0 && s.ot == 0) || s.st
 == 0 && s.ot == 0 && beg s else s.st == 0 && s.ot == 0 && beg s) /\ True)) /\ ((s.st == 0 && s.ot == 0) = false -> Value.bool false = Value.bool (bif s.st == s.ot then !(s.st == 0 && s.ot == 0) || s.st == 0 && s.ot == 0 && beg s else s.st == 0 && s.ot == 0 && beg s) /\ True))) /\ ((s.st == s.ot) =
 false -> ((s.st == 0 && s.ot == 0) = true -> e1 b 28 (cU s.bts = cU s.bts /\ cI s.bws = cI s.bws /\ cI s.bfs = cI s.bfs /\ cI s.bwd = cI s.bwd /\ cB s.sbs = cB s.sbs /\ (SpecG Tryz.prog [] (rdI s A) (66 : FuncId) #[inV s A] [] fun x ↦ Value.bool (beg s)) /\ (∀ (e : Ex), e ∈ [] -> e ∈ []) /\
 Value.bool (beg s) = Value.bool (bif s.st == s.ot then !(s.st == 0 && s.ot == 0) || s.st == 0 && s.ot == 0 && beg s else s.st == 0 && s.ot == 0 && beg s) /\ True)) /\ ((s.st == 0 && s.ot == 0) = false -> Value.bool false = Value.bool (bif s.st == s.ot then !(s.st == 0 && s.ot == 0) || s.st == 0 &&
 s.ot == 0 && beg s else s.st == 0 && s.ot == 0 && beg s) /\ True))) /\ ∀ (junk : Nat -> Value), ((bif s.st == s.ot then !(s.st == 0 && s.ot == 0) || s.st == 0 && s.ot == 0 && beg s else s.st == 0 && s.ot == 0 && beg s) = true -> Value.bool false = Value.bool (!(s.st == s.ot && !(s.st == 0 && s.ot ==
 0) || s.st == 0 && s.ot == 0 && beg s) && (plA2 s (s.bts.length) && s.wk == (↑(c2 s.bts (s.bts.length)) : Int)))) /\ ((bif s.st == s.ot then !(s.st == 0 && s.ot == 0) || s.st == 0 && s.ot == 0 && beg s else s.st == 0 && s.ot == 0 && beg s) = false -> b = b /\ (∃ x, baI s x /\ Value.int .i64 0 =
 Value.int .i64 (↑x : Int) /\ Value.int .i64 0 = Value.int .i64 (↑(c2 s.bts x) : Int) /\ True) /\ ∀ (x0 : Nat), baI s x0 -> ∀ (junk : Nat -> Value), (decide ((↑x0 : Int) < (↑(s.bts.length) : Int)) = true -> (((0 : Int) ≤ (↑x0 : Int) /\ (↑x0 : Int) < (↑(s.bts.length) : Int)) /\ AOK (Adr.a1 A)
 (s.bts.length)) /\ bk (Adr.a1 A) = bk (Adr.a1 A) /\ ofs (Adr.a1 A) + x0 * (1 : Nat) = ofs (Adr.a1 A) + x0 * (1 : Nat) /\ lgo (cU s.bts) (x0 * (1 : Nat)) = some (Value.int .u8 (List.getD s.bts x0 (0 : Int))) /\ (b = b /\ ((IntKind.i64.wrap ((↑x0 : Int) + (1 : Int)) == s.st) = true -> Value.bool true
 = Value.bool (IntKind.i64.wrap ((↑x0 : Int) + (1 : Int)) == s.st || IntKind.i64.wrap ((↑x0 : Int) + (1 : Int)) == s.ot) /\ True) /\ ((IntKind.i64.wrap ((↑x0 : Int) + (1 : Int)) == s.st) = false -> b = b /\ Value.bool (IntKind.i64.wrap ((↑x0 : Int) + (1 : Int)) == s.ot) = Value.bool (IntKind.i64.wrap
 ((↑x0 : Int) + (1 : Int)) == s.st || IntKind.i64.wrap ((↑x0 : Int) + (1 : Int)) == s.ot) /\ True)) /\ ∀ (junk : Nat -> Value), ((!(IntKind.i64.wrap ((↑x0 : Int) + (1 : Int)) == s.st || IntKind.i64.wrap ((↑x0 : Int) + (1 : Int)) == s.ot) == (List.getD s.bts x0 (0 : Int) == (1 : Int))) = true ->
 Value.bool false = Value.bool (!(s.st == s.ot && !(s.st == 0 && s.ot == 0) || s.st == 0 && s.ot == 0 && beg s) && (plA2 s (s.bts.length) && s.wk == (↑(c2 s.bts (s.bts.length)) : Int)))) /\ ((!(IntKind.i64.wrap ((↑x0 : Int) + (1 : Int)) == s.st || IntKind.i64.wrap ((↑x0 : Int) + (1 : Int)) == s.ot)
 == (List.getD s.bts x0 (0 : Int) == (1 : Int))) = false -> (((List.getD s.bts x0 (0 : Int) == (2 : Int)) = true -> Value.int .i64 (IntKind.i64.wrap ((↑(c2 s.bts x0) : Int) + (1 : Int))) = Value.int .i64 (bif List.getD s.bts x0 (0 : Int) == (2 : Int) then IntKind.i64.wrap ((↑(c2 s.bts x0) : Int) + (1
 : Int)) else (↑(c2 s.bts x0) : Int)) /\ True) /\ ((List.getD s.bts x0 (0 : Int) == (2 : Int)) = false -> Value.int .i64 (↑(c2 s.bts x0) : Int) = Value.int .i64 (bif List.getD s.bts x0 (0 : Int) == (2 : Int) then IntKind.i64.wrap ((↑(c2 s.bts x0) : Int) + (1 : Int)) else (↑(c2 s.bts x0) : Int)) /\
 True)) /\ ∀ (junk : Nat -> Value), ∃ y, baI s y /\ s.bts.length - y < s.bts.length - x0 /\ Value.int .i64 (IntKind.i64.wrap ((↑x0 : Int) + (1 : Int))) = Value.int .i64 (↑y : Int) /\ Value.int .i64 (bif List.getD s.bts x0 (0 : Int) == (2 : Int) then IntKind.i64.wrap ((↑(c2 s.bts x0) : Int) + (1 :
 Int)) else (↑(c2 s.bts x0) : Int)) = Value.int .i64 (↑(c2 s.bts y) : Int) /\ True)) /\ (decide ((↑x0 : Int) < (↑(s.bts.length) : Int)) = false -> b = b /\ Value.bool (s.wk == (↑(c2 s.bts x0) : Int)) = Value.bool (!(s.st == s.ot && !(s.st == 0 && s.ot == 0) || s.st == 0 && s.ot == 0 && beg s) &&
 (plA2 s (s.bts.length) && s.wk == (↑(c2 s.bts (s.bts.length)) : Int)))))) := by kernel_rfl
set_option maxHeartbeats 4000000 in
theorem iba_sp (s : Inn) (A : Adr) (hA : OkI s A) : SpecG Tryz.prog [] (rdI s A) 35 #[inV s A] ([]) (fun _ => .bool (baB s)) := by
  refine specG_of (h := iba_h s A) (?_ : wpG Tryz.prog [] (rdI s A) 400 35 [inV s A] (iba_h s A) ([]) (fun _ => .bool (baB s)))
  rw [iba_x]
  (repeat' (first | with_reducible exact rfl | exact trivial | with_reducible assumption | exact ibg_sp _ _ hA | exact cU_len _ | exact cI_len _ | exact cB_len _ | exact cU_one _ | exact cI_one _ | exact cB_one _ | exact (fun _ h => h) | exact (fun _ h => (List.not_mem_nil h).elim) | (with_reducible refine e1_in ?_) | (with_reducible refine e2_in ?_) | (with_reducible refine lx_in (Nat.le_of_ble_eq_true rfl) ?_) | (with_reducible refine rqx_rf ?_) | (with_reducible refine rqx_in ?_ ?_ ?_) | (with_reducible apply And.intro) | (with_reducible intro _)))
  all_goals (try simp only [Int.toNat_natCast] at *)
  all_goals first
    | exact ⟨0, ⟨Nat.zero_le _, rfl⟩, rfl, rfl, trivial⟩
    | exact Int.natCast_nonneg _
    | exact hA.k1
    | (simp only [*, Bool.and_true, Bool.true_and, Bool.and_false, Bool.false_and, Bool.or_true, Bool.true_or, Bool.or_false, Bool.false_or, Bool.not_true, Bool.not_false, cond_true, cond_false]; done)
    | (have h1 := ‹(bif (_ : Bool) then _ else _) = true›; rw [ba_bad h1]; done)
    | (have h1 := ‹(bif (_ : Bool) then _ else _) = true›; exact congrArg Value.bool (ba_bad h1).symm)
    | (have hf := of_decide_eq_true ‹decide (((_ : Nat) : Int) < (s.bts.length : Int)) = true›; have hl := hA.l1; first | omega | (refine cU_get ?_; omega) | (have hx := ‹baI _ _›; have ho := ‹(!(_ || _) == _) = false›; exact ⟨_, ba_step hx (by omega) hl ho, (by show _ - (_ + 1) < _; omega), (by rw [IntWalk.i64_in _ (by omega)]; rfl), c2_st hl (by omega), trivial⟩) | (have h1 := ‹(bif (_ : Bool) then _ else _) = false›; have ho := ‹(!(_ || _) == _) = true›; exact congrArg Value.bool (ba_no (ba_good h1) (by omega) hl ho).symm))
    | (exfalso; simp_all; done)
    | (have hf := of_decide_eq_false ‹decide (((_ : Nat) : Int) < (s.bts.length : Int)) = false›; have h1 := ‹(bif (_ : Bool) then _ else _) = false›; exact congrArg Value.bool (ba_end (ba_good h1) ‹baI _ _› hf).symm)
    | trace_state

def cfB (s : Inn) : Bool := cnB [s.tg, s.rn, s.cm, s.ba, s.ou, s.r1, s.r2] && (cnB [s.e1, s.e2, s.e3, s.e4, s.e5] && cnB s.bwd)
def vlB (r : Rul) (s : Inn) : Bool := (rck r == 0) && (knB r s && (baB s && ((difB s.bws r.q1 s.bws.length && difB s.bfs r.q1 s.bfs.length) && (ovB r s && cfB s))))

end Go.Proofs.YtnhlpgdadbjmoaaGreatDoor
