/- Layer 12 (crease): parts of both that only look: has the innings begun, is there a player, who is left. -/
import Derived.Test.YtnhlpgdadbjmoaaGreatDoorVz
import Derived.KernelRfl
import Derived.Test.YtnhlpgdadbjmoaaGreatDoorProg
import Derived.Test.YtnhlpgdadbjmoaaGreatDoorFda
import Derived.Test.YtnhlpgdadbjmoaaGreatDoorFdb
import Derived.Test.YtnhlpgdadbjmoaaGreatDoorFdc
import Derived.Test.YtnhlpgdadbjmoaaGreatDoorFdd
set_option linter.unusedSimpArgs false
set_option linter.unusedVariables false
set_option maxRecDepth 100000
namespace Go.Proofs.YtnhlpgdadbjmoaaGreatDoor
open Go.RowKit


def brl (s : Inn) (p : Int) : Bool := decide (1 ≤ p ∧ p ≤ s.bts.length)
def bst (s : Inn) (p : Int) : Int := s.bts.getD (p - 1).toNat 0
def begL (l : List Int) : Bool := l.any fun x => x != 0
def beg (s : Inn) : Bool := begL s.bts
def vac (s : Inn) : Bool := beg s && (s.st == 0 || s.ot == 0)
/-- The players who may come in, of the first k. -/
def lft (l : List Int) : Nat → List Int
  | 0 => []
  | k + 1 => lft l k ++ (if l.getD k 0 = 0 ∨ l.getD k 0 = 3 then [(k : Int) + 1] else [])
theorem lft_len (l : List Int) (k : Nat) : (lft l k).length ≤ k := by
  induction k with
  | zero => simp [lft]
  | succ k ih => simp only [lft, List.length_append]; split <;> simp <;> omega
theorem brl_in {s : Inn} {p : Int} (h : brl s p = true) : 1 ≤ p ∧ p ≤ s.bts.length := by simpa [brl] using h
theorem brl_or (s : Inn) (p : Int) : (brl s p = true ∧ 1 ≤ p ∧ p ≤ s.bts.length) ∨ (brl s p = false ∧ (p < 1 ∨ s.bts.length < p)) := by
  cases h : brl s p
  · right; refine ⟨rfl, ?_⟩; unfold brl at h; rw [decide_eq_false_iff_not] at h; omega
  · left; exact ⟨rfl, brl_in h⟩
/-- No one of the first i has come in. -/
def bgI (l : List Int) (i : Nat) : Prop := i ≤ l.length ∧ ∀ x ∈ l.take i, x = 0
theorem bgI_0 (l : List Int) : bgI l 0 := ⟨Nat.zero_le _, fun x hx => by simp at hx⟩
theorem bgI_step {l : List Int} {i : Nat} (h : bgI l i) (hi : i < l.length) (hn : l.getD i 0 = 0) : bgI l (i + 1) := by
  refine ⟨hi, fun x hm => ?_⟩
  rw [List.take_add_one, List.getElem?_eq_getElem hi, List.mem_append] at hm
  rcases hm with hm | hm
  · exact h.2 x hm
  · rw [List.getD_eq_getElem?_getD, List.getElem?_eq_getElem hi] at hn
    simp at hm hn
    rw [hm]; exact hn
theorem bg_hit {l : List Int} {i : Nat} (hi : i < l.length) (he : ¬ l.getD i 0 = 0) : begL l = true := by
  unfold begL
  rw [List.any_eq_true]
  refine ⟨l[i], List.getElem_mem _, ?_⟩
  rw [List.getD_eq_getElem?_getD, List.getElem?_eq_getElem hi] at he
  simpa using he
theorem bg_no {l : List Int} {i : Nat} (h : bgI l i) (hi : ¬ (i : Int) < l.length) : begL l = false := by
  have e : i = l.length := by have := h.1; omega
  have := h.2
  rw [e, List.take_length] at this
  unfold begL
  rw [List.any_eq_false]
  intro x hx
  simp [this x hx]


@[reducible] def bgR (s : Inn) : LoopR := ⟨Nat, fun i => [(8, .int .i64 i)], [], fun _ => [], bgI s.bts, fun i => s.bts.length - i, []⟩
def lfI (s : Inn) (x : PX) : Prop := x.i ≤ s.bts.length ∧ x.l = lft s.bts x.i
@[reducible] def lfR (s : Inn) : LoopR := ⟨PX, fun x => [(9, .int .i64 x.i), (3, .slice x.a x.l.length x.cap)], [6], fun x => [⟨0, cI x.l, 3, some ⟨x.a, x.l.length, x.cap, 1⟩⟩], lfI s, fun x => s.bts.length - x.i, [(3, 1)]⟩

def cex_h (s : Inn) (A : Adr) (p : Int) : Hint := Hint.nc (Hint.cut [((4 : Nat), .bool (decide (p ≥ 1) && decide (p ≤ (↑(s.bts.length) : Int))))] (Hint.split (Hint.lit (Hint.lit (Hint.ob 0 (Hint.lit (Hint.pl (Hint.lit (Hint.lit Hint.nil))))))) (hl 4 (Hint.lit Hint.nil))) (Hint.perm [] Hint.nil))
theorem cex_x (s : Inn) (A : Adr) (p : Int) : wpG Tryz.prog [] ([]) 400 177 [inV s A, .int .i64 p] (cex_h s A p) ([]) (fun _ => .bool (brl s p)) = (∀ (b : Nat), ((decide (p ≥ 1) = true -> b = b /\ Value.bool (decide (p ≤ (↑(s.bts.length) : Int))) = Value.bool (decide (p ≥ 1) && decide (p ≤ (↑(s.bts.length) : Int))) /\ True) /\ (decide (p ≥ 1) = false -> Value.bool false = Value.bool (decide (p ≥ 1) && decide (p ≤ (↑(s.bts.length) : Int))) /\
 True)) /\ ∀ (junk : Nat -> Value), .bool (decide (p ≥ 1) && decide (p ≤ (↑(s.bts.length) : Int))) = Value.bool (brl s p)) := by kernel_rfl
set_option maxHeartbeats 4000000 in
theorem cex_sp (s : Inn) (A : Adr) (p : Int)  : SpecG Tryz.prog [] ([]) 177 #[inV s A, .int .i64 p] ([]) (fun _ => .bool (brl s p)) := by
  refine specG_of (h := cex_h s A p) (?_ : wpG Tryz.prog [] ([]) 400 177 [inV s A, .int .i64 p] (cex_h s A p) ([]) (fun _ => .bool (brl s p)))
  rw [cex_x]
  (repeat' (first | with_reducible exact rfl | exact trivial | with_reducible assumption | exact cU_len _ | exact cI_len _ | exact cB_len _ | exact cU_one _ | exact cI_one _ | exact cB_one _ | exact (fun _ h => h) | exact (fun _ h => (List.not_mem_nil h).elim) | (with_reducible refine e1_in ?_) | (with_reducible refine e2_in ?_) | (with_reducible refine lx_in (Nat.le_of_ble_eq_true rfl) ?_) | (with_reducible refine rqx_rf ?_) | (with_reducible refine rqx_in ?_ ?_ ?_) | (with_reducible apply And.intro) | (with_reducible intro _)))
  all_goals (first | (simp only [*, Bool.and_true, Bool.true_and, Bool.and_false, Bool.false_and, Bool.or_true, Bool.true_or, Bool.or_false, Bool.false_or, Bool.not_true, Bool.not_false, cond_true, cond_false]; done) | (refine boolI ?_; (try unfold brl); simp_all))
def bg_h (s : Inn) (A : Adr) : Hint := Hint.ob 5 (Hint.inl (Hint.inl (Hint.pl (Hint.inv (bgR s) fun x0 ↦ Hint.split (Hint.ix (Hint.lst (0 : Nat) (x0 * (1 : Nat)) (Value.int .u8 (List.getD s.bts x0 (0 : Int))) (Hint.inl (Hint.pl (Hint.split (Hint.perm [] Hint.nil) (Hint.perm [] Hint.nil)))))) (Hint.perm [] Hint.nil)))))
theorem bg_x (s : Inn) (A : Adr) : wpG Tryz.prog [] (rdI s A) 400 71 [inV s A] (bg_h s A) ([]) (fun _ => .bool (beg s)) = (∀ (b : Nat), b = b /\ (∃ x, bgI s.bts x /\ Value.int .i64 0 = Value.int .i64 (↑x : Int) /\ True) /\ ∀ (x0 : Nat), bgI s.bts x0 -> ∀ (junk : Nat -> Value), (decide ((↑x0 : Int) < (↑(s.bts.length) : Int)) = true -> (((0 : Int) ≤ (↑x0 : Int) /\ (↑x0 : Int) < (↑(s.bts.length) : Int)) /\ AOK (Adr.a1 A)
 (s.bts.length)) /\ bk (Adr.a1 A) = bk (Adr.a1 A) /\ ofs (Adr.a1 A) + x0 * (1 : Nat) = ofs (Adr.a1 A) + x0 * (1 : Nat) /\ lgo (cU s.bts) (x0 * (1 : Nat)) = some (Value.int .u8 (List.getD s.bts x0 (0 : Int))) /\ ((List.getD s.bts x0 (0 : Int) != (0 : Int)) = true -> Value.bool (decide ((↑x0 : Int) ≥
 (0 : Int))) = Value.bool (beg s)) /\ ((List.getD s.bts x0 (0 : Int) != (0 : Int)) = false -> ∃ y, bgI s.bts y /\ s.bts.length - y < s.bts.length - x0 /\ Value.int .i64 (IntKind.i64.wrap ((↑x0 : Int) + (1 : Int))) = Value.int .i64 (↑y : Int) /\ True)) /\ (decide ((↑x0 : Int) < (↑(s.bts.length) :
 Int)) = false -> Value.bool false = Value.bool (beg s))) := by kernel_rfl
set_option maxHeartbeats 4000000 in
theorem bg_sp (s : Inn) (A : Adr) (hA : OkI s A) : SpecG Tryz.prog [] (rdI s A) 71 #[inV s A] ([]) (fun _ => .bool (beg s)) := by
  refine specG_of (h := bg_h s A) (?_ : wpG Tryz.prog [] (rdI s A) 400 71 [inV s A] (bg_h s A) ([]) (fun _ => .bool (beg s)))
  rw [bg_x]
  (repeat' (first | with_reducible exact rfl | exact trivial | with_reducible assumption | exact cU_len _ | exact cI_len _ | exact cB_len _ | exact cU_one _ | exact cI_one _ | exact cB_one _ | exact (fun _ h => h) | exact (fun _ h => (List.not_mem_nil h).elim) | (with_reducible refine e1_in ?_) | (with_reducible refine e2_in ?_) | (with_reducible refine lx_in (Nat.le_of_ble_eq_true rfl) ?_) | (with_reducible refine rqx_rf ?_) | (with_reducible refine rqx_in ?_ ?_ ?_) | (with_reducible apply And.intro) | (with_reducible intro _)))
  all_goals (try simp only [Int.toNat_natCast, decide_eq_true_eq, decide_eq_false_iff_not, beq_iff_eq, beq_eq_false_iff_ne, bne_iff_ne, bne_eq_false_iff_eq, ne_eq, Decidable.not_not] at *)
  all_goals first
    | exact ⟨0, bgI_0 _, rfl, trivial⟩
    | omega
    | (refine cU_get ?_; omega)
    | exact hA.k1
    | (have hx := ‹bgI _ _›; have hn := ‹List.getD s.bts _ 0 = 0›; have := hA.l1; exact ⟨_, bgI_step hx (by omega) hn, (by show _ - (_ + 1) < _; omega), (by rw [IntWalk.i64_in _ (by omega)]; rfl), trivial⟩)
    | (have he := ‹¬ List.getD s.bts _ 0 = 0›; have h1 := bg_hit (by omega) he; unfold beg; rw [h1]; exact congrArg Value.bool (decide_eq_true (by omega)))
    | (have he := ‹¬ List.getD s.bts _ 0 = 0›; have h1 := bg_hit (by omega) he; unfold beg; rw [h1])
    | (unfold beg; rw [bg_no ‹bgI _ _› (by assumption)]; done)
    | (unfold beg; rw [bg_no ‹bgI _ _› (by assumption)]; rfl)
    | trace_state
def cva_h (s : Inn) (A : Adr) : Hint := Hint.nc (Hint.cut [((2 : Nat), .bool (beg s && (s.st == 0 || s.ot == 0)))] (ho 5 28 (Hint.specg [] [0, 1, 2, 3, 4] [cU s.bts, cI s.bws, cI s.bfs, cI s.bwd, cB s.sbs] [] (fun ads0 x ↦ Value.bool (beg s)) (Hint.split (ho 5 28 (Hint.lit (Hint.inl (Hint.nc (Hint.cut [((2 : Nat), .bool (s.st == 0 || s.ot
 == 0))] (Hint.ob 6 (Hint.pl (Hint.split (Hint.lit (Hint.lit (Hint.lit Hint.nil))) (Hint.lit (Hint.ob 6 (Hint.lit (Hint.pl (Hint.lit Hint.nil)))))))) (Hint.lit Hint.nil)))))) (Hint.lit (Hint.lit Hint.nil))))) (Hint.perm [] Hint.nil))
theorem cva_x (s : Inn) (A : Adr) : wpG Tryz.prog [] (rdI s A) 400 43 [inV s A] (cva_h s A) ([]) (fun _ => .bool (vac s)) = (∀ (b : Nat), (e1 b 28 (cU s.bts = cU s.bts /\ cI s.bws = cI s.bws /\ cI s.bfs = cI s.bfs /\ cI s.bwd = cI s.bwd /\ cB s.sbs = cB s.sbs /\ (SpecG Tryz.prog [] (rdI s A) (71 : FuncId) #[inV s A] [] fun x ↦ Value.bool (beg s)) /\ (∀ (e : Ex), e ∈ [] -> e ∈ []) /\ (beg s = true -> e1 b 28 (∀ (b : Nat), (b
 = b /\ ((s.st == 0) = true -> Value.bool true = Value.bool (s.st == 0 || s.ot == 0) /\ True) /\ ((s.st == 0) = false -> b = b /\ Value.bool (s.ot == 0) = Value.bool (s.st == 0 || s.ot == 0) /\ True)) /\ ∀ (junk : Nat -> Value), .bool (s.st == 0 || s.ot == 0) = Value.bool (beg s && (s.st == 0 || s.ot
 == 0)) /\ True)) /\ (beg s = false -> Value.bool false = Value.bool (beg s && (s.st == 0 || s.ot == 0)) /\ True))) /\ ∀ (junk : Nat -> Value), .bool (beg s && (s.st == 0 || s.ot == 0)) = Value.bool (vac s)) := by kernel_rfl
set_option maxHeartbeats 4000000 in
theorem cva_sp (s : Inn) (A : Adr) (hA : OkI s A) : SpecG Tryz.prog [] (rdI s A) 43 #[inV s A] ([]) (fun _ => .bool (vac s)) := by
  refine specG_of (h := cva_h s A) (?_ : wpG Tryz.prog [] (rdI s A) 400 43 [inV s A] (cva_h s A) ([]) (fun _ => .bool (vac s)))
  rw [cva_x]
  (repeat' (first | with_reducible exact rfl | exact trivial | with_reducible assumption | exact bg_sp _ _ hA | exact cU_len _ | exact cI_len _ | exact cB_len _ | exact cU_one _ | exact cI_one _ | exact cB_one _ | exact (fun _ h => h) | exact (fun _ h => (List.not_mem_nil h).elim) | (with_reducible refine e1_in ?_) | (with_reducible refine e2_in ?_) | (with_reducible refine lx_in (Nat.le_of_ble_eq_true rfl) ?_) | (with_reducible refine rqx_rf ?_) | (with_reducible refine rqx_in ?_ ?_ ?_) | (with_reducible apply And.intro) | (with_reducible intro _)))
  all_goals (first | (simp only [*, Bool.and_true, Bool.true_and, Bool.and_false, Bool.false_and, Bool.or_true, Bool.true_or, Bool.or_false, Bool.false_or, Bool.not_true, Bool.not_false, cond_true, cond_false]; done) | (unfold vac; simp_all; done) | trace_state)
def clf_h (s : Inn) (A : Adr) : Hint := Hint.ob 5 (Hint.pl (Hint.inv (lfR s) fun x0 ↦ Hint.split (Hint.ix (Hint.lst (0 : Nat) (Int.toNat (↑(PX.i x0) : Int) * (1 : Nat)) (Value.int .u8 (List.getD s.bts (Int.toNat (↑(PX.i x0) : Int)) (0 : Int))) (Hint.cut [((19 : Nat), .bool (List.getD s.bts (Int.toNat (↑(PX.i x0) : Int)) (0 : Int) == (0 :
 Int) || List.getD s.bts (Int.toNat (↑(PX.i x0) : Int)) (0 : Int) == (3 : Int)))] (Hint.pl (Hint.split (Hint.lit (Hint.lit Hint.nil)) (Hint.lit (Hint.pl (Hint.lit Hint.nil))))) (Hint.split (Hint.app (6 : Nat) (7 : Nat) (Hint.perm [6] Hint.nil)) (Hint.perm [6] Hint.nil))))) (Hint.perm [6] Hint.nil)))
theorem clf_x (s : Inn) (A : Adr) : wpG Tryz.prog [] (rdI s A) 400 44 [inV s A] (clf_h s A) ([⟨3, 1, (lft s.bts s.bts.length).length, cI (lft s.bts s.bts.length)⟩]) (fun ads => .slice (nthA ads 0).1 (lft s.bts s.bts.length).length (nthA ads 0).2) = (∀ (b : Nat), b = b ∧ (∃ x, lfI s x ∧ Value.int IntKind.i64 (0 : Int) = Value.int IntKind.i64 (↑(PX.i x) : Int) ∧ Value.slice none (0 : Nat) (0 : Nat) = Value.slice (PX.a x) (List.length (PX.l x)) (PX.cap x) ∧ ((0 : Nat) = (0 : Nat) ∧ [] = cI (PX.l x) ∧ (3 : Nat) = (3 : Nat) ∧ some (Ow.mk none (0 :
    Nat) (0 : Nat) (1 : Nat)) = some (Ow.mk (PX.a x) (List.length (PX.l x)) (PX.cap x) (1 : Nat))) ∧ True) ∧ ∀ (x0 : PX), lfI s x0 → ∀ (junk : Nat → Value), (decide ((↑(PX.i x0) : Int) < (↑(List.length (Inn.bts s)) : Int)) = true → (((0 : Int) ≤ (↑(PX.i x0) : Int) ∧ (↑(PX.i x0) : Int) <
    (↑(List.length (Inn.bts s)) : Int)) ∧ AOK (Adr.a1 A) (List.length (Inn.bts s))) ∧ bk (Adr.a1 A) = bk (Adr.a1 A) ∧ ofs (Adr.a1 A) + Int.toNat (↑(PX.i x0) : Int) * (1 : Nat) = ofs (Adr.a1 A) + Int.toNat (↑(PX.i x0) : Int) * (1 : Nat) ∧ lgo (cU (Inn.bts s)) (Int.toNat (↑(PX.i x0) : Int) * (1 : Nat))
    = some (Value.int IntKind.u8 (List.getD (Inn.bts s) (Int.toNat (↑(PX.i x0) : Int)) (0 : Int))) ∧ (((List.getD (Inn.bts s) (Int.toNat (↑(PX.i x0) : Int)) (0 : Int) == (0 : Int)) = true → Value.bool true = Value.bool (List.getD (Inn.bts s) (Int.toNat (↑(PX.i x0) : Int)) (0 : Int) == (0 : Int) ||
    List.getD (Inn.bts s) (Int.toNat (↑(PX.i x0) : Int)) (0 : Int) == (3 : Int)) ∧ True) ∧ ((List.getD (Inn.bts s) (Int.toNat (↑(PX.i x0) : Int)) (0 : Int) == (0 : Int)) = false → Value.bool (List.getD (Inn.bts s) (Int.toNat (↑(PX.i x0) : Int)) (0 : Int) == (3 : Int)) = Value.bool (List.getD (Inn.bts
    s) (Int.toNat (↑(PX.i x0) : Int)) (0 : Int) == (0 : Int) || List.getD (Inn.bts s) (Int.toNat (↑(PX.i x0) : Int)) (0 : Int) == (3 : Int)) ∧ True)) ∧ ∀ (junk : Nat → Value), ((List.getD (Inn.bts s) (Int.toNat (↑(PX.i x0) : Int)) (0 : Int) == (0 : Int) || List.getD (Inn.bts s) (Int.toNat (↑(PX.i x0)
    : Int)) (0 : Int) == (3 : Int)) = true → ∀ (b : Nat), PX.a x0 = PX.a x0 ∧ List.length (PX.l x0) = List.length (PX.l x0) ∧ PX.cap x0 = PX.cap x0 ∧ b = b ∧ (List.length (PX.l x0) + (1 : Nat)) * (9 : Nat) ≤ (140737488355328 : Nat) ∧ ∀ (g cap : Nat), ∃ y, lfI s y ∧ List.length (Inn.bts s) - PX.i y <
    List.length (Inn.bts s) - PX.i x0 ∧ Value.int IntKind.i64 (IntKind.wrap IntKind.i64 ((↑(PX.i x0) : Int) + (1 : Int))) = Value.int IntKind.i64 (↑(PX.i y) : Int) ∧ Value.slice (some (Addr.mk g (0 : Nat) none)) (List.length (PX.l x0) + (1 : Nat)) cap = Value.slice (PX.a y) (List.length (PX.l y))
    (PX.cap y) ∧ ((0 : Nat) = (0 : Nat) ∧ lapp (cI (PX.l x0)) [Value.int IntKind.i64 (IntKind.wrap IntKind.i64 ((↑(PX.i x0) : Int) + (1 : Int)))] = cI (PX.l y) ∧ (3 : Nat) = (3 : Nat) ∧ some (Ow.mk (some (Addr.mk g (0 : Nat) none)) (List.length (PX.l x0) + (1 : Nat)) cap (1 : Nat)) = some (Ow.mk
    (PX.a y) (List.length (PX.l y)) (PX.cap y) (1 : Nat))) ∧ True) ∧ ((List.getD (Inn.bts s) (Int.toNat (↑(PX.i x0) : Int)) (0 : Int) == (0 : Int) || List.getD (Inn.bts s) (Int.toNat (↑(PX.i x0) : Int)) (0 : Int) == (3 : Int)) = false → ∃ y, lfI s y ∧ List.length (Inn.bts s) - PX.i y < List.length
    (Inn.bts s) - PX.i x0 ∧ Value.int IntKind.i64 (IntKind.wrap IntKind.i64 ((↑(PX.i x0) : Int) + (1 : Int))) = Value.int IntKind.i64 (↑(PX.i y) : Int) ∧ Value.slice (PX.a x0) (List.length (PX.l x0)) (PX.cap x0) = Value.slice (PX.a y) (List.length (PX.l y)) (PX.cap y) ∧ ((0 : Nat) = (0 : Nat) ∧ cI
    (PX.l x0) = cI (PX.l y) ∧ (3 : Nat) = (3 : Nat) ∧ some (Ow.mk (PX.a x0) (List.length (PX.l x0)) (PX.cap x0) (1 : Nat)) = some (Ow.mk (PX.a y) (List.length (PX.l y)) (PX.cap y) (1 : Nat))) ∧ True)) ∧ (decide ((↑(PX.i x0) : Int) < (↑(List.length (Inn.bts s)) : Int)) = false → (3 : Nat) = (3 : Nat)
    ∧ (1 : Nat) = (1 : Nat) ∧ List.length (PX.l x0) = List.length (lft (Inn.bts s) (List.length (Inn.bts s))) ∧ cI (PX.l x0) = cI (lft (Inn.bts s) (List.length (Inn.bts s))) ∧ Value.slice (PX.a x0) (List.length (PX.l x0)) (PX.cap x0) = Value.slice (PX.a x0) (List.length (lft (Inn.bts s) (List.length
    (Inn.bts s)))) (PX.cap x0))) := by kernel_rfl
set_option maxHeartbeats 4000000 in
theorem clf_sp (s : Inn) (A : Adr) (hA : OkI s A) : SpecG Tryz.prog [] (rdI s A) 44 #[inV s A] ([⟨3, 1, (lft s.bts s.bts.length).length, cI (lft s.bts s.bts.length)⟩]) (fun ads => .slice (nthA ads 0).1 (lft s.bts s.bts.length).length (nthA ads 0).2) := by
  refine specG_of (h := clf_h s A) (?_ : wpG Tryz.prog [] (rdI s A) 400 44 [inV s A] (clf_h s A) ([⟨3, 1, (lft s.bts s.bts.length).length, cI (lft s.bts s.bts.length)⟩]) (fun ads => .slice (nthA ads 0).1 (lft s.bts s.bts.length).length (nthA ads 0).2))
  rw [clf_x]
  intro b
  refine ⟨rfl, ⟨⟨0, none, 0, []⟩, ⟨Nat.zero_le _, rfl⟩, rfl, rfl, ⟨rfl, rfl, rfl, rfl⟩, trivial⟩, fun x0 hx junk => ⟨fun hlt => ?_, fun hlt => ?_⟩⟩
  · obtain ⟨hx1, hx2⟩ := hx
    have h5 := hA.l1
    have hi : x0.i < s.bts.length := by simpa using hlt
    have hle := lft_len s.bts x0.i
    rw [← hx2] at hle
    have hw : IntKind.i64.wrap ((x0.i : Int) + 1) = ((x0.i + 1 : Nat) : Int) := by rw [IntWalk.i64_in _ (by omega)]; rfl
    refine ⟨⟨⟨by omega, by omega⟩, hA.k1⟩, rfl, rfl, (by simpa using cU_get hi), ?_⟩
    refine ⟨⟨fun h => by rw [h]; exact ⟨rfl, trivial⟩, fun h => by rw [h]; exact ⟨rfl, trivial⟩⟩, fun junk2 => ⟨fun hf b => ⟨rfl, rfl, rfl, rfl, by omega, fun g cap => ?_⟩, fun hf => ?_⟩⟩
    · refine ⟨⟨x0.i + 1, some ⟨g, 0, none⟩, cap, x0.l ++ [(x0.i : Int) + 1]⟩, ⟨hi, ?_⟩, (by show _ - (x0.i + 1) < _; omega), by rw [hw], by simp, ⟨rfl, ?_, rfl, by simp⟩, trivial⟩
      · show x0.l ++ _ = lft s.bts (x0.i + 1)
        have : s.bts.getD x0.i 0 = 0 ∨ s.bts.getD x0.i 0 = 3 := by simpa using hf
        simp only [lft, hx2, if_pos this]
      · rw [hw, cI_app]; rfl
    · refine ⟨⟨x0.i + 1, x0.a, x0.cap, x0.l⟩, ⟨hi, ?_⟩, (by show _ - (x0.i + 1) < _; omega), by rw [hw], rfl, ⟨rfl, rfl, rfl, rfl⟩, trivial⟩
      have : ¬ (s.bts.getD x0.i 0 = 0 ∨ s.bts.getD x0.i 0 = 3) := by simpa using hf
      simp only [lft, hx2, if_neg this, List.append_nil]
  · obtain ⟨hx1, hx2⟩ := hx
    have hi : x0.i = s.bts.length := by simp at hlt; omega
    rw [hx2, hi]
    exact ⟨rfl, rfl, rfl, rfl, rfl⟩
end Go.Proofs.YtnhlpgdadbjmoaaGreatDoor
