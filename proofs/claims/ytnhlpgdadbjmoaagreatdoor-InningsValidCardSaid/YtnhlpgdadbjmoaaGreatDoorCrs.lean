/- Layer 12 (crease): parts of the reference's that only look. -/
import Derived.Test.YtnhlpgdadbjmoaaGreatDoorVz
import Derived.KernelRfl
import Derived.Test.YtnhlpgdadbjmoaaGreatDoorProg
import Derived.Test.YtnhlpgdadbjmoaaGreatDoorFda
import Derived.Test.YtnhlpgdadbjmoaaGreatDoorFdb
import Derived.Test.YtnhlpgdadbjmoaaGreatDoorFdc
import Derived.Test.YtnhlpgdadbjmoaaGreatDoorFdd
import Derived.Test.YtnhlpgdadbjmoaaGreatDoorCra
set_option linter.unusedSimpArgs false
set_option linter.unusedVariables false
set_option maxRecDepth 100000
namespace Go.Proofs.YtnhlpgdadbjmoaaGreatDoor
open Go.RowKit


@[reducible] def rbgR (s : Inn) : LoopR := ⟨Nat, fun i => [(8, .int .i64 i)], [], fun _ => [], bgI s.bts, fun i => s.bts.length - i, []⟩
@[reducible] def rlfR (s : Inn) : LoopR := ⟨PX, fun x => [(9, .int .i64 x.i), (3, .slice x.a x.l.length x.cap)], [6], fun x => [⟨0, cI x.l, 3, some ⟨x.a, x.l.length, x.cap, 1⟩⟩], lfI s, fun x => s.bts.length - x.i, [(3, 1)]⟩

def rpl2_h (s : Inn) (A : Adr) (p : Int) : Hint := .nc (.cut [((4 : Nat), .bool (decide (p ≥ 1) && decide (p ≤ (↑(s.bts.length) : Int))))] (.split (.lit (.lit (.ob 0 (.lit (.pl (.lit (.lit .nil))))))) (hl 4 (.lit .nil))) (.perm [] .nil))
theorem rpl2_x (s : Inn) (A : Adr) (p : Int) : wpG Tryz.prog [] ([]) 400 158 [inV s A, .int .i64 p] (rpl2_h s A p) ([]) (fun _ => .bool (brl s p)) = (∀ (b : Nat), ((decide (p ≥ 1) = true -> b = b /\ Value.bool (decide (p ≤ (↑(s.bts.length) : Int))) = Value.bool (decide (p ≥ 1) && decide (p ≤ (↑(s.bts.length) : Int))) /\ True) /\ (decide (p ≥ 1) = false -> Value.bool false = Value.bool (decide (p ≥ 1) && decide (p ≤ (↑(s.bts.length) : Int))) /\
 True)) /\ ∀ (junk : Nat -> Value), .bool (decide (p ≥ 1) && decide (p ≤ (↑(s.bts.length) : Int))) = Value.bool (brl s p)) := by kernel_rfl
set_option maxHeartbeats 4000000 in
theorem rpl2_sp (s : Inn) (A : Adr) (p : Int)  : SpecG Tryz.prog [] ([]) 158 #[inV s A, .int .i64 p] ([]) (fun _ => .bool (brl s p)) := by
  refine specG_of (h := rpl2_h s A p) (?_ : wpG Tryz.prog [] ([]) 400 158 [inV s A, .int .i64 p] (rpl2_h s A p) ([]) (fun _ => .bool (brl s p)))
  rw [rpl2_x]
  (repeat' (first | with_reducible exact rfl | exact trivial | with_reducible assumption | exact cU_len _ | exact cI_len _ | exact cB_len _ | exact cU_one _ | exact cI_one _ | exact cB_one _ | exact (fun _ h => h) | exact (fun _ h => (List.not_mem_nil h).elim) | (with_reducible refine e1_in ?_) | (with_reducible refine e2_in ?_) | (with_reducible refine lx_in (Nat.le_of_ble_eq_true rfl) ?_) | (with_reducible refine rqx_rf ?_) | (with_reducible refine rqx_in ?_ ?_ ?_) | (with_reducible apply And.intro) | (with_reducible intro _)))
  all_goals (first | (simp only [*, Bool.and_true, Bool.true_and, Bool.and_false, Bool.false_and, Bool.or_true, Bool.true_or, Bool.or_false, Bool.false_or, Bool.not_true, Bool.not_false, cond_true, cond_false]; done) | (refine boolI ?_; (try unfold brl); simp_all))
def rbg_h (s : Inn) (A : Adr) : Hint := .ob 5 (.pl (.inv (rbgR s) fun x0 ↦ .split (.ix (.lst (0 : Nat) (x0 * (1 : Nat)) (Value.int .u8 (List.getD s.bts x0 (0 : Int))) (.pl (.split (.perm [] .nil) (.perm [] .nil))))) (.perm [] .nil)))
theorem rbg_x (s : Inn) (A : Adr) : wpG Tryz.prog [] (rdI s A) 400 57 [inV s A] (rbg_h s A) ([]) (fun _ => .bool (beg s)) = (∀ (b : Nat), b = b /\ (∃ x, bgI s.bts x /\ Value.int .i64 0 = Value.int .i64 (↑x : Int) /\ True) /\ ∀ (x0 : Nat), bgI s.bts x0 -> ∀ (junk : Nat -> Value), (decide ((↑x0 : Int) < (↑(s.bts.length) : Int)) = true -> (((0 : Int) ≤ (↑x0 : Int) /\ (↑x0 : Int) < (↑(s.bts.length) : Int)) /\ AOK (Adr.a1 A)
 (s.bts.length)) /\ bk (Adr.a1 A) = bk (Adr.a1 A) /\ ofs (Adr.a1 A) + x0 * (1 : Nat) = ofs (Adr.a1 A) + x0 * (1 : Nat) /\ lgo (cU s.bts) (x0 * (1 : Nat)) = some (Value.int .u8 (List.getD s.bts x0 (0 : Int))) /\ ((List.getD s.bts x0 (0 : Int) != (0 : Int)) = true -> Value.bool true = Value.bool (beg
 s)) /\ ((List.getD s.bts x0 (0 : Int) != (0 : Int)) = false -> ∃ y, bgI s.bts y /\ s.bts.length - y < s.bts.length - x0 /\ Value.int .i64 (IntKind.i64.wrap ((↑x0 : Int) + (1 : Int))) = Value.int .i64 (↑y : Int) /\ True)) /\ (decide ((↑x0 : Int) < (↑(s.bts.length) : Int)) = false -> Value.bool false
 = Value.bool (beg s))) := by kernel_rfl
set_option maxHeartbeats 4000000 in
theorem rbg_sp (s : Inn) (A : Adr) (hA : OkI s A) : SpecG Tryz.prog [] (rdI s A) 57 #[inV s A] ([]) (fun _ => .bool (beg s)) := by
  refine specG_of (h := rbg_h s A) (?_ : wpG Tryz.prog [] (rdI s A) 400 57 [inV s A] (rbg_h s A) ([]) (fun _ => .bool (beg s)))
  rw [rbg_x]
  (repeat' (first | with_reducible exact rfl | exact trivial | with_reducible assumption | exact cU_len _ | exact cI_len _ | exact cB_len _ | exact cU_one _ | exact cI_one _ | exact cB_one _ | exact (fun _ h => h) | exact (fun _ h => (List.not_mem_nil h).elim) | (with_reducible refine e1_in ?_) | (with_reducible refine e2_in ?_) | (with_reducible refine lx_in (Nat.le_of_ble_eq_true rfl) ?_) | (with_reducible refine rqx_rf ?_) | (with_reducible refine rqx_in ?_ ?_ ?_) | (with_reducible apply And.intro) | (with_reducible intro _)))
  all_goals (try simp only [Int.toNat_natCast, decide_eq_true_eq, decide_eq_false_iff_not, beq_iff_eq, beq_eq_false_iff_ne, bne_iff_ne, bne_eq_false_iff_eq, ne_eq, Decidable.not_not] at *)
  all_goals first
    | exact ⟨0, bgI_0 _, rfl, trivial⟩
    | omega
    | (refine cU_get ?_; omega)
    | exact hA.k1
    | (have hx := ‹bgI _ _›; have hn := ‹List.getD s.bts _ 0 = 0›; have := hA.l1; exact ⟨_, bgI_step hx (by omega) hn, (by show _ - (_ + 1) < _; omega), (by rw [IntWalk.i64_in _ (by omega)]; rfl), trivial⟩)
    | (have he := ‹¬ List.getD s.bts _ 0 = 0›; have h1 := bg_hit (by omega) he; unfold beg; rw [h1]; exact congrArg Value.bool (decide_eq_true (by omega)))
    | (have he := ‹¬ List.getD s.bts _ 0 = 0›; have h1 := bg_hit (by omega) he; unfold beg; rw [h1])
    | (unfold beg; rw [bg_no ‹bgI _ _› (by assumption)]; done)
    | (unfold beg; rw [bg_no ‹bgI _ _› (by assumption)]; rfl)
    | trace_state
def rva_h (s : Inn) (A : Adr) : Hint := .nc (.cut [((2 : Nat), .bool (beg s && (s.st == 0 || s.ot == 0)))] (ho 5 28 (.specg [] [0, 1, 2, 3, 4] [cU s.bts, cI s.bws, cI s.bfs, cI s.bwd, cB s.sbs] [] (fun ads0 x ↦ Value.bool (beg s)) (.split (.lit (.ob 5 (.lit (.pl (.lit (.split (hl 4 (.lit .nil)) (.lit (.ob 5 (.lit (.pl (.lit (.lit (.lit
 .nil))))))))))))) (hl 4 (.lit .nil))))) (.perm [] .nil))
theorem rva_x (s : Inn) (A : Adr) : wpG Tryz.prog [] (rdI s A) 400 45 [inV s A] (rva_h s A) ([]) (fun _ => .bool (vac s)) = (∀ (b : Nat), (e1 b 28 (cU s.bts = cU s.bts /\ cI s.bws = cI s.bws /\ cI s.bfs = cI s.bfs /\ cI s.bwd = cI s.bwd /\ cB s.sbs = cB s.sbs /\ (SpecG Tryz.prog [] (rdI s A) (57 : FuncId) #[inV s A] [] fun x ↦ Value.bool (beg s)) /\ (∀ (e : Ex), e ∈ [] -> e ∈ []) /\ (beg s = true -> b = b /\ ((s.st == 0) =
 true -> Value.bool true = Value.bool (beg s && (s.st == 0 || s.ot == 0)) /\ True) /\ ((s.st == 0) = false -> b = b /\ Value.bool (s.ot == 0) = Value.bool (beg s && (s.st == 0 || s.ot == 0)) /\ True)) /\ (beg s = false -> Value.bool false = Value.bool (beg s && (s.st == 0 || s.ot == 0)) /\ True))) /\
 ∀ (junk : Nat -> Value), .bool (beg s && (s.st == 0 || s.ot == 0)) = Value.bool (vac s)) := by kernel_rfl
set_option maxHeartbeats 4000000 in
theorem rva_sp (s : Inn) (A : Adr) (hA : OkI s A) : SpecG Tryz.prog [] (rdI s A) 45 #[inV s A] ([]) (fun _ => .bool (vac s)) := by
  refine specG_of (h := rva_h s A) (?_ : wpG Tryz.prog [] (rdI s A) 400 45 [inV s A] (rva_h s A) ([]) (fun _ => .bool (vac s)))
  rw [rva_x]
  (repeat' (first | with_reducible exact rfl | exact trivial | with_reducible assumption | exact rbg_sp _ _ hA | exact cU_len _ | exact cI_len _ | exact cB_len _ | exact cU_one _ | exact cI_one _ | exact cB_one _ | exact (fun _ h => h) | exact (fun _ h => (List.not_mem_nil h).elim) | (with_reducible refine e1_in ?_) | (with_reducible refine e2_in ?_) | (with_reducible refine lx_in (Nat.le_of_ble_eq_true rfl) ?_) | (with_reducible refine rqx_rf ?_) | (with_reducible refine rqx_in ?_ ?_ ?_) | (with_reducible apply And.intro) | (with_reducible intro _)))
  all_goals (first | (simp only [*, Bool.and_true, Bool.true_and, Bool.and_false, Bool.false_and, Bool.or_true, Bool.true_or, Bool.or_false, Bool.false_or, Bool.not_true, Bool.not_false, cond_true, cond_false]; done) | (unfold vac; simp_all; done) | trace_state)
def rlf_h (s : Inn) (A : Adr) : Hint := .ob 5 (.pl (.inv (rlfR s) fun x0 ↦ .split (.ix (.lst (0 : Nat) (Int.toNat (↑(PX.i x0) : Int) * (1 : Nat)) (Value.int .u8 (List.getD s.bts (Int.toNat (↑(PX.i x0) : Int)) (0 : Int))) (.cut [((19 : Nat), .bool (List.getD s.bts (Int.toNat (↑(PX.i x0) : Int)) (0 : Int) == (0 : Int) || List.getD s.bts
 (Int.toNat (↑(PX.i x0) : Int)) (0 : Int) == (3 : Int)))] (.pl (.split (.lit (.lit .nil)) (.lit (.pl (.lit .nil))))) (.split (.app (6 : Nat) (7 : Nat) (.perm [6] .nil)) (.perm [6] .nil))))) (.perm [6] .nil)))
theorem rlf_x (s : Inn) (A : Adr) : wpG Tryz.prog [] (rdI s A) 400 46 [inV s A] (rlf_h s A) ([⟨3, 1, (lft s.bts s.bts.length).length, cI (lft s.bts s.bts.length)⟩]) (fun ads => .slice (nthA ads 0).1 (lft s.bts s.bts.length).length (nthA ads 0).2) = (∀ (b : Nat), b = b ∧ (∃ x, lfI s x ∧ Value.int IntKind.i64 (0 : Int) = Value.int IntKind.i64 (↑(PX.i x) : Int) ∧ Value.slice none (0 : Nat) (0 : Nat) = Value.slice (PX.a x) (List.length (PX.l x)) (PX.cap x) ∧ ((0 : Nat) = (0 : Nat) ∧ [] = cI (PX.l x) ∧ (3 : Nat) = (3 : Nat) ∧ some (Ow.mk none (0 :
    Nat) (0 : Nat) (1 : Nat)) = some (Ow.mk (PX.a x) (List.length (PX.l x)) (PX.cap x) (1 : Nat))) ∧ True) ∧ ∀ (x0 : PX), lfI s x0 → ∀ (junk : Nat → Value), (decide ((↑(PX.i x0) : Int) < (↑(List.length (Inn.bts s)) : Int)) = true → (((0 : Int) ≤ (↑(PX.i x0) : Int) ∧ (↑(PX.i x0) : Int) <
    (↑(List.length (Inn.bts s)) : Int)) ∧ AOK (Adr.a1 A) (List.length (Inn.bts s))) ∧ bk (Adr.a1 A) = bk (Adr.a1 A) ∧ ofs (Adr.a1 A) + Int.toNat (↑(PX.i x0) : Int) * (1 : Nat) = ofs (Adr.a1 A) + Int.toNat (↑(PX.i x0) : Int) * (1 : Nat) ∧ lgo (cU (Inn.bts s)) (Int.toNat (↑(PX.i x0) : Int) * (1 : Nat))
    = some (Value.int IntKind.u8 (List.getD (Inn.bts s) (Int.toNat (↑(PX.i x0) : Int)) (0 : Int))) ∧ (((List.getD (Inn.bts s) (Int.toNat (↑(PX.i x0) : Int)) (0 : Int) == (0 : Int)) = true → Value.bool true = Value.bool (List.getD (Inn.bts s) (Int.toNat (↑(PX.i x0) : Int)) (0 : Int) == (0 : Int) ||
    List.getD (Inn.bts s) (Int.toNat (↑(PX.i x0) : Int)) (0 : Int) == (3 : Int)) ∧ True) ∧ ((List.getD (Inn.bts s) (Int.toNat (↑(PX.i x0) : Int)) (0 : Int) == (0 : Int)) = false → Value.bool (List.getD (Inn.bts s) (Int.toNat (↑(PX.i x0) : Int)) (0 : Int) == (3 : Int)) = Value.bool (List.getD (Inn.bts
    s) (Int.toNat (↑(PX.i x0) : Int)) (0 : Int) == (0 : Int) || List.getD (Inn.bts s) (Int.toNat (↑(PX.i x0) : Int)) (0 : Int) == (3 : Int)) ∧ True)) ∧ ∀ (junk : Nat → Value), ((List.getD (Inn.bts s) (Int.toNat (↑(PX.i x0) : Int)) (0 : Int) == (0 : Int) || List.getD (Inn.bts s) (Int.toNat (↑(PX.i x0)
    : Int)) (0 : Int) == (3 : Int)) = true → ∀ (b : Nat), PX.a x0 = PX.a x0 ∧ List.length (PX.l x0) = List.length (PX.l x0) ∧ PX.cap x0 = PX.cap x0 ∧ b = b ∧ (List.length (PX.l x0) + (1 : Nat)) * (9 : Nat) ≤ (140737488355328 : Nat) ∧ ∀ (g cap : Nat), ∃ y, lfI s y ∧ List.length (Inn.bts s) - PX.i y <
    List.length (Inn.bts s) - PX.i x0 ∧ Value.int IntKind.i64 (IntKind.wrap IntKind.i64 ((↑(PX.i x0) : Int) + (1 : Int))) = Value.int IntKind.i64 (↑(PX.i y) : Int) ∧ Value.slice (some (Addr.mk g (0 : Nat) none)) (List.length (PX.l x0) + (1 : Nat)) cap = Value.slice (PX.a y) (List.length (PX.l y))
    (PX.cap y) ∧ ((0 : Nat) = (0 : Nat) ∧ lapp (cI (PX.l x0)) [Value.int IntKind.i64 (IntKind.wrap IntKind.i64 ((↑(PX.i x0) : Int) + (1 : Int)))] = cI (PX.l y) ∧ (3 : Nat) = (3 : Nat) ∧ some (Ow.mk (some (Addr.mk g (0 : Nat) none)) (List.length (PX.l x0) + (1 : Nat)) cap (1 : Nat)) = some (Ow.mk
    (PX.a y) (List.length (PX.l y)) (PX.cap y) (1 : Nat))) ∧ True) ∧ ((List.getD (Inn.bts s) (Int.toNat (↑(PX.i x0) : Int)) (0 : Int) == (0 : Int) || List.getD (Inn.bts s) (Int.toNat (↑(PX.i x0) : Int)) (0 : Int) == (3 : Int)) = false → ∃ y, lfI s y ∧ List.length (Inn.bts s) - PX.i y < List.length
    (Inn.bts s) - PX.i x0 ∧ Value.int IntKind.i64 (IntKind.wrap IntKind.i64 ((↑(PX.i x0) : Int) + (1 : Int))) = Value.int IntKind.i64 (↑(PX.i y) : Int) ∧ Value.slice (PX.a x0) (List.length (PX.l x0)) (PX.cap x0) = Value.slice (PX.a y) (List.length (PX.l y)) (PX.cap y) ∧ ((0 : Nat) = (0 : Nat) ∧ cI
    (PX.l x0) = cI (PX.l y) ∧ (3 : Nat) = (3 : Nat) ∧ some (Ow.mk (PX.a x0) (List.length (PX.l x0)) (PX.cap x0) (1 : Nat)) = some (Ow.mk (PX.a y) (List.length (PX.l y)) (PX.cap y) (1 : Nat))) ∧ True)) ∧ (decide ((↑(PX.i x0) : Int) < (↑(List.length (Inn.bts s)) : Int)) = false → (3 : Nat) = (3 : Nat)
    ∧ (1 : Nat) = (1 : Nat) ∧ List.length (PX.l x0) = List.length (lft (Inn.bts s) (List.length (Inn.bts s))) ∧ cI (PX.l x0) = cI (lft (Inn.bts s) (List.length (Inn.bts s))) ∧ Value.slice (PX.a x0) (List.length (PX.l x0)) (PX.cap x0) = Value.slice (PX.a x0) (List.length (lft (Inn.bts s) (List.length
    (Inn.bts s)))) (PX.cap x0))) := by kernel_rfl
set_option maxHeartbeats 4000000 in
theorem rlf_sp (s : Inn) (A : Adr) (hA : OkI s A) : SpecG Tryz.prog [] (rdI s A) 46 #[inV s A] ([⟨3, 1, (lft s.bts s.bts.length).length, cI (lft s.bts s.bts.length)⟩]) (fun ads => .slice (nthA ads 0).1 (lft s.bts s.bts.length).length (nthA ads 0).2) := by
  refine specG_of (h := rlf_h s A) (?_ : wpG Tryz.prog [] (rdI s A) 400 46 [inV s A] (rlf_h s A) ([⟨3, 1, (lft s.bts s.bts.length).length, cI (lft s.bts s.bts.length)⟩]) (fun ads => .slice (nthA ads 0).1 (lft s.bts s.bts.length).length (nthA ads 0).2))
  rw [rlf_x]
  intro b
  refine ⟨rfl, ⟨⟨0, none, 0, []⟩, ⟨Nat.zero_le _, rfl⟩, rfl, rfl, ⟨rfl, rfl, rfl, rfl⟩, trivial⟩, fun x0 hx junk => ⟨fun hlt => ?_, fun hlt => ?_⟩⟩
  · obtain ⟨hx1, hx2⟩ := hx
    have h5 := hA.l1
    have hi : x0.i < s.bts.length := by simpa using hlt
    have hle := lft_len s.bts x0.i
    rw [← hx2] at hle
    have hw : IntKind.i64.wrap ((x0.i : Int) + 1) = ((x0.i + 1 : Nat) : Int) := by rw [IntWalk.i64_in _ (by omega)]; rfl
    refine ⟨⟨⟨by omega, by omega⟩, hA.k1⟩, rfl, rfl, (by simpa using cU_get hi), ?_⟩
    refine ⟨⟨fun h => by rw [h]; exact ⟨rfl, trivial⟩, fun h => by rw [h]; exact ⟨rfl, trivial⟩⟩, fun junk2 => ⟨fun hf b => ⟨rfl, rfl, rfl, rfl, by omega, fun g cap => ?_⟩, fun hf => ?_⟩⟩
    · refine ⟨⟨x0.i + 1, some ⟨g, 0, none⟩, cap, x0.l ++ [(x0.i : Int) + 1]⟩, ⟨hi, ?_⟩, (by show _ - (x0.i + 1) < _; omega), by rw [hw], by simp, ⟨rfl, ?_, rfl, by simp⟩, trivial⟩
      · show x0.l ++ _ = lft s.bts (x0.i + 1)
        have : s.bts.getD x0.i 0 = 0 ∨ s.bts.getD x0.i 0 = 3 := by simpa using hf
        simp only [lft, hx2, if_pos this]
      · rw [hw, cI_app]; rfl
    · refine ⟨⟨x0.i + 1, x0.a, x0.cap, x0.l⟩, ⟨hi, ?_⟩, (by show _ - (x0.i + 1) < _; omega), by rw [hw], rfl, ⟨rfl, rfl, rfl, rfl⟩, trivial⟩
      have : ¬ (s.bts.getD x0.i 0 = 0 ∨ s.bts.getD x0.i 0 = 3) := by simpa using hf
      simp only [lft, hx2, if_neg this, List.append_nil]
  · obtain ⟨hx1, hx2⟩ := hx
    have hi : x0.i = s.bts.length := by simp at hlt; omega
    rw [hx2, hi]
    exact ⟨rfl, rfl, rfl, rfl, rfl⟩
end Go.Proofs.YtnhlpgdadbjmoaaGreatDoor
