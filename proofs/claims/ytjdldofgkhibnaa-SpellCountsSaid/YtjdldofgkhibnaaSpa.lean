/- Layer 13 (spell): bowlers of both: a ball, a new ball, who may bowl. -/
import Derived.Test.YtjdldofgkhibnaaVz
import Derived.KernelRfl
import Derived.Test.YtjdldofgkhibnaaProg
import Derived.Test.YtjdldofgkhibnaaFda
import Derived.Test.YtjdldofgkhibnaaFdb
import Derived.Test.YtjdldofgkhibnaaFdc
import Derived.Test.YtjdldofgkhibnaaFdd
import Derived.Test.YtjdldofgkhibnaaFdf
import Derived.Test.YtjdldofgkhibnaaFdh
import Derived.Test.YtjdldofgkhibnaaFdk
import Derived.Test.YtjdldofgkhibnaaRua
set_option linter.unusedSimpArgs false
set_option linter.unusedVariables false
set_option maxRecDepth 100000
namespace Go.Proofs.Ytjdldofgkhibnaa
open Go.RowKit


/-- There is such a bowler. -/
def exs (s : Inn) (p : Int) : Bool := decide (1 ≤ p ∧ p ≤ s.bwd.length)
def bqd (s : Inn) (p : Int) : Int := s.bwd.getD (p - 1).toNat 0
def hasL (l : List Int) (p : Int) : Bool := l.any fun x => x == p
theorem exs_in {s : Inn} {p : Int} (h : exs s p = true) : 1 ≤ p ∧ p ≤ s.bwd.length := by simpa [exs] using h
theorem exs_or (s : Inn) (p : Int) : (exs s p = true ∧ 1 ≤ p ∧ p ≤ s.bwd.length) ∨ (exs s p = false ∧ (p < 1 ∨ s.bwd.length < p)) := by
  cases h : exs s p
  · right; refine ⟨rfl, ?_⟩; unfold exs at h; rw [decide_eq_false_iff_not] at h; omega
  · left; exact ⟨rfl, exs_in h⟩
/-- No one of the first i is the player. -/
def hsI (l : List Int) (p : Int) (i : Nat) : Prop := i ≤ l.length ∧ ∀ x ∈ l.take i, x ≠ p
theorem hs_0 (l : List Int) (p : Int) : hsI l p 0 := ⟨Nat.zero_le _, fun x hx => by simp at hx⟩
theorem hs_step {l : List Int} {p : Int} {i : Nat} (h : hsI l p i) (hi : i < l.length) (hn : ¬ l.getD i 0 = p) : hsI l p (i + 1) := by
  refine ⟨hi, fun x hm => ?_⟩
  rw [List.take_add_one, List.getElem?_eq_getElem hi, List.mem_append] at hm
  rcases hm with hm | hm
  · exact h.2 x hm
  · rw [List.getD_eq_getElem?_getD, List.getElem?_eq_getElem hi] at hn
    simp at hm hn
    rw [hm]; exact hn
theorem hs_hit {l : List Int} {p : Int} {i : Nat} (hi : i < l.length) (he : l.getD i 0 = p) : hasL l p = true := by
  unfold hasL
  rw [List.any_eq_true]
  refine ⟨l[i], List.getElem_mem _, ?_⟩
  rw [List.getD_eq_getElem?_getD, List.getElem?_eq_getElem hi] at he
  simpa using he
theorem hs_no {l : List Int} {p : Int} {i : Nat} (h : hsI l p i) (hi : ¬ (i : Int) < l.length) : hasL l p = false := by
  have e : i = l.length := by have := h.1; omega
  have := h.2
  rw [e, List.take_length] at this
  unfold hasL
  rw [List.any_eq_false]
  intro x hx
  simpa using this x hx
/-- How many balls a bowler may still bowl. -/
def rmE (r : Rul) (s : Inn) (p : Int) : Int := if 0 > IntKind.i64.wrap (IntKind.i64.wrap (r.q5 * r.q4) - (if 0 > bqd s p then 0 else bqd s p)) then 0 else IntKind.i64.wrap (IntKind.i64.wrap (r.q5 * r.q4) - (if 0 > bqd s p then 0 else bqd s p))
def rmV (r : Rul) (s : Inn) (p : Int) : Int := if exs s p = false ∨ rck r ≠ 0 then 0 else if r.q5 = 0 then -1 else rmE r s p
theorem rm_lo (r : Rul) (s : Inn) (p : Int) : rmV r s p = -1 ∨ 0 ≤ rmV r s p := by
  unfold rmV rmE
  (repeat' split) <;> omega
def fnO (r : Rul) (s : Inn) (m : Int) : Bool := m == -1 || decide (s.io ≥ IntKind.i64.wrap (r.q4 - m))
def maL (r : Rul) (s : Inn) (p : Int) : Int := if exs s p = false ∨ rck r ≠ 0 then 3 else if p = s.kp ∨ p = s.bw ∨ (plr s p && rpl s p) = true then 7 else if hasL s.bfs p = true then 8 else if fnO r s (rmV r s p) = false then 9 else 0
def taS (r : Rul) (s : Inn) (p : Int) : Inn := { s with bw := if maL r s p = 0 then p else s.bw }
def nbL (r : Rul) (s : Inn) : Int := if rck r ≠ 0 ∨ r.q8 = 0 ∨ s.ba < IntKind.i64.wrap (r.q8 * r.q4) then 22 else 0
def nbS (r : Rul) (s : Inn) : Inn := { s with ba := if nbL r s = 0 then 0 else s.ba }
/-- A ball counts for somebody. -/
def blX (r : Rul) (s : Inn) : Bool := exs s s.bw && (rck r == 0)
def blI (s : Inn) (c : Bool) : Int := if c = true then IntKind.i64.wrap (s.io + 1) else s.io
/-- The over ends. -/
def blO (r : Rul) (s : Inn) (c : Bool) : Bool := blX r s && !decide (blI s c < r.q4)
def blB (s : Inn) : List Int := if hasL s.bws s.bw = true then s.bws else s.bws ++ [s.bw]
def blS (r : Rul) (s : Inn) (c : Bool) : Inn := { s with
  bws := if blX r s = false then s.bws else if blO r s c = true then [] else blB s
  bfs := if blO r s c = true then blB s else s.bfs
  bwd := if blX r s = true ∧ c = true then s.bwd.set (s.bw - 1).toNat (IntKind.i64.wrap (bqd s s.bw + 1)) else s.bwd
  io := if blO r s c = true then 0 else if blX r s = true ∧ c = true then IntKind.i64.wrap (s.io + 1) else s.io
  ba := if blX r s = true ∧ c = true then IntKind.i64.wrap (s.ba + 1) else s.ba
  cm := if blO r s c = true then IntKind.i64.wrap (s.cm + 1) else s.cm
  bw := if blO r s c = true then 0 else s.bw }
theorem wd1 {s : Inn} {p : Int} (h : exs s p = true) (hn : s.bwd.length ≤ 1000000) : IntKind.i64.wrap (p - 1) = p - 1 := IntWalk.i64_in _ (by have := exs_in h; omega)
/-- The players who may bowl, of the first k. -/
def abl (r : Rul) (s : Inn) : Nat → List Int
  | 0 => []
  | k + 1 => abl r s k ++ (if maL r s ((k : Int) + 1) = 0 then [(k : Int) + 1] else [])
theorem abl_len (r : Rul) (s : Inn) (k : Nat) : (abl r s k).length ≤ k := by
  induction k with
  | zero => simp [abl]
  | succ k ih => simp only [abl, List.length_append]; split <;> simp <;> omega
def abI (r : Rul) (s : Inn) (x : PX) : Prop := x.i ≤ s.bwd.length ∧ x.l = abl r s x.i


theorem xr_f {r : Rul} {s : Inn} {p : Int} (h : (!exs s p || rck r != 0) = false) : exs s p = true ∧ rck r = 0 := by simpa using h
theorem xr_t {r : Rul} {s : Inn} {p : Int} (h : (!exs s p || rck r != 0) = true) : exs s p = false ∨ rck r ≠ 0 := by simpa using h
theorem xr_n {r : Rul} {s : Inn} {p : Int} (h : exs s p = true ∧ rck r = 0) : ¬ (exs s p = false ∨ rck r ≠ 0) := by simp [h.1, h.2]
theorem ma_c {s : Inn} {p : Int} (h : exs s p = true) (hn : s.bwd.length ≤ 1000000) : (p == s.kp || (p == s.bw || decide (p ≤ (s.sbs.length : Int)) && s.sbs.getD (IntKind.i64.wrap (p - 1)).toNat false)) = decide (p = s.kp ∨ p = s.bw ∨ (plr s p && rpl s p) = true) := by
  rw [wd1 h hn, Bool.eq_iff_iff]
  have h1 := (exs_in h).1
  unfold plr rpl
  simp only [Bool.or_eq_true, Bool.and_eq_true, beq_iff_eq, decide_eq_true_eq, h1, true_and]
theorem ma_3 {r : Rul} {s : Inn} {p : Int} (h : exs s p = false ∨ rck r ≠ 0) : maL r s p = 3 := by unfold maL; rw [if_pos h]
theorem ma_7 {r : Rul} {s : Inn} {p : Int} (h : exs s p = true ∧ rck r = 0) (hn : s.bwd.length ≤ 1000000) (c : (p == s.kp || (p == s.bw || decide (p ≤ (s.sbs.length : Int)) && s.sbs.getD (IntKind.i64.wrap (p - 1)).toNat false)) = true) : maL r s p = 7 := by
  rw [ma_c h.1 hn, decide_eq_true_eq] at c
  unfold maL; rw [if_neg (xr_n h), if_pos c]
theorem ma_8 {r : Rul} {s : Inn} {p : Int} (h : exs s p = true ∧ rck r = 0) (hn : s.bwd.length ≤ 1000000) (c : (p == s.kp || (p == s.bw || decide (p ≤ (s.sbs.length : Int)) && s.sbs.getD (IntKind.i64.wrap (p - 1)).toNat false)) = false) (d : hasL s.bfs p = true) : maL r s p = 8 := by
  rw [ma_c h.1 hn, decide_eq_false_iff_not] at c
  unfold maL; rw [if_neg (xr_n h), if_neg c, if_pos d]
theorem ma_9 {r : Rul} {s : Inn} {p : Int} (h : exs s p = true ∧ rck r = 0) (hn : s.bwd.length ≤ 1000000) (c : (p == s.kp || (p == s.bw || decide (p ≤ (s.sbs.length : Int)) && s.sbs.getD (IntKind.i64.wrap (p - 1)).toNat false)) = false) (d : hasL s.bfs p = false) (f : (!(rmV r s p == -1 || decide (s.io ≥ IntKind.i64.wrap (r.q4 - rmV r s p)))) = true) : maL r s p = 9 := by
  rw [ma_c h.1 hn, decide_eq_false_iff_not] at c
  unfold maL; rw [if_neg (xr_n h), if_neg c, if_neg (by simp [d]), if_pos]
  unfold fnO
  cases hh : (rmV r s p == -1 || decide (s.io ≥ IntKind.i64.wrap (r.q4 - rmV r s p)))
  · rfl
  · rw [hh] at f; cases f
theorem ma_0 {r : Rul} {s : Inn} {p : Int} (h : exs s p = true ∧ rck r = 0) (hn : s.bwd.length ≤ 1000000) (c : (p == s.kp || (p == s.bw || decide (p ≤ (s.sbs.length : Int)) && s.sbs.getD (IntKind.i64.wrap (p - 1)).toNat false)) = false) (d : hasL s.bfs p = false) (f : (!(rmV r s p == -1 || decide (s.io ≥ IntKind.i64.wrap (r.q4 - rmV r s p)))) = false) : maL r s p = 0 := by
  rw [ma_c h.1 hn, decide_eq_false_iff_not] at c
  unfold maL; rw [if_neg (xr_n h), if_neg c, if_neg (by simp [d]), if_neg]
  unfold fnO
  cases hh : (rmV r s p == -1 || decide (s.io ≥ IntKind.i64.wrap (r.q4 - rmV r s p)))
  · rw [hh] at f; cases f
  · simp
theorem cI_nil : cI [] = [] := rfl
theorem bx_f {r : Rul} {s : Inn} (h : (!exs s s.bw || rck r != 0) = true) : blX r s = false ∧ ∀ c, blO r s c = false := by
  have hx : blX r s = false := by
    unfold blX
    rcases xr_t h with h | h
    · rw [h]; rfl
    · rw [beq_eq_false_iff_ne.2 h, Bool.and_false]
  exact ⟨hx, fun c => by unfold blO; rw [hx]; rfl⟩
theorem bx_t {r : Rul} {s : Inn} (h : (!exs s s.bw || rck r != 0) = false) : blX r s = true ∧ exs s s.bw = true := by
  have h := xr_f h
  refine ⟨?_, h.1⟩
  unfold blX
  rw [h.1, h.2]
  rfl
theorem rx_e (r : Rul) (s : Inn) : (rck r != 0 || !(decide (s.bw ≥ 1) && decide (s.bw ≤ (s.bwd.length : Int)))) = (!exs s s.bw || rck r != 0) := by
  have e : (decide (s.bw ≥ 1) && decide (s.bw ≤ (s.bwd.length : Int))) = exs s s.bw := by
    unfold exs
    rw [Bool.eq_iff_iff]
    simp only [Bool.and_eq_true, decide_eq_true_eq, ge_iff_le]
  rw [e, Bool.or_comm]
theorem nb_t {r : Rul} {s : Inn} (h : (rck r != 0 || (r.q8 == 0 || decide (s.ba < IntKind.i64.wrap (r.q8 * r.q4)))) = true) : nbL r s = 22 := by
  simp only [Bool.or_eq_true, bne_iff_ne, beq_iff_eq, decide_eq_true_eq] at h
  unfold nbL; rw [if_pos h]
theorem nb_f {r : Rul} {s : Inn} (h : (rck r != 0 || (r.q8 == 0 || decide (s.ba < IntKind.i64.wrap (r.q8 * r.q4)))) = false) : nbL r s = 0 := by
  have h : ¬ (rck r ≠ 0 ∨ r.q8 = 0 ∨ s.ba < IntKind.i64.wrap (r.q8 * r.q4)) := by
    intro hh
    rw [show (rck r != 0 || (r.q8 == 0 || decide (s.ba < IntKind.i64.wrap (r.q8 * r.q4)))) = true by simp only [Bool.or_eq_true, bne_iff_ne, beq_iff_eq, decide_eq_true_eq]; exact hh] at h
    cases h
  unfold nbL; rw [if_neg h]
@[reducible] def hsL (l : List Int) (p : Int) : LoopR := ⟨Nat, fun i => [(8, .int .i64 i)], [], fun _ => [], hsI l p, fun i => l.length - i, []⟩
@[reducible] def hrL (l : List Int) (p : Int) : LoopR := ⟨Nat, fun i => [(9, .int .i64 i)], [], fun _ => [], hsI l p, fun i => l.length - i, []⟩
@[reducible] def abL (r : Rul) (s : Inn) : LoopR := ⟨PX, fun x => [(10, .int .i64 x.i), (5, .slice x.a x.l.length x.cap)], [8], fun x => [⟨0, cI x.l, 3, some ⟨x.a, x.l.length, x.cap, 1⟩⟩], abI r s, fun x => s.bwd.length - x.i, [(3, 1)]⟩

def cnt_h (a : Option Addr) (l : List Int) (c : Nat) (p : Int) : Hint := .inl (.pl (.inv (hsL l p) fun x0 ↦ .split (.ix (.lst (0 : Nat) (x0 * (1 : Nat)) (Value.int .i64 (List.getD l x0 (0 : Int))) (.pl (.split (.perm [] .nil) (.perm [] .nil))))) (.perm [] .nil)))
theorem cnt_x (a : Option Addr) (l : List Int) (c : Nat) (p : Int) : wpG Try.prog [] ([(a, cI l)]) 400 8 [.slice a l.length c, .int .i64 p] (cnt_h a l c p) ([]) (fun _ => .bool (hasL l p)) = ((∃ x, hsI l p x /\ Value.int .i64 0 = Value.int .i64 (↑x : Int) /\ True) /\ ∀ (x0 : Nat), hsI l p x0 -> ∀ (junk : Nat -> Value), (decide ((↑x0 : Int) < (↑(List.length l) : Int)) = true -> (((0 : Int) ≤ (↑x0 : Int) /\ (↑x0 : Int) < (↑(List.length l) : Int)) /\ AOK a (List.length l)) /\ bk a = bk a /\
 ofs a + x0 * (1 : Nat) = ofs a + x0 * (1 : Nat) /\ lgo (cI l) (x0 * (1 : Nat)) = some (Value.int .i64 (List.getD l x0 (0 : Int))) /\ ((p == List.getD l x0 (0 : Int)) = true -> Value.bool (decide ((↑x0 : Int) ≥ (0 : Int))) = Value.bool (hasL l p)) /\ ((p == List.getD l x0 (0 : Int)) = false -> ∃ y,
 hsI l p y /\ List.length l - y < List.length l - x0 /\ Value.int .i64 (IntKind.i64.wrap ((↑x0 : Int) + (1 : Int))) = Value.int .i64 (↑y : Int) /\ True)) /\ (decide ((↑x0 : Int) < (↑(List.length l) : Int)) = false -> Value.bool false = Value.bool (hasL l p))) := by kernel_rfl
set_option maxHeartbeats 4000000 in
theorem cnt_sp (a : Option Addr) (l : List Int) (c : Nat) (p : Int) (hA : AOK a l.length) (hl : l.length ≤ 1000000) : SpecG Try.prog [] ([(a, cI l)]) 8 #[.slice a l.length c, .int .i64 p] ([]) (fun _ => .bool (hasL l p)) := by
  refine specG_of (h := cnt_h a l c p) (?_ : wpG Try.prog [] ([(a, cI l)]) 400 8 [.slice a l.length c, .int .i64 p] (cnt_h a l c p) ([]) (fun _ => .bool (hasL l p)))
  rw [cnt_x]
  (repeat' (first | with_reducible exact rfl | exact trivial | with_reducible assumption | exact cU_len _ | exact cI_len _ | exact cB_len _ | exact cU_one _ | exact cI_one _ | exact cB_one _ | exact (fun _ h => h) | exact (fun _ h => (List.not_mem_nil h).elim) | (with_reducible refine e1_in ?_) | (with_reducible refine e2_in ?_) | (with_reducible refine lx_in (Nat.le_of_ble_eq_true rfl) ?_) | (with_reducible refine rqx_rf ?_) | (with_reducible refine rqx_in ?_ ?_ ?_) | (with_reducible apply And.intro) | (with_reducible intro _)))
  all_goals (try simp only [Int.toNat_natCast, decide_eq_true_eq, decide_eq_false_iff_not, beq_iff_eq, beq_eq_false_iff_ne] at *)
  all_goals first
    | exact ⟨0, hs_0 _ _, rfl, trivial⟩ | omega | (refine cI_get ?_; omega)
    | (have he := ‹p = List.getD l _ 0›; rw [hs_hit (by omega) he.symm]; exact congrArg Value.bool (decide_eq_true (by omega)))
    | (have he := ‹p = List.getD l _ 0›; rw [hs_hit (by omega) he.symm])
    | (have he := ‹List.getD l _ 0 = p›; rw [hs_hit (by omega) he])
    | (have hx := ‹hsI _ _ _›; have he := ‹¬ p = List.getD l _ 0›; exact ⟨_, hs_step hx (by omega) (fun h => he h.symm), (by show _ - (_ + 1) < _; omega), (by rw [IntWalk.i64_in _ (by omega)]; rfl), trivial⟩)
    | (have hx := ‹hsI _ _ _›; have he := ‹¬ List.getD l _ 0 = p›; exact ⟨_, hs_step hx (by omega) he, (by show _ - (_ + 1) < _; omega), (by rw [IntWalk.i64_in _ (by omega)]; rfl), trivial⟩)
    | (rw [hs_no ‹hsI _ _ _› (by assumption)]; done) | (rw [hs_no ‹hsI _ _ _› (by assumption)]; rfl)
    | trace_state
def sex_h (s : Inn) (A : Adr) (p : Int) : Hint := .nc (.cut [((4 : Nat), .bool (decide (p ≥ 1) && decide (p ≤ (↑(s.bwd.length) : Int))))] (.split (.lit (.lit (.ob 0 (.lit (.pl (.lit (.lit .nil))))))) (hl 4 (.lit .nil))) (.perm [] .nil))
theorem sex_x (s : Inn) (A : Adr) (p : Int) : wpG Try.prog [] ([]) 400 16 [inV s A, .int .i64 p] (sex_h s A p) ([]) (fun _ => .bool (exs s p)) = (∀ (b : Nat), ((decide (p ≥ 1) = true -> b = b /\ Value.bool (decide (p ≤ (↑(s.bwd.length) : Int))) = Value.bool (decide (p ≥ 1) && decide (p ≤ (↑(s.bwd.length) : Int))) /\ True) /\ (decide (p ≥ 1) = false -> Value.bool false = Value.bool (decide (p ≥ 1) && decide (p ≤ (↑(s.bwd.length) : Int))) /\
 True)) /\ ∀ (junk : Nat -> Value), .bool (decide (p ≥ 1) && decide (p ≤ (↑(s.bwd.length) : Int))) = Value.bool (exs s p)) := by kernel_rfl
set_option maxHeartbeats 4000000 in
theorem sex_sp (s : Inn) (A : Adr) (p : Int)  : SpecG Try.prog [] ([]) 16 #[inV s A, .int .i64 p] ([]) (fun _ => .bool (exs s p)) := by
  refine specG_of (h := sex_h s A p) (?_ : wpG Try.prog [] ([]) 400 16 [inV s A, .int .i64 p] (sex_h s A p) ([]) (fun _ => .bool (exs s p)))
  rw [sex_x]
  (repeat' (first | with_reducible exact rfl | exact trivial | with_reducible assumption | exact cU_len _ | exact cI_len _ | exact cB_len _ | exact cU_one _ | exact cI_one _ | exact cB_one _ | exact (fun _ h => h) | exact (fun _ h => (List.not_mem_nil h).elim) | (with_reducible refine e1_in ?_) | (with_reducible refine e2_in ?_) | (with_reducible refine lx_in (Nat.le_of_ble_eq_true rfl) ?_) | (with_reducible refine rqx_rf ?_) | (with_reducible refine rqx_in ?_ ?_ ?_) | (with_reducible apply And.intro) | (with_reducible intro _)))
  all_goals (first | (simp only [*, Bool.and_true, Bool.true_and, Bool.and_false, Bool.false_and, Bool.or_true, Bool.true_or, Bool.or_false, Bool.false_or, Bool.not_true, Bool.not_false, cond_true, cond_false]; done) | (refine boolI ?_; (try unfold exs); simp_all) | trace_state)
def rm_h (r : Rul) (B : RAd) (s : Inn) (A : Adr) (p : Int) : Hint := ho 7 28 (.specg [] [] [] [] (fun ads0 x ↦ Value.bool (exs s p)) (.cut [((7 : Nat), .bool (!exs s p || rck r != 0))] (.split .nil (ho 6 14 (.specg [] [0] [cP r.pw] [] (fun ads0 x ↦ Value.int .i64 (rck r)) (.pl .nil)))) (.split (.perm [] .nil) (.ob 6 (.pl (.split (.perm [] .nil) (.draw (List.range 8)
 none (List.range 8) (.take 0 (.take 1 (.ob 6 (.take 2 (.take 3 (.ob 6 (.take 4 (.take 5 (.take 6 (.ob 7 (.take 7 (.take 8 (.take 9 (.ix (.take 10 (.lst (4 : Nat) (Int.toNat (IntKind.i64.wrap (p - 1)) * (1 : Nat)) (Value.int .i64 (List.getD s.bwd (Int.toNat (IntKind.i64.wrap (p - 1))) (0 : Int)))
 (.take 11 (.pl (.take 12 (.take 13 (.pl (.take 14 (.perm [] .nil))))))))))))))))))))))))))))))
theorem rm_x (r : Rul) (B : RAd) (s : Inn) (A : Adr) (p : Int) : wpG Try.prog [] ((B.a, cP r.pw) :: rdI s A) 400 11 [ruV r B, inV s A, .int .i64 p] (rm_h r B s A p) ([]) (fun _ => .int .i64 (rmV r s p)) = (∀ (b b_1 : Nat), e1 b_1 28 ((SpecG Try.prog [] [] (16 : FuncId) #[inV s A, .int .i64 p] [] fun x ↦ Value.bool (exs s p)) /\ (∀ (e : Ex), e ∈ [] -> e ∈ []) /\ (((!exs s p) = true -> Value.bool true = Value.bool (!exs s p || rck r != 0) /\ True) /\ ((!exs s p) = false -> e1 b 14 (cP r.pw = cP r.pw /\
 (SpecG Try.prog [] [(RAd.a B, cP r.pw)] (17 : FuncId) #[ruV r B] [] fun x ↦ Value.int .i64 (rck r)) /\ (∀ (e : Ex), e ∈ [] -> e ∈ []) /\ Value.bool (rck r != 0) = Value.bool (!exs s p || rck r != 0) /\ True))) /\ ∀ (junk : Nat -> Value), ((!exs s p || rck r != 0) = true -> Value.int .i64 0 =
 Value.int .i64 (rmV r s p)) /\ ((!exs s p || rck r != 0) = false -> b = b /\ ((r.q5 == 0) = true -> Value.int .i64 (-1 : Int) = Value.int .i64 (rmV r s p)) /\ ((r.q5 == 0) = false -> b = b /\ b = b /\ b_1 = b_1 /\ (((0 : Int) ≤ IntKind.i64.wrap (p - 1) /\ IntKind.i64.wrap (p - 1) < (↑(s.bwd.length)
 : Int)) /\ AOK (Adr.a4 A) (s.bwd.length)) /\ bk (Adr.a4 A) = bk (Adr.a4 A) /\ ofs (Adr.a4 A) + Int.toNat (IntKind.i64.wrap (p - 1)) * (1 : Nat) = ofs (Adr.a4 A) + Int.toNat (IntKind.i64.wrap (p - 1)) * (1 : Nat) /\ lgo (cI s.bwd) (Int.toNat (IntKind.i64.wrap (p - 1)) * (1 : Nat)) = some (Value.int
 .i64 (List.getD s.bwd (Int.toNat (IntKind.i64.wrap (p - 1))) (0 : Int))) /\ Value.int .i64 (if (0 : Int) > IntKind.i64.wrap (IntKind.i64.wrap (r.q5 * r.q4) - if (0 : Int) > List.getD s.bwd (Int.toNat (IntKind.i64.wrap (p - 1))) (0 : Int) then (0 : Int) else List.getD s.bwd (Int.toNat
 (IntKind.i64.wrap (p - 1))) (0 : Int)) then (0 : Int) else IntKind.i64.wrap (IntKind.i64.wrap (r.q5 * r.q4) - if (0 : Int) > List.getD s.bwd (Int.toNat (IntKind.i64.wrap (p - 1))) (0 : Int) then (0 : Int) else List.getD s.bwd (Int.toNat (IntKind.i64.wrap (p - 1))) (0 : Int))) = Value.int .i64 (rmV r
 s p))))) := by kernel_rfl
set_option maxHeartbeats 4000000 in
theorem rm_sp (r : Rul) (B : RAd) (s : Inn) (A : Adr) (p : Int) (hB : AOK B.a r.pw.length) (hl : r.pw.length ≤ 1000000) (hn : r.nm.size ≤ 1000000) (hA : OkI s A) : SpecG Try.prog [] ((B.a, cP r.pw) :: rdI s A) 11 #[ruV r B, inV s A, .int .i64 p] ([]) (fun _ => .int .i64 (rmV r s p)) := by
  refine specG_of (h := rm_h r B s A p) (?_ : wpG Try.prog [] ((B.a, cP r.pw) :: rdI s A) 400 11 [ruV r B, inV s A, .int .i64 p] (rm_h r B s A p) ([]) (fun _ => .int .i64 (rmV r s p)))
  rw [rm_x]
  (repeat' (first | with_reducible exact rfl | exact trivial | with_reducible assumption | exact sex_sp _ _ _ | exact rch_sp _ _ hB hl hn | exact cU_len _ | exact cI_len _ | exact cB_len _ | exact cU_one _ | exact cI_one _ | exact cB_one _ | exact (fun _ h => h) | exact (fun _ h => (List.not_mem_nil h).elim) | (with_reducible refine e1_in ?_) | (with_reducible refine e2_in ?_) | (with_reducible refine lx_in (Nat.le_of_ble_eq_true rfl) ?_) | (with_reducible refine rqx_rf ?_) | (with_reducible refine rqx_in ?_ ?_ ?_) | (with_reducible apply And.intro) | (with_reducible intro _)))
  all_goals (try (first | (simp only [*, Bool.and_true, Bool.true_and, Bool.and_false, Bool.false_and, Bool.or_true, Bool.true_or, Bool.or_false, Bool.false_or, Bool.not_true, Bool.not_false, cond_true, cond_false]; done) | exact hA.k4))
  all_goals first
    | (refine intI ?_; unfold rmV; rw [if_pos (xr_t (by assumption))])
    | (have h := xr_f ‹(!exs s p || rck r != 0) = false›; refine intI ?_; unfold rmV; rw [if_neg (xr_n h), if_pos (by simpa using ‹(r.q5 == 0) = true›)])
    | (have h := xr_f ‹(!exs s p || rck r != 0) = false›; have e := wd1 h.1 hA.l4; have h1 := exs_in h.1; have h5 := hA.l4; rw [e]; first | omega | (refine cI_get ?_; omega) | (have hq : ¬ r.q5 = 0 := (by simpa using ‹(r.q5 == 0) = false›); refine intI ?_; unfold rmV rmE bqd; rw [if_neg (xr_n h), if_neg hq]; done) | (have hq : ¬ r.q5 = 0 := (by simpa using ‹(r.q5 == 0) = false›); simp only [e, rmV, rmE, bqd, if_neg (xr_n h), if_neg hq]))
    | trace_state
def may_h (r : Rul) (B : RAd) (s : Inn) (A : Adr) (p : Int) : Hint := ho 7 28 (.specg [] [] [] [] (fun ads0 x ↦ Value.bool (exs s p)) (.cut [((7 : Nat), .bool (!exs s p || rck r != 0))] (.split .nil (ho 6 14 (.specg [] [0] [cP r.pw] [] (fun ads0 x ↦ Value.int .i64 (rck r)) (.pl .nil)))) (.split (.perm [] .nil) (.ob 7 (.pl (.cut [((15 : Nat), .bool (p == s.kp || (p ==
 s.bw || decide (p ≤ (↑(s.sbs.length) : Int)) && List.getD s.sbs (Int.toNat (IntKind.i64.wrap (p - 1))) false)))] (.split .nil (.ob 7 (.pl (.cut [((15 : Nat), .bool (p == s.bw || decide (p ≤ (↑(s.sbs.length) : Int)) && List.getD s.sbs (Int.toNat (IntKind.i64.wrap (p - 1))) false))] (.split .nil (ho 7
 28 (.inl (.nc (.cut [((4 : Nat), .bool (decide (p ≤ (↑(s.sbs.length) : Int)) && List.getD s.sbs (Int.toNat (IntKind.i64.wrap (p - 1))) false))] (.ob 8 (.pl (.split (.lit (.ob 8 (hl 3 (.ix (.lit (.lst (5 : Nat) (Int.toNat (IntKind.i64.wrap (p - 1)) * (1 : Nat)) (Value.bool (List.getD s.sbs (Int.toNat
 (IntKind.i64.wrap (p - 1))) false)) (.lit .nil))))))) (hl 5 (.lit .nil))))) .nil))))) .nil)))) (.split (.perm [] .nil) (.ob 7 (.specg [] [3] [cI s.bfs] [] (fun ads0 x ↦ Value.bool (hasL s.bfs p)) (.split (.perm [] .nil) (.draw (List.range 8) none (List.range 8) (.take 0 (ho 6 14 (.take 1 (ho 7 28
 (.take 2 (ho 6 14 (.take 3 (ho 7 28 (.take 4 (.pl (.br (.specg [] (List.range 6) [cP r.pw, cU s.bts, cI s.bws, cI s.bfs, cI s.bwd, cB s.sbs] [] (fun ads0 x ↦ Value.int .i64 (rmV r s p)) (.pl (.br (.inl (.nc (.cut [((6 : Nat), .bool (rmV r s p == (-1 : Int) || decide (s.io ≥ IntKind.i64.wrap (r.q4 -
 rmV r s p))))] (.pl (.split (hl 6 (.lit .nil)) (.lit (.ob 9 (.lit (.lit (.ob 8 (hl 3 (.lit .nil))))))))) (.take 7 (.take 8 (.split (.perm [] .nil) (.perm [] .nil))))))) .nil))) .nil))))))))))))))))))))))
theorem may_x (r : Rul) (B : RAd) (s : Inn) (A : Adr) (p : Int) : wpG Try.prog [] ((B.a, cP r.pw) :: rdI s A) 400 12 [ruV r B, inV s A, .int .i64 p] (may_h r B s A p) ([]) (fun _ => .int .i64 (maL r s p)) = (∀ (b b_1 : Nat), e1 b_1 28 ((SpecG Try.prog [] [] (16 : FuncId) #[inV s A, .int .i64 p] [] fun x ↦ Value.bool (exs s p)) /\ (∀ (e : Ex), e ∈ [] -> e ∈ []) /\ (((!exs s p) = true -> Value.bool true = Value.bool (!exs s p || rck r != 0) /\ True) /\ ((!exs s p) = false -> e1 b 14 (cP r.pw = cP r.pw /\
 (SpecG Try.prog [] [(RAd.a B, cP r.pw)] (17 : FuncId) #[ruV r B] [] fun x ↦ Value.int .i64 (rck r)) /\ (∀ (e : Ex), e ∈ [] -> e ∈ []) /\ Value.bool (rck r != 0) = Value.bool (!exs s p || rck r != 0) /\ True))) /\ ∀ (junk : Nat -> Value), ((!exs s p || rck r != 0) = true -> Value.int .i64 3 =
 Value.int .i64 (maL r s p)) /\ ((!exs s p || rck r != 0) = false -> b_1 = b_1 /\ (((p == s.kp) = true -> Value.bool true = Value.bool (p == s.kp || (p == s.bw || decide (p ≤ (↑(s.sbs.length) : Int)) && List.getD s.sbs (Int.toNat (IntKind.i64.wrap (p - 1))) false)) /\ True) /\ ((p == s.kp) = false ->
 b_1 = b_1 /\ (((p == s.bw) = true -> Value.bool true = Value.bool (p == s.bw || decide (p ≤ (↑(s.sbs.length) : Int)) && List.getD s.sbs (Int.toNat (IntKind.i64.wrap (p - 1))) false) /\ True) /\ ((p == s.bw) = false -> e1 b_1 28 (∀ (b : Nat), (b = b /\ (decide (p ≤ (↑(s.sbs.length) : Int)) = true ->
 b = b /\ (((0 : Int) ≤ IntKind.i64.wrap (p - 1) /\ IntKind.i64.wrap (p - 1) < (↑(s.sbs.length) : Int)) /\ AOK (Adr.a5 A) (s.sbs.length)) /\ bk (Adr.a5 A) = bk (Adr.a5 A) /\ ofs (Adr.a5 A) + Int.toNat (IntKind.i64.wrap (p - 1)) * (1 : Nat) = ofs (Adr.a5 A) + Int.toNat (IntKind.i64.wrap (p - 1)) * (1
 : Nat) /\ lgo (cB s.sbs) (Int.toNat (IntKind.i64.wrap (p - 1)) * (1 : Nat)) = some (Value.bool (List.getD s.sbs (Int.toNat (IntKind.i64.wrap (p - 1))) false)) /\ Value.bool (List.getD s.sbs (Int.toNat (IntKind.i64.wrap (p - 1))) false) = Value.bool (decide (p ≤ (↑(s.sbs.length) : Int)) && List.getD
 s.sbs (Int.toNat (IntKind.i64.wrap (p - 1))) false) /\ True) /\ (decide (p ≤ (↑(s.sbs.length) : Int)) = false -> Value.bool false = Value.bool (decide (p ≤ (↑(s.sbs.length) : Int)) && List.getD s.sbs (Int.toNat (IntKind.i64.wrap (p - 1))) false) /\ True)) /\ ∀ (junk : Nat -> Value), .bool (decide (p
 ≤ (↑(s.sbs.length) : Int)) && List.getD s.sbs (Int.toNat (IntKind.i64.wrap (p - 1))) false) = Value.bool (p == s.bw || decide (p ≤ (↑(s.sbs.length) : Int)) && List.getD s.sbs (Int.toNat (IntKind.i64.wrap (p - 1))) false) /\ True))) /\ ∀ (junk : Nat -> Value), .bool (p == s.bw || decide (p ≤
 (↑(s.sbs.length) : Int)) && List.getD s.sbs (Int.toNat (IntKind.i64.wrap (p - 1))) false) = Value.bool (p == s.kp || (p == s.bw || decide (p ≤ (↑(s.sbs.length) : Int)) && List.getD s.sbs (Int.toNat (IntKind.i64.wrap (p - 1))) false)) /\ True)) /\ ∀ (junk : Nat -> Value), ((p == s.kp || (p == s.bw ||
 decide (p ≤ (↑(s.sbs.length) : Int)) && List.getD s.sbs (Int.toNat (IntKind.i64.wrap (p - 1))) false)) = true -> Value.int .i64 7 = Value.int .i64 (maL r s p)) /\ ((p == s.kp || (p == s.bw || decide (p ≤ (↑(s.sbs.length) : Int)) && List.getD s.sbs (Int.toNat (IntKind.i64.wrap (p - 1))) false)) =
 false -> b_1 = b_1 /\ cI s.bfs = cI s.bfs /\ (SpecG Try.prog [] [(Adr.a3 A, cI s.bfs)] (8 : FuncId) #[Value.slice (Adr.a3 A) (s.bfs.length) (Adr.c3 A), .int .i64 p] [] fun x ↦ Value.bool (hasL s.bfs p)) /\ (∀ (e : Ex), e ∈ [] -> e ∈ []) /\ (hasL s.bfs p = true -> Value.int .i64 8 = Value.int .i64
 (maL r s p)) /\ (hasL s.bfs p = false -> e1 b 14 (e1 b_1 28 (e1 b 14 (e1 b_1 27 (b_1 = b_1 /\ True /\ (cP r.pw = cP r.pw /\ cU s.bts = cU s.bts /\ cI s.bws = cI s.bws /\ cI s.bfs = cI s.bfs /\ cI s.bwd = cI s.bwd /\ cB s.sbs = cB s.sbs /\ (SpecG Try.prog [] ((RAd.a B, cP r.pw) :: rdI s A) (11 :
 FuncId) #[ruV r B, inV s A, .int .i64 p] [] fun x ↦ Value.int .i64 (rmV r s p)) /\ (∀ (e : Ex), e ∈ [] -> e ∈ []) /\ True /\ (∀ (b b_2 : Nat), (((rmV r s p == (-1 : Int)) = true -> Value.bool true = Value.bool (rmV r s p == (-1 : Int) || decide (s.io ≥ IntKind.i64.wrap (r.q4 - rmV r s p))) /\ True)
 /\ ((rmV r s p == (-1 : Int)) = false -> b_2 = b_2 /\ b = b /\ Value.bool (decide (s.io ≥ IntKind.i64.wrap (r.q4 - rmV r s p))) = Value.bool (rmV r s p == (-1 : Int) || decide (s.io ≥ IntKind.i64.wrap (r.q4 - rmV r s p))) /\ True)) /\ ∀ (junk : Nat -> Value), ((!(rmV r s p == (-1 : Int) || decide
 (s.io ≥ IntKind.i64.wrap (r.q4 - rmV r s p)))) = true -> Value.int .i64 9 = Value.int .i64 (maL r s p)) /\ ((!(rmV r s p == (-1 : Int) || decide (s.io ≥ IntKind.i64.wrap (r.q4 - rmV r s p)))) = false -> Value.int .i64 0 = Value.int .i64 (maL r s p))) /\ True) /\ True))))))))) := by kernel_rfl
set_option maxHeartbeats 4000000 in
theorem may_sp (r : Rul) (B : RAd) (s : Inn) (A : Adr) (p : Int) (hB : AOK B.a r.pw.length) (hl : r.pw.length ≤ 1000000) (hn : r.nm.size ≤ 1000000) (hA : OkI s A) : SpecG Try.prog [] ((B.a, cP r.pw) :: rdI s A) 12 #[ruV r B, inV s A, .int .i64 p] ([]) (fun _ => .int .i64 (maL r s p)) := by
  refine specG_of (h := may_h r B s A p) (?_ : wpG Try.prog [] ((B.a, cP r.pw) :: rdI s A) 400 12 [ruV r B, inV s A, .int .i64 p] (may_h r B s A p) ([]) (fun _ => .int .i64 (maL r s p)))
  rw [may_x]
  (repeat' (first | with_reducible exact rfl | exact trivial | with_reducible assumption | exact sex_sp _ _ _ | exact rch_sp _ _ hB hl hn | exact cnt_sp _ _ _ _ hA.k3 hA.l3 | exact rm_sp _ _ _ _ _ hB hl hn hA | exact cU_len _ | exact cI_len _ | exact cB_len _ | exact cU_one _ | exact cI_one _ | exact cB_one _ | exact (fun _ h => h) | exact (fun _ h => (List.not_mem_nil h).elim) | (with_reducible refine e1_in ?_) | (with_reducible refine e2_in ?_) | (with_reducible refine lx_in (Nat.le_of_ble_eq_true rfl) ?_) | (with_reducible refine rqx_rf ?_) | (with_reducible refine rqx_in ?_ ?_ ?_) | (with_reducible apply And.intro) | (with_reducible intro _)))
  all_goals (try (first | (simp only [*, Bool.and_true, Bool.true_and, Bool.and_false, Bool.false_and, Bool.or_true, Bool.true_or, Bool.or_false, Bool.false_or, Bool.not_true, Bool.not_false, cond_true, cond_false]; done) | exact hA.k5))
  all_goals (try (have h := xr_f ‹(!exs s p || rck r != 0) = false›; have e := wd1 h.1 hA.l4; have h1 := exs_in h.1; have h5 := hA.l5; rw [e]; (try simp only [decide_eq_true_eq] at *); first | omega | (refine cB_get ?_; omega)))
  all_goals first
    | (rw [ma_3 (xr_t (by assumption))]; done)
    | (rw [ma_7 (xr_f (by assumption)) hA.l4 (by assumption)]; done)
    | (rw [ma_8 (xr_f (by assumption)) hA.l4 (by assumption) (by assumption)]; done)
    | (rw [ma_9 (xr_f (by assumption)) hA.l4 (by assumption) (by assumption) (by assumption)]; done)
    | (rw [ma_0 (xr_f (by assumption)) hA.l4 (by assumption) (by assumption) (by assumption)]; done)
    | trace_state
def tak_h (r : Rul) (B : RAd) (s : Inn) (A : Adr) (p : Int) : Hint := .draw (List.range 10) (some 6) (List.range 9) (.take 0 (ho 6 14 (.take 1 (ho 7 28 (.take 2 (.ob 8 (.take 4 (ho 7 28 (.take 5 (.pl (.br (.specg [] (List.range 6) [cP r.pw, cU s.bts, cI s.bws, cI s.bfs, cI s.bwd, cB s.sbs] [] (fun ads0 x ↦ Value.int .i64 (maL r s p)) (.pl (.br (.inl (ho 10 28 (.specg
 [] [1, 2, 3, 4, 5] [cU s.bts, cI s.bws, cI s.bfs, cI s.bwd, cB s.sbs] (rowI s) (fun ads0 ads ↦ inV s (adA ads)) (ho 17 28 (.pl (.split (.inl (.ob 8 (ho 17 29 (ho 11 56 (.take 7 (.take 8 (.pl (.br (ho 9 28 (.take 10 (ho 9 28 (.perm [12, 13, 14, 15, 16] .nil)))) .nil)))))))) (ho 17 28 (ho 11 56 (.take
 7 (.take 8 (.pl (.br (ho 9 28 (.take 10 (ho 9 28 (.perm [12, 13, 14, 15, 16] .nil)))) .nil)))))))))))) .nil))) .nil)))))))))))
theorem tak_x (r : Rul) (B : RAd) (s : Inn) (A : Adr) (p : Int) : wpG Try.prog [] ((B.a, cP r.pw) :: rdI s A) 400 6 [ruV r B, inV s A, .int .i64 p] (tak_h r B s A p) (rowI s) (fun ads => .tuple #[inV (taS r s p) (adA ads), .int .i64 (maL r s p)]) = (∀ (b b_1 b_2 b_3 : Nat), e1 b 14 (e1 b_1 28 (b_2 = b_2 /\ e1 b_1 27 (b_1 = b_1 /\ True /\ (cP r.pw = cP r.pw /\ cU s.bts = cU s.bts /\ cI s.bws = cI s.bws /\ cI s.bfs = cI s.bfs /\ cI s.bwd = cI s.bwd /\ cB s.sbs = cB s.sbs /\ (SpecG Try.prog [] ((RAd.a B, cP r.pw) :: rdI s A) (12 : FuncId) #[ruV r
 B, inV s A, .int .i64 p] [] fun x ↦ Value.int .i64 (maL r s p)) /\ (∀ (e : Ex), e ∈ [] -> e ∈ []) /\ True /\ (∀ (b b_4 : Nat), e1 b 28 (cU s.bts = cU s.bts /\ cI s.bws = cI s.bws /\ cI s.bfs = cI s.bfs /\ cI s.bwd = cI s.bwd /\ cB s.sbs = cB s.sbs /\ (SpecG Try.prog [] (rdI s A) (15 : FuncId) #[inV
 s A] (rowI s) fun ads ↦ inV s (adA ads)) /\ (∀ (e : Ex), e ∈ [] -> e ∈ []) /\ ∀ (a : Option Addr) (cap : Nat), AOK a (s.bts.length) -> s.bts.length ≤ cap -> ∀ (a_1 : Option Addr) (cap_1 : Nat), AOK a_1 (s.bws.length) -> s.bws.length ≤ cap_1 -> ∀ (a_2 : Option Addr) (cap_2 : Nat), AOK a_2
 (s.bfs.length) -> s.bfs.length ≤ cap_2 -> ∀ (a_3 : Option Addr) (cap_3 : Nat), AOK a_3 (s.bwd.length) -> s.bwd.length ≤ cap_3 -> ∀ (a_4 : Option Addr) (cap_4 : Nat), AOK a_4 (s.sbs.length) -> s.sbs.length ≤ cap_4 -> ∀ (b : Nat), e2 b 28 (((maL r s p == 0) = true -> b_2 = b_2 /\ b = b /\ True /\ e1 b
 28 (e2 b_4 28 (e1 b_4 27 (b_4 = b_4 /\ True /\ (e2 b_3 28 (e1 b_3 28 (rqx cU 61 1 s.bts s.bts (rqx cI 3 1 s.bws s.bws (rqx cI 3 1 s.bfs s.bfs (rqx cI 3 1 s.bwd s.bwd (rqx cB 4 1 s.sbs s.sbs (Value.tuple (Array.mk [.agg (Array.mk [.int .i64 s.sd, .int .i64 s.tg, .int .i64 s.ov, .int .i64 s.rn, .int
 .i64 s.wk, .int .i64 s.e1, .int .i64 s.e2, .int .i64 s.e3, .int .i64 s.e4, .int .i64 s.e5, .int .i64 s.cm, .int .i64 s.io, .int .i64 s.st, .int .i64 s.ot, .slice a (s.bts.length) cap, .int .i64 p, .slice a_1 (s.bws.length) cap_1, .slice a_2 (s.bfs.length) cap_2, .bool s.fr, .slice a_3 (s.bwd.length)
 cap_3, .bool s.fh, .int .i64 s.ba, .int .i64 s.kp, .int .i64 s.ou, .slice a_4 (s.sbs.length) cap_4, .int .i64 s.r1, .int .i64 s.r2, .int .u8 s.en]), .int .i64 (maL r s p)]) = Value.tuple (Array.mk [.agg (Array.mk [.int .i64 s.sd, .int .i64 s.tg, .int .i64 s.ov, .int .i64 s.rn, .int .i64 s.wk, .int
 .i64 s.e1, .int .i64 s.e2, .int .i64 s.e3, .int .i64 s.e4, .int .i64 s.e5, .int .i64 s.cm, .int .i64 s.io, .int .i64 s.st, .int .i64 s.ot, .slice a (s.bts.length) cap, .int .i64 (if maL r s p = (0 : Int) then p else s.bw), .slice a_1 (s.bws.length) cap_1, .slice a_2 (s.bfs.length) cap_2, .bool s.fr,
 .slice a_3 (s.bwd.length) cap_3, .bool s.fh, .int .i64 s.ba, .int .i64 s.kp, .int .i64 s.ou, .slice a_4 (s.sbs.length) cap_4, .int .i64 s.r1, .int .i64 s.r2, .int .u8 s.en]), .int .i64 (maL r s p)]))))))))) /\ True)))) /\ ((maL r s p == 0) = false -> e1 b 28 (e2 b_4 28 (e1 b_4 27 (b_4 = b_4 /\ True
 /\ (e2 b_3 28 (e1 b_3 28 (rqx cU 61 1 s.bts s.bts (rqx cI 3 1 s.bws s.bws (rqx cI 3 1 s.bfs s.bfs (rqx cI 3 1 s.bwd s.bwd (rqx cB 4 1 s.sbs s.sbs (Value.tuple (Array.mk [.agg (Array.mk [.int .i64 s.sd, .int .i64 s.tg, .int .i64 s.ov, .int .i64 s.rn, .int .i64 s.wk, .int .i64 s.e1, .int .i64 s.e2,
 .int .i64 s.e3, .int .i64 s.e4, .int .i64 s.e5, .int .i64 s.cm, .int .i64 s.io, .int .i64 s.st, .int .i64 s.ot, .slice a (s.bts.length) cap, .int .i64 s.bw, .slice a_1 (s.bws.length) cap_1, .slice a_2 (s.bfs.length) cap_2, .bool s.fr, .slice a_3 (s.bwd.length) cap_3, .bool s.fh, .int .i64 s.ba, .int
 .i64 s.kp, .int .i64 s.ou, .slice a_4 (s.sbs.length) cap_4, .int .i64 s.r1, .int .i64 s.r2, .int .u8 s.en]), .int .i64 (maL r s p)]) = Value.tuple (Array.mk [.agg (Array.mk [.int .i64 s.sd, .int .i64 s.tg, .int .i64 s.ov, .int .i64 s.rn, .int .i64 s.wk, .int .i64 s.e1, .int .i64 s.e2, .int .i64
 s.e3, .int .i64 s.e4, .int .i64 s.e5, .int .i64 s.cm, .int .i64 s.io, .int .i64 s.st, .int .i64 s.ot, .slice a (s.bts.length) cap, .int .i64 (if maL r s p = (0 : Int) then p else s.bw), .slice a_1 (s.bws.length) cap_1, .slice a_2 (s.bfs.length) cap_2, .bool s.fr, .slice a_3 (s.bwd.length) cap_3,
 .bool s.fh, .int .i64 s.ba, .int .i64 s.kp, .int .i64 s.ou, .slice a_4 (s.sbs.length) cap_4, .int .i64 s.r1, .int .i64 s.r2, .int .u8 s.en]), .int .i64 (maL r s p)]))))))))) /\ True))))))) /\ True) /\ True)))) := by kernel_rfl
set_option maxHeartbeats 4000000 in
theorem tak_sp (r : Rul) (B : RAd) (s : Inn) (A : Adr) (p : Int) (hB : AOK B.a r.pw.length) (hl : r.pw.length ≤ 1000000) (hn : r.nm.size ≤ 1000000) (hA : OkI s A) : SpecG Try.prog [] ((B.a, cP r.pw) :: rdI s A) 6 #[ruV r B, inV s A, .int .i64 p] (rowI s) (fun ads => .tuple #[inV (taS r s p) (adA ads), .int .i64 (maL r s p)]) := by
  refine specG_of (h := tak_h r B s A p) (?_ : wpG Try.prog [] ((B.a, cP r.pw) :: rdI s A) 400 6 [ruV r B, inV s A, .int .i64 p] (tak_h r B s A p) (rowI s) (fun ads => .tuple #[inV (taS r s p) (adA ads), .int .i64 (maL r s p)]))
  rw [tak_x]
  (repeat' (first | with_reducible exact rfl | exact trivial | with_reducible assumption | exact may_sp _ _ _ _ _ hB hl hn hA | exact fin_sp _ _ hA | exact cU_len _ | exact cI_len _ | exact cB_len _ | exact cU_one _ | exact cI_one _ | exact cB_one _ | exact (fun _ h => h) | exact (fun _ h => (List.not_mem_nil h).elim) | (with_reducible refine e1_in ?_) | (with_reducible refine e2_in ?_) | (with_reducible refine lx_in (Nat.le_of_ble_eq_true rfl) ?_) | (with_reducible refine rqx_rf ?_) | (with_reducible refine rqx_in ?_ ?_ ?_) | (with_reducible apply And.intro) | (with_reducible intro _)))
  all_goals (first | (simp only [*, Bool.and_true, Bool.true_and, Bool.and_false, Bool.false_and, Bool.or_true, Bool.true_or, Bool.or_false, Bool.false_or, Bool.not_true, Bool.not_false, cond_true, cond_false]; done) | (simp_all; done) | trace_state)
def bl_h (r : Rul) (B : RAd) (s : Inn) (A : Adr) (c : Bool) : Hint := ho 7 28 (.specg [] [1, 2, 3, 4, 5] [cU s.bts, cI s.bws, cI s.bfs, cI s.bwd, cB s.sbs] (rowI s) (fun ads0 ads ↦ inV s (adA ads)) (ho 8 28 (.cut [((19 : Nat), .bool (!exs s s.bw || rck r != 0))] (ho 7 29 (.specg [] [] [] [] (fun ads0 x ↦ Value.bool (exs s s.bw)) (.split (.lit (.lit (.lit .nil))) (ho 6
 14 (.lit (.specg [] [0] [cP r.pw] [] (fun ads0 x ↦ Value.int .i64 (rck r)) (.lit (.pl (.lit .nil))))))))) (.split (ho 8 84 (.perm [9, 10, 11, 12, 13] .nil)) (ho 8 2 (.specg [] [10] [cI s.bws] [] (fun ads0 x ↦ Value.bool (hasL s.bws s.bw)) (.split (ho 8 2 (.app (10 : Nat) (14 : Nat) (.ob 8 (.split
 (ho 8 2 (.ix (.lst (12 : Nat) (Int.toNat (IntKind.i64.wrap (s.bw - 1)) * (1 : Nat)) (Value.int .i64 (List.getD s.bwd (Int.toNat (IntKind.i64.wrap (s.bw - 1))) (0 : Int))) (.ix (.sto (12 : Nat) (Int.toNat (IntKind.i64.wrap (s.bw - 1)) * (1 : Nat)) (cI (List.set s.bwd (Int.toNat (IntKind.i64.wrap
 (s.bw - 1))) (IntKind.i64.wrap (List.getD s.bwd (Int.toNat (IntKind.i64.wrap (s.bw - 1))) (0 : Int) + (1 : Int))))) (ho 8 5 (.ob 6 (.split (ho 8 84 (.perm [9, 10, 11, 12, 13] .nil)) (.inl (ho 8 91 (.perm [9, 1001, 10, 12, 13] .nil))))))))))) (.ob 8 (.ob 6 (.split (ho 8 84 (.perm [9, 10, 11, 12, 13]
 .nil)) (.inl (ho 8 91 (.perm [9, 1001, 10, 12, 13] .nil)))))))))) (.split (ho 8 2 (.ix (.lst (12 : Nat) (Int.toNat (IntKind.i64.wrap (s.bw - 1)) * (1 : Nat)) (Value.int .i64 (List.getD s.bwd (Int.toNat (IntKind.i64.wrap (s.bw - 1))) (0 : Int))) (.ix (.sto (12 : Nat) (Int.toNat (IntKind.i64.wrap
 (s.bw - 1)) * (1 : Nat)) (cI (List.set s.bwd (Int.toNat (IntKind.i64.wrap (s.bw - 1))) (IntKind.i64.wrap (List.getD s.bwd (Int.toNat (IntKind.i64.wrap (s.bw - 1))) (0 : Int) + (1 : Int))))) (ho 8 5 (.ob 6 (.split (ho 8 84 (.perm [9, 10, 11, 12, 13] .nil)) (.inl (ho 8 91 (.perm [9, 1001, 10, 12, 13]
 .nil))))))))))) (.ob 8 (.ob 6 (.split (ho 8 84 (.perm [9, 10, 11, 12, 13] .nil)) (.inl (ho 8 91 (.perm [9, 1001, 10, 12, 13] .nil))))))))))))))
theorem bl_x (r : Rul) (B : RAd) (s : Inn) (A : Adr) (c : Bool) : wpG Try.prog [] ((B.a, cP r.pw) :: rdI s A) 400 7 [ruV r B, inV s A, .bool c] (bl_h r B s A c) (rowI (blS r s c)) (fun ads => .tuple #[inV (blS r s c) (adA ads), .bool (blO r s c)]) = (∀ (b b_1 b_2 : Nat), e1 b_1 28 (cU s.bts = cU s.bts /\ cI s.bws = cI s.bws /\ cI s.bfs = cI s.bfs /\ cI s.bwd = cI s.bwd /\ cB s.sbs = cB s.sbs /\ (SpecG Try.prog [] (rdI s A) (15 : FuncId) #[inV s A] (rowI s) fun ads ↦ inV s (adA ads)) /\ (∀ (e : Ex), e ∈ [] -> e ∈ []) /\ ∀ (a : Option Addr) (cap :
 Nat), AOK a (s.bts.length) -> s.bts.length ≤ cap -> ∀ (a_1 : Option Addr) (cap_1 : Nat), AOK a_1 (s.bws.length) -> s.bws.length ≤ cap_1 -> ∀ (a_2 : Option Addr) (cap_2 : Nat), AOK a_2 (s.bfs.length) -> s.bfs.length ≤ cap_2 -> ∀ (a_3 : Option Addr) (cap_3 : Nat), AOK a_3 (s.bwd.length) ->
 s.bwd.length ≤ cap_3 -> ∀ (a_4 : Option Addr) (cap_4 : Nat), AOK a_4 (s.sbs.length) -> s.sbs.length ≤ cap_4 -> e2 b_2 28 ((e1 b_1 29 ((SpecG Try.prog [] [] (16 : FuncId) #[inV s A, .int .i64 s.bw] [] fun x ↦ Value.bool (exs s s.bw)) /\ (∀ (e : Ex), e ∈ [] -> e ∈ []) /\ ((!exs s s.bw) = true ->
 Value.bool true = Value.bool (!exs s s.bw || rck r != 0) /\ True) /\ ((!exs s s.bw) = false -> e1 b 14 (cP r.pw = cP r.pw /\ (SpecG Try.prog [] [(RAd.a B, cP r.pw)] (17 : FuncId) #[ruV r B] [] fun x ↦ Value.int .i64 (rck r)) /\ (∀ (e : Ex), e ∈ [] -> e ∈ []) /\ Value.bool (rck r != 0) = Value.bool
 (!exs s s.bw || rck r != 0) /\ True)))) /\ ∀ (junk : Nat -> Value), ((!exs s s.bw || rck r != 0) = true -> e1 b_2 28 (e2 b_2 28 (e1 b_2 28 (rqx cU 61 1 s.bts s.bts (rqx cI 3 1 s.bws (if blX r s = false then s.bws else if blO r s c = true then [] else blB s) (rqx cI 3 1 s.bfs (if blO r s c = true
 then blB s else s.bfs) ((3 : Nat) = (3 : Nat) /\ (1 : Nat) = (1 : Nat) /\ s.bwd.length = List.length (if blX r s = true /\ c = true then List.set s.bwd (Int.toNat (s.bw - 1)) (IntKind.i64.wrap (List.getD s.bwd (Int.toNat (s.bw - 1)) (0 : Int) + (1 : Int))) else s.bwd) /\ cI s.bwd = cI (if blX r s =
 true /\ c = true then List.set s.bwd (Int.toNat (s.bw - 1)) (IntKind.i64.wrap (List.getD s.bwd (Int.toNat (s.bw - 1)) (0 : Int) + (1 : Int))) else s.bwd) /\ rqx cB 4 1 s.sbs s.sbs (Value.tuple (Array.mk [.agg (Array.mk [.int .i64 s.sd, .int .i64 s.tg, .int .i64 s.ov, .int .i64 s.rn, .int .i64 s.wk,
 .int .i64 s.e1, .int .i64 s.e2, .int .i64 s.e3, .int .i64 s.e4, .int .i64 s.e5, .int .i64 s.cm, .int .i64 s.io, .int .i64 s.st, .int .i64 s.ot, .slice a (s.bts.length) cap, .int .i64 s.bw, .slice a_1 (s.bws.length) cap_1, .slice a_2 (s.bfs.length) cap_2, .bool s.fr, .slice a_3 (s.bwd.length) cap_3,
 .bool s.fh, .int .i64 s.ba, .int .i64 s.kp, .int .i64 s.ou, .slice a_4 (s.sbs.length) cap_4, .int .i64 s.r1, .int .i64 s.r2, .int .u8 s.en]), .bool false]) = Value.tuple (Array.mk [.agg (Array.mk [.int .i64 s.sd, .int .i64 s.tg, .int .i64 s.ov, .int .i64 s.rn, .int .i64 s.wk, .int .i64 s.e1, .int
 .i64 s.e2, .int .i64 s.e3, .int .i64 s.e4, .int .i64 s.e5, .int .i64 (if blO r s c = true then IntKind.i64.wrap (s.cm + 1) else s.cm), .int .i64 (if blO r s c = true then (0 : Int) else if blX r s = true /\ c = true then IntKind.i64.wrap (s.io + 1) else s.io), .int .i64 s.st, .int .i64 s.ot, .slice
 a (s.bts.length) cap, .int .i64 (if blO r s c = true then (0 : Int) else s.bw), .slice a_1 (List.length (if blX r s = false then s.bws else if blO r s c = true then [] else blB s)) cap_1, .slice a_2 (List.length (if blO r s c = true then blB s else s.bfs)) cap_2, .bool s.fr, .slice a_3 (List.length
 (if blX r s = true /\ c = true then List.set s.bwd (Int.toNat (s.bw - 1)) (IntKind.i64.wrap (List.getD s.bwd (Int.toNat (s.bw - 1)) (0 : Int) + (1 : Int))) else s.bwd)) cap_3, .bool s.fh, .int .i64 (if blX r s = true /\ c = true then IntKind.i64.wrap (s.ba + 1) else s.ba), .int .i64 s.kp, .int .i64
 s.ou, .slice a_4 (s.sbs.length) cap_4, .int .i64 s.r1, .int .i64 s.r2, .int .u8 s.en]), .bool (blO r s c)]))))))))) /\ ((!exs s s.bw || rck r != 0) = false -> b_2 = b_2 /\ b_2 = b_2 /\ cI s.bws = cI s.bws /\ (SpecG Try.prog [] [(a_1, cI s.bws)] (8 : FuncId) #[Value.slice a_1 (s.bws.length) cap_1,
 .int .i64 s.bw] [] fun x ↦ Value.bool (hasL s.bws s.bw)) /\ (∀ (e : Ex), e ∈ [] -> e ∈ []) /\ ((!hasL s.bws s.bw) = true -> b_2 = b_2 /\ b_2 = b_2 /\ ∀ (b_3 : Nat), a_1 = a_1 /\ s.bws.length = s.bws.length /\ cap_1 = cap_1 /\ b_3 = b_3 /\ (s.bws.length + (1 : Nat)) * (9 : Nat) ≤ (140737488355328 :
 Nat) /\ ∀ (g cap_5 : Nat), b_2 = b_2 /\ True /\ (c = true -> b_2 = b_2 /\ b_2 = b_2 /\ (((0 : Int) ≤ IntKind.i64.wrap (s.bw - 1) /\ IntKind.i64.wrap (s.bw - 1) < (↑(s.bwd.length) : Int)) /\ AOK a_3 (s.bwd.length)) /\ bk a_3 = bk a_3 /\ ofs a_3 + Int.toNat (IntKind.i64.wrap (s.bw - 1)) * (1 : Nat) =
 ofs a_3 + Int.toNat (IntKind.i64.wrap (s.bw - 1)) * (1 : Nat) /\ lgo (cI s.bwd) (Int.toNat (IntKind.i64.wrap (s.bw - 1)) * (1 : Nat)) = some (Value.int .i64 (List.getD s.bwd (Int.toNat (IntKind.i64.wrap (s.bw - 1))) (0 : Int))) /\ (((0 : Int) ≤ IntKind.i64.wrap (s.bw - 1) /\ IntKind.i64.wrap (s.bw -
 1) < (↑(s.bwd.length) : Int)) /\ AOK a_3 (s.bwd.length)) /\ bk a_3 = bk a_3 /\ ofs a_3 + Int.toNat (IntKind.i64.wrap (s.bw - 1)) * (1 : Nat) = ofs a_3 + Int.toNat (IntKind.i64.wrap (s.bw - 1)) * (1 : Nat) /\ True /\ lset (cI s.bwd) (Int.toNat (IntKind.i64.wrap (s.bw - 1)) * (1 : Nat)) (Value.int
 .i64 (IntKind.i64.wrap (List.getD s.bwd (Int.toNat (IntKind.i64.wrap (s.bw - 1))) (0 : Int) + (1 : Int)))) = cI (List.set s.bwd (Int.toNat (IntKind.i64.wrap (s.bw - 1))) (IntKind.i64.wrap (List.getD s.bwd (Int.toNat (IntKind.i64.wrap (s.bw - 1))) (0 : Int) + (1 : Int)))) /\ Int.toNat
 (IntKind.i64.wrap (s.bw - 1)) * (1 : Nat) < List.length (cI s.bwd) /\ b_2 = b_2 /\ b_2 = b_2 /\ True /\ b_2 = b_2 /\ b_2 = b_2 /\ True /\ b_2 = b_2 /\ b = b /\ (decide (IntKind.i64.wrap (s.io + 1) < r.q4) = true -> e1 b_2 28 (e2 b_2 28 (e1 b_2 28 (rqx cU 61 1 s.bts s.bts ((3 : Nat) = (3 : Nat) /\ (1
 : Nat) = (1 : Nat) /\ s.bws.length + (1 : Nat) = List.length (if blX r s = false then s.bws else if blO r s c = true then [] else blB s) /\ lapp (cI s.bws) [Value.int .i64 s.bw] = cI (if blX r s = false then s.bws else if blO r s c = true then [] else blB s) /\ rqx cI 3 1 s.bfs (if blO r s c = true
 then blB s else s.bfs) ((3 : Nat) = (3 : Nat) /\ (1 : Nat) = (1 : Nat) /\ s.bwd.length = List.length (if blX r s = true /\ c = true then List.set s.bwd (Int.toNat (s.bw - 1)) (IntKind.i64.wrap (List.getD s.bwd (Int.toNat (s.bw - 1)) (0 : Int) + (1 : Int))) else s.bwd) /\ cI (List.set s.bwd
 (Int.toNat (IntKind.i64.wrap (s.bw - 1))) (IntKind.i64.wrap (List.getD s.bwd (Int.toNat (IntKind.i64.wrap (s.bw - 1))) (0 : Int) + (1 : Int)))) = cI (if blX r s = true /\ c = true then List.set s.bwd (Int.toNat (s.bw - 1)) (IntKind.i64.wrap (List.getD s.bwd (Int.toNat (s.bw - 1)) (0 : Int) + (1 :
 Int))) else s.bwd) /\ rqx cB 4 1 s.sbs s.sbs (Value.tuple (Array.mk [.agg (Array.mk [.int .i64 s.sd, .int .i64 s.tg, .int .i64 s.ov, .int .i64 s.rn, .int .i64 s.wk, .int .i64 s.e1, .int .i64 s.e2, .int .i64 s.e3, .int .i64 s.e4, .int .i64 s.e5, .int .i64 s.cm, .int .i64 (IntKind.i64.wrap (s.io +
 1)), .int .i64 s.st, .int .i64 s.ot, .slice a (s.bts.length) cap, .int .i64 s.bw, .slice (some (Addr.mk g (0 : Nat) none)) (s.bws.length + (1 : Nat)) cap_5, .slice a_2 (s.bfs.length) cap_2, .bool s.fr, .slice a_3 (s.bwd.length) cap_3, .bool s.fh, .int .i64 (IntKind.i64.wrap (s.ba + 1)), .int .i64
 s.kp, .int .i64 s.ou, .slice a_4 (s.sbs.length) cap_4, .int .i64 s.r1, .int .i64 s.r2, .int .u8 s.en]), .bool false]) = Value.tuple (Array.mk [.agg (Array.mk [.int .i64 s.sd, .int .i64 s.tg, .int .i64 s.ov, .int .i64 s.rn, .int .i64 s.wk, .int .i64 s.e1, .int .i64 s.e2, .int .i64 s.e3, .int .i64
 s.e4, .int .i64 s.e5, .int .i64 (if blO r s c = true then IntKind.i64.wrap (s.cm + 1) else s.cm), .int .i64 (if blO r s c = true then (0 : Int) else if blX r s = true /\ c = true then IntKind.i64.wrap (s.io + 1) else s.io), .int .i64 s.st, .int .i64 s.ot, .slice a (s.bts.length) cap, .int .i64 (if
 blO r s c = true then (0 : Int) else s.bw), .slice (some (Addr.mk g (0 : Nat) none)) (List.length (if blX r s = false then s.bws else if blO r s c = true then [] else blB s)) cap_5, .slice a_2 (List.length (if blO r s c = true then blB s else s.bfs)) cap_2, .bool s.fr, .slice a_3 (List.length (if
 blX r s = true /\ c = true then List.set s.bwd (Int.toNat (s.bw - 1)) (IntKind.i64.wrap (List.getD s.bwd (Int.toNat (s.bw - 1)) (0 : Int) + (1 : Int))) else s.bwd)) cap_3, .bool s.fh, .int .i64 (if blX r s = true /\ c = true then IntKind.i64.wrap (s.ba + 1) else s.ba), .int .i64 s.kp, .int .i64
 s.ou, .slice a_4 (s.sbs.length) cap_4, .int .i64 s.r1, .int .i64 s.r2, .int .u8 s.en]), .bool (blO r s c)])))))))) /\ (decide (IntKind.i64.wrap (s.io + 1) < r.q4) = false -> b_2 = b_2 /\ b_2 = b_2 /\ True /\ b_2 = b_2 /\ True /\ b_2 = b_2 /\ e2 b_2 3 (e1 b_2 28 (e2 b_2 28 (e1 b_2 28 (rqx cU 61 1
 s.bts s.bts (List.length (if blX r s = false then s.bws else if blO r s c = true then [] else blB s) = (0 : Nat) /\ cI (if blX r s = false then s.bws else if blO r s c = true then [] else blB s) = [] /\ (1 : Nat) ≤ (1 : Nat) /\ (3 : Nat) = (3 : Nat) /\ (1 : Nat) = (1 : Nat) /\ s.bws.length + (1 :
 Nat) = List.length (if blO r s c = true then blB s else s.bfs) /\ lapp (cI s.bws) [Value.int .i64 s.bw] = cI (if blO r s c = true then blB s else s.bfs) /\ (3 : Nat) = (3 : Nat) /\ (1 : Nat) = (1 : Nat) /\ s.bwd.length = List.length (if blX r s = true /\ c = true then List.set s.bwd (Int.toNat (s.bw
 - 1)) (IntKind.i64.wrap (List.getD s.bwd (Int.toNat (s.bw - 1)) (0 : Int) + (1 : Int))) else s.bwd) /\ cI (List.set s.bwd (Int.toNat (IntKind.i64.wrap (s.bw - 1))) (IntKind.i64.wrap (List.getD s.bwd (Int.toNat (IntKind.i64.wrap (s.bw - 1))) (0 : Int) + (1 : Int)))) = cI (if blX r s = true /\ c =
 true then List.set s.bwd (Int.toNat (s.bw - 1)) (IntKind.i64.wrap (List.getD s.bwd (Int.toNat (s.bw - 1)) (0 : Int) + (1 : Int))) else s.bwd) /\ rqx cB 4 1 s.sbs s.sbs (Value.tuple (Array.mk [.agg (Array.mk [.int .i64 s.sd, .int .i64 s.tg, .int .i64 s.ov, .int .i64 s.rn, .int .i64 s.wk, .int .i64
 s.e1, .int .i64 s.e2, .int .i64 s.e3, .int .i64 s.e4, .int .i64 s.e5, .int .i64 (IntKind.i64.wrap (s.cm + 1)), .int .i64 0, .int .i64 s.st, .int .i64 s.ot, .slice a (s.bts.length) cap, .int .i64 0, .slice none (0 : Nat) (0 : Nat), .slice (some (Addr.mk g (0 : Nat) none)) (s.bws.length + (1 : Nat))
 cap_5, .bool s.fr, .slice a_3 (s.bwd.length) cap_3, .bool s.fh, .int .i64 (IntKind.i64.wrap (s.ba + 1)), .int .i64 s.kp, .int .i64 s.ou, .slice a_4 (s.sbs.length) cap_4, .int .i64 s.r1, .int .i64 s.r2, .int .u8 s.en]), .bool true]) = Value.tuple (Array.mk [.agg (Array.mk [.int .i64 s.sd, .int .i64
 s.tg, .int .i64 s.ov, .int .i64 s.rn, .int .i64 s.wk, .int .i64 s.e1, .int .i64 s.e2, .int .i64 s.e3, .int .i64 s.e4, .int .i64 s.e5, .int .i64 (if blO r s c = true then IntKind.i64.wrap (s.cm + 1) else s.cm), .int .i64 (if blO r s c = true then (0 : Int) else if blX r s = true /\ c = true then
 IntKind.i64.wrap (s.io + 1) else s.io), .int .i64 s.st, .int .i64 s.ot, .slice a (s.bts.length) cap, .int .i64 (if blO r s c = true then (0 : Int) else s.bw), .slice none (List.length (if blX r s = false then s.bws else if blO r s c = true then [] else blB s)) (0 : Nat), .slice (some (Addr.mk g (0 :
 Nat) none)) (List.length (if blO r s c = true then blB s else s.bfs)) cap_5, .bool s.fr, .slice a_3 (List.length (if blX r s = true /\ c = true then List.set s.bwd (Int.toNat (s.bw - 1)) (IntKind.i64.wrap (List.getD s.bwd (Int.toNat (s.bw - 1)) (0 : Int) + (1 : Int))) else s.bwd)) cap_3, .bool s.fh,
 .int .i64 (if blX r s = true /\ c = true then IntKind.i64.wrap (s.ba + 1) else s.ba), .int .i64 s.kp, .int .i64 s.ou, .slice a_4 (s.sbs.length) cap_4, .int .i64 s.r1, .int .i64 s.r2, .int .u8 s.en]), .bool (blO r s c)]))))))))) /\ (c = false -> b_2 = b_2 /\ b = b /\ (decide (s.io < r.q4) = true ->
 e1 b_2 28 (e2 b_2 28 (e1 b_2 28 (rqx cU 61 1 s.bts s.bts ((3 : Nat) = (3 : Nat) /\ (1 : Nat) = (1 : Nat) /\ s.bws.length + (1 : Nat) = List.length (if blX r s = false then s.bws else if blO r s c = true then [] else blB s) /\ lapp (cI s.bws) [Value.int .i64 s.bw] = cI (if blX r s = false then s.bws
 else if blO r s c = true then [] else blB s) /\ rqx cI 3 1 s.bfs (if blO r s c = true then blB s else s.bfs) ((3 : Nat) = (3 : Nat) /\ (1 : Nat) = (1 : Nat) /\ s.bwd.length = List.length (if blX r s = true /\ c = true then List.set s.bwd (Int.toNat (s.bw - 1)) (IntKind.i64.wrap (List.getD s.bwd
 (Int.toNat (s.bw - 1)) (0 : Int) + (1 : Int))) else s.bwd) /\ cI s.bwd = cI (if blX r s = true /\ c = true then List.set s.bwd (Int.toNat (s.bw - 1)) (IntKind.i64.wrap (List.getD s.bwd (Int.toNat (s.bw - 1)) (0 : Int) + (1 : Int))) else s.bwd) /\ rqx cB 4 1 s.sbs s.sbs (Value.tuple (Array.mk [.agg
 (Array.mk [.int .i64 s.sd, .int .i64 s.tg, .int .i64 s.ov, .int .i64 s.rn, .int .i64 s.wk, .int .i64 s.e1, .int .i64 s.e2, .int .i64 s.e3, .int .i64 s.e4, .int .i64 s.e5, .int .i64 s.cm, .int .i64 s.io, .int .i64 s.st, .int .i64 s.ot, .slice a (s.bts.length) cap, .int .i64 s.bw, .slice (some
 (Addr.mk g (0 : Nat) none)) (s.bws.length + (1 : Nat)) cap_5, .slice a_2 (s.bfs.length) cap_2, .bool s.fr, .slice a_3 (s.bwd.length) cap_3, .bool s.fh, .int .i64 s.ba, .int .i64 s.kp, .int .i64 s.ou, .slice a_4 (s.sbs.length) cap_4, .int .i64 s.r1, .int .i64 s.r2, .int .u8 s.en]), .bool false]) =
 Value.tuple (Array.mk [.agg (Array.mk [.int .i64 s.sd, .int .i64 s.tg, .int .i64 s.ov, .int .i64 s.rn, .int .i64 s.wk, .int .i64 s.e1, .int .i64 s.e2, .int .i64 s.e3, .int .i64 s.e4, .int .i64 s.e5, .int .i64 (if blO r s c = true then IntKind.i64.wrap (s.cm + 1) else s.cm), .int .i64 (if blO r s c =
 true then (0 : Int) else if blX r s = true /\ c = true then IntKind.i64.wrap (s.io + 1) else s.io), .int .i64 s.st, .int .i64 s.ot, .slice a (s.bts.length) cap, .int .i64 (if blO r s c = true then (0 : Int) else s.bw), .slice (some (Addr.mk g (0 : Nat) none)) (List.length (if blX r s = false then
 s.bws else if blO r s c = true then [] else blB s)) cap_5, .slice a_2 (List.length (if blO r s c = true then blB s else s.bfs)) cap_2, .bool s.fr, .slice a_3 (List.length (if blX r s = true /\ c = true then List.set s.bwd (Int.toNat (s.bw - 1)) (IntKind.i64.wrap (List.getD s.bwd (Int.toNat (s.bw -
 1)) (0 : Int) + (1 : Int))) else s.bwd)) cap_3, .bool s.fh, .int .i64 (if blX r s = true /\ c = true then IntKind.i64.wrap (s.ba + 1) else s.ba), .int .i64 s.kp, .int .i64 s.ou, .slice a_4 (s.sbs.length) cap_4, .int .i64 s.r1, .int .i64 s.r2, .int .u8 s.en]), .bool (blO r s c)])))))))) /\ (decide
 (s.io < r.q4) = false -> b_2 = b_2 /\ b_2 = b_2 /\ True /\ b_2 = b_2 /\ True /\ b_2 = b_2 /\ e2 b_2 3 (e1 b_2 28 (e2 b_2 28 (e1 b_2 28 (rqx cU 61 1 s.bts s.bts (List.length (if blX r s = false then s.bws else if blO r s c = true then [] else blB s) = (0 : Nat) /\ cI (if blX r s = false then s.bws
 else if blO r s c = true then [] else blB s) = [] /\ (1 : Nat) ≤ (1 : Nat) /\ (3 : Nat) = (3 : Nat) /\ (1 : Nat) = (1 : Nat) /\ s.bws.length + (1 : Nat) = List.length (if blO r s c = true then blB s else s.bfs) /\ lapp (cI s.bws) [Value.int .i64 s.bw] = cI (if blO r s c = true then blB s else s.bfs)
 /\ (3 : Nat) = (3 : Nat) /\ (1 : Nat) = (1 : Nat) /\ s.bwd.length = List.length (if blX r s = true /\ c = true then List.set s.bwd (Int.toNat (s.bw - 1)) (IntKind.i64.wrap (List.getD s.bwd (Int.toNat (s.bw - 1)) (0 : Int) + (1 : Int))) else s.bwd) /\ cI s.bwd = cI (if blX r s = true /\ c = true then
 List.set s.bwd (Int.toNat (s.bw - 1)) (IntKind.i64.wrap (List.getD s.bwd (Int.toNat (s.bw - 1)) (0 : Int) + (1 : Int))) else s.bwd) /\ rqx cB 4 1 s.sbs s.sbs (Value.tuple (Array.mk [.agg (Array.mk [.int .i64 s.sd, .int .i64 s.tg, .int .i64 s.ov, .int .i64 s.rn, .int .i64 s.wk, .int .i64 s.e1, .int
 .i64 s.e2, .int .i64 s.e3, .int .i64 s.e4, .int .i64 s.e5, .int .i64 (IntKind.i64.wrap (s.cm + 1)), .int .i64 0, .int .i64 s.st, .int .i64 s.ot, .slice a (s.bts.length) cap, .int .i64 0, .slice none (0 : Nat) (0 : Nat), .slice (some (Addr.mk g (0 : Nat) none)) (s.bws.length + (1 : Nat)) cap_5, .bool
 s.fr, .slice a_3 (s.bwd.length) cap_3, .bool s.fh, .int .i64 s.ba, .int .i64 s.kp, .int .i64 s.ou, .slice a_4 (s.sbs.length) cap_4, .int .i64 s.r1, .int .i64 s.r2, .int .u8 s.en]), .bool true]) = Value.tuple (Array.mk [.agg (Array.mk [.int .i64 s.sd, .int .i64 s.tg, .int .i64 s.ov, .int .i64 s.rn,
 .int .i64 s.wk, .int .i64 s.e1, .int .i64 s.e2, .int .i64 s.e3, .int .i64 s.e4, .int .i64 s.e5, .int .i64 (if blO r s c = true then IntKind.i64.wrap (s.cm + 1) else s.cm), .int .i64 (if blO r s c = true then (0 : Int) else if blX r s = true /\ c = true then IntKind.i64.wrap (s.io + 1) else s.io),
 .int .i64 s.st, .int .i64 s.ot, .slice a (s.bts.length) cap, .int .i64 (if blO r s c = true then (0 : Int) else s.bw), .slice none (List.length (if blX r s = false then s.bws else if blO r s c = true then [] else blB s)) (0 : Nat), .slice (some (Addr.mk g (0 : Nat) none)) (List.length (if blO r s c
 = true then blB s else s.bfs)) cap_5, .bool s.fr, .slice a_3 (List.length (if blX r s = true /\ c = true then List.set s.bwd (Int.toNat (s.bw - 1)) (IntKind.i64.wrap (List.getD s.bwd (Int.toNat (s.bw - 1)) (0 : Int) + (1 : Int))) else s.bwd)) cap_3, .bool s.fh, .int .i64 (if blX r s = true /\ c =
 true then IntKind.i64.wrap (s.ba + 1) else s.ba), .int .i64 s.kp, .int .i64 s.ou, .slice a_4 (s.sbs.length) cap_4, .int .i64 s.r1, .int .i64 s.r2, .int .u8 s.en]), .bool (blO r s c)])))))))))) /\ ((!hasL s.bws s.bw) = false -> (c = true -> b_2 = b_2 /\ b_2 = b_2 /\ (((0 : Int) ≤ IntKind.i64.wrap
 (s.bw - 1) /\ IntKind.i64.wrap (s.bw - 1) < (↑(s.bwd.length) : Int)) /\ AOK a_3 (s.bwd.length)) /\ bk a_3 = bk a_3 /\ ofs a_3 + Int.toNat (IntKind.i64.wrap (s.bw - 1)) * (1 : Nat) = ofs a_3 + Int.toNat (IntKind.i64.wrap (s.bw - 1)) * (1 : Nat) /\ lgo (cI s.bwd) (Int.toNat (IntKind.i64.wrap (s.bw -
 1)) * (1 : Nat)) = some (Value.int .i64 (List.getD s.bwd (Int.toNat (IntKind.i64.wrap (s.bw - 1))) (0 : Int))) /\ (((0 : Int) ≤ IntKind.i64.wrap (s.bw - 1) /\ IntKind.i64.wrap (s.bw - 1) < (↑(s.bwd.length) : Int)) /\ AOK a_3 (s.bwd.length)) /\ bk a_3 = bk a_3 /\ ofs a_3 + Int.toNat (IntKind.i64.wrap
 (s.bw - 1)) * (1 : Nat) = ofs a_3 + Int.toNat (IntKind.i64.wrap (s.bw - 1)) * (1 : Nat) /\ True /\ lset (cI s.bwd) (Int.toNat (IntKind.i64.wrap (s.bw - 1)) * (1 : Nat)) (Value.int .i64 (IntKind.i64.wrap (List.getD s.bwd (Int.toNat (IntKind.i64.wrap (s.bw - 1))) (0 : Int) + (1 : Int)))) = cI
 (List.set s.bwd (Int.toNat (IntKind.i64.wrap (s.bw - 1))) (IntKind.i64.wrap (List.getD s.bwd (Int.toNat (IntKind.i64.wrap (s.bw - 1))) (0 : Int) + (1 : Int)))) /\ Int.toNat (IntKind.i64.wrap (s.bw - 1)) * (1 : Nat) < List.length (cI s.bwd) /\ b_2 = b_2 /\ b_2 = b_2 /\ True /\ b_2 = b_2 /\ b_2 = b_2
 /\ True /\ b_2 = b_2 /\ b = b /\ (decide (IntKind.i64.wrap (s.io + 1) < r.q4) = true -> e1 b_2 28 (e2 b_2 28 (e1 b_2 28 (rqx cU 61 1 s.bts s.bts (rqx cI 3 1 s.bws (if blX r s = false then s.bws else if blO r s c = true then [] else blB s) (rqx cI 3 1 s.bfs (if blO r s c = true then blB s else s.bfs)
 ((3 : Nat) = (3 : Nat) /\ (1 : Nat) = (1 : Nat) /\ s.bwd.length = List.length (if blX r s = true /\ c = true then List.set s.bwd (Int.toNat (s.bw - 1)) (IntKind.i64.wrap (List.getD s.bwd (Int.toNat (s.bw - 1)) (0 : Int) + (1 : Int))) else s.bwd) /\ cI (List.set s.bwd (Int.toNat (IntKind.i64.wrap
 (s.bw - 1))) (IntKind.i64.wrap (List.getD s.bwd (Int.toNat (IntKind.i64.wrap (s.bw - 1))) (0 : Int) + (1 : Int)))) = cI (if blX r s = true /\ c = true then List.set s.bwd (Int.toNat (s.bw - 1)) (IntKind.i64.wrap (List.getD s.bwd (Int.toNat (s.bw - 1)) (0 : Int) + (1 : Int))) else s.bwd) /\ rqx cB 4
 1 s.sbs s.sbs (Value.tuple (Array.mk [.agg (Array.mk [.int .i64 s.sd, .int .i64 s.tg, .int .i64 s.ov, .int .i64 s.rn, .int .i64 s.wk, .int .i64 s.e1, .int .i64 s.e2, .int .i64 s.e3, .int .i64 s.e4, .int .i64 s.e5, .int .i64 s.cm, .int .i64 (IntKind.i64.wrap (s.io + 1)), .int .i64 s.st, .int .i64
 s.ot, .slice a (s.bts.length) cap, .int .i64 s.bw, .slice a_1 (s.bws.length) cap_1, .slice a_2 (s.bfs.length) cap_2, .bool s.fr, .slice a_3 (s.bwd.length) cap_3, .bool s.fh, .int .i64 (IntKind.i64.wrap (s.ba + 1)), .int .i64 s.kp, .int .i64 s.ou, .slice a_4 (s.sbs.length) cap_4, .int .i64 s.r1, .int
 .i64 s.r2, .int .u8 s.en]), .bool false]) = Value.tuple (Array.mk [.agg (Array.mk [.int .i64 s.sd, .int .i64 s.tg, .int .i64 s.ov, .int .i64 s.rn, .int .i64 s.wk, .int .i64 s.e1, .int .i64 s.e2, .int .i64 s.e3, .int .i64 s.e4, .int .i64 s.e5, .int .i64 (if blO r s c = true then IntKind.i64.wrap
 (s.cm + 1) else s.cm), .int .i64 (if blO r s c = true then (0 : Int) else if blX r s = true /\ c = true then IntKind.i64.wrap (s.io + 1) else s.io), .int .i64 s.st, .int .i64 s.ot, .slice a (s.bts.length) cap, .int .i64 (if blO r s c = true then (0 : Int) else s.bw), .slice a_1 (List.length (if blX
 r s = false then s.bws else if blO r s c = true then [] else blB s)) cap_1, .slice a_2 (List.length (if blO r s c = true then blB s else s.bfs)) cap_2, .bool s.fr, .slice a_3 (List.length (if blX r s = true /\ c = true then List.set s.bwd (Int.toNat (s.bw - 1)) (IntKind.i64.wrap (List.getD s.bwd
 (Int.toNat (s.bw - 1)) (0 : Int) + (1 : Int))) else s.bwd)) cap_3, .bool s.fh, .int .i64 (if blX r s = true /\ c = true then IntKind.i64.wrap (s.ba + 1) else s.ba), .int .i64 s.kp, .int .i64 s.ou, .slice a_4 (s.sbs.length) cap_4, .int .i64 s.r1, .int .i64 s.r2, .int .u8 s.en]), .bool (blO r s
 c)]))))))))) /\ (decide (IntKind.i64.wrap (s.io + 1) < r.q4) = false -> b_2 = b_2 /\ b_2 = b_2 /\ True /\ b_2 = b_2 /\ True /\ b_2 = b_2 /\ e2 b_2 3 (e1 b_2 28 (e2 b_2 28 (e1 b_2 28 (rqx cU 61 1 s.bts s.bts (List.length (if blX r s = false then s.bws else if blO r s c = true then [] else blB s) = (0
 : Nat) /\ cI (if blX r s = false then s.bws else if blO r s c = true then [] else blB s) = [] /\ (1 : Nat) ≤ (1 : Nat) /\ rqx cI 3 1 s.bws (if blO r s c = true then blB s else s.bfs) ((3 : Nat) = (3 : Nat) /\ (1 : Nat) = (1 : Nat) /\ s.bwd.length = List.length (if blX r s = true /\ c = true then
 List.set s.bwd (Int.toNat (s.bw - 1)) (IntKind.i64.wrap (List.getD s.bwd (Int.toNat (s.bw - 1)) (0 : Int) + (1 : Int))) else s.bwd) /\ cI (List.set s.bwd (Int.toNat (IntKind.i64.wrap (s.bw - 1))) (IntKind.i64.wrap (List.getD s.bwd (Int.toNat (IntKind.i64.wrap (s.bw - 1))) (0 : Int) + (1 : Int)))) =
 cI (if blX r s = true /\ c = true then List.set s.bwd (Int.toNat (s.bw - 1)) (IntKind.i64.wrap (List.getD s.bwd (Int.toNat (s.bw - 1)) (0 : Int) + (1 : Int))) else s.bwd) /\ rqx cB 4 1 s.sbs s.sbs (Value.tuple (Array.mk [.agg (Array.mk [.int .i64 s.sd, .int .i64 s.tg, .int .i64 s.ov, .int .i64 s.rn,
 .int .i64 s.wk, .int .i64 s.e1, .int .i64 s.e2, .int .i64 s.e3, .int .i64 s.e4, .int .i64 s.e5, .int .i64 (IntKind.i64.wrap (s.cm + 1)), .int .i64 0, .int .i64 s.st, .int .i64 s.ot, .slice a (s.bts.length) cap, .int .i64 0, .slice none (0 : Nat) (0 : Nat), .slice a_1 (s.bws.length) cap_1, .bool
 s.fr, .slice a_3 (s.bwd.length) cap_3, .bool s.fh, .int .i64 (IntKind.i64.wrap (s.ba + 1)), .int .i64 s.kp, .int .i64 s.ou, .slice a_4 (s.sbs.length) cap_4, .int .i64 s.r1, .int .i64 s.r2, .int .u8 s.en]), .bool true]) = Value.tuple (Array.mk [.agg (Array.mk [.int .i64 s.sd, .int .i64 s.tg, .int
 .i64 s.ov, .int .i64 s.rn, .int .i64 s.wk, .int .i64 s.e1, .int .i64 s.e2, .int .i64 s.e3, .int .i64 s.e4, .int .i64 s.e5, .int .i64 (if blO r s c = true then IntKind.i64.wrap (s.cm + 1) else s.cm), .int .i64 (if blO r s c = true then (0 : Int) else if blX r s = true /\ c = true then
 IntKind.i64.wrap (s.io + 1) else s.io), .int .i64 s.st, .int .i64 s.ot, .slice a (s.bts.length) cap, .int .i64 (if blO r s c = true then (0 : Int) else s.bw), .slice none (List.length (if blX r s = false then s.bws else if blO r s c = true then [] else blB s)) (0 : Nat), .slice a_1 (List.length (if
 blO r s c = true then blB s else s.bfs)) cap_1, .bool s.fr, .slice a_3 (List.length (if blX r s = true /\ c = true then List.set s.bwd (Int.toNat (s.bw - 1)) (IntKind.i64.wrap (List.getD s.bwd (Int.toNat (s.bw - 1)) (0 : Int) + (1 : Int))) else s.bwd)) cap_3, .bool s.fh, .int .i64 (if blX r s = true
 /\ c = true then IntKind.i64.wrap (s.ba + 1) else s.ba), .int .i64 s.kp, .int .i64 s.ou, .slice a_4 (s.sbs.length) cap_4, .int .i64 s.r1, .int .i64 s.r2, .int .u8 s.en]), .bool (blO r s c)])))))))))) /\ (c = false -> b_2 = b_2 /\ b = b /\ (decide (s.io < r.q4) = true -> e1 b_2 28 (e2 b_2 28 (e1 b_2
 28 (rqx cU 61 1 s.bts s.bts (rqx cI 3 1 s.bws (if blX r s = false then s.bws else if blO r s c = true then [] else blB s) (rqx cI 3 1 s.bfs (if blO r s c = true then blB s else s.bfs) ((3 : Nat) = (3 : Nat) /\ (1 : Nat) = (1 : Nat) /\ s.bwd.length = List.length (if blX r s = true /\ c = true then
 List.set s.bwd (Int.toNat (s.bw - 1)) (IntKind.i64.wrap (List.getD s.bwd (Int.toNat (s.bw - 1)) (0 : Int) + (1 : Int))) else s.bwd) /\ cI s.bwd = cI (if blX r s = true /\ c = true then List.set s.bwd (Int.toNat (s.bw - 1)) (IntKind.i64.wrap (List.getD s.bwd (Int.toNat (s.bw - 1)) (0 : Int) + (1 :
 Int))) else s.bwd) /\ rqx cB 4 1 s.sbs s.sbs (Value.tuple (Array.mk [.agg (Array.mk [.int .i64 s.sd, .int .i64 s.tg, .int .i64 s.ov, .int .i64 s.rn, .int .i64 s.wk, .int .i64 s.e1, .int .i64 s.e2, .int .i64 s.e3, .int .i64 s.e4, .int .i64 s.e5, .int .i64 s.cm, .int .i64 s.io, .int .i64 s.st, .int
 .i64 s.ot, .slice a (s.bts.length) cap, .int .i64 s.bw, .slice a_1 (s.bws.length) cap_1, .slice a_2 (s.bfs.length) cap_2, .bool s.fr, .slice a_3 (s.bwd.length) cap_3, .bool s.fh, .int .i64 s.ba, .int .i64 s.kp, .int .i64 s.ou, .slice a_4 (s.sbs.length) cap_4, .int .i64 s.r1, .int .i64 s.r2, .int .u8
 s.en]), .bool false]) = Value.tuple (Array.mk [.agg (Array.mk [.int .i64 s.sd, .int .i64 s.tg, .int .i64 s.ov, .int .i64 s.rn, .int .i64 s.wk, .int .i64 s.e1, .int .i64 s.e2, .int .i64 s.e3, .int .i64 s.e4, .int .i64 s.e5, .int .i64 (if blO r s c = true then IntKind.i64.wrap (s.cm + 1) else s.cm),
 .int .i64 (if blO r s c = true then (0 : Int) else if blX r s = true /\ c = true then IntKind.i64.wrap (s.io + 1) else s.io), .int .i64 s.st, .int .i64 s.ot, .slice a (s.bts.length) cap, .int .i64 (if blO r s c = true then (0 : Int) else s.bw), .slice a_1 (List.length (if blX r s = false then s.bws
 else if blO r s c = true then [] else blB s)) cap_1, .slice a_2 (List.length (if blO r s c = true then blB s else s.bfs)) cap_2, .bool s.fr, .slice a_3 (List.length (if blX r s = true /\ c = true then List.set s.bwd (Int.toNat (s.bw - 1)) (IntKind.i64.wrap (List.getD s.bwd (Int.toNat (s.bw - 1)) (0
 : Int) + (1 : Int))) else s.bwd)) cap_3, .bool s.fh, .int .i64 (if blX r s = true /\ c = true then IntKind.i64.wrap (s.ba + 1) else s.ba), .int .i64 s.kp, .int .i64 s.ou, .slice a_4 (s.sbs.length) cap_4, .int .i64 s.r1, .int .i64 s.r2, .int .u8 s.en]), .bool (blO r s c)]))))))))) /\ (decide (s.io <
 r.q4) = false -> b_2 = b_2 /\ b_2 = b_2 /\ True /\ b_2 = b_2 /\ True /\ b_2 = b_2 /\ e2 b_2 3 (e1 b_2 28 (e2 b_2 28 (e1 b_2 28 (rqx cU 61 1 s.bts s.bts (List.length (if blX r s = false then s.bws else if blO r s c = true then [] else blB s) = (0 : Nat) /\ cI (if blX r s = false then s.bws else if
 blO r s c = true then [] else blB s) = [] /\ (1 : Nat) ≤ (1 : Nat) /\ rqx cI 3 1 s.bws (if blO r s c = true then blB s else s.bfs) ((3 : Nat) = (3 : Nat) /\ (1 : Nat) = (1 : Nat) /\ s.bwd.length = List.length (if blX r s = true /\ c = true then List.set s.bwd (Int.toNat (s.bw - 1)) (IntKind.i64.wrap
 (List.getD s.bwd (Int.toNat (s.bw - 1)) (0 : Int) + (1 : Int))) else s.bwd) /\ cI s.bwd = cI (if blX r s = true /\ c = true then List.set s.bwd (Int.toNat (s.bw - 1)) (IntKind.i64.wrap (List.getD s.bwd (Int.toNat (s.bw - 1)) (0 : Int) + (1 : Int))) else s.bwd) /\ rqx cB 4 1 s.sbs s.sbs (Value.tuple
 (Array.mk [.agg (Array.mk [.int .i64 s.sd, .int .i64 s.tg, .int .i64 s.ov, .int .i64 s.rn, .int .i64 s.wk, .int .i64 s.e1, .int .i64 s.e2, .int .i64 s.e3, .int .i64 s.e4, .int .i64 s.e5, .int .i64 (IntKind.i64.wrap (s.cm + 1)), .int .i64 0, .int .i64 s.st, .int .i64 s.ot, .slice a (s.bts.length)
 cap, .int .i64 0, .slice none (0 : Nat) (0 : Nat), .slice a_1 (s.bws.length) cap_1, .bool s.fr, .slice a_3 (s.bwd.length) cap_3, .bool s.fh, .int .i64 s.ba, .int .i64 s.kp, .int .i64 s.ou, .slice a_4 (s.sbs.length) cap_4, .int .i64 s.r1, .int .i64 s.r2, .int .u8 s.en]), .bool true]) = Value.tuple
 (Array.mk [.agg (Array.mk [.int .i64 s.sd, .int .i64 s.tg, .int .i64 s.ov, .int .i64 s.rn, .int .i64 s.wk, .int .i64 s.e1, .int .i64 s.e2, .int .i64 s.e3, .int .i64 s.e4, .int .i64 s.e5, .int .i64 (if blO r s c = true then IntKind.i64.wrap (s.cm + 1) else s.cm), .int .i64 (if blO r s c = true then
 (0 : Int) else if blX r s = true /\ c = true then IntKind.i64.wrap (s.io + 1) else s.io), .int .i64 s.st, .int .i64 s.ot, .slice a (s.bts.length) cap, .int .i64 (if blO r s c = true then (0 : Int) else s.bw), .slice none (List.length (if blX r s = false then s.bws else if blO r s c = true then []
 else blB s)) (0 : Nat), .slice a_1 (List.length (if blO r s c = true then blB s else s.bfs)) cap_1, .bool s.fr, .slice a_3 (List.length (if blX r s = true /\ c = true then List.set s.bwd (Int.toNat (s.bw - 1)) (IntKind.i64.wrap (List.getD s.bwd (Int.toNat (s.bw - 1)) (0 : Int) + (1 : Int))) else
 s.bwd)) cap_3, .bool s.fh, .int .i64 (if blX r s = true /\ c = true then IntKind.i64.wrap (s.ba + 1) else s.ba), .int .i64 s.kp, .int .i64 s.ou, .slice a_4 (s.sbs.length) cap_4, .int .i64 s.r1, .int .i64 s.r2, .int .u8 s.en]), .bool (blO r s c)]))))))))))))))) := by kernel_rfl
set_option maxHeartbeats 4000000 in
theorem bl_sp (r : Rul) (B : RAd) (s : Inn) (A : Adr) (c : Bool) (hB : AOK B.a r.pw.length) (hl : r.pw.length ≤ 1000000) (hn : r.nm.size ≤ 1000000) (hA : OkI s A) : SpecG Try.prog [] ((B.a, cP r.pw) :: rdI s A) 7 #[ruV r B, inV s A, .bool c] (rowI (blS r s c)) (fun ads => .tuple #[inV (blS r s c) (adA ads), .bool (blO r s c)]) := by
  refine specG_of (h := bl_h r B s A c) (?_ : wpG Try.prog [] ((B.a, cP r.pw) :: rdI s A) 400 7 [ruV r B, inV s A, .bool c] (bl_h r B s A c) (rowI (blS r s c)) (fun ads => .tuple #[inV (blS r s c) (adA ads), .bool (blO r s c)]))
  rw [bl_x]
  (repeat' (first | with_reducible exact rfl | exact trivial | with_reducible assumption | exact sex_sp _ _ _ | exact rch_sp _ _ hB hl hn | exact cnt_sp _ _ _ _ (by assumption) hA.l2 | exact fin_sp _ _ hA | exact cU_len _ | exact cI_len _ | exact cB_len _ | exact cU_one _ | exact cI_one _ | exact cB_one _ | exact (fun _ h => h) | exact (fun _ h => (List.not_mem_nil h).elim) | (with_reducible refine e1_in ?_) | (with_reducible refine e2_in ?_) | (with_reducible refine lx_in (Nat.le_of_ble_eq_true rfl) ?_) | (with_reducible refine rqx_rf ?_) | (with_reducible refine rqx_in ?_ ?_ ?_) | (with_reducible apply And.intro) | (with_reducible intro _)))
  all_goals (try (first | (simp only [*, Bool.and_true, Bool.true_and, Bool.and_false, Bool.false_and, Bool.or_true, Bool.true_or, Bool.or_false, Bool.false_or, Bool.not_true, Bool.not_false, cond_true, cond_false]; done) | exact hA.k4 | exact Nat.le_refl _))
  all_goals (try simp only [rx_e] at *)
  all_goals (try (have hh := ‹(!exs s s.bw || rck r != 0) = true›; obtain ⟨h1, h2⟩ := bx_f hh; simp only [h1, h2, if_true, if_false, Bool.false_eq_true, false_and]; first | done | rfl))
  all_goals (try (have hh := ‹(!exs s s.bw || rck r != 0) = false›; obtain ⟨hX, hE⟩ := bx_t hh; have he := wd1 hE hA.l4; have h1 := exs_in hE; have h4 := hA.l4; have h2 := hA.l2; (try simp only [he, cI_app] at *); first | omega | (refine cI_get ?_; omega) | exact cI_set _ _ _ | (simp only [cI_len]; omega) | (simp_all [blO, blI, blB, bqd, cI_nil]; done)))
  all_goals first | (simp only [decide_eq_true_eq, decide_eq_false_iff_not] at *; simp_all; done) | trace_state
end Go.Proofs.Ytjdldofgkhibnaa
