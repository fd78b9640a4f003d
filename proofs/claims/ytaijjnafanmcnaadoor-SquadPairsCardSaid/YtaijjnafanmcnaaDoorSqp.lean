/- Layer 6 (squad): the first error of two sides, of both. -/
import Derived.Test.YtaijjnafanmcnaaDoorVz
import Derived.KernelRfl
import Derived.Test.YtaijjnafanmcnaaDoorProg
import Derived.Test.YtaijjnafanmcnaaDoorRda
import Derived.Test.YtaijjnafanmcnaaDoorRub
import Derived.Test.YtaijjnafanmcnaaDoorRubr
import Derived.Test.YtaijjnafanmcnaaDoorSqw
import Derived.Test.YtaijjnafanmcnaaDoorSqa
set_option linter.unusedSimpArgs false
set_option linter.unusedVariables false
set_option maxRecDepth 100000
namespace Go.Proofs.YtaijjnafanmcnaaDoor
open Go.RowKit


theorem aokq (b n : Nat) : AOK (some ⟨b, 0, none⟩) n := ⟨(fun h => by cases h), (fun _ q hq => by injection hq with hq; subst hq; rfl)⟩
/-- No player of the one side plays in the other. -/
def djB (l m : List ByteArray) : Bool := l.all fun y => fnd m y == -1
def dI (l m : List ByteArray) (i : Nat) : Prop := i ≤ l.length ∧ ∀ y ∈ l.take i, fnd m y = -1
theorem dI_0 (l m : List ByteArray) : dI l m 0 := ⟨Nat.zero_le _, fun y h => by simp at h⟩
theorem fnd_np {m : List ByteArray} {y : ByteArray} (h : ¬ fnd m y + 1 > 0) : fnd m y = -1 := by have := fnd_lo m y; omega
theorem dI_step {l m : List ByteArray} {i : Nat} (h : dI l m i) (hi : i < l.length) (hn : ¬ fnd m (gS l i) + 1 > 0) : dI l m (i + 1) := by
  refine ⟨hi, fun y hm => ?_⟩
  rw [List.take_add_one, List.getElem?_eq_getElem hi, List.mem_append] at hm
  rcases hm with hm | hm
  · exact h.2 y hm
  · rw [gS, List.getD_eq_getElem?_getD, List.getElem?_eq_getElem hi] at hn
    simp at hm
    rw [hm]
    exact fnd_np hn
theorem dj_hit {l m : List ByteArray} {i : Nat} (hi : i < l.length) (h : fnd m (gS l i) + 1 > 0) : djB l m = false := by
  unfold djB
  rw [List.all_eq_false]
  refine ⟨l[i], List.getElem_mem _, ?_⟩
  rw [gS, List.getD_eq_getElem?_getD, List.getElem?_eq_getElem hi] at h
  simp at h ⊢
  omega
theorem dj_no {l m : List ByteArray} {i : Nat} (h : dI l m i) (hi : ¬ (i : Int) < l.length) : djB l m = true := by
  have e : i = l.length := by have := h.1; omega
  have := h.2
  rw [e, List.take_length] at this
  unfold djB
  rw [List.all_eq_true]
  intro y hy
  rw [this y hy]
  rfl
theorem dj_sym (l m : List ByteArray) : djB l m = djB m l := by
  have one : ∀ l m : List ByteArray, djB l m = true → djB m l = true := by
    intro l m h
    unfold djB at h ⊢
    rw [List.all_eq_true] at h ⊢
    intro y hy
    rw [beq_iff_eq]
    refine fnd_no fun z hz e => ?_
    subst e
    have := h z hz
    rw [beq_iff_eq] at this
    exact fnd_mem this z hy rfl
  exact Bool.eq_iff_iff.2 ⟨one l m, one m l⟩
/-- The first error of two sides. -/
def prK (r : Rul) (a b : Squ) : Int := if rck r ≠ 0 then rck r else if sqk a ≠ 0 then sqk a else if sqk b ≠ 0 then sqk b else if (a.pl.length : Int) ≠ r.q1 ∨ (b.pl.length : Int) ≠ r.q1 then 1 else if (ByteArray.toList a.nm == ByteArray.toList b.nm) = true ∨ djB a.pl b.pl = false then 7 else 0
theorem prK_sym (r : Rul) (a b : Squ) : (prK r a b == 0) = (prK r b a == 0) := by
  have e : (ByteArray.toList a.nm == ByteArray.toList b.nm) = (ByteArray.toList b.nm == ByteArray.toList a.nm) := BEq.comm
  unfold prK
  rw [e, dj_sym b.pl a.pl]
  by_cases h0 : rck r ≠ 0
  · rw [if_pos h0, if_pos h0]
  · rw [if_neg h0, if_neg h0]
    by_cases h1 : sqk a ≠ 0
    · by_cases h2 : sqk b ≠ 0
      · rw [if_pos h1, if_pos h2, beq_eq_false_iff_ne.2 h1, beq_eq_false_iff_ne.2 h2]
      · rw [if_pos h1, if_neg h2, if_pos h1]
    · by_cases h2 : sqk b ≠ 0
      · rw [if_neg h1, if_pos h2, if_pos h2]
      · rw [if_neg h1, if_neg h2, if_neg h2, if_neg h1]
        by_cases h3 : (a.pl.length : Int) ≠ r.q1 <;> by_cases h4 : (b.pl.length : Int) ≠ r.q1 <;> simp_all
@[reducible] def ifL (l m : List ByteArray) : LoopR := ⟨Nat, fun i => [(8, .int .i64 i)], [], fun _ => [], dI l m, fun i => l.length - i, []⟩
@[reducible] def prL (l m : List ByteArray) : LoopR := ⟨Nat, fun i => [(49, .int .i64 i)], [], fun _ => [], dI l m, fun i => l.length - i, []⟩

def prp_h (r : Rul) (B : RAd) (a : Squ) (A : RAd) (b : Squ) (D : RAd) : Hint := ho 3 14 (.specg [] [0] [cP r.pw] [] (fun ads0 x ↦ Value.int .i64 (rck r)) (.pl (.split (.perm [] .nil) (ho 4 4 (ho 5 4 (.pl (.rounds 64 (.lit (.ix (ho 6 4 (ho 7 8 (.specg [] [1] [cS (Squ.pl a)] [] (fun ads0 x ↦ Value.int .i64 (sqk a)) (.pl (.split (.perm [] .nil) (.lit (.ix (ho 6 4 (ho 8 8 (.specg []
 [2] [cS (Squ.pl b)] [] (fun ads0 x ↦ Value.int .i64 (sqk b)) (.pl (.split (.perm [] .nil) (.lit (.ob 4 (.pl (.ob 3 (.pl (.split (hl 7 (.perm [] .nil)) (.lit (.ob 5 (.lit (.pl (.lit (.lit (.ob 3 (.lit (.pl (.lit (.split (.perm [] .nil) (.ob 4 (.ob 5 (.pl (.split (hl 5 (.perm [] .nil)) (.lit (.ob 4
 (.lit (.lit (.inl (.inl (.pl (.inv (ifL (Squ.pl a) (Squ.pl b)) fun x0 ↦ .split (.ix (.lst (1 : Nat) (x0 * (1 : Nat)) (Value.string (gS (Squ.pl a) x0)) (.inl (ho 5 4 (.specg [] [2] [cS (Squ.pl b)] [] (fun ads0 x ↦ Value.int .i64 (fnd (Squ.pl b) (gS (Squ.pl a) x0) + 1)) (.split (.lit (.split (.perm []
 .nil) (.perm [] .nil))) (.perm [] .nil))))))) (.lit (.lit (.perm [] .nil)))))))))))))))))))))))))))))))))))))))))))))))))))))
theorem prp_x (r : Rul) (B : RAd) (a : Squ) (A : RAd) (b : Squ) (D : RAd) : wpG Tryd.prog [] ([(B.a, cP r.pw), (A.a, cS a.pl), (D.a, cS b.pl)]) 400 18 [ruV r B, sqV a A, sqV b D] (prp_h r B a A b D) ([]) (fun _ => .int .i64 (prK r a b)) = (∀ (b_1 b_2 b_3 : Nat), e1 b_1 14 (cP r.pw = cP r.pw /\ (SpecG Tryd.prog [] [(RAd.a B, cP r.pw)] (33 : FuncId) #[ruV r B] [] fun x ↦ Value.int .i64 (rck r)) /\ (∀ (e : Ex), e ∈ [] -> e ∈ []) /\ ((rck r != 0) = true -> Value.int .i64 (rck r) = Value.int .i64 (prK r a b)) /\ ((rck r != 0) = false -> e1
 b_2 4 (e1 b_3 4 (∀ (b_4 : Nat), (((0 : Int) ≤ (0 : Int) /\ (0 : Int) < (2 : Int)) /\ AOK (some (Addr.mk b_4 (0 : Nat) none)) (2 : Nat)) /\ e1 b_4 4 (∀ (b_5 : Nat), e2 b_5 4 (e1 b_5 4 (cS (Squ.pl a) = cS (Squ.pl a) /\ (SpecG Tryd.prog [] [(RAd.a A, cS (Squ.pl a))] (12 : FuncId) #[sqV a A] [] fun x ↦
 Value.int .i64 (sqk a)) /\ (∀ (e : Ex), e ∈ [] -> e ∈ []) /\ ((sqk a != 0) = true -> Value.int .i64 (sqk a) = Value.int .i64 (prK r a b)) /\ ((sqk a != 0) = false -> (((0 : Int) ≤ (1 : Int) /\ (1 : Int) < (2 : Int)) /\ AOK (some (Addr.mk b_4 (0 : Nat) none)) (2 : Nat)) /\ e1 b_4 4 (∀ (b_6 : Nat), e2
 b_6 4 (e1 b_6 4 (cS (Squ.pl b) = cS (Squ.pl b) /\ (SpecG Tryd.prog [] [(RAd.a D, cS (Squ.pl b))] (12 : FuncId) #[sqV b D] [] fun x ↦ Value.int .i64 (sqk b)) /\ (∀ (e : Ex), e ∈ [] -> e ∈ []) /\ ((sqk b != 0) = true -> Value.int .i64 (sqk b) = Value.int .i64 (prK r a b)) /\ ((sqk b != 0) = false ->
 b_2 = b_2 /\ b_1 = b_1 /\ (((↑(List.length (Squ.pl a)) : Int) != r.q1) = true -> Value.int .i64 1 = Value.int .i64 (prK r a b)) /\ (((↑(List.length (Squ.pl a)) : Int) != r.q1) = false -> b_3 = b_3 /\ b_1 = b_1 /\ (((↑(List.length (Squ.pl b)) : Int) != r.q1) = true -> Value.int .i64 1 = Value.int
 .i64 (prK r a b)) /\ (((↑(List.length (Squ.pl b)) : Int) != r.q1) = false -> b_2 = b_2 /\ b_3 = b_3 /\ ((ByteArray.toList (Squ.nm a) == ByteArray.toList (Squ.nm b)) = true -> Value.int .i64 7 = Value.int .i64 (prK r a b)) /\ ((ByteArray.toList (Squ.nm a) == ByteArray.toList (Squ.nm b)) = false ->
 b_2 = b_2 /\ (∃ x, dI (Squ.pl a) (Squ.pl b) x /\ Value.int .i64 0 = Value.int .i64 (↑x : Int) /\ True) /\ ∀ (x0 : Nat), dI (Squ.pl a) (Squ.pl b) x0 -> ∀ (junk : Nat -> Value), (decide ((↑x0 : Int) < (↑(List.length (Squ.pl a)) : Int)) = true -> (((0 : Int) ≤ (↑x0 : Int) /\ (↑x0 : Int) <
 (↑(List.length (Squ.pl a)) : Int)) /\ AOK (RAd.a A) (List.length (Squ.pl a))) /\ bk (RAd.a A) = bk (RAd.a A) /\ ofs (RAd.a A) + x0 * (1 : Nat) = ofs (RAd.a A) + x0 * (1 : Nat) /\ lgo (cS (Squ.pl a)) (x0 * (1 : Nat)) = some (Value.string (gS (Squ.pl a) x0)) /\ e1 b_3 4 (cS (Squ.pl b) = cS (Squ.pl b)
 /\ (SpecG Tryd.prog [] [(RAd.a D, cS (Squ.pl b))] (14 : FuncId) #[sqV b D, .string (gS (Squ.pl a) x0)] [] fun x ↦ Value.int .i64 (fnd (Squ.pl b) (gS (Squ.pl a) x0) + 1)) /\ (∀ (e : Ex), e ∈ [] -> e ∈ []) /\ (decide (fnd (Squ.pl b) (gS (Squ.pl a) x0) + 1 > (0 : Int)) = true -> (decide ((↑x0 : Int) ≥
 (0 : Int)) = true -> Value.int .i64 7 = Value.int .i64 (prK r a b)) /\ (decide ((↑x0 : Int) ≥ (0 : Int)) = false -> Value.int .i64 0 = Value.int .i64 (prK r a b))) /\ (decide (fnd (Squ.pl b) (gS (Squ.pl a) x0) + 1 > (0 : Int)) = false -> ∃ y, dI (Squ.pl a) (Squ.pl b) y /\ List.length (Squ.pl a) - y
 < List.length (Squ.pl a) - x0 /\ Value.int .i64 (IntKind.i64.wrap ((↑x0 : Int) + (1 : Int))) = Value.int .i64 (↑y : Int) /\ True))) /\ (decide ((↑x0 : Int) < (↑(List.length (Squ.pl a)) : Int)) = false -> Value.int .i64 0 = Value.int .i64 (prK r a b)))))))))))))))))) := by kernel_rfl
set_option maxHeartbeats 4000000 in
theorem prp_sp (r : Rul) (B : RAd) (a : Squ) (A : RAd) (b : Squ) (D : RAd) (hB : AOK B.a r.pw.length) (hl : r.pw.length ≤ 1000000) (hn : r.nm.size ≤ 1000000) (ha : AOK A.a a.pl.length) (ha1 : a.pl.length ≤ A.c) (ha2 : a.pl.length ≤ 1000000) (ha3 : a.nm.size ≤ 1000000) (ha4 : ∀ x ∈ a.pl, x.size ≤ 1000000) (hd : AOK D.a b.pl.length) (hd1 : b.pl.length ≤ D.c) (hd2 : b.pl.length ≤ 1000000) (hd3 : b.nm.size ≤ 1000000) (hd4 : ∀ x ∈ b.pl, x.size ≤ 1000000) : SpecG Tryd.prog [] ([(B.a, cP r.pw), (A.a, cS a.pl), (D.a, cS b.pl)]) 18 #[ruV r B, sqV a A, sqV b D] ([]) (fun _ => .int .i64 (prK r a b)) := by
  refine specG_of (h := prp_h r B a A b D) (?_ : wpG Tryd.prog [] ([(B.a, cP r.pw), (A.a, cS a.pl), (D.a, cS b.pl)]) 400 18 [ruV r B, sqV a A, sqV b D] (prp_h r B a A b D) ([]) (fun _ => .int .i64 (prK r a b)))
  rw [prp_x]
  (repeat' (first | with_reducible exact rfl | exact trivial | with_reducible assumption | (with_reducible exact rch_sp _ _ hB hl hn) | (with_reducible exact sch_sp _ _ ha ha1 ha2 ha3 ha4) | (with_reducible exact sch_sp _ _ hd hd1 hd2 hd3 hd4) | (with_reducible exact fds_sp _ _ _ hd hd2) | exact cU_len _ | exact cI_len _ | exact cB_len _ | exact cU_one _ | exact cI_one _ | exact cB_one _ | exact (fun _ h => h) | exact (fun _ h => (List.not_mem_nil h).elim) | exact aokq _ _ | exact cS_len _ | exact cS_one _ | (with_reducible refine e1_in ?_) | (with_reducible refine e2_in ?_) | (with_reducible refine lx_in (Nat.le_of_ble_eq_true rfl) ?_) | (with_reducible refine rqx_rf ?_) | (with_reducible refine rqx_in ?_ ?_ ?_) | (with_reducible apply And.intro) | (with_reducible intro _)))
  all_goals (try simp only [Int.toNat_natCast] at *)
  all_goals first
    | (simp only [*, Bool.and_true, Bool.true_and, Bool.and_false, Bool.false_and, Bool.or_true, Bool.true_or, Bool.or_false, Bool.false_or, Bool.not_true, Bool.not_false, cond_true, cond_false]; done)
    | exact ⟨0, dI_0 _ _, rfl, trivial⟩
    | omega | decide
    | (have hf := of_decide_eq_true ‹decide (((_ : Nat) : Int) < ((_ : Nat) : Int)) = true›; have hf2 := Int.ofNat_lt.1 hf; have hx := ‹dI _ _ _›; first
        | omega
        | (refine cS_get ?_; omega)
        | (have h2 := of_decide_eq_true ‹decide (fnd _ _ + 1 > 0) = true›; have e := dj_hit hf2 h2; (refine congrArg (Value.int .i64) ?_; unfold prK; (try (simp only [Bool.not_eq_true', Bool.not_eq_false', Bool.or_eq_true, Bool.or_eq_false_iff, Bool.and_eq_true, Bool.and_eq_false_iff, decide_eq_true_eq, decide_eq_false_iff_not, bne_iff_ne, bne_eq_false_iff_eq, ne_eq, Decidable.not_not] at *)); (repeat' split) <;> first | rfl | omega | (simp_all; done) | (exfalso; simp_all; omega)))
        | (have h2 := of_decide_eq_false ‹decide (fnd _ _ + 1 > 0) = false›; exact ⟨_, dI_step hx hf2 h2, (by show _ - (_ + 1) < _; omega), (by rw [IntWalk.i64_in _ (by omega)]; rfl), trivial⟩))
    | (have hf := of_decide_eq_false ‹decide (((_ : Nat) : Int) < ((_ : Nat) : Int)) = false›; have hx := ‹dI _ _ _›; have e := dj_no hx hf; (refine congrArg (Value.int .i64) ?_; unfold prK; (try (simp only [Bool.not_eq_true', Bool.not_eq_false', Bool.or_eq_true, Bool.or_eq_false_iff, Bool.and_eq_true, Bool.and_eq_false_iff, decide_eq_true_eq, decide_eq_false_iff_not, bne_iff_ne, bne_eq_false_iff_eq, ne_eq, Decidable.not_not] at *)); (repeat' split) <;> first | rfl | omega | (simp_all; done) | (exfalso; simp_all; omega)))
    | (refine congrArg (Value.int .i64) ?_; unfold prK; (try (simp only [Bool.not_eq_true', Bool.not_eq_false', Bool.or_eq_true, Bool.or_eq_false_iff, Bool.and_eq_true, Bool.and_eq_false_iff, decide_eq_true_eq, decide_eq_false_iff_not, bne_iff_ne, bne_eq_false_iff_eq, ne_eq, Decidable.not_not] at *)); (repeat' split) <;> first | rfl | omega | (simp_all; done) | (exfalso; simp_all; omega))
    | trace_state
def prr_h (r : Rul) (B : RAd) (a : Squ) (A : RAd) (b : Squ) (D : RAd) : Hint := ho 3 14 (.specg [] [0] [cP r.pw] [] (fun ads0 x ↦ Value.int .i64 (rck r)) (.pl (.split (.perm [] .nil) (ho 4 4 (.specg [] [1] [cS (Squ.pl a)] [] (fun ads0 x ↦ Value.int .i64 (sqk a)) (.pl (.split (.perm [] .nil) (ho 5 4 (.specg [] [2] [cS (Squ.pl b)] [] (fun ads0 x ↦ Value.int .i64 (sqk b)) (.pl
 (.split (.perm [] .nil) (.cut [((40 : Nat), .bool ((↑(List.length (Squ.pl a)) : Int) != r.q1 || (↑(List.length (Squ.pl b)) : Int) != r.q1))] (.ob 4 (.pl (.ob 3 (.pl (.split (hl 5 (.lit .nil)) (.lit (.ob 5 (.lit (.pl (.lit (.lit (.ob 3 (.lit (.pl (.lit .nil))))))))))))))) (.split (.perm [] .nil) (.ob
 4 (.ob 5 (.pl (.split (.perm [] .nil) (.ob 4 (.pl (.inv (prL (Squ.pl a) (Squ.pl b)) fun x0 ↦ .split (.ix (.lst (1 : Nat) (x0 * (1 : Nat)) (Value.string (gS (Squ.pl a) x0)) (ho 5 4 (.specg [] [2] [cS (Squ.pl b)] [] (fun ads0 x ↦ Value.int .i64 (fnd (Squ.pl b) (gS (Squ.pl a) x0) + 1)) (.split (.perm
 [] .nil) (.perm [] .nil)))))) (.perm [] .nil)))))))))))))))))))))
theorem prr_x (r : Rul) (B : RAd) (a : Squ) (A : RAd) (b : Squ) (D : RAd) : wpG Tryd.prog [] ([(B.a, cP r.pw), (A.a, cS a.pl), (D.a, cS b.pl)]) 400 19 [ruV r B, sqV a A, sqV b D] (prr_h r B a A b D) ([]) (fun _ => .int .i64 (prK r a b)) = (∀ (b_1 b_2 b_3 : Nat), e1 b_1 14 (cP r.pw = cP r.pw /\ (SpecG Tryd.prog [] [(RAd.a B, cP r.pw)] (36 : FuncId) #[ruV r B] [] fun x ↦ Value.int .i64 (rck r)) /\ (∀ (e : Ex), e ∈ [] -> e ∈ []) /\ ((rck r != 0) = true -> Value.int .i64 (rck r) = Value.int .i64 (prK r a b)) /\ ((rck r != 0) = false -> e1
 b_2 4 (cS (Squ.pl a) = cS (Squ.pl a) /\ (SpecG Tryd.prog [] [(RAd.a A, cS (Squ.pl a))] (13 : FuncId) #[sqV a A] [] fun x ↦ Value.int .i64 (sqk a)) /\ (∀ (e : Ex), e ∈ [] -> e ∈ []) /\ ((sqk a != 0) = true -> Value.int .i64 (sqk a) = Value.int .i64 (prK r a b)) /\ ((sqk a != 0) = false -> e1 b_3 4 (cS
 (Squ.pl b) = cS (Squ.pl b) /\ (SpecG Tryd.prog [] [(RAd.a D, cS (Squ.pl b))] (13 : FuncId) #[sqV b D] [] fun x ↦ Value.int .i64 (sqk b)) /\ (∀ (e : Ex), e ∈ [] -> e ∈ []) /\ ((sqk b != 0) = true -> Value.int .i64 (sqk b) = Value.int .i64 (prK r a b)) /\ ((sqk b != 0) = false -> (b_2 = b_2 /\ b_1 =
 b_1 /\ (((↑(List.length (Squ.pl a)) : Int) != r.q1) = true -> Value.bool true = Value.bool ((↑(List.length (Squ.pl a)) : Int) != r.q1 || (↑(List.length (Squ.pl b)) : Int) != r.q1) /\ True) /\ (((↑(List.length (Squ.pl a)) : Int) != r.q1) = false -> b_3 = b_3 /\ b_1 = b_1 /\ Value.bool ((↑(List.length
 (Squ.pl b)) : Int) != r.q1) = Value.bool ((↑(List.length (Squ.pl a)) : Int) != r.q1 || (↑(List.length (Squ.pl b)) : Int) != r.q1) /\ True)) /\ ∀ (junk : Nat -> Value), (((↑(List.length (Squ.pl a)) : Int) != r.q1 || (↑(List.length (Squ.pl b)) : Int) != r.q1) = true -> Value.int .i64 1 = Value.int
 .i64 (prK r a b)) /\ (((↑(List.length (Squ.pl a)) : Int) != r.q1 || (↑(List.length (Squ.pl b)) : Int) != r.q1) = false -> b_2 = b_2 /\ b_3 = b_3 /\ ((ByteArray.toList (Squ.nm a) == ByteArray.toList (Squ.nm b)) = true -> Value.int .i64 7 = Value.int .i64 (prK r a b)) /\ ((ByteArray.toList (Squ.nm a)
 == ByteArray.toList (Squ.nm b)) = false -> b_2 = b_2 /\ (∃ x, dI (Squ.pl a) (Squ.pl b) x /\ Value.int .i64 0 = Value.int .i64 (↑x : Int) /\ True) /\ ∀ (x0 : Nat), dI (Squ.pl a) (Squ.pl b) x0 -> ∀ (junk : Nat -> Value), (decide ((↑x0 : Int) < (↑(List.length (Squ.pl a)) : Int)) = true -> (((0 : Int) ≤
 (↑x0 : Int) /\ (↑x0 : Int) < (↑(List.length (Squ.pl a)) : Int)) /\ AOK (RAd.a A) (List.length (Squ.pl a))) /\ bk (RAd.a A) = bk (RAd.a A) /\ ofs (RAd.a A) + x0 * (1 : Nat) = ofs (RAd.a A) + x0 * (1 : Nat) /\ lgo (cS (Squ.pl a)) (x0 * (1 : Nat)) = some (Value.string (gS (Squ.pl a) x0)) /\ e1 b_3 4
 (cS (Squ.pl b) = cS (Squ.pl b) /\ (SpecG Tryd.prog [] [(RAd.a D, cS (Squ.pl b))] (15 : FuncId) #[sqV b D, .string (gS (Squ.pl a) x0)] [] fun x ↦ Value.int .i64 (fnd (Squ.pl b) (gS (Squ.pl a) x0) + 1)) /\ (∀ (e : Ex), e ∈ [] -> e ∈ []) /\ (decide (fnd (Squ.pl b) (gS (Squ.pl a) x0) + 1 > (0 : Int)) =
 true -> Value.int .i64 7 = Value.int .i64 (prK r a b)) /\ (decide (fnd (Squ.pl b) (gS (Squ.pl a) x0) + 1 > (0 : Int)) = false -> ∃ y, dI (Squ.pl a) (Squ.pl b) y /\ List.length (Squ.pl a) - y < List.length (Squ.pl a) - x0 /\ Value.int .i64 (IntKind.i64.wrap ((↑x0 : Int) + (1 : Int))) = Value.int .i64
 (↑y : Int) /\ True))) /\ (decide ((↑x0 : Int) < (↑(List.length (Squ.pl a)) : Int)) = false -> Value.int .i64 0 = Value.int .i64 (prK r a b))))))))))) := by kernel_rfl
set_option maxHeartbeats 4000000 in
theorem prr_sp (r : Rul) (B : RAd) (a : Squ) (A : RAd) (b : Squ) (D : RAd) (hB : AOK B.a r.pw.length) (hl : r.pw.length ≤ 1000000) (hn : r.nm.size ≤ 1000000) (ha : AOK A.a a.pl.length) (ha1 : a.pl.length ≤ A.c) (ha2 : a.pl.length ≤ 1000000) (ha3 : a.nm.size ≤ 1000000) (ha4 : ∀ x ∈ a.pl, x.size ≤ 1000000) (hd : AOK D.a b.pl.length) (hd1 : b.pl.length ≤ D.c) (hd2 : b.pl.length ≤ 1000000) (hd3 : b.nm.size ≤ 1000000) (hd4 : ∀ x ∈ b.pl, x.size ≤ 1000000) : SpecG Tryd.prog [] ([(B.a, cP r.pw), (A.a, cS a.pl), (D.a, cS b.pl)]) 19 #[ruV r B, sqV a A, sqV b D] ([]) (fun _ => .int .i64 (prK r a b)) := by
  refine specG_of (h := prr_h r B a A b D) (?_ : wpG Tryd.prog [] ([(B.a, cP r.pw), (A.a, cS a.pl), (D.a, cS b.pl)]) 400 19 [ruV r B, sqV a A, sqV b D] (prr_h r B a A b D) ([]) (fun _ => .int .i64 (prK r a b)))
  rw [prr_x]
  (repeat' (first | with_reducible exact rfl | exact trivial | with_reducible assumption | (with_reducible exact rrc_sp _ _ hB hl hn) | (with_reducible exact scr_sp _ _ ha ha1 ha2 ha3 ha4) | (with_reducible exact scr_sp _ _ hd hd1 hd2 hd3 hd4) | (with_reducible exact fdr_sp _ _ _ hd hd2) | exact cU_len _ | exact cI_len _ | exact cB_len _ | exact cU_one _ | exact cI_one _ | exact cB_one _ | exact (fun _ h => h) | exact (fun _ h => (List.not_mem_nil h).elim) | exact aokq _ _ | exact cS_len _ | exact cS_one _ | (with_reducible refine e1_in ?_) | (with_reducible refine e2_in ?_) | (with_reducible refine lx_in (Nat.le_of_ble_eq_true rfl) ?_) | (with_reducible refine rqx_rf ?_) | (with_reducible refine rqx_in ?_ ?_ ?_) | (with_reducible apply And.intro) | (with_reducible intro _)))
  all_goals (try simp only [Int.toNat_natCast] at *)
  all_goals first
    | (simp only [*, Bool.and_true, Bool.true_and, Bool.and_false, Bool.false_and, Bool.or_true, Bool.true_or, Bool.or_false, Bool.false_or, Bool.not_true, Bool.not_false, cond_true, cond_false]; done)
    | exact ⟨0, dI_0 _ _, rfl, trivial⟩
    | omega | decide
    | (have hf := of_decide_eq_true ‹decide (((_ : Nat) : Int) < ((_ : Nat) : Int)) = true›; have hf2 := Int.ofNat_lt.1 hf; have hx := ‹dI _ _ _›; first
        | omega
        | (refine cS_get ?_; omega)
        | (have h2 := of_decide_eq_true ‹decide (fnd _ _ + 1 > 0) = true›; have e := dj_hit hf2 h2; (refine congrArg (Value.int .i64) ?_; unfold prK; (try (simp only [Bool.not_eq_true', Bool.not_eq_false', Bool.or_eq_true, Bool.or_eq_false_iff, Bool.and_eq_true, Bool.and_eq_false_iff, decide_eq_true_eq, decide_eq_false_iff_not, bne_iff_ne, bne_eq_false_iff_eq, ne_eq, Decidable.not_not] at *)); (repeat' split) <;> first | rfl | omega | (simp_all; done) | (exfalso; simp_all; omega)))
        | (have h2 := of_decide_eq_false ‹decide (fnd _ _ + 1 > 0) = false›; exact ⟨_, dI_step hx hf2 h2, (by show _ - (_ + 1) < _; omega), (by rw [IntWalk.i64_in _ (by omega)]; rfl), trivial⟩))
    | (have hf := of_decide_eq_false ‹decide (((_ : Nat) : Int) < ((_ : Nat) : Int)) = false›; have hx := ‹dI _ _ _›; have e := dj_no hx hf; (refine congrArg (Value.int .i64) ?_; unfold prK; (try (simp only [Bool.not_eq_true', Bool.not_eq_false', Bool.or_eq_true, Bool.or_eq_false_iff, Bool.and_eq_true, Bool.and_eq_false_iff, decide_eq_true_eq, decide_eq_false_iff_not, bne_iff_ne, bne_eq_false_iff_eq, ne_eq, Decidable.not_not] at *)); (repeat' split) <;> first | rfl | omega | (simp_all; done) | (exfalso; simp_all; omega)))
    | (refine congrArg (Value.int .i64) ?_; unfold prK; (try (simp only [Bool.not_eq_true', Bool.not_eq_false', Bool.or_eq_true, Bool.or_eq_false_iff, Bool.and_eq_true, Bool.and_eq_false_iff, decide_eq_true_eq, decide_eq_false_iff_not, bne_iff_ne, bne_eq_false_iff_eq, ne_eq, Decidable.not_not] at *)); (repeat' split) <;> first | rfl | omega | (simp_all; done) | (exfalso; simp_all; omega))
    | trace_state
end Go.Proofs.YtaijjnafanmcnaaDoor
