/- Layer 5 (rules): the law on copies (RulesKeeps). -/
import Derived.Test.YtkhhjdbnihbcjaaGreatDoorVz
import Derived.KernelRfl
import Derived.Test.YtkhhjdbnihbcjaaGreatDoorProg
import Derived.Test.YtkhhjdbnihbcjaaGreatDoorBrg
import Derived.Test.YtkhhjdbnihbcjaaGreatDoorRda
import Derived.Test.YtkhhjdbnihbcjaaGreatDoorRcc
import Derived.Test.YtkhhjdbnihbcjaaGreatDoorRck
import Derived.Test.YtkhhjdbnihbcjaaGreatDoorRce
set_option linter.unusedSimpArgs false
set_option linter.unusedVariables false
set_option maxRecDepth 100000
namespace Go.Proofs.YtkhhjdbnihbcjaaGreatDoor
open Go.RowKit


def phZ0 : Ph := ⟨0, 0, 0⟩
def upP (p : Ph) : Ph := ⟨IntKind.i64.wrap (p.pf + 1), p.pt, p.po⟩
/-- The first powerplays begin an over later. -/
def incP (k : Nat) (l : List Ph) : List Ph := (l.take k).map upP ++ l.drop k
theorem incP_len (k : Nat) (l : List Ph) : (incP k l).length = l.length := by
  unfold incP
  rw [List.length_append, List.length_map, List.length_take, List.length_drop]
  omega
theorem incP_0 (l : List Ph) : incP 0 l = l := by simp [incP]
theorem incP_at (l : List Ph) (k j : Nat) : (incP k l)[j]? = if j < k then (l[j]?).map upP else l[j]? := by
  unfold incP
  by_cases h : j < (l.take k).length
  · rw [List.getElem?_append_left (by simpa using h), List.getElem?_map, List.getElem?_take]
    rw [List.length_take] at h
    rw [if_pos (by omega), if_pos (by omega)]
  · rw [List.getElem?_append_right (by simpa using h), List.length_map, List.getElem?_drop]
    rw [List.length_take] at h ⊢
    by_cases h2 : k ≤ l.length
    · rw [if_neg (by omega), show k + (j - min k l.length) = j by omega]
    · rw [List.getElem?_eq_none (by omega)]
      split
      · rw [List.getElem?_eq_none (by omega)]; rfl
      · rw [List.getElem?_eq_none (by omega)]
theorem incP_get (l : List Ph) (k : Nat) : (incP k l).getD k ⟨0, 0, 0⟩ = l.getD k ⟨0, 0, 0⟩ := by
  rw [List.getD_eq_getElem?_getD, List.getD_eq_getElem?_getD, incP_at, if_neg (by omega)]
theorem incP_step (l : List Ph) (k : Nat) (h : k < l.length) : (incP k l).set k (upP (l.getD k ⟨0, 0, 0⟩)) = incP (k + 1) l := by
  apply List.ext_getElem?
  intro j
  rw [List.getElem?_set, incP_at, incP_at, incP_len]
  by_cases h1 : k = j
  · subst h1
    rw [if_pos rfl, if_pos h, if_pos (by omega), List.getD_eq_getElem?_getD, List.getElem?_eq_getElem h]
    rfl
  · rw [if_neg h1]
    by_cases h2 : j < k
    · rw [if_pos h2, if_pos (by omega)]
    · rw [if_neg h2, if_neg (by omega)]
theorem wrap_ne (n : Int) : IntKind.i64.wrap (n + 1) ≠ n := by
  have e : IntKind.i64.wrap (n + 1) = if (n + 1) % 18446744073709551616 ≥ 9223372036854775808 then (n + 1) % 18446744073709551616 - 18446744073709551616 else (n + 1) % 18446744073709551616 := by
    simp [IntKind.wrap, IntKind.bits, IntKind.signed]
  rw [e]
  split <;> omega
theorem incP_eq (l : List Ph) : decide (incP l.length l = l) = (l.length == 0) := by
  cases l with
  | nil => rfl
  | cons p l =>
    have h : ¬ incP (p :: l).length (p :: l) = p :: l := by
      intro e
      have h0 := congrArg (fun x => x[0]?) e
      simp only [incP_at] at h0
      simp at h0
      exact wrap_ne p.pf (congrArg Ph.pf h0)
    rw [decide_eq_false h]
    rfl
def cP_st (l : List Ph) (m : Nat) : Nat → Value → List Value
  | 0, .int _ n => cP (l.set m ⟨n, (l.getD m ⟨0, 0, 0⟩).pt, (l.getD m ⟨0, 0, 0⟩).po⟩)
  | _, _ => []
theorem cP_set0 (l : List Ph) (m : Nat) (n : Int) (h : m < l.length) : lset (cP l) (m * 3) (.int .i64 n) = cP (l.set m ⟨n, (l.getD m ⟨0, 0, 0⟩).pt, (l.getD m ⟨0, 0, 0⟩).po⟩) := by
  rw [lset_eq]
  induction l generalizing m with
  | nil => simp at h
  | cons p l ih =>
    have e : ∀ (x : Ph) (y : List Ph), cP (x :: y) = .int .i64 x.pf :: .int .i64 x.pt :: .int .i64 x.po :: cP y := fun _ _ => rfl
    cases m with
    | zero => rw [List.set_cons_zero, e, e]; rfl
    | succ m =>
      rw [List.set_cons_succ, e, e, show (m + 1) * 3 = m * 3 + 1 + 1 + 1 by omega, List.set_cons_succ, List.set_cons_succ, List.set_cons_succ, ih m (by simpa using h)]
      rfl
def ruL (r : Rul) (B : RAd) : List Value := [.string r.nm, .int .i64 r.q1, .int .i64 r.q2, .int .i64 r.q3, .int .i64 r.q4, .int .i64 r.q5, .int .i64 r.q6, .int .i64 r.q7, .bool r.fh, .int .i64 r.q8, .int .i64 r.q9, .int .i64 r.qa, .int .i64 r.qo, .slice B.a r.pw.length B.c]
def noOw : Option Ow := none
structure KX where
  i : Nat
  b : Nat
  B : RAd
def kxI (t : Rul) (x : KX) : Prop := x.i ≤ t.pw.length ∧ AOK x.B.a t.pw.length
@[reducible] def kxL (t : Rul) : LoopR := ⟨KX, fun x => [(21, .int .i64 x.i), (3, .pointer (some ⟨x.b, 0, none⟩))], [2, 3], fun x => [⟨0, cP (incP x.i t.pw), 45, some ⟨x.B.a, t.pw.length, x.B.c, 3⟩⟩, ⟨x.b, ruL t x.B, 24, none⟩], kxI t, fun x => t.pw.length - x.i, []⟩
@[reducible] def nxK {t : Rul} {x : KX} (_ : kxI t x) : KX := ⟨x.i + 1, x.b, x.B⟩
theorem kx_row {t : Rul} {i : Nat} (h : i < t.pw.length) : cP ((incP i t.pw).set i ⟨IntKind.i64.wrap (((incP i t.pw).getD i ⟨0, 0, 0⟩).pf + 1), ((incP i t.pw).getD i ⟨0, 0, 0⟩).pt, ((incP i t.pw).getD i ⟨0, 0, 0⟩).po⟩) = cP (incP (i + 1) t.pw) := by
  rw [incP_get, ← incP_step _ _ h]
  rfl
theorem sm_inc (t : Rul) (i : Nat) (a b : Option Addr) (c d : Nat) (hA : AOK a t.pw.length) (hB : AOK b t.pw.length) (hl : t.pw.length ≤ 1000000) : SpecG Tryz.prog [] [(a, cP (incP i t.pw)), (b, cP t.pw)] 20 #[.agg #[.string t.nm, .int .i64 t.q1, .int .i64 t.q2, .int .i64 t.q3, .int .i64 t.q4, .int .i64 t.q5, .int .i64 t.q6, .int .i64 t.q7, .bool t.fh, .int .i64 t.q8, .int .i64 t.q9, .int .i64 t.qa, .int .i64 t.qo, .slice a t.pw.length c], .agg #[.string t.nm, .int .i64 t.q1, .int .i64 t.q2, .int .i64 t.q3, .int .i64 t.q4, .int .i64 t.q5, .int .i64 t.q6, .int .i64 t.q7, .bool t.fh, .int .i64 t.q8, .int .i64 t.q9, .int .i64 t.qa, .int .i64 t.qo, .slice b t.pw.length d]] [] (fun _ => .bool (decide (incP i t.pw = t.pw))) := by
  have h := smP_sp t.nm t.q1 t.q2 t.q3 t.q4 t.q5 t.q6 t.q7 t.fh t.q8 t.q9 t.qa t.qo (incP i t.pw) t.pw a b c d (by rw [incP_len]; exact hA) hB (by rw [incP_len]; exact hl)
  rw [incP_len] at h
  exact h
theorem kx_fin (l : List Ph) : (decide (incP l.length l = l) == (((l.length : Nat) : Int) == 0)) = true := by
  rw [incP_eq]
  cases l with
  | nil => rfl
  | cons p l =>
    have : ((((p :: l).length : Nat) : Int) == 0) = false := by rw [beq_eq_false_iff_ne]; simp; omega
    rw [this]
    rfl
theorem kx_end {t : Rul} {x : KX} (h : kxI t x) (hf : ¬ (x.i : Int) < t.pw.length) : x.i = t.pw.length := by have := h.1; omega

def rulesKeeps_h (r : Rul) (B : RAd) : Hint := .specg rE [] [] [] (fun ads0 x ↦ Value.bool true) (.lit (ho 1 14 (.specg [] [] [] [] (fun ads0 x ↦ ruV (bnd r) B) (ho 1 28 (.specg [] [0] [cP (Rul.pw (bnd r))] [RowT.mk (45 : TypeId) (3 : Nat) (List.length (Rul.pw (bnd r))) (cP (Rul.pw (bnd r)))] (fun ads0 ads ↦ ruV (bnd r) (RAd.mk (Prod.fst (nthA
 ads (0 : Nat))) (Prod.snd (nthA ads (0 : Nat))))) (ho 3 28 (ho 1 14 (.specg [] [2, 0] [cP (Rul.pw (bnd r)), cP (Rul.pw (bnd r))] [] (fun ads0 x ↦ Value.bool (decide (Rul.pw (bnd r) = Rul.pw (bnd r)))) (.split (.perm [] .nil) (ho 1 14 (.specg [] [0] [cP (Rul.pw (bnd r))] [RowT.mk (45 : TypeId) (3 :
 Nat) (List.length (Rul.pw (bnd r))) (cP (Rul.pw (bnd r)))] (fun ads0 ads ↦ ruV (bnd r) (RAd.mk (Prod.fst (nthA ads (0 : Nat))) (Prod.snd (nthA ads (0 : Nat))))) (ho 5 14 (.ob 3 (.pl (.inv (kxL (bnd r)) fun x0 ↦ .split (.ob 3 (.ix (.lst (2 : Nat) (Int.toNat (↑(KX.i x0) : Int) * (3 : Nat)) (Value.int
 .i64 (Ph.pf (List.getD (incP (KX.i x0) (Rul.pw (bnd r))) (Int.toNat (↑(KX.i x0) : Int)) (Ph.mk (0 : Int) (0 : Int) (0 : Int))))) (.ix (.sto (2 : Nat) (Int.toNat (↑(KX.i x0) : Int) * (3 : Nat)) (cP (List.set (incP (KX.i x0) (Rul.pw (bnd r))) (Int.toNat (↑(KX.i x0) : Int)) (Ph.mk (IntKind.i64.wrap
 (Ph.pf (List.getD (incP (KX.i x0) (Rul.pw (bnd r))) (Int.toNat (↑(KX.i x0) : Int)) (Ph.mk (0 : Int) (0 : Int) (0 : Int))) + 1)) (Ph.pt (List.getD (incP (KX.i x0) (Rul.pw (bnd r))) (Int.toNat (↑(KX.i x0) : Int)) (Ph.mk (0 : Int) (0 : Int) (0 : Int)))) (Ph.po (List.getD (incP (KX.i x0) (Rul.pw (bnd
 r))) (Int.toNat (↑(KX.i x0) : Int)) (Ph.mk (0 : Int) (0 : Int) (0 : Int))))))) (.perm [2, 3] .nil)))))) (.cut [((2 : Nat), .bool (decide (Rul.pw (bnd r) = Rul.pw (bnd r)) && decide (incP (KX.i x0) (Rul.pw (bnd r)) = Rul.pw (bnd r)) == ((↑(List.length (Rul.pw (bnd r))) : Int) == (0 : Int))))] (.draw
 (List.range 6) none (List.range 6) (.take 0 (ho 1 14 (.take 1 (ho 5 14 (.pl (.br (.specg [] [0, 4] [cP (Rul.pw (bnd r)), cP (Rul.pw (bnd r))] [] (fun ads0 x ↦ Value.bool (decide (Rul.pw (bnd r) = Rul.pw (bnd r)))) (.take 3 (.take 4 (.split (ho 3 14 (.take 5 (.lit (ho 1 14 (.take 7 (.lit (.take 8
 (.lit (.ob 1 (.take 9 (.lit (.pl (.take 10 (.lit (.pl (.pl (.br (.lit (.specg [] [2, 0] [cP (incP (KX.i x0) (Rul.pw (bnd r))), cP (Rul.pw (bnd r))] [] (fun ads0 x ↦ Value.bool (decide (incP (KX.i x0) (Rul.pw (bnd r)) = Rul.pw (bnd r)))) (.take 11 (.lit (.pl (.take 12 (.lit (.take 13 .nil))))))))
 .nil))))))))))))))))) (.take 5 (.lit (.take 6 (.lit (.take 7 (.lit (.take 8 (.lit (.take 9 (.lit (.take 10 (.lit (.take 11 (.lit (.take 12 (.lit (.take 13 .nil))))))))))))))))))))) .nil))))))) (.perm [] .nil)))))))))))))))))
theorem rulesKeeps_x (r : Rul) (B : RAd) : wpG Tryz.prog rE ([(B.a, cP (bnd r).pw)]) 400 9 [ruV r B] (rulesKeeps_h r B) ([]) (fun _ => .bool true) = (∀ (b : Nat), (SpecG Tryz.prog rE [] (10 : FuncId) #[] [] fun x ↦ Value.bool true) /\ (∀ (e : Ex), e ∈ rE -> e ∈ rE) /\ e1 b 14 ((SpecG Tryz.prog [] [] (11 : FuncId) #[ruV r B] [] fun x ↦ ruV (bnd r) B) /\ (∀ (e : Ex), e ∈ [] -> e ∈ rE) /\ e2 b 14 (e1 b 14 (cP (Rul.pw (bnd r)) = cP (Rul.pw (bnd r)) /\
 (SpecG Tryz.prog [] [(RAd.a B, cP (Rul.pw (bnd r)))] (28 : FuncId) #[ruV (bnd r) B] [RowT.mk (45 : TypeId) (3 : Nat) (List.length (Rul.pw (bnd r))) (cP (Rul.pw (bnd r)))] fun ads ↦ ruV (bnd r) (RAd.mk (Prod.fst (nthA ads (0 : Nat))) (Prod.snd (nthA ads (0 : Nat))))) /\ (∀ (e : Ex), e ∈ [] -> e ∈ rE)
 /\ ∀ (a : Option Addr) (cap : Nat), AOK a (List.length (Rul.pw (bnd r))) -> List.length (Rul.pw (bnd r)) ≤ cap -> ∀ (b_1 : Nat), e2 b_1 14 (e1 b_1 14 (e1 b 14 (cP (Rul.pw (bnd r)) = cP (Rul.pw (bnd r)) /\ cP (Rul.pw (bnd r)) = cP (Rul.pw (bnd r)) /\ (SpecG Tryz.prog [] [(a, cP (Rul.pw (bnd r))),
 (RAd.a B, cP (Rul.pw (bnd r)))] (20 : FuncId) #[Value.agg #[Value.string (Rul.nm (bnd r)), .int .i64 (Rul.q1 (bnd r)), .int .i64 (Rul.q2 (bnd r)), .int .i64 (Rul.q3 (bnd r)), .int .i64 (Rul.q4 (bnd r)), .int .i64 (Rul.q5 (bnd r)), .int .i64 (Rul.q6 (bnd r)), .int .i64 (Rul.q7 (bnd r)), .bool (Rul.fh
 (bnd r)), .int .i64 (Rul.q8 (bnd r)), .int .i64 (Rul.q9 (bnd r)), .int .i64 (Rul.qa (bnd r)), .int .i64 (Rul.qo (bnd r)), .slice a (List.length (Rul.pw (bnd r))) cap], .agg #[Value.string (Rul.nm (bnd r)), .int .i64 (Rul.q1 (bnd r)), .int .i64 (Rul.q2 (bnd r)), .int .i64 (Rul.q3 (bnd r)), .int .i64
 (Rul.q4 (bnd r)), .int .i64 (Rul.q5 (bnd r)), .int .i64 (Rul.q6 (bnd r)), .int .i64 (Rul.q7 (bnd r)), .bool (Rul.fh (bnd r)), .int .i64 (Rul.q8 (bnd r)), .int .i64 (Rul.q9 (bnd r)), .int .i64 (Rul.qa (bnd r)), .int .i64 (Rul.qo (bnd r)), .slice (RAd.a B) (List.length (Rul.pw (bnd r))) (RAd.c B)]] []
 fun x ↦ Value.bool (decide (Rul.pw (bnd r) = Rul.pw (bnd r)))) /\ (∀ (e : Ex), e ∈ [] -> e ∈ rE) /\ ((!decide (Rul.pw (bnd r) = Rul.pw (bnd r))) = true -> Value.bool false = Value.bool true) /\ ((!decide (Rul.pw (bnd r) = Rul.pw (bnd r))) = false -> e1 b 14 (cP (Rul.pw (bnd r)) = cP (Rul.pw (bnd r))
 /\ (SpecG Tryz.prog [] [(RAd.a B, cP (Rul.pw (bnd r)))] (29 : FuncId) #[ruV (bnd r) B] [RowT.mk (45 : TypeId) (3 : Nat) (List.length (Rul.pw (bnd r))) (cP (Rul.pw (bnd r)))] fun ads ↦ ruV (bnd r) (RAd.mk (Prod.fst (nthA ads (0 : Nat))) (Prod.snd (nthA ads (0 : Nat))))) /\ (∀ (e : Ex), e ∈ [] -> e ∈
 rE) /\ ∀ (a_1 : Option Addr) (cap_1 : Nat), AOK a_1 (List.length (Rul.pw (bnd r))) -> List.length (Rul.pw (bnd r)) ≤ cap_1 -> ∀ (b_2 : Nat), e2 b_2 14 (b_1 = b_1 /\ (∃ x, kxI (bnd r) x /\ Value.int .i64 0 = Value.int .i64 (↑(KX.i x) : Int) /\ Value.pointer (some (Addr.mk b_1 (0 : Nat) none)) =
 Value.pointer (some (Addr.mk (KX.b x) (0 : Nat) none)) /\ ((0 : Nat) = (0 : Nat) /\ cP (Rul.pw (bnd r)) = cP (incP (KX.i x) (Rul.pw (bnd r))) /\ (45 : Nat) = (45 : Nat) /\ some (Ow.mk a (List.length (Rul.pw (bnd r))) cap (3 : Nat)) = some (Ow.mk (RAd.a (KX.B x)) (List.length (Rul.pw (bnd r))) (RAd.c
 (KX.B x)) (3 : Nat))) /\ (b_1 = KX.b x /\ [Value.string (Rul.nm (bnd r)), .int .i64 (Rul.q1 (bnd r)), .int .i64 (Rul.q2 (bnd r)), .int .i64 (Rul.q3 (bnd r)), .int .i64 (Rul.q4 (bnd r)), .int .i64 (Rul.q5 (bnd r)), .int .i64 (Rul.q6 (bnd r)), .int .i64 (Rul.q7 (bnd r)), .bool (Rul.fh (bnd r)), .int
 .i64 (Rul.q8 (bnd r)), .int .i64 (Rul.q9 (bnd r)), .int .i64 (Rul.qa (bnd r)), .int .i64 (Rul.qo (bnd r)), .slice a (List.length (Rul.pw (bnd r))) cap] = [Value.string (Rul.nm (bnd r)), .int .i64 (Rul.q1 (bnd r)), .int .i64 (Rul.q2 (bnd r)), .int .i64 (Rul.q3 (bnd r)), .int .i64 (Rul.q4 (bnd r)),
 .int .i64 (Rul.q5 (bnd r)), .int .i64 (Rul.q6 (bnd r)), .int .i64 (Rul.q7 (bnd r)), .bool (Rul.fh (bnd r)), .int .i64 (Rul.q8 (bnd r)), .int .i64 (Rul.q9 (bnd r)), .int .i64 (Rul.qa (bnd r)), .int .i64 (Rul.qo (bnd r)), .slice (RAd.a (KX.B x)) (List.length (Rul.pw (bnd r))) (RAd.c (KX.B x))] /\ (24
 : Nat) = (24 : Nat) /\ noOw = noOw) /\ True) /\ ∀ (x0 : KX), kxI (bnd r) x0 -> ∀ (junk : Nat -> Value), (decide ((↑(KX.i x0) : Int) < (↑(List.length (Rul.pw (bnd r))) : Int)) = true -> KX.b x0 = KX.b x0 /\ (((0 : Int) ≤ (↑(KX.i x0) : Int) /\ (↑(KX.i x0) : Int) < (↑(List.length (Rul.pw (bnd r))) :
 Int)) /\ AOK (RAd.a (KX.B x0)) (List.length (Rul.pw (bnd r)))) /\ bk (RAd.a (KX.B x0)) = bk (RAd.a (KX.B x0)) /\ ofs (RAd.a (KX.B x0)) + Int.toNat (↑(KX.i x0) : Int) * (3 : Nat) = ofs (RAd.a (KX.B x0)) + Int.toNat (↑(KX.i x0) : Int) * (3 : Nat) /\ lgo (cP (incP (KX.i x0) (Rul.pw (bnd r))))
 (Int.toNat (↑(KX.i x0) : Int) * (3 : Nat)) = some (Value.int .i64 (Ph.pf (List.getD (incP (KX.i x0) (Rul.pw (bnd r))) (Int.toNat (↑(KX.i x0) : Int)) (Ph.mk (0 : Int) (0 : Int) (0 : Int))))) /\ (((0 : Int) ≤ (↑(KX.i x0) : Int) /\ (↑(KX.i x0) : Int) < (↑(List.length (Rul.pw (bnd r))) : Int)) /\ AOK
 (RAd.a (KX.B x0)) (List.length (Rul.pw (bnd r)))) /\ bk (RAd.a (KX.B x0)) = bk (RAd.a (KX.B x0)) /\ ofs (RAd.a (KX.B x0)) + Int.toNat (↑(KX.i x0) : Int) * (3 : Nat) = ofs (RAd.a (KX.B x0)) + Int.toNat (↑(KX.i x0) : Int) * (3 : Nat) /\ True /\ lset (cP (incP (KX.i x0) (Rul.pw (bnd r)))) (Int.toNat
 (↑(KX.i x0) : Int) * (3 : Nat)) (Value.int .i64 (IntKind.i64.wrap (Ph.pf (List.getD (incP (KX.i x0) (Rul.pw (bnd r))) (Int.toNat (↑(KX.i x0) : Int)) (Ph.mk (0 : Int) (0 : Int) (0 : Int))) + 1))) = cP (List.set (incP (KX.i x0) (Rul.pw (bnd r))) (Int.toNat (↑(KX.i x0) : Int)) (Ph.mk (IntKind.i64.wrap
 (Ph.pf (List.getD (incP (KX.i x0) (Rul.pw (bnd r))) (Int.toNat (↑(KX.i x0) : Int)) (Ph.mk (0 : Int) (0 : Int) (0 : Int))) + 1)) (Ph.pt (List.getD (incP (KX.i x0) (Rul.pw (bnd r))) (Int.toNat (↑(KX.i x0) : Int)) (Ph.mk (0 : Int) (0 : Int) (0 : Int)))) (Ph.po (List.getD (incP (KX.i x0) (Rul.pw (bnd
 r))) (Int.toNat (↑(KX.i x0) : Int)) (Ph.mk (0 : Int) (0 : Int) (0 : Int)))))) /\ Int.toNat (↑(KX.i x0) : Int) * (3 : Nat) < List.length (cP (incP (KX.i x0) (Rul.pw (bnd r)))) /\ ∃ y, kxI (bnd r) y /\ List.length (Rul.pw (bnd r)) - KX.i y < List.length (Rul.pw (bnd r)) - KX.i x0 /\ Value.int .i64
 (IntKind.i64.wrap ((↑(KX.i x0) : Int) + (1 : Int))) = Value.int .i64 (↑(KX.i y) : Int) /\ Value.pointer (some (Addr.mk (KX.b x0) (0 : Nat) none)) = Value.pointer (some (Addr.mk (KX.b y) (0 : Nat) none)) /\ ((0 : Nat) = (0 : Nat) /\ cP (List.set (incP (KX.i x0) (Rul.pw (bnd r))) (Int.toNat (↑(KX.i
 x0) : Int)) (Ph.mk (IntKind.i64.wrap (Ph.pf (List.getD (incP (KX.i x0) (Rul.pw (bnd r))) (Int.toNat (↑(KX.i x0) : Int)) (Ph.mk (0 : Int) (0 : Int) (0 : Int))) + 1)) (Ph.pt (List.getD (incP (KX.i x0) (Rul.pw (bnd r))) (Int.toNat (↑(KX.i x0) : Int)) (Ph.mk (0 : Int) (0 : Int) (0 : Int)))) (Ph.po
 (List.getD (incP (KX.i x0) (Rul.pw (bnd r))) (Int.toNat (↑(KX.i x0) : Int)) (Ph.mk (0 : Int) (0 : Int) (0 : Int)))))) = cP (incP (KX.i y) (Rul.pw (bnd r))) /\ (45 : Nat) = (45 : Nat) /\ some (Ow.mk (RAd.a (KX.B x0)) (List.length (Rul.pw (bnd r))) (RAd.c (KX.B x0)) (3 : Nat)) = some (Ow.mk (RAd.a
 (KX.B y)) (List.length (Rul.pw (bnd r))) (RAd.c (KX.B y)) (3 : Nat))) /\ (KX.b x0 = KX.b y /\ [Value.string (Rul.nm (bnd r)), .int .i64 (Rul.q1 (bnd r)), .int .i64 (Rul.q2 (bnd r)), .int .i64 (Rul.q3 (bnd r)), .int .i64 (Rul.q4 (bnd r)), .int .i64 (Rul.q5 (bnd r)), .int .i64 (Rul.q6 (bnd r)), .int
 .i64 (Rul.q7 (bnd r)), .bool (Rul.fh (bnd r)), .int .i64 (Rul.q8 (bnd r)), .int .i64 (Rul.q9 (bnd r)), .int .i64 (Rul.qa (bnd r)), .int .i64 (Rul.qo (bnd r)), .slice (RAd.a (KX.B x0)) (List.length (Rul.pw (bnd r))) (RAd.c (KX.B x0))] = [Value.string (Rul.nm (bnd r)), .int .i64 (Rul.q1 (bnd r)), .int
 .i64 (Rul.q2 (bnd r)), .int .i64 (Rul.q3 (bnd r)), .int .i64 (Rul.q4 (bnd r)), .int .i64 (Rul.q5 (bnd r)), .int .i64 (Rul.q6 (bnd r)), .int .i64 (Rul.q7 (bnd r)), .bool (Rul.fh (bnd r)), .int .i64 (Rul.q8 (bnd r)), .int .i64 (Rul.q9 (bnd r)), .int .i64 (Rul.qa (bnd r)), .int .i64 (Rul.qo (bnd r)),
 .slice (RAd.a (KX.B y)) (List.length (Rul.pw (bnd r))) (RAd.c (KX.B y))] /\ (24 : Nat) = (24 : Nat) /\ noOw = noOw) /\ True) /\ (decide ((↑(KX.i x0) : Int) < (↑(List.length (Rul.pw (bnd r))) : Int)) = false -> (e1 b 14 (e1 b_2 13 (b_2 = b_2 /\ True /\ (cP (Rul.pw (bnd r)) = cP (Rul.pw (bnd r)) /\ cP
 (Rul.pw (bnd r)) = cP (Rul.pw (bnd r)) /\ (SpecG Tryz.prog [] [(RAd.a B, cP (Rul.pw (bnd r))), (a_1, cP (Rul.pw (bnd r)))] (20 : FuncId) #[Value.agg #[Value.string (Rul.nm (bnd r)), .int .i64 (Rul.q1 (bnd r)), .int .i64 (Rul.q2 (bnd r)), .int .i64 (Rul.q3 (bnd r)), .int .i64 (Rul.q4 (bnd r)), .int
 .i64 (Rul.q5 (bnd r)), .int .i64 (Rul.q6 (bnd r)), .int .i64 (Rul.q7 (bnd r)), .bool (Rul.fh (bnd r)), .int .i64 (Rul.q8 (bnd r)), .int .i64 (Rul.q9 (bnd r)), .int .i64 (Rul.qa (bnd r)), .int .i64 (Rul.qo (bnd r)), .slice (RAd.a B) (List.length (Rul.pw (bnd r))) (RAd.c B)], .agg #[Value.string
 (Rul.nm (bnd r)), .int .i64 (Rul.q1 (bnd r)), .int .i64 (Rul.q2 (bnd r)), .int .i64 (Rul.q3 (bnd r)), .int .i64 (Rul.q4 (bnd r)), .int .i64 (Rul.q5 (bnd r)), .int .i64 (Rul.q6 (bnd r)), .int .i64 (Rul.q7 (bnd r)), .bool (Rul.fh (bnd r)), .int .i64 (Rul.q8 (bnd r)), .int .i64 (Rul.q9 (bnd r)), .int
 .i64 (Rul.qa (bnd r)), .int .i64 (Rul.qo (bnd r)), .slice a_1 (List.length (Rul.pw (bnd r))) cap_1]] [] fun x ↦ Value.bool (decide (Rul.pw (bnd r) = Rul.pw (bnd r)))) /\ (∀ (e : Ex), e ∈ [] -> e ∈ rE) /\ (decide (Rul.pw (bnd r) = Rul.pw (bnd r)) = true -> KX.b x0 = KX.b x0 /\ KX.b x0 = KX.b x0 /\
 KX.b x0 = KX.b x0 /\ KX.b x0 = KX.b x0 /\ KX.b x0 = KX.b x0 /\ KX.b x0 = KX.b x0 /\ KX.b x0 = KX.b x0 /\ KX.b x0 = KX.b x0 /\ KX.b x0 = KX.b x0 /\ KX.b x0 = KX.b x0 /\ KX.b x0 = KX.b x0 /\ KX.b x0 = KX.b x0 /\ KX.b x0 = KX.b x0 /\ KX.b x0 = KX.b x0 /\ e1 b 14 (b = b /\ True /\ (cP (incP (KX.i x0)
 (Rul.pw (bnd r))) = cP (incP (KX.i x0) (Rul.pw (bnd r))) /\ cP (Rul.pw (bnd r)) = cP (Rul.pw (bnd r)) /\ (SpecG Tryz.prog [] [(RAd.a (KX.B x0), cP (incP (KX.i x0) (Rul.pw (bnd r)))), (RAd.a B, cP (Rul.pw (bnd r)))] (20 : FuncId) (Array.mk [.agg (Array.mk [.string (Rul.nm (bnd r)), .int .i64 (Rul.q1
 (bnd r)), .int .i64 (Rul.q2 (bnd r)), .int .i64 (Rul.q3 (bnd r)), .int .i64 (Rul.q4 (bnd r)), .int .i64 (Rul.q5 (bnd r)), .int .i64 (Rul.q6 (bnd r)), .int .i64 (Rul.q7 (bnd r)), .bool (Rul.fh (bnd r)), .int .i64 (Rul.q8 (bnd r)), .int .i64 (Rul.q9 (bnd r)), .int .i64 (Rul.qa (bnd r)), .int .i64
 (Rul.qo (bnd r)), .slice (RAd.a (KX.B x0)) (List.length (Rul.pw (bnd r))) (RAd.c (KX.B x0))]), .agg (Array.mk [.string (Rul.nm (bnd r)), .int .i64 (Rul.q1 (bnd r)), .int .i64 (Rul.q2 (bnd r)), .int .i64 (Rul.q3 (bnd r)), .int .i64 (Rul.q4 (bnd r)), .int .i64 (Rul.q5 (bnd r)), .int .i64 (Rul.q6 (bnd
 r)), .int .i64 (Rul.q7 (bnd r)), .bool (Rul.fh (bnd r)), .int .i64 (Rul.q8 (bnd r)), .int .i64 (Rul.q9 (bnd r)), .int .i64 (Rul.qa (bnd r)), .int .i64 (Rul.qo (bnd r)), .slice (RAd.a B) (List.length (Rul.pw (bnd r))) (RAd.c B)])]) [] fun x ↦ Value.bool (decide (incP (KX.i x0) (Rul.pw (bnd r)) =
 Rul.pw (bnd r)))) /\ (∀ (e : Ex), e ∈ [] -> e ∈ rE) /\ Value.bool (decide (incP (KX.i x0) (Rul.pw (bnd r)) = Rul.pw (bnd r)) == ((↑(List.length (Rul.pw (bnd r))) : Int) == (0 : Int))) = Value.bool (decide (Rul.pw (bnd r) = Rul.pw (bnd r)) && decide (incP (KX.i x0) (Rul.pw (bnd r)) = Rul.pw (bnd r))
 == ((↑(List.length (Rul.pw (bnd r))) : Int) == (0 : Int))) /\ True) /\ True)) /\ (decide (Rul.pw (bnd r) = Rul.pw (bnd r)) = false -> Value.bool false = Value.bool (decide (Rul.pw (bnd r) = Rul.pw (bnd r)) && decide (incP (KX.i x0) (Rul.pw (bnd r)) = Rul.pw (bnd r)) == ((↑(List.length (Rul.pw (bnd
 r))) : Int) == (0 : Int))) /\ True)) /\ True))) /\ ∀ (junk : Nat -> Value), .bool (decide (Rul.pw (bnd r) = Rul.pw (bnd r)) && decide (incP (KX.i x0) (Rul.pw (bnd r)) = Rul.pw (bnd r)) == ((↑(List.length (Rul.pw (bnd r))) : Int) == (0 : Int))) = Value.bool true))))))))))) := by kernel_rfl
set_option maxHeartbeats 4000000 in
theorem rulesKeeps_sp (r : Rul) (B : RAd) (hB : AOK B.a r.pw.length) (hBc : r.pw.length ≤ B.c) : SpecG Tryz.prog rE ([(B.a, cP (bnd r).pw)]) 9 #[ruV r B] ([]) (fun _ => .bool true) := by
  refine specG_of (h := rulesKeeps_h r B) (?_ : wpG Tryz.prog rE ([(B.a, cP (bnd r).pw)]) 400 9 [ruV r B] (rulesKeeps_h r B) ([]) (fun _ => .bool true))
  rw [rulesKeeps_x]
  (repeat' (first | with_reducible exact rfl | exact trivial | with_reducible assumption | (with_reducible exact awk_sp) | (with_reducible exact few5_sp _ _ hBc) | (with_reducible exact clR_sp _ _ (aok_b hB) (bnd_pw r)) | (with_reducible exact crR_sp _ _ (aok_b hB) (bnd_pw r)) | exact cU_len _ | exact cI_len _ | exact cB_len _ | exact cU_one _ | exact cI_one _ | exact cB_one _ | exact (fun _ h => h) | exact (fun _ h => (List.not_mem_nil h).elim) | (with_reducible refine e1_in ?_) | (with_reducible refine e2_in ?_) | (with_reducible refine lx_in (Nat.le_of_ble_eq_true rfl) ?_) | (with_reducible refine rqx_rf ?_) | (with_reducible refine rqx_in ?_ ?_ ?_) | (with_reducible apply And.intro) | (with_reducible intro _)))
  all_goals (try (first | ((with_reducible refine smP_sp _ _ _ _ _ _ _ _ _ _ _ _ _ _ _ _ _ _ _ ?_ ?_ ?_) <;> first | assumption | exact aok_b hB | exact (‹kxI _ _›).2 | exact bnd_pw r) | ((refine sm_inc _ _ _ _ _ _ ?_ ?_ ?_) <;> first | assumption | exact aok_b hB | exact (‹kxI _ _›).2 | exact bnd_pw r)))
  all_goals (try simp only [Int.toNat_natCast])
  all_goals (try (first
    | (simp only [*, Bool.and_true, Bool.true_and, Bool.and_false, Bool.false_and, Bool.or_true, Bool.true_or, Bool.or_false, Bool.false_or, Bool.not_true, Bool.not_false, cond_true, cond_false]; done)
    | (simp; done)
    | (exfalso; have hh := ‹decide (_ = _) = false›; simp at hh; done)
    | (exfalso; have hh := ‹(!decide (_ = _)) = true›; simp at hh; done)
    | exact (‹kxI _ _›).2
    | exact ⟨⟨0, _, ⟨_, _⟩⟩, ⟨Nat.zero_le _, by assumption⟩, rfl, rfl, ⟨(by first | exact rfl | exact trivial), (congrArg cP (incP_0 _)).symm, (by first | exact rfl | exact trivial), rfl⟩, ⟨rfl, rfl, (by first | exact rfl | exact trivial), (by first | exact rfl | exact trivial)⟩, trivial⟩))
  all_goals (try (have hx := ‹kxI _ _›; have hf := of_decide_eq_true ‹decide (((_ : Nat) : Int) < ((_ : Nat) : Int)) = true›; have h1 := hx.1; have h5 := bnd_pw r; first
    | omega
    | (refine cP_get0 ?_; rw [incP_len]; omega)
    | exact cP_set0 _ _ _ (by rw [incP_len]; omega)
    | (rw [cP_len, incP_len]; omega)
    | (rw [cP_len, incP_len]; done)
    | (refine ⟨nxK hx, ⟨(by show _ + 1 ≤ _; omega), hx.2⟩, (by show _ - (_ + 1) < _; omega), (by rw [IntWalk.i64_in _ (by omega)]; rfl), rfl, ⟨(by first | exact rfl | exact trivial), kx_row (by omega), (by first | exact rfl | exact trivial), rfl⟩, ⟨rfl, rfl, (by first | exact rfl | exact trivial), (by first | exact rfl | exact trivial)⟩, trivial⟩)))
  all_goals (try (have hx := ‹kxI _ _›; have hf := of_decide_eq_false ‹decide (((_ : Nat) : Int) < ((_ : Nat) : Int)) = false›; have e := kx_end hx hf; rw [e, kx_fin]; simp; done))
  all_goals trace_state
end Go.Proofs.YtkhhjdbnihbcjaaGreatDoor
