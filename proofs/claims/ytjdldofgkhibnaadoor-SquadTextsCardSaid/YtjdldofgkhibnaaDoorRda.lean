/- Layer 11 (field): what may be bowled: Allowed of both, Ready and Named of both. -/
import Derived.Test.YtjdldofgkhibnaaDoorVz
import Derived.KernelRfl
import Derived.Test.YtjdldofgkhibnaaDoorProg
import Derived.Test.YtjdldofgkhibnaaDoorFda
set_option linter.unusedSimpArgs false
set_option linter.unusedVariables false
set_option maxRecDepth 100000
namespace Go.Proofs.YtjdldofgkhibnaaDoor
open Go.RowKit


theorem boolI {a b : Bool} (h : a = true ↔ b = true) : Value.bool a = Value.bool b := by rw [Bool.eq_iff_iff.2 h]
theorem intI {k : IntKind} {a b : Int} (h : a = b) : Value.int k a = Value.int k b := by rw [h]


/-- A phase of the powerplay. -/
structure Ph where
  pf : Int
  pt : Int
  po : Int
def cP (l : List Ph) : List Value := l.flatMap fun p => [.int .i64 p.pf, .int .i64 p.pt, .int .i64 p.po]
def cP_rd (l : List Ph) (m : Nat) : Nat → Value
  | 0 => .int .i64 (l.getD m ⟨0, 0, 0⟩).pf
  | 1 => .int .i64 (l.getD m ⟨0, 0, 0⟩).pt
  | _ => .int .i64 (l.getD m ⟨0, 0, 0⟩).po
theorem cP_len (l : List Ph) : (cP l).length = l.length * 3 := by
  induction l with
  | nil => rfl
  | cons p l ih => simp only [cP, List.flatMap_cons, List.length_append] at *; rw [ih]; simp; omega
theorem cP_at {l : List Ph} {m j : Nat} (h : m < l.length) (hj : j < 3) : (cP l)[m * 3 + j]? = some (cP_rd l m j) := by
  induction l generalizing m with
  | nil => simp at h
  | cons p l ih =>
    have e : cP (p :: l) = [.int .i64 p.pf, .int .i64 p.pt, .int .i64 p.po] ++ cP l := rfl
    rw [e]
    cases m with
    | zero =>
      rw [List.getElem?_append_left (by simp; omega)]
      have : j = 0 ∨ j = 1 ∨ j = 2 := by omega
      rcases this with rfl | rfl | rfl <;> rfl
    | succ m =>
      rw [List.getElem?_append_right (by simp; omega)]
      have e2 : (m + 1) * 3 + j - [Value.int .i64 p.pf, .int .i64 p.pt, .int .i64 p.po].length = m * 3 + j := by simp; omega
      rw [e2, ih (by simpa using h)]
      have : j = 0 ∨ j = 1 ∨ j = 2 := by omega
      rcases this with rfl | rfl | rfl <;> simp [cP_rd]
theorem cP_get0 {l : List Ph} {m : Nat} (h : m < l.length) : lgo (cP l) (m * 3) = some (.int .i64 (l.getD m ⟨0, 0, 0⟩).pf) := by rw [lgo_eq]; exact cP_at (j := 0) h (by omega)
theorem cP_get1 {l : List Ph} {m : Nat} (h : m < l.length) : lgo (cP l) (m * 3 + 1) = some (.int .i64 (l.getD m ⟨0, 0, 0⟩).pt) := by rw [lgo_eq]; exact cP_at (j := 1) h (by omega)
theorem cP_get2 {l : List Ph} {m : Nat} (h : m < l.length) : lgo (cP l) (m * 3 + 2) = some (.int .i64 (l.getD m ⟨0, 0, 0⟩).po) := by rw [lgo_eq]; exact cP_at (j := 2) h (by omega)
structure Rul where
  nm : ByteArray
  q1 : Int
  q2 : Int
  q3 : Int
  q4 : Int
  q5 : Int
  q6 : Int
  q7 : Int
  fh : Bool
  q8 : Int
  q9 : Int
  qa : Int
  qo : Int
  pw : List Ph
structure RAd where
  a : Option Addr
  c : Nat
def ruV (r : Rul) (B : RAd) : Value := .agg #[.string r.nm, .int .i64 r.q1, .int .i64 r.q2, .int .i64 r.q3, .int .i64 r.q4, .int .i64 r.q5, .int .i64 r.q6, .int .i64 r.q7, .bool r.fh, .int .i64 r.q8, .int .i64 r.q9, .int .i64 r.qa, .int .i64 r.qo, .slice B.a r.pw.length B.c]
def cov (n : Int) (p : Ph) : Bool := decide (p.pf ≤ n) && decide (n ≤ p.pt)
/-- The fielders allowed outside the circle in the over with this number. -/
def alw (r : Rul) (n : Int) : Int := match r.pw.find? (cov n) with | some p => p.po | none => r.qo
def aI (r : Rul) (n : Int) (i : Nat) : Prop := i ≤ r.pw.length ∧ ∀ p ∈ r.pw.take i, cov n p = false
theorem alw_hit {r : Rul} {n : Int} {i : Nat} (h : aI r n i) (hi : i < r.pw.length) (hc : cov n (r.pw.getD i ⟨0, 0, 0⟩) = true) : alw r n = (r.pw.getD i ⟨0, 0, 0⟩).po := by
  unfold alw
  have e : r.pw = r.pw.take i ++ r.pw.getD i ⟨0, 0, 0⟩ :: r.pw.drop (i + 1) := by
    rw [List.getD_eq_getElem?_getD, List.getElem?_eq_getElem hi]
    simp
  have h1 : (r.pw.take i).find? (cov n) = none := by rw [List.find?_eq_none]; intro p hp; simp [h.2 p hp]
  rw [e, List.find?_append, h1]
  simp only [Option.none_or, List.find?_cons, ← e]
  rw [hc]
theorem alw_no {r : Rul} {n : Int} (h : aI r n r.pw.length) : alw r n = r.qo := by
  unfold alw
  have h1 : r.pw.find? (cov n) = none := by rw [List.find?_eq_none]; intro p hp; simp [h.2 p (by simpa using hp)]
  rw [h1]
theorem aI_0 (r : Rul) (n : Int) : aI r n 0 := ⟨Nat.zero_le _, fun p hp => by simp at hp⟩
theorem aI_step {r : Rul} {n : Int} {i : Nat} (h : aI r n i) (hi : i < r.pw.length) (hc : cov n (r.pw.getD i ⟨0, 0, 0⟩) = false) : aI r n (i + 1) := by
  refine ⟨hi, fun p hp => ?_⟩
  rw [List.take_add_one, List.getElem?_eq_getElem hi] at hp
  rw [List.getD_eq_getElem?_getD, List.getElem?_eq_getElem hi] at hc
  rw [List.mem_append] at hp
  rcases hp with hp | hp
  · exact h.2 p hp
  · simp at hp; subst hp; exact hc
@[reducible] def apL (r : Rul) (n : Int) : LoopR := ⟨Nat, fun i => [(8, .int .i64 i)], [], fun _ => [], aI r n, fun i => r.pw.length - i, []⟩
@[reducible] def arL (r : Rul) (n : Int) : LoopR := ⟨Nat, fun i => [(10, .int .i64 i)], [], fun _ => [], aI r n, fun i => r.pw.length - i, []⟩

end Go.Proofs.YtjdldofgkhibnaaDoor
