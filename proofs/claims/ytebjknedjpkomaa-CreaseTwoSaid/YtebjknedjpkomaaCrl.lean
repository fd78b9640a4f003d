/- Layer 12 (crease): lists of acts. -/
import Derived.Test.YtebjknedjpkomaaVy
import Derived.KernelRfl
import Derived.Test.YtebjknedjpkomaaProg
import Derived.Test.YtebjknedjpkomaaFda
import Derived.Test.YtebjknedjpkomaaCrc
set_option linter.unusedSimpArgs false
set_option linter.unusedVariables false
set_option maxRecDepth 100000
namespace Go.Proofs.Ytebjknedjpkomaa
open Go.RowKit


def ac0 : Ac2 := ⟨0, 0, 0, false, 0, 0, 0, 0, 0, false, 0, 0, 0, 0, false, 0⟩
def ga (l : List Ac2) (m : Nat) : Ac2 := l.getD m ac0
def acC (p : Ac2) : List Value := [.int .u8 p.k, .int .i64 p.n, .int .i64 p.m, .bool p.o, .int .u8 p.t, .int .u8 p.sc, .int .i64 p.ru, .int .i64 p.sh, .int .i64 p.b, .bool p.x, .int .u8 p.h, .int .i64 p.v, .int .i64 p.f, .int .i64 p.g, .bool p.u, .int .i64 p.z]
def cAc (l : List Ac2) : List Value := l.flatMap acC
def cAc_rd (l : List Ac2) (m : Nat) : Nat → Value
  | 0 => .int .u8 (ga l m).k
  | 1 => .int .i64 (ga l m).n
  | 2 => .int .i64 (ga l m).m
  | 3 => .bool (ga l m).o
  | 4 => .int .u8 (ga l m).t
  | 5 => .int .u8 (ga l m).sc
  | 6 => .int .i64 (ga l m).ru
  | 7 => .int .i64 (ga l m).sh
  | 8 => .int .i64 (ga l m).b
  | 9 => .bool (ga l m).x
  | 10 => .int .u8 (ga l m).h
  | 11 => .int .i64 (ga l m).v
  | 12 => .int .i64 (ga l m).f
  | 13 => .int .i64 (ga l m).g
  | 14 => .bool (ga l m).u
  | _ => .int .i64 (ga l m).z
theorem cAc_len (l : List Ac2) : (cAc l).length = l.length * 16 := by
  induction l with
  | nil => rfl
  | cons p l ih => simp only [cAc, List.flatMap_cons, List.length_append] at *; rw [ih]; simp [acC]; omega
theorem cAc_at {l : List Ac2} {m j : Nat} (h : m < l.length) (hj : j < 16) : (cAc l)[m * 16 + j]? = some (cAc_rd l m j) := by
  induction l generalizing m with
  | nil => simp at h
  | cons p l ih =>
    have e : cAc (p :: l) = acC p ++ cAc l := rfl
    have hl : (acC p).length = 16 := rfl
    rw [e]
    cases m with
    | zero =>
      rw [List.getElem?_append_left (by omega)]
      have : j = 0 ∨ j = 1 ∨ j = 2 ∨ j = 3 ∨ j = 4 ∨ j = 5 ∨ j = 6 ∨ j = 7 ∨ j = 8 ∨ j = 9 ∨ j = 10 ∨ j = 11 ∨ j = 12 ∨ j = 13 ∨ j = 14 ∨ j = 15 := by omega
      rcases this with rfl | rfl | rfl | rfl | rfl | rfl | rfl | rfl | rfl | rfl | rfl | rfl | rfl | rfl | rfl | rfl <;> rfl
    | succ m =>
      rw [List.getElem?_append_right (by omega)]
      have e2 : (m + 1) * 16 + j - (acC p).length = m * 16 + j := by omega
      rw [e2, ih (by simpa using h)]
      have : ga (p :: l) (m + 1) = ga l m := by simp [ga]
      have : j = 0 ∨ j = 1 ∨ j = 2 ∨ j = 3 ∨ j = 4 ∨ j = 5 ∨ j = 6 ∨ j = 7 ∨ j = 8 ∨ j = 9 ∨ j = 10 ∨ j = 11 ∨ j = 12 ∨ j = 13 ∨ j = 14 ∨ j = 15 := by omega
      rcases this with rfl | rfl | rfl | rfl | rfl | rfl | rfl | rfl | rfl | rfl | rfl | rfl | rfl | rfl | rfl | rfl <;> simp [cAc_rd, *]
theorem cAc_get0 {l : List Ac2} {m : Nat} (h : m < l.length) : lgo (cAc l) (m * 16) = some (.int .u8 (ga l m).k) := by rw [lgo_eq]; exact cAc_at (j := 0) h (by omega)
theorem cAc_get1 {l : List Ac2} {m : Nat} (h : m < l.length) : lgo (cAc l) (m * 16 + 1) = some (.int .i64 (ga l m).n) := by rw [lgo_eq]; exact cAc_at (j := 1) h (by omega)
theorem cAc_get2 {l : List Ac2} {m : Nat} (h : m < l.length) : lgo (cAc l) (m * 16 + 2) = some (.int .i64 (ga l m).m) := by rw [lgo_eq]; exact cAc_at (j := 2) h (by omega)
theorem cAc_get3 {l : List Ac2} {m : Nat} (h : m < l.length) : lgo (cAc l) (m * 16 + 3) = some (.bool (ga l m).o) := by rw [lgo_eq]; exact cAc_at (j := 3) h (by omega)
theorem cAc_get4 {l : List Ac2} {m : Nat} (h : m < l.length) : lgo (cAc l) (m * 16 + 4) = some (.int .u8 (ga l m).t) := by rw [lgo_eq]; exact cAc_at (j := 4) h (by omega)
theorem cAc_get5 {l : List Ac2} {m : Nat} (h : m < l.length) : lgo (cAc l) (m * 16 + 5) = some (.int .u8 (ga l m).sc) := by rw [lgo_eq]; exact cAc_at (j := 5) h (by omega)
theorem cAc_get6 {l : List Ac2} {m : Nat} (h : m < l.length) : lgo (cAc l) (m * 16 + 6) = some (.int .i64 (ga l m).ru) := by rw [lgo_eq]; exact cAc_at (j := 6) h (by omega)
theorem cAc_get7 {l : List Ac2} {m : Nat} (h : m < l.length) : lgo (cAc l) (m * 16 + 7) = some (.int .i64 (ga l m).sh) := by rw [lgo_eq]; exact cAc_at (j := 7) h (by omega)
theorem cAc_get8 {l : List Ac2} {m : Nat} (h : m < l.length) : lgo (cAc l) (m * 16 + 8) = some (.int .i64 (ga l m).b) := by rw [lgo_eq]; exact cAc_at (j := 8) h (by omega)
theorem cAc_get9 {l : List Ac2} {m : Nat} (h : m < l.length) : lgo (cAc l) (m * 16 + 9) = some (.bool (ga l m).x) := by rw [lgo_eq]; exact cAc_at (j := 9) h (by omega)
theorem cAc_get10 {l : List Ac2} {m : Nat} (h : m < l.length) : lgo (cAc l) (m * 16 + 10) = some (.int .u8 (ga l m).h) := by rw [lgo_eq]; exact cAc_at (j := 10) h (by omega)
theorem cAc_get11 {l : List Ac2} {m : Nat} (h : m < l.length) : lgo (cAc l) (m * 16 + 11) = some (.int .i64 (ga l m).v) := by rw [lgo_eq]; exact cAc_at (j := 11) h (by omega)
theorem cAc_get12 {l : List Ac2} {m : Nat} (h : m < l.length) : lgo (cAc l) (m * 16 + 12) = some (.int .i64 (ga l m).f) := by rw [lgo_eq]; exact cAc_at (j := 12) h (by omega)
theorem cAc_get13 {l : List Ac2} {m : Nat} (h : m < l.length) : lgo (cAc l) (m * 16 + 13) = some (.int .i64 (ga l m).g) := by rw [lgo_eq]; exact cAc_at (j := 13) h (by omega)
theorem cAc_get14 {l : List Ac2} {m : Nat} (h : m < l.length) : lgo (cAc l) (m * 16 + 14) = some (.bool (ga l m).u) := by rw [lgo_eq]; exact cAc_at (j := 14) h (by omega)
theorem cAc_get15 {l : List Ac2} {m : Nat} (h : m < l.length) : lgo (cAc l) (m * 16 + 15) = some (.int .i64 (ga l m).z) := by rw [lgo_eq]; exact cAc_at (j := 15) h (by omega)
theorem cAc_rng {l : List Ac2} (h : ∀ e ∈ l, 0 ≤ e.k ∧ e.k ≤ 255) (m : Nat) : 0 ≤ (ga l m).k ∧ (ga l m).k ≤ 255 := by
  unfold ga
  rw [List.getD_eq_getElem?_getD]
  cases hh : l[m]? with
  | none => exact ⟨by decide, by decide⟩
  | some e => exact h e (List.mem_of_getElem? hh)

end Go.Proofs.Ytebjknedjpkomaa
