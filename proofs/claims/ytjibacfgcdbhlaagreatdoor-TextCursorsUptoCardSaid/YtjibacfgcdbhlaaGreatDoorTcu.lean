/- A cursor over the fields of a line: the program's methods. -/
import Derived.Test.YtjibacfgcdbhlaaGreatDoorVz
import Derived.KernelRfl
import Derived.Test.YtjibacfgcdbhlaaGreatDoorProg
import Derived.Test.YtjibacfgcdbhlaaGreatDoorFda
import Derived.Test.YtjibacfgcdbhlaaGreatDoorRda
import Derived.Test.YtjibacfgcdbhlaaGreatDoorRub
import Derived.Test.YtjibacfgcdbhlaaGreatDoorSqw
set_option linter.unusedSimpArgs false
set_option linter.unusedVariables false
set_option maxRecDepth 100000
namespace Go.Proofs.YtjibacfgcdbhlaaGreatDoor
open Go.RowKit


/-- A field. -/
structure Fe where
  t : ByteArray
  c : Int
  q : Bool
/-- The element with an index. -/
def gFe (l : List Fe) (m : Nat) : Fe := l.getD m ⟨⟨#[]⟩, 0, false⟩
def cFe (l : List Fe) : List Value := l.flatMap fun p => [.string p.t, .int .i64 p.c, .bool p.q]
def cFe_rd (l : List Fe) (m : Nat) : Nat → Value
  | 0 => .string (gFe l m).t
  | 1 => .int .i64 (gFe l m).c
  | _ => .bool (gFe l m).q
theorem cFe_len (l : List Fe) : (cFe l).length = l.length * 3 := by
  induction l with
  | nil => rfl
  | cons p l ih => simp only [cFe, List.flatMap_cons, List.length_append] at *; rw [ih]; simp; omega
theorem cFe_at {l : List Fe} {m j : Nat} (h : m < l.length) (hj : j < 3) : (cFe l)[m * 3 + j]? = some (cFe_rd l m j) := by
  induction l generalizing m with
  | nil => simp at h
  | cons p l ih =>
    have e : cFe (p :: l) = [.string p.t, .int .i64 p.c, .bool p.q] ++ cFe l := rfl
    rw [e]
    cases m with
    | zero =>
      rw [List.getElem?_append_left (by simp; omega)]
      have : j = 0 ∨ j = 1 ∨ j = 2 := by omega
      rcases this with rfl | rfl | rfl <;> rfl
    | succ m =>
      rw [List.getElem?_append_right (by simp; omega)]
      have e2 : (m + 1) * 3 + j - ([.string p.t, .int .i64 p.c, .bool p.q] : List Value).length = m * 3 + j := by simp; omega
      rw [e2, ih (by simpa using h)]
      have : j = 0 ∨ j = 1 ∨ j = 2 := by omega
      rcases this with rfl | rfl | rfl <;> simp [cFe_rd, gFe]
theorem cFe_one (l : List Fe) : ∀ u ∈ cFe l, u.oneCell' = true := by
  intro u hu
  simp only [cFe, List.mem_flatMap, List.mem_cons, List.not_mem_nil, or_false] at hu
  obtain ⟨p, _, h | h | h⟩ := hu <;> (rw [h]; rfl)
theorem cFe_app (l : List Fe) (d : Fe) : lapp (cFe l) [.string d.t, .int .i64 d.c, .bool d.q] = cFe (l ++ [d]) := by
  rw [lapp_eq]
  unfold cFe
  rw [List.flatMap_append]
  rfl
theorem cFe_get0 {l : List Fe} {m : Nat} (h : m < l.length) : lgo (cFe l) (m * 3) = some (.string (gFe l m).t) := by rw [lgo_eq]; exact cFe_at (j := 0) h (by omega)
theorem cFe_get1 {l : List Fe} {m : Nat} (h : m < l.length) : lgo (cFe l) (m * 3 + 1) = some (.int .i64 (gFe l m).c) := by rw [lgo_eq]; exact cFe_at (j := 1) h (by omega)
theorem cFe_get2 {l : List Fe} {m : Nat} (h : m < l.length) : lgo (cFe l) (m * 3 + 2) = some (.bool (gFe l m).q) := by rw [lgo_eq]; exact cFe_at (j := 2) h (by omega)

/-- A cursor: what is read next, the first error, its column. -/
structure Cu where
  n : Nat
  e : Int
  c : Int
def noOw : Option Ow := none
def fe0 : Fe := ⟨⟨#[]⟩, 0, false⟩
def feV (f : Fe) : Value := .agg #[.string f.t, .int .i64 f.c, .bool f.q]
def cuL (ln : Int) (a : Option Addr) (m cp : Nat) (u : Cu) : List Value := [.int .i64 ln, .slice a m cp, .int .i64 u.n, .int .i64 u.e, .int .i64 u.c]
/-- The next field is there, and quoted or not, as it should be. -/
def okC (q : Bool) (fs : List Fe) (u : Cu) : Bool := (u.e == 0) && (decide (u.n < fs.length) && ((gFe fs u.n).q == q))
def rdF (q : Bool) (fs : List Fe) (u : Cu) : Fe := if okC q fs u = true then gFe fs u.n else fe0
def rdU (q : Bool) (fs : List Fe) (u : Cu) : Cu := if u.e = 0 then (if u.n < fs.length then (if (gFe fs u.n).q = q then ⟨u.n + 1, u.e, u.c⟩ else ⟨u.n, 4, (gFe fs u.n).c⟩) else ⟨u.n, 4, 0⟩) else u
def kwB (w : ByteArray) (fs : List Fe) (u : Cu) : Bool := okC false fs u && ((rdF false fs u).t.toList == w.toList)
def kwU (w : ByteArray) (fs : List Fe) (u : Cu) : Cu := if okC false fs u = true ∧ ¬ (rdF false fs u).t.toList = w.toList then ⟨u.n + 1, 4, (rdF false fs u).c⟩ else rdU false fs u
def moB (fs : List Fe) (u : Cu) : Bool := (u.e == 0) && decide (u.n < fs.length)
def rjU (e : Int) (fs : List Fe) (u : Cu) : Cu := if u.e = 0 ∧ ¬ e = 0 then ⟨u.n, e, if 0 < u.n then (gFe fs (u.n - 1)).c else 0⟩ else u
structure Dg where
  l : Int
  c : Int
  e : Int
def dgV (d : Dg) : Value := .agg #[.int .i64 d.l, .int .i64 d.c, .int .i64 d.e]
def clD (ln : Int) (fs : List Fe) (u : Cu) : Dg := if u.e = 0 then (if u.n < fs.length then ⟨ln, (gFe fs u.n).c, 4⟩ else ⟨0, 0, 0⟩) else ⟨ln, u.c, u.e⟩
def clB (fs : List Fe) (u : Cu) : Bool := (!(u.e == 0)) || decide (u.n < fs.length)
theorem mo_t {fs : List Fe} {u : Cu} (h : moB fs u = true) : u.n < fs.length := by unfold moB at h; simp at h; exact h.2

def crd_h (b : Nat) (ln : Int) (a : Option Addr) (fs : List Fe) (cp : Nat) (u : Cu) (q : Bool) : Hint := .inl (.pl (hl 4 (.ob 1 (.lit (.pl (.lit (.split (ho 2 6 (.perm [1] .nil)) (.draw [0, 1, 2] none [0, 1, 2] (.take 0 (.take 1 (.take 2 (.take 3 (.ob 1 (.take 4 (.take 5 (.take 6 (.take 7 (.ob 1 (.take 8 (.pl (.take 9 (.split (.inl (ho 1 2 (ho 2 6 (.perm [1] .nil)))) (.draw [0, 1, 2] none [0, 1, 2]
 (.take 0 (.take 1 (.take 2 (.take 3 (.ob 1 (.take 4 (.take 5 (.take 6 (.take 7 (.ob 1 (.take 8 (.ix (.take 9 (.lst (0 : Nat) (Int.toNat (↑(Cu.n u) : Int) * (3 : Nat)) (Value.string (Fe.t (gFe fs (Int.toNat (↑(Cu.n u) : Int))))) (.lst (0 : Nat) (Int.toNat (↑(Cu.n u) : Int) * (3 : Nat) + (1 : Nat))
 (Value.int .i64 (Fe.c (gFe fs (Int.toNat (↑(Cu.n u) : Int))))) (.lst (0 : Nat) (Int.toNat (↑(Cu.n u) : Int) * (3 : Nat) + (2 : Nat)) (Value.bool (Fe.q (gFe fs (Int.toNat (↑(Cu.n u) : Int))))) (.pl (.br (.pl (.br (ho 3 4 (.pl (.split (.ob 3 (.inl (ho 1 2 (ho 2 6 (.perm [1] .nil))))) (ho 1 2 (ho 3 3
 (ho 2 6 (.perm [1] .nil))))))) .nil)) .nil)))))))))))))))))))))))))))))))))))))))))
theorem crd_x (b : Nat) (ln : Int) (a : Option Addr) (fs : List Fe) (cp : Nat) (u : Cu) (q : Bool) : wpH Tryz.prog [] ([(a, cFe fs)]) ([]) ([⟨b, cuL ln a fs.length cp u, 58, none⟩]) 400 33 [.pointer (some ⟨b, 0, none⟩), .bool q] (crd_h b ln a fs cp u q) (Un) (fun x => x = Un.un) (fun _ => [⟨b, cuL ln a fs.length cp (rdU q fs u), 58, none⟩]) (fun _ => .tuple #[feV (rdF q fs u), .bool (okC q fs u)]) = (∀ (b_1 : Nat), b = b /\ ((!Cu.e u == 0) = true -> e2 b_1 3 (e1 b_1 3 (∃ x, x = Un.un /\ Value.tuple (Array.mk [.agg (Array.mk [.string (ByteArray.mk (Array.mk [])), .int .i64 0, .bool false]), .bool false]) = Value.tuple (Array.mk [feV (rdF q fs u), .bool (okC q fs u)]) /\ (True /\ True) /\ (b = b /\
 cuL ln a (List.length fs) cp u = cuL ln a (List.length fs) cp (rdU q fs u) /\ (58 : Nat) = (58 : Nat) /\ noOw = noOw) /\ True))) /\ ((!Cu.e u == 0) = false -> b = b /\ b = b /\ (decide ((↑(Cu.n u) : Int) ≥ (↑(List.length fs) : Int)) = true -> b = b /\ True /\ b = b /\ True /\ e2 b_1 3 (e1 b_1 3 (∃
 x, x = Un.un /\ Value.tuple (Array.mk [.agg (Array.mk [.string (ByteArray.mk (Array.mk [])), .int .i64 0, .bool false]), .bool false]) = Value.tuple (Array.mk [feV (rdF q fs u), .bool (okC q fs u)]) /\ (True /\ True) /\ (b = b /\ [Value.int .i64 ln, .slice a (List.length fs) cp, .int .i64 (↑(Cu.n u)
 : Int), .int .i64 4, .int .i64 0] = cuL ln a (List.length fs) cp (rdU q fs u) /\ (58 : Nat) = (58 : Nat) /\ noOw = noOw) /\ True))) /\ (decide ((↑(Cu.n u) : Int) ≥ (↑(List.length fs) : Int)) = false -> b = b /\ b = b /\ (((0 : Int) ≤ (↑(Cu.n u) : Int) /\ (↑(Cu.n u) : Int) < (↑(List.length fs) :
 Int)) /\ AOK a (List.length fs)) /\ bk a = bk a /\ ofs a + Int.toNat (↑(Cu.n u) : Int) * (3 : Nat) = ofs a + Int.toNat (↑(Cu.n u) : Int) * (3 : Nat) /\ lgo (cFe fs) (Int.toNat (↑(Cu.n u) : Int) * (3 : Nat)) = some (Value.string (Fe.t (gFe fs (Int.toNat (↑(Cu.n u) : Int))))) /\ bk a = bk a /\ ofs a +
 Int.toNat (↑(Cu.n u) : Int) * (3 : Nat) + (1 : Nat) = ofs a + (Int.toNat (↑(Cu.n u) : Int) * (3 : Nat) + (1 : Nat)) /\ lgo (cFe fs) (Int.toNat (↑(Cu.n u) : Int) * (3 : Nat) + (1 : Nat)) = some (Value.int .i64 (Fe.c (gFe fs (Int.toNat (↑(Cu.n u) : Int))))) /\ bk a = bk a /\ ofs a + Int.toNat (↑(Cu.n
 u) : Int) * (3 : Nat) + (2 : Nat) = ofs a + (Int.toNat (↑(Cu.n u) : Int) * (3 : Nat) + (2 : Nat)) /\ lgo (cFe fs) (Int.toNat (↑(Cu.n u) : Int) * (3 : Nat) + (2 : Nat)) = some (Value.bool (Fe.q (gFe fs (Int.toNat (↑(Cu.n u) : Int))))) /\ True /\ (∀ (b_2 : Nat), True /\ (e2 b_2 3 (b_2 = b_2 /\ ((!Fe.q
 (gFe fs (Int.toNat (↑(Cu.n u) : Int))) == q) = true -> b_2 = b_2 /\ b = b /\ True /\ b = b /\ True /\ e2 b_1 3 (e1 b_1 3 (∃ x, x = Un.un /\ Value.tuple (Array.mk [.agg (Array.mk [.string (ByteArray.mk (Array.mk [])), .int .i64 0, .bool false]), .bool false]) = Value.tuple (Array.mk [feV (rdF q fs
 u), .bool (okC q fs u)]) /\ (True /\ True) /\ (b = b /\ [Value.int .i64 ln, .slice a (List.length fs) cp, .int .i64 (↑(Cu.n u) : Int), .int .i64 4, .int .i64 (Fe.c (gFe fs (Int.toNat (↑(Cu.n u) : Int))))] = cuL ln a (List.length fs) cp (rdU q fs u) /\ (58 : Nat) = (58 : Nat) /\ noOw = noOw) /\
 True))) /\ ((!Fe.q (gFe fs (Int.toNat (↑(Cu.n u) : Int))) == q) = false -> b = b /\ b = b /\ True /\ e1 b_2 3 (e2 b_1 3 (e1 b_1 3 (∃ x, x = Un.un /\ Value.tuple (Array.mk [.agg (Array.mk [.string (Fe.t (gFe fs (Int.toNat (↑(Cu.n u) : Int)))), .int .i64 (Fe.c (gFe fs (Int.toNat (↑(Cu.n u) : Int)))),
 .bool (Fe.q (gFe fs (Int.toNat (↑(Cu.n u) : Int))))]), .bool true]) = Value.tuple (Array.mk [feV (rdF q fs u), .bool (okC q fs u)]) /\ (True /\ True) /\ (b = b /\ [Value.int .i64 ln, .slice a (List.length fs) cp, .int .i64 (IntKind.i64.wrap ((↑(Cu.n u) : Int) + (1 : Int))), .int .i64 (Cu.e u), .int
 .i64 (Cu.c u)] = cuL ln a (List.length fs) cp (rdU q fs u) /\ (58 : Nat) = (58 : Nat) /\ noOw = noOw) /\ True)))))) /\ True) /\ True))) := by kernel_rfl
set_option maxHeartbeats 4000000 in
theorem crd_sp (b : Nat) (ln : Int) (a : Option Addr) (fs : List Fe) (cp : Nat) (u : Cu) (q : Bool) (hA : AOK a fs.length) (hl : fs.length ≤ 1000000) (hu : u.n ≤ fs.length) : SpecC Tryz.prog [] ([(a, cFe fs)]) ([]) ([⟨b, cuL ln a fs.length cp u, 58, none⟩]) 33 #[.pointer (some ⟨b, 0, none⟩), .bool q] (Un) (fun x => x = Un.un) (fun _ => [⟨b, cuL ln a fs.length cp (rdU q fs u), 58, none⟩]) (fun _ => .tuple #[feV (rdF q fs u), .bool (okC q fs u)]) := by
  refine specC_of (h := crd_h b ln a fs cp u q) (?_ : wpH Tryz.prog [] ([(a, cFe fs)]) ([]) ([⟨b, cuL ln a fs.length cp u, 58, none⟩]) 400 33 [.pointer (some ⟨b, 0, none⟩), .bool q] (crd_h b ln a fs cp u q) (Un) (fun x => x = Un.un) (fun _ => [⟨b, cuL ln a fs.length cp (rdU q fs u), 58, none⟩]) (fun _ => .tuple #[feV (rdF q fs u), .bool (okC q fs u)]))
  rw [crd_x]
  (repeat' (first | with_reducible exact rfl | exact trivial | with_reducible assumption | exact cU_len _ | exact cI_len _ | exact cB_len _ | exact cU_one _ | exact cI_one _ | exact cB_one _ | exact (fun _ h => h) | exact (fun _ h => (List.not_mem_nil h).elim) | (with_reducible refine e1_in ?_) | (with_reducible refine e2_in ?_) | (with_reducible refine lx_in (Nat.le_of_ble_eq_true rfl) ?_) | (with_reducible refine rqx_rf ?_) | (with_reducible refine rqx_in ?_ ?_ ?_) | (with_reducible apply And.intro) | (with_reducible intro _)))
  all_goals (try (refine ⟨Un.un, rfl, ?_, ⟨trivial, trivial⟩, ⟨rfl, ?_, rfl, rfl⟩, trivial⟩))
  all_goals (try simp only [ge_iff_le, decide_eq_true_eq, decide_eq_false_iff_not, Int.ofNat_le, Int.ofNat_lt, Int.not_le, Nat.not_le, Nat.not_lt, Int.toNat_natCast, beq_iff_eq, bne_iff_ne, beq_eq_false_iff_ne, bne_eq_false_iff_eq, ne_eq, Decidable.not_not, Bool.not_eq_true', Bool.not_eq_false'] at *)
  all_goals (try (first | omega | exact hA | (refine cFe_get0 ?_; omega) | (refine cFe_get1 ?_; omega) | (refine cFe_get2 ?_; omega)))
  all_goals (try (have hm := mo_t ‹moB fs u = true›; first | omega | (refine cFe_get0 ?_; omega) | (refine cFe_get1 ?_; omega) | (refine cFe_get2 ?_; omega)))
  all_goals (have hw : u.n ≤ 1048576 → IntKind.i64.wrap ((u.n : Int) + 1) = ((u.n + 1 : Nat) : Int) := fun hk => by rw [IntWalk.i64_in _ (by omega)]; rfl)
  all_goals (have hp : 0 < u.n → IntKind.i64.wrap ((u.n : Int) - 1) = ((u.n - 1 : Nat) : Int) := fun hk => by rw [IntWalk.i64_in _ (by omega)]; omega)
  all_goals (try (rw [hp (by omega)]))
  all_goals (try simp only [Int.toNat_natCast])
  all_goals (try (first | omega | (refine cFe_get0 ?_; omega) | (refine cFe_get1 ?_; omega) | (refine cFe_get2 ?_; omega)))
  all_goals (try (simp_all [kwU]; done))
  all_goals (try (refine congrArg (cuL ln a fs.length cp) ?_; unfold rjU; rw [if_neg (by rintro ⟨h1, h2⟩; have h3 := ‹(!u.e == 0 || e == 0) = true›; simp [h1, h2] at h3)]))
  all_goals (try (by_cases hq : 0 < u.n <;> simp_all [cuL, rjU]; done))
  all_goals (try ((try rw [hw (by omega)]) <;> by_cases hlt : u.n < fs.length <;> first | (exfalso; omega) | (simp_all [okC, rdF, rdU, feV, cuL, fe0, kwB, kwU, moB, rjU, dgV, clD, clB]; done) | (simp [okC, rdF, rdU, feV, cuL, fe0, kwB, kwU, moB, rjU, dgV, clD, clB, hlt, *]; done)))
  
def cmo_h (b : Nat) (ln : Int) (a : Option Addr) (fs : List Fe) (cp : Nat) (u : Cu) : Hint := .nc (.cut [((2 : Nat), .bool (Cu.e u == 0 && decide ((↑(Cu.n u) : Int) < (↑(List.length fs) : Int))))] (.draw [0, 1] none [0, 1] (.take 0 (.pl (.br (.inl (.pl (hl 4 (.ob 1 (.lit (.pl (.lit (.take 2 (.take 3 (.split (.take 4 (.lit (.take 5 (.lit (.take 6 (.lit (.ob 1 (.take 7 (.lit (.take 8 (.lit
 (.take 9 (.lit (.take 10 (.lit (.ob 1 (.take 11 (.lit (.pl (.take 12 (.lit (.take 13 (.lit (.take 14 .nil)))))))))))))))))))))))) (.take 4 (.lit (.take 5 (.lit (.take 6 (.lit (.take 7 (.lit (.take 8 (.lit (.take 9 (.lit (.take 10 (.lit (.take 11 (.lit (.take 12 (.lit (.take 13 (.lit (.take 14
 .nil))))))))))))))))))))))))))))))) .nil)))) (.perm [1] .nil))
theorem cmo_x (b : Nat) (ln : Int) (a : Option Addr) (fs : List Fe) (cp : Nat) (u : Cu) : wpH Tryz.prog [] ([(a, cFe fs)]) ([]) ([⟨b, cuL ln a fs.length cp u, 58, none⟩]) 400 8 [.pointer (some ⟨b, 0, none⟩)] (cmo_h b ln a fs cp u) (Un) (fun x => x = Un.un) (fun _ => [⟨b, cuL ln a fs.length cp (u), 58, none⟩]) (fun _ => .bool (moB fs u)) = ((True /\ (b = b /\ ((Cu.e u == 0) = true -> b = b /\ b = b /\ Value.bool (decide ((↑(Cu.n u) : Int) < (↑(List.length fs) : Int))) = Value.bool (Cu.e u == 0 && decide ((↑(Cu.n u) : Int) < (↑(List.length fs) : Int))) /\ True) /\ ((Cu.e u == 0) = false -> Value.bool false = Value.bool (Cu.e u == 0 &&
 decide ((↑(Cu.n u) : Int) < (↑(List.length fs) : Int))) /\ True)) /\ True) /\ ∀ (junk : Nat -> Value), ∃ x, x = Un.un /\ Value.bool (Cu.e u == 0 && decide ((↑(Cu.n u) : Int) < (↑(List.length fs) : Int))) = Value.bool (moB fs u) /\ (True /\ True) /\ (b = b /\ cuL ln a (List.length fs) cp u = cuL ln a
 (List.length fs) cp u /\ (58 : Nat) = (58 : Nat) /\ noOw = noOw) /\ True) := by kernel_rfl
set_option maxHeartbeats 4000000 in
theorem cmo_sp (b : Nat) (ln : Int) (a : Option Addr) (fs : List Fe) (cp : Nat) (u : Cu) (hA : AOK a fs.length) (hl : fs.length ≤ 1000000) (hu : u.n ≤ fs.length) : SpecC Tryz.prog [] ([(a, cFe fs)]) ([]) ([⟨b, cuL ln a fs.length cp u, 58, none⟩]) 8 #[.pointer (some ⟨b, 0, none⟩)] (Un) (fun x => x = Un.un) (fun _ => [⟨b, cuL ln a fs.length cp (u), 58, none⟩]) (fun _ => .bool (moB fs u)) := by
  refine specC_of (h := cmo_h b ln a fs cp u) (?_ : wpH Tryz.prog [] ([(a, cFe fs)]) ([]) ([⟨b, cuL ln a fs.length cp u, 58, none⟩]) 400 8 [.pointer (some ⟨b, 0, none⟩)] (cmo_h b ln a fs cp u) (Un) (fun x => x = Un.un) (fun _ => [⟨b, cuL ln a fs.length cp (u), 58, none⟩]) (fun _ => .bool (moB fs u)))
  rw [cmo_x]
  (repeat' (first | with_reducible exact rfl | exact trivial | with_reducible assumption | exact cU_len _ | exact cI_len _ | exact cB_len _ | exact cU_one _ | exact cI_one _ | exact cB_one _ | exact (fun _ h => h) | exact (fun _ h => (List.not_mem_nil h).elim) | (with_reducible refine e1_in ?_) | (with_reducible refine e2_in ?_) | (with_reducible refine lx_in (Nat.le_of_ble_eq_true rfl) ?_) | (with_reducible refine rqx_rf ?_) | (with_reducible refine rqx_in ?_ ?_ ?_) | (with_reducible apply And.intro) | (with_reducible intro _)))
  all_goals (try (refine ⟨Un.un, rfl, ?_, ⟨trivial, trivial⟩, ⟨rfl, ?_, rfl, rfl⟩, trivial⟩))
  all_goals (try simp only [ge_iff_le, decide_eq_true_eq, decide_eq_false_iff_not, Int.ofNat_le, Int.ofNat_lt, Int.not_le, Nat.not_le, Nat.not_lt, Int.toNat_natCast, beq_iff_eq, bne_iff_ne, beq_eq_false_iff_ne, bne_eq_false_iff_eq, ne_eq, Decidable.not_not, Bool.not_eq_true', Bool.not_eq_false'] at *)
  all_goals (try (first | omega | exact hA | (refine cFe_get0 ?_; omega) | (refine cFe_get1 ?_; omega) | (refine cFe_get2 ?_; omega)))
  all_goals (try (have hm := mo_t ‹moB fs u = true›; first | omega | (refine cFe_get0 ?_; omega) | (refine cFe_get1 ?_; omega) | (refine cFe_get2 ?_; omega)))
  all_goals (have hw : u.n ≤ 1048576 → IntKind.i64.wrap ((u.n : Int) + 1) = ((u.n + 1 : Nat) : Int) := fun hk => by rw [IntWalk.i64_in _ (by omega)]; rfl)
  all_goals (have hp : 0 < u.n → IntKind.i64.wrap ((u.n : Int) - 1) = ((u.n - 1 : Nat) : Int) := fun hk => by rw [IntWalk.i64_in _ (by omega)]; omega)
  all_goals (try (rw [hp (by omega)]))
  all_goals (try simp only [Int.toNat_natCast])
  all_goals (try (first | omega | (refine cFe_get0 ?_; omega) | (refine cFe_get1 ?_; omega) | (refine cFe_get2 ?_; omega)))
  all_goals (try (simp_all [kwU]; done))
  all_goals (try (refine congrArg (cuL ln a fs.length cp) ?_; unfold rjU; rw [if_neg (by rintro ⟨h1, h2⟩; have h3 := ‹(!u.e == 0 || e == 0) = true›; simp [h1, h2] at h3)]))
  all_goals (try (by_cases hq : 0 < u.n <;> simp_all [cuL, rjU]; done))
  all_goals (try ((try rw [hw (by omega)]) <;> by_cases hlt : u.n < fs.length <;> first | (exfalso; omega) | (simp_all [okC, rdF, rdU, feV, cuL, fe0, kwB, kwU, moB, rjU, dgV, clD, clB]; done) | (simp [okC, rdF, rdU, feV, cuL, fe0, kwB, kwU, moB, rjU, dgV, clD, clB, hlt, *]; done)))
  
def cwo_h (b : Nat) (ln : Int) (a : Option Addr) (fs : List Fe) (cp : Nat) (u : Cu) : Hint := .specc [] [(a, cFe fs)] [] [Ob.mk b (cuL ln a (List.length fs) cp u) (58 : TypeId) none] Un (fun x ↦ x = Un.un) (fun x ↦ [Ob.mk b (cuL ln a (List.length fs) cp (rdU false fs u)) (58 : TypeId) none]) (fun x ↦ Value.tuple #[feV (rdF false fs u), .bool (okC false fs u)]) [0] [] [1] fun x_87 ↦ ho 3 4
 (.perm [2] .nil)
theorem cwo_x (b : Nat) (ln : Int) (a : Option Addr) (fs : List Fe) (cp : Nat) (u : Cu) : wpH Tryz.prog [] ([(a, cFe fs)]) ([]) ([⟨b, cuL ln a fs.length cp u, 58, none⟩]) 400 13 [.pointer (some ⟨b, 0, none⟩)] (cwo_h b ln a fs cp u) (Un) (fun x => x = Un.un) (fun _ => [⟨b, cuL ln a fs.length cp (rdU false fs u), 58, none⟩]) (fun _ => .string (rdF false fs u).t) = ((SpecC Tryz.prog [] [(a, cFe fs)] [] [Ob.mk b (cuL ln a (List.length fs) cp u) (58 : TypeId) noOw] (33 : FuncId) #[Value.pointer (some (Addr.mk b (0 : Nat) none)), .bool false] Un (fun x ↦ x = Un.un) (fun x ↦ [Ob.mk b (cuL ln a (List.length fs) cp (rdU false fs u)) (58 : TypeId) noOw]) fun x ↦
 Value.tuple #[feV (rdF false fs u), .bool (okC false fs u)]) /\ (∀ (e : Ex), e ∈ [] -> e ∈ []) /\ ((b = b /\ cuL ln a (List.length fs) cp u = cuL ln a (List.length fs) cp u /\ (58 : Nat) = (58 : Nat) /\ noOw = noOw) /\ True) /\ ((a = a /\ cFe fs = cFe fs) /\ True) /\ True /\ ∀ (x_87 : Un), x_87 =
 Un.un -> ∀ (b_1 : Nat), e2 b_1 3 (b_1 = b_1 /\ ∃ x, x = Un.un /\ Value.string (Fe.t (rdF false fs u)) = Value.string (Fe.t (rdF false fs u)) /\ (True /\ True) /\ (b = b /\ cuL ln a (List.length fs) cp (rdU false fs u) = cuL ln a (List.length fs) cp (rdU false fs u) /\ (58 : Nat) = (58 : Nat) /\ noOw
 = noOw) /\ True)) := by kernel_rfl
set_option maxHeartbeats 4000000 in
theorem cwo_sp (b : Nat) (ln : Int) (a : Option Addr) (fs : List Fe) (cp : Nat) (u : Cu) (hA : AOK a fs.length) (hl : fs.length ≤ 1000000) (hu : u.n ≤ fs.length) : SpecC Tryz.prog [] ([(a, cFe fs)]) ([]) ([⟨b, cuL ln a fs.length cp u, 58, none⟩]) 13 #[.pointer (some ⟨b, 0, none⟩)] (Un) (fun x => x = Un.un) (fun _ => [⟨b, cuL ln a fs.length cp (rdU false fs u), 58, none⟩]) (fun _ => .string (rdF false fs u).t) := by
  refine specC_of (h := cwo_h b ln a fs cp u) (?_ : wpH Tryz.prog [] ([(a, cFe fs)]) ([]) ([⟨b, cuL ln a fs.length cp u, 58, none⟩]) 400 13 [.pointer (some ⟨b, 0, none⟩)] (cwo_h b ln a fs cp u) (Un) (fun x => x = Un.un) (fun _ => [⟨b, cuL ln a fs.length cp (rdU false fs u), 58, none⟩]) (fun _ => .string (rdF false fs u).t))
  rw [cwo_x]
  (repeat' (first | with_reducible exact rfl | exact trivial | with_reducible assumption | exact crd_sp _ _ _ _ _ _ _ hA hl hu | exact cU_len _ | exact cI_len _ | exact cB_len _ | exact cU_one _ | exact cI_one _ | exact cB_one _ | exact (fun _ h => h) | exact (fun _ h => (List.not_mem_nil h).elim) | (with_reducible refine e1_in ?_) | (with_reducible refine e2_in ?_) | (with_reducible refine lx_in (Nat.le_of_ble_eq_true rfl) ?_) | (with_reducible refine rqx_rf ?_) | (with_reducible refine rqx_in ?_ ?_ ?_) | (with_reducible apply And.intro) | (with_reducible intro _)))
  all_goals (try (refine ⟨Un.un, rfl, ?_, ⟨trivial, trivial⟩, ⟨rfl, ?_, rfl, rfl⟩, trivial⟩))
  all_goals (try simp only [ge_iff_le, decide_eq_true_eq, decide_eq_false_iff_not, Int.ofNat_le, Int.ofNat_lt, Int.not_le, Nat.not_le, Nat.not_lt, Int.toNat_natCast, beq_iff_eq, bne_iff_ne, beq_eq_false_iff_ne, bne_eq_false_iff_eq, ne_eq, Decidable.not_not, Bool.not_eq_true', Bool.not_eq_false'] at *)
  all_goals (try (first | omega | exact hA | (refine cFe_get0 ?_; omega) | (refine cFe_get1 ?_; omega) | (refine cFe_get2 ?_; omega)))
  all_goals (try (have hm := mo_t ‹moB fs u = true›; first | omega | (refine cFe_get0 ?_; omega) | (refine cFe_get1 ?_; omega) | (refine cFe_get2 ?_; omega)))
  all_goals (have hw : u.n ≤ 1048576 → IntKind.i64.wrap ((u.n : Int) + 1) = ((u.n + 1 : Nat) : Int) := fun hk => by rw [IntWalk.i64_in _ (by omega)]; rfl)
  all_goals (have hp : 0 < u.n → IntKind.i64.wrap ((u.n : Int) - 1) = ((u.n - 1 : Nat) : Int) := fun hk => by rw [IntWalk.i64_in _ (by omega)]; omega)
  all_goals (try (rw [hp (by omega)]))
  all_goals (try simp only [Int.toNat_natCast])
  all_goals (try (first | omega | (refine cFe_get0 ?_; omega) | (refine cFe_get1 ?_; omega) | (refine cFe_get2 ?_; omega)))
  all_goals (try (simp_all [kwU]; done))
  all_goals (try (refine congrArg (cuL ln a fs.length cp) ?_; unfold rjU; rw [if_neg (by rintro ⟨h1, h2⟩; have h3 := ‹(!u.e == 0 || e == 0) = true›; simp [h1, h2] at h3)]))
  all_goals (try (by_cases hq : 0 < u.n <;> simp_all [cuL, rjU]; done))
  all_goals (try ((try rw [hw (by omega)]) <;> by_cases hlt : u.n < fs.length <;> first | (exfalso; omega) | (simp_all [okC, rdF, rdU, feV, cuL, fe0, kwB, kwU, moB, rjU, dgV, clD, clB]; done) | (simp [okC, rdF, rdU, feV, cuL, fe0, kwB, kwU, moB, rjU, dgV, clD, clB, hlt, *]; done)))
  
def cst_h (b : Nat) (ln : Int) (a : Option Addr) (fs : List Fe) (cp : Nat) (u : Cu) : Hint := .specc [] [(a, cFe fs)] [] [Ob.mk b (cuL ln a (List.length fs) cp u) (58 : TypeId) none] Un (fun x ↦ x = Un.un) (fun x ↦ [Ob.mk b (cuL ln a (List.length fs) cp (rdU true fs u)) (58 : TypeId) none]) (fun x ↦ Value.tuple #[feV (rdF true fs u), .bool (okC true fs u)]) [0] [] [1] fun x_87 ↦ ho 3 4 (.perm
 [2] .nil)
theorem cst_x (b : Nat) (ln : Int) (a : Option Addr) (fs : List Fe) (cp : Nat) (u : Cu) : wpH Tryz.prog [] ([(a, cFe fs)]) ([]) ([⟨b, cuL ln a fs.length cp u, 58, none⟩]) 400 18 [.pointer (some ⟨b, 0, none⟩)] (cst_h b ln a fs cp u) (Un) (fun x => x = Un.un) (fun _ => [⟨b, cuL ln a fs.length cp (rdU true fs u), 58, none⟩]) (fun _ => .string (rdF true fs u).t) = ((SpecC Tryz.prog [] [(a, cFe fs)] [] [Ob.mk b (cuL ln a (List.length fs) cp u) (58 : TypeId) noOw] (33 : FuncId) #[Value.pointer (some (Addr.mk b (0 : Nat) none)), .bool true] Un (fun x ↦ x = Un.un) (fun x ↦ [Ob.mk b (cuL ln a (List.length fs) cp (rdU true fs u)) (58 : TypeId) noOw]) fun x ↦
 Value.tuple #[feV (rdF true fs u), .bool (okC true fs u)]) /\ (∀ (e : Ex), e ∈ [] -> e ∈ []) /\ ((b = b /\ cuL ln a (List.length fs) cp u = cuL ln a (List.length fs) cp u /\ (58 : Nat) = (58 : Nat) /\ noOw = noOw) /\ True) /\ ((a = a /\ cFe fs = cFe fs) /\ True) /\ True /\ ∀ (x_87 : Un), x_87 =
 Un.un -> ∀ (b_1 : Nat), e2 b_1 3 (b_1 = b_1 /\ ∃ x, x = Un.un /\ Value.string (Fe.t (rdF true fs u)) = Value.string (Fe.t (rdF true fs u)) /\ (True /\ True) /\ (b = b /\ cuL ln a (List.length fs) cp (rdU true fs u) = cuL ln a (List.length fs) cp (rdU true fs u) /\ (58 : Nat) = (58 : Nat) /\ noOw =
 noOw) /\ True)) := by kernel_rfl
set_option maxHeartbeats 4000000 in
theorem cst_sp (b : Nat) (ln : Int) (a : Option Addr) (fs : List Fe) (cp : Nat) (u : Cu) (hA : AOK a fs.length) (hl : fs.length ≤ 1000000) (hu : u.n ≤ fs.length) : SpecC Tryz.prog [] ([(a, cFe fs)]) ([]) ([⟨b, cuL ln a fs.length cp u, 58, none⟩]) 18 #[.pointer (some ⟨b, 0, none⟩)] (Un) (fun x => x = Un.un) (fun _ => [⟨b, cuL ln a fs.length cp (rdU true fs u), 58, none⟩]) (fun _ => .string (rdF true fs u).t) := by
  refine specC_of (h := cst_h b ln a fs cp u) (?_ : wpH Tryz.prog [] ([(a, cFe fs)]) ([]) ([⟨b, cuL ln a fs.length cp u, 58, none⟩]) 400 18 [.pointer (some ⟨b, 0, none⟩)] (cst_h b ln a fs cp u) (Un) (fun x => x = Un.un) (fun _ => [⟨b, cuL ln a fs.length cp (rdU true fs u), 58, none⟩]) (fun _ => .string (rdF true fs u).t))
  rw [cst_x]
  (repeat' (first | with_reducible exact rfl | exact trivial | with_reducible assumption | exact crd_sp _ _ _ _ _ _ _ hA hl hu | exact cU_len _ | exact cI_len _ | exact cB_len _ | exact cU_one _ | exact cI_one _ | exact cB_one _ | exact (fun _ h => h) | exact (fun _ h => (List.not_mem_nil h).elim) | (with_reducible refine e1_in ?_) | (with_reducible refine e2_in ?_) | (with_reducible refine lx_in (Nat.le_of_ble_eq_true rfl) ?_) | (with_reducible refine rqx_rf ?_) | (with_reducible refine rqx_in ?_ ?_ ?_) | (with_reducible apply And.intro) | (with_reducible intro _)))
  all_goals (try (refine ⟨Un.un, rfl, ?_, ⟨trivial, trivial⟩, ⟨rfl, ?_, rfl, rfl⟩, trivial⟩))
  all_goals (try simp only [ge_iff_le, decide_eq_true_eq, decide_eq_false_iff_not, Int.ofNat_le, Int.ofNat_lt, Int.not_le, Nat.not_le, Nat.not_lt, Int.toNat_natCast, beq_iff_eq, bne_iff_ne, beq_eq_false_iff_ne, bne_eq_false_iff_eq, ne_eq, Decidable.not_not, Bool.not_eq_true', Bool.not_eq_false'] at *)
  all_goals (try (first | omega | exact hA | (refine cFe_get0 ?_; omega) | (refine cFe_get1 ?_; omega) | (refine cFe_get2 ?_; omega)))
  all_goals (try (have hm := mo_t ‹moB fs u = true›; first | omega | (refine cFe_get0 ?_; omega) | (refine cFe_get1 ?_; omega) | (refine cFe_get2 ?_; omega)))
  all_goals (have hw : u.n ≤ 1048576 → IntKind.i64.wrap ((u.n : Int) + 1) = ((u.n + 1 : Nat) : Int) := fun hk => by rw [IntWalk.i64_in _ (by omega)]; rfl)
  all_goals (have hp : 0 < u.n → IntKind.i64.wrap ((u.n : Int) - 1) = ((u.n - 1 : Nat) : Int) := fun hk => by rw [IntWalk.i64_in _ (by omega)]; omega)
  all_goals (try (rw [hp (by omega)]))
  all_goals (try simp only [Int.toNat_natCast])
  all_goals (try (first | omega | (refine cFe_get0 ?_; omega) | (refine cFe_get1 ?_; omega) | (refine cFe_get2 ?_; omega)))
  all_goals (try (simp_all [kwU]; done))
  all_goals (try (refine congrArg (cuL ln a fs.length cp) ?_; unfold rjU; rw [if_neg (by rintro ⟨h1, h2⟩; have h3 := ‹(!u.e == 0 || e == 0) = true›; simp [h1, h2] at h3)]))
  all_goals (try (by_cases hq : 0 < u.n <;> simp_all [cuL, rjU]; done))
  all_goals (try ((try rw [hw (by omega)]) <;> by_cases hlt : u.n < fs.length <;> first | (exfalso; omega) | (simp_all [okC, rdF, rdU, feV, cuL, fe0, kwB, kwU, moB, rjU, dgV, clD, clB]; done) | (simp [okC, rdF, rdU, feV, cuL, fe0, kwB, kwU, moB, rjU, dgV, clD, clB, hlt, *]; done)))
  
def ckw_h (b : Nat) (ln : Int) (a : Option Addr) (fs : List Fe) (cp : Nat) (u : Cu) (x : ByteArray) : Hint := .specc [] [(a, cFe fs)] [] [Ob.mk b (cuL ln a (List.length fs) cp u) (58 : TypeId) none] Un (fun x ↦ x = Un.un) (fun x ↦ [Ob.mk b (cuL ln a (List.length fs) cp (rdU false fs u)) (58 : TypeId) none]) (fun x ↦ Value.tuple #[feV (rdF false fs u), .bool (okC false fs u)]) [0] [] [1] fun x_87 ↦ ho 3 3
 (.split (.perm [2] .nil) (.ob 3 (.pl (.split (.ob 3 (.inl (ho 2 2 (.perm [2] .nil)))) (.perm [2] .nil)))))
theorem ckw_x (b : Nat) (ln : Int) (a : Option Addr) (fs : List Fe) (cp : Nat) (u : Cu) (x : ByteArray) : wpH Tryz.prog [] ([(a, cFe fs)]) ([]) ([⟨b, cuL ln a fs.length cp u, 58, none⟩]) 400 14 [.pointer (some ⟨b, 0, none⟩), .string x] (ckw_h b ln a fs cp u x) (Un) (fun x => x = Un.un) (fun _ => [⟨b, cuL ln a fs.length cp (kwU x fs u), 58, none⟩]) (fun _ => .bool (kwB x fs u)) = ((SpecC Tryz.prog [] [(a, cFe fs)] [] [Ob.mk b (cuL ln a (List.length fs) cp u) (58 : TypeId) noOw] (33 : FuncId) #[Value.pointer (some (Addr.mk b (0 : Nat) none)), .bool false] Un (fun x ↦ x = Un.un) (fun x ↦ [Ob.mk b (cuL ln a (List.length fs) cp (rdU false fs u)) (58 : TypeId) noOw]) fun x ↦
 Value.tuple #[feV (rdF false fs u), .bool (okC false fs u)]) /\ (∀ (e : Ex), e ∈ [] -> e ∈ []) /\ ((b = b /\ cuL ln a (List.length fs) cp u = cuL ln a (List.length fs) cp u /\ (58 : Nat) = (58 : Nat) /\ noOw = noOw) /\ True) /\ ((a = a /\ cFe fs = cFe fs) /\ True) /\ True /\ ∀ (x_87 : Un), x_87 =
 Un.un -> ∀ (b_1 : Nat), e2 b_1 3 (((!okC false fs u) = true -> ∃ x_3, x_3 = Un.un /\ Value.bool false = Value.bool (kwB x fs u) /\ (True /\ True) /\ (b = b /\ cuL ln a (List.length fs) cp (rdU false fs u) = cuL ln a (List.length fs) cp (kwU x fs u) /\ (58 : Nat) = (58 : Nat) /\ noOw = noOw) /\ True)
 /\ ((!okC false fs u) = false -> b_1 = b_1 /\ ((!ByteArray.toList (Fe.t (rdF false fs u)) == ByteArray.toList x) = true -> b_1 = b_1 /\ b = b /\ True /\ b = b /\ True /\ ∃ x_4, x_4 = Un.un /\ Value.bool false = Value.bool (kwB x fs u) /\ (True /\ True) /\ (b = b /\ [Value.int .i64 ln, .slice a
 (List.length fs) cp, .int .i64 (↑(Cu.n (rdU false fs u)) : Int), .int .i64 4, .int .i64 (Fe.c (rdF false fs u))] = cuL ln a (List.length fs) cp (kwU x fs u) /\ (58 : Nat) = (58 : Nat) /\ noOw = noOw) /\ True) /\ ((!ByteArray.toList (Fe.t (rdF false fs u)) == ByteArray.toList x) = false -> ∃ x_4, x_4
 = Un.un /\ Value.bool true = Value.bool (kwB x fs u) /\ (True /\ True) /\ (b = b /\ cuL ln a (List.length fs) cp (rdU false fs u) = cuL ln a (List.length fs) cp (kwU x fs u) /\ (58 : Nat) = (58 : Nat) /\ noOw = noOw) /\ True)))) := by kernel_rfl
set_option maxHeartbeats 4000000 in
theorem ckw_sp (b : Nat) (ln : Int) (a : Option Addr) (fs : List Fe) (cp : Nat) (u : Cu) (x : ByteArray) (hA : AOK a fs.length) (hl : fs.length ≤ 1000000) (hu : u.n ≤ fs.length) : SpecC Tryz.prog [] ([(a, cFe fs)]) ([]) ([⟨b, cuL ln a fs.length cp u, 58, none⟩]) 14 #[.pointer (some ⟨b, 0, none⟩), .string x] (Un) (fun x => x = Un.un) (fun _ => [⟨b, cuL ln a fs.length cp (kwU x fs u), 58, none⟩]) (fun _ => .bool (kwB x fs u)) := by
  refine specC_of (h := ckw_h b ln a fs cp u x) (?_ : wpH Tryz.prog [] ([(a, cFe fs)]) ([]) ([⟨b, cuL ln a fs.length cp u, 58, none⟩]) 400 14 [.pointer (some ⟨b, 0, none⟩), .string x] (ckw_h b ln a fs cp u x) (Un) (fun x => x = Un.un) (fun _ => [⟨b, cuL ln a fs.length cp (kwU x fs u), 58, none⟩]) (fun _ => .bool (kwB x fs u)))
  rw [ckw_x]
  (repeat' (first | with_reducible exact rfl | exact trivial | with_reducible assumption | exact crd_sp _ _ _ _ _ _ _ hA hl hu | exact cU_len _ | exact cI_len _ | exact cB_len _ | exact cU_one _ | exact cI_one _ | exact cB_one _ | exact (fun _ h => h) | exact (fun _ h => (List.not_mem_nil h).elim) | (with_reducible refine e1_in ?_) | (with_reducible refine e2_in ?_) | (with_reducible refine lx_in (Nat.le_of_ble_eq_true rfl) ?_) | (with_reducible refine rqx_rf ?_) | (with_reducible refine rqx_in ?_ ?_ ?_) | (with_reducible apply And.intro) | (with_reducible intro _)))
  all_goals (try (refine ⟨Un.un, rfl, ?_, ⟨trivial, trivial⟩, ⟨rfl, ?_, rfl, rfl⟩, trivial⟩))
  all_goals (try simp only [ge_iff_le, decide_eq_true_eq, decide_eq_false_iff_not, Int.ofNat_le, Int.ofNat_lt, Int.not_le, Nat.not_le, Nat.not_lt, Int.toNat_natCast, beq_iff_eq, bne_iff_ne, beq_eq_false_iff_ne, bne_eq_false_iff_eq, ne_eq, Decidable.not_not, Bool.not_eq_true', Bool.not_eq_false'] at *)
  all_goals (try (first | omega | exact hA | (refine cFe_get0 ?_; omega) | (refine cFe_get1 ?_; omega) | (refine cFe_get2 ?_; omega)))
  all_goals (try (have hm := mo_t ‹moB fs u = true›; first | omega | (refine cFe_get0 ?_; omega) | (refine cFe_get1 ?_; omega) | (refine cFe_get2 ?_; omega)))
  all_goals (have hw : u.n ≤ 1048576 → IntKind.i64.wrap ((u.n : Int) + 1) = ((u.n + 1 : Nat) : Int) := fun hk => by rw [IntWalk.i64_in _ (by omega)]; rfl)
  all_goals (have hp : 0 < u.n → IntKind.i64.wrap ((u.n : Int) - 1) = ((u.n - 1 : Nat) : Int) := fun hk => by rw [IntWalk.i64_in _ (by omega)]; omega)
  all_goals (try (rw [hp (by omega)]))
  all_goals (try simp only [Int.toNat_natCast])
  all_goals (try (first | omega | (refine cFe_get0 ?_; omega) | (refine cFe_get1 ?_; omega) | (refine cFe_get2 ?_; omega)))
  all_goals (try (simp_all [kwU]; done))
  all_goals (try (refine congrArg (cuL ln a fs.length cp) ?_; unfold rjU; rw [if_neg (by rintro ⟨h1, h2⟩; have h3 := ‹(!u.e == 0 || e == 0) = true›; simp [h1, h2] at h3)]))
  all_goals (try (by_cases hq : 0 < u.n <;> simp_all [cuL, rjU]; done))
  all_goals (try ((try rw [hw (by omega)]) <;> by_cases hlt : u.n < fs.length <;> first | (exfalso; omega) | (simp_all [okC, rdF, rdU, feV, cuL, fe0, kwB, kwU, moB, rjU, dgV, clD, clB]; done) | (simp [okC, rdF, rdU, feV, cuL, fe0, kwB, kwU, moB, rjU, dgV, clD, clB, hlt, *]; done)))
  
def cre_h (b : Nat) (ln : Int) (a : Option Addr) (fs : List Fe) (cp : Nat) (u : Cu) (e : Int) : Hint := .cut [((11 : Nat), .bool (!Cu.e u == 0 || e == 0))] (.inl (.pl (hl 4 (.ob 1 (.lit (.pl (.lit (.split (.lit (.lit .nil)) (.lit (.pl (.lit .nil))))))))))) (.split (.perm [1] .nil) (.ob 1 (.cut [((4 : Nat), .int .i64 (bif decide ((↑(Cu.n u) : Int) > (0 : Int)) then Fe.c (gFe fs (Int.toNat
 (IntKind.i64.wrap ((↑(Cu.n u) : Int) - (1 : Int))))) else (0 : Int)))] (.split (.draw [0, 1] none [0, 1] (.take 0 (.take 1 (.take 2 (.take 3 (.ob 1 (.take 4 (.take 5 (.take 6 (.take 7 (.ob 1 (.take 8 (.take 9 (.ix (.take 10 (.take 11 (.lst (0 : Nat) (Int.toNat (IntKind.i64.wrap ((↑(Cu.n u) : Int) -
 (1 : Int))) * (3 : Nat) + (1 : Nat)) (Value.int .i64 (Fe.c (gFe fs (Int.toNat (IntKind.i64.wrap ((↑(Cu.n u) : Int) - (1 : Int))))))) (.take 12 .nil)))))))))))))))))) .nil) (.inl (ho 1 2 (.perm [1] .nil))))))
theorem cre_x (b : Nat) (ln : Int) (a : Option Addr) (fs : List Fe) (cp : Nat) (u : Cu) (e : Int) : wpH Tryz.prog [] ([(a, cFe fs)]) ([]) ([⟨b, cuL ln a fs.length cp u, 58, none⟩]) 400 12 [.pointer (some ⟨b, 0, none⟩), .int .i64 e] (cre_h b ln a fs cp u e) (Un) (fun x => x = Un.un) (fun _ => [⟨b, cuL ln a fs.length cp (rjU e fs u), 58, none⟩]) (fun _ => .tuple #[]) = ((b = b /\ ((!Cu.e u == 0) = true -> Value.bool true = Value.bool (!Cu.e u == 0 || e == 0) /\ True) /\ ((!Cu.e u == 0) = false -> Value.bool (e == 0) = Value.bool (!Cu.e u == 0 || e == 0) /\ True)) /\ ∀ (junk : Nat -> Value), ((!Cu.e u == 0 || e == 0) = true -> ∃ x, x = Un.un /\ Value.tuple (Array.mk
 []) = Value.tuple (Array.mk []) /\ (True /\ True) /\ (b = b /\ cuL ln a (List.length fs) cp u = cuL ln a (List.length fs) cp (rjU e fs u) /\ (58 : Nat) = (58 : Nat) /\ noOw = noOw) /\ True) /\ ((!Cu.e u == 0 || e == 0) = false -> b = b /\ ((decide ((↑(Cu.n u) : Int) > (0 : Int)) = true -> b = b /\ b
 = b /\ (((0 : Int) ≤ IntKind.i64.wrap ((↑(Cu.n u) : Int) - (1 : Int)) /\ IntKind.i64.wrap ((↑(Cu.n u) : Int) - (1 : Int)) < (↑(List.length fs) : Int)) /\ AOK a (List.length fs)) /\ bk a = bk a /\ ofs a + Int.toNat (IntKind.i64.wrap ((↑(Cu.n u) : Int) - (1 : Int))) * (3 : Nat) + (1 : Nat) = ofs a +
 (Int.toNat (IntKind.i64.wrap ((↑(Cu.n u) : Int) - (1 : Int))) * (3 : Nat) + (1 : Nat)) /\ lgo (cFe fs) (Int.toNat (IntKind.i64.wrap ((↑(Cu.n u) : Int) - (1 : Int))) * (3 : Nat) + (1 : Nat)) = some (Value.int .i64 (Fe.c (gFe fs (Int.toNat (IntKind.i64.wrap ((↑(Cu.n u) : Int) - (1 : Int))))))) /\
 Value.int .i64 (Fe.c (gFe fs (Int.toNat (IntKind.i64.wrap ((↑(Cu.n u) : Int) - (1 : Int)))))) = Value.int .i64 (bif decide ((↑(Cu.n u) : Int) > (0 : Int)) then Fe.c (gFe fs (Int.toNat (IntKind.i64.wrap ((↑(Cu.n u) : Int) - (1 : Int))))) else (0 : Int)) /\ True) /\ (decide ((↑(Cu.n u) : Int) > (0 :
 Int)) = false -> Value.int .i64 0 = Value.int .i64 (bif decide ((↑(Cu.n u) : Int) > (0 : Int)) then Fe.c (gFe fs (Int.toNat (IntKind.i64.wrap ((↑(Cu.n u) : Int) - (1 : Int))))) else (0 : Int)) /\ True)) /\ ∀ (junk : Nat -> Value), b = b /\ True /\ b = b /\ True /\ ∃ x, x = Un.un /\ Value.tuple
 (Array.mk []) = Value.tuple (Array.mk []) /\ (True /\ True) /\ (b = b /\ [Value.int .i64 ln, .slice a (List.length fs) cp, .int .i64 (↑(Cu.n u) : Int), .int .i64 e, .int .i64 (bif decide ((↑(Cu.n u) : Int) > (0 : Int)) then Fe.c (gFe fs (Int.toNat (IntKind.i64.wrap ((↑(Cu.n u) : Int) - (1 : Int)))))
 else (0 : Int))] = cuL ln a (List.length fs) cp (rjU e fs u) /\ (58 : Nat) = (58 : Nat) /\ noOw = noOw) /\ True)) := by kernel_rfl
set_option maxHeartbeats 4000000 in
theorem cre_sp (b : Nat) (ln : Int) (a : Option Addr) (fs : List Fe) (cp : Nat) (u : Cu) (e : Int) (hA : AOK a fs.length) (hl : fs.length ≤ 1000000) (hu : u.n ≤ fs.length) : SpecC Tryz.prog [] ([(a, cFe fs)]) ([]) ([⟨b, cuL ln a fs.length cp u, 58, none⟩]) 12 #[.pointer (some ⟨b, 0, none⟩), .int .i64 e] (Un) (fun x => x = Un.un) (fun _ => [⟨b, cuL ln a fs.length cp (rjU e fs u), 58, none⟩]) (fun _ => .tuple #[]) := by
  refine specC_of (h := cre_h b ln a fs cp u e) (?_ : wpH Tryz.prog [] ([(a, cFe fs)]) ([]) ([⟨b, cuL ln a fs.length cp u, 58, none⟩]) 400 12 [.pointer (some ⟨b, 0, none⟩), .int .i64 e] (cre_h b ln a fs cp u e) (Un) (fun x => x = Un.un) (fun _ => [⟨b, cuL ln a fs.length cp (rjU e fs u), 58, none⟩]) (fun _ => .tuple #[]))
  rw [cre_x]
  (repeat' (first | with_reducible exact rfl | exact trivial | with_reducible assumption | exact cU_len _ | exact cI_len _ | exact cB_len _ | exact cU_one _ | exact cI_one _ | exact cB_one _ | exact (fun _ h => h) | exact (fun _ h => (List.not_mem_nil h).elim) | (with_reducible refine e1_in ?_) | (with_reducible refine e2_in ?_) | (with_reducible refine lx_in (Nat.le_of_ble_eq_true rfl) ?_) | (with_reducible refine rqx_rf ?_) | (with_reducible refine rqx_in ?_ ?_ ?_) | (with_reducible apply And.intro) | (with_reducible intro _)))
  all_goals (try (refine ⟨Un.un, rfl, ?_, ⟨trivial, trivial⟩, ⟨rfl, ?_, rfl, rfl⟩, trivial⟩))
  all_goals (try simp only [ge_iff_le, decide_eq_true_eq, decide_eq_false_iff_not, Int.ofNat_le, Int.ofNat_lt, Int.not_le, Nat.not_le, Nat.not_lt, Int.toNat_natCast, beq_iff_eq, bne_iff_ne, beq_eq_false_iff_ne, bne_eq_false_iff_eq, ne_eq, Decidable.not_not, Bool.not_eq_true', Bool.not_eq_false'] at *)
  all_goals (try (first | omega | exact hA | (refine cFe_get0 ?_; omega) | (refine cFe_get1 ?_; omega) | (refine cFe_get2 ?_; omega)))
  all_goals (try (have hm := mo_t ‹moB fs u = true›; first | omega | (refine cFe_get0 ?_; omega) | (refine cFe_get1 ?_; omega) | (refine cFe_get2 ?_; omega)))
  all_goals (have hw : u.n ≤ 1048576 → IntKind.i64.wrap ((u.n : Int) + 1) = ((u.n + 1 : Nat) : Int) := fun hk => by rw [IntWalk.i64_in _ (by omega)]; rfl)
  all_goals (have hp : 0 < u.n → IntKind.i64.wrap ((u.n : Int) - 1) = ((u.n - 1 : Nat) : Int) := fun hk => by rw [IntWalk.i64_in _ (by omega)]; omega)
  all_goals (try (rw [hp (by omega)]))
  all_goals (try simp only [Int.toNat_natCast])
  all_goals (try (first | omega | (refine cFe_get0 ?_; omega) | (refine cFe_get1 ?_; omega) | (refine cFe_get2 ?_; omega)))
  all_goals (try (simp_all [kwU]; done))
  all_goals (try (refine congrArg (cuL ln a fs.length cp) ?_; unfold rjU; rw [if_neg (by rintro ⟨h1, h2⟩; have h3 := ‹(!u.e == 0 || e == 0) = true›; simp [h1, h2] at h3)]))
  all_goals (try (by_cases hq : 0 < u.n <;> simp_all [cuL, rjU]; done))
  all_goals (try ((try rw [hw (by omega)]) <;> by_cases hlt : u.n < fs.length <;> first | (exfalso; omega) | (simp_all [okC, rdF, rdU, feV, cuL, fe0, kwB, kwU, moB, rjU, dgV, clD, clB]; done) | (simp [okC, rdF, rdU, feV, cuL, fe0, kwB, kwU, moB, rjU, dgV, clD, clB, hlt, *]; done)))
  
def ccl_h (b : Nat) (ln : Int) (a : Option Addr) (fs : List Fe) (cp : Nat) (u : Cu) : Hint := .pl (.lit (.ob 1 (.pl (.split (.draw [0, 1, 2] (some 12) [0, 1] (.take 0 (.take 1 (.take 2 (.take 3 (.ob 1 (.take 4 (.take 5 (.take 6 (.take 7 (.ob 1 (.take 8 (.take 9 (.take 10 (.take 11 (.ob 1 (.pl (.br (.pl (.br (ho 2 3 (.take 14 (ho 2 3 (.perm [1] .nil)))) .nil)) .nil)))))))))))))))))) (.draw [0,
 1, 2] none [0, 1, 2] (.take 0 (.take 1 (.take 2 (.take 3 (.ob 1 (.take 4 (.take 5 (.take 6 (.take 7 (.ob 1 (.take 8 (.pl (.take 9 (.take 10 (.split (.draw [0, 1, 2] (some 15) [0, 1] (.take 0 (.take 1 (.take 2 (.take 3 (.ob 1 (.take 4 (.take 5 (.take 6 (.take 7 (.ob 1 (.take 8 (.take 9 (.take 10
 (.take 11 (.ob 1 (.take 12 (.ix (.take 13 (.take 14 (.lst (0 : Nat) (Int.toNat (↑(Cu.n u) : Int) * (3 : Nat) + (1 : Nat)) (Value.int .i64 (Fe.c (gFe fs (Int.toNat (↑(Cu.n u) : Int))))) (.pl (.br (.pl (.br (ho 2 3 (.take 17 (ho 2 3 (.perm [1] .nil)))) .nil)) .nil))))))))))))))))))))))) (ho 2 6 (.perm
 [1] .nil))))))))))))))))))))))
theorem ccl_x (b : Nat) (ln : Int) (a : Option Addr) (fs : List Fe) (cp : Nat) (u : Cu) : wpH Tryz.prog [] ([(a, cFe fs)]) ([]) ([⟨b, cuL ln a fs.length cp u, 58, none⟩]) 400 10 [.pointer (some ⟨b, 0, none⟩)] (ccl_h b ln a fs cp u) (Un) (fun x => x = Un.un) (fun _ => [⟨b, cuL ln a fs.length cp (u), 58, none⟩]) (fun _ => .tuple #[dgV (clD ln fs u), .bool (clB fs u)]) = (∀ (b_1 : Nat), b = b /\ ((Cu.e u != 0) = true -> b = b /\ b = b /\ b = b /\ True /\ (True /\ (e2 b_1 3 (e1 b_1 3 (∃ x, x = Un.un /\ Value.tuple (Array.mk [.agg (Array.mk [.int .i64 ln, .int .i64 (Cu.c u), .int .i64 (Cu.e u)]), .bool true]) = Value.tuple (Array.mk [dgV (clD ln fs u), .bool (clB fs
 u)]) /\ (True /\ True) /\ (b = b /\ cuL ln a (List.length fs) cp u = cuL ln a (List.length fs) cp u /\ (58 : Nat) = (58 : Nat) /\ noOw = noOw) /\ True))) /\ True) /\ True) /\ ((Cu.e u != 0) = false -> b = b /\ b = b /\ (decide ((↑(Cu.n u) : Int) < (↑(List.length fs) : Int)) = true -> e1 b 3 ((((0 :
 Int) ≤ (↑(Cu.n u) : Int) /\ (↑(Cu.n u) : Int) < (↑(List.length fs) : Int)) /\ AOK a (List.length fs)) /\ bk a = bk a /\ ofs a + Int.toNat (↑(Cu.n u) : Int) * (3 : Nat) + (1 : Nat) = ofs a + (Int.toNat (↑(Cu.n u) : Int) * (3 : Nat) + (1 : Nat)) /\ lgo (cFe fs) (Int.toNat (↑(Cu.n u) : Int) * (3 : Nat)
 + (1 : Nat)) = some (Value.int .i64 (Fe.c (gFe fs (Int.toNat (↑(Cu.n u) : Int))))) /\ True /\ (True /\ (e2 b_1 3 (e1 b_1 3 (∃ x, x = Un.un /\ Value.tuple (Array.mk [.agg (Array.mk [.int .i64 ln, .int .i64 (Fe.c (gFe fs (Int.toNat (↑(Cu.n u) : Int)))), .int .i64 4]), .bool true]) = Value.tuple
 (Array.mk [dgV (clD ln fs u), .bool (clB fs u)]) /\ (True /\ True) /\ (b = b /\ cuL ln a (List.length fs) cp u = cuL ln a (List.length fs) cp u /\ (58 : Nat) = (58 : Nat) /\ noOw = noOw) /\ True))) /\ True) /\ True)) /\ (decide ((↑(Cu.n u) : Int) < (↑(List.length fs) : Int)) = false -> e2 b_1 3 (e1
 b_1 3 (∃ x, x = Un.un /\ Value.tuple (Array.mk [.agg (Array.mk [.int .i64 0, .int .i64 0, .int .i64 0]), .bool false]) = Value.tuple (Array.mk [dgV (clD ln fs u), .bool (clB fs u)]) /\ (True /\ True) /\ (b = b /\ cuL ln a (List.length fs) cp u = cuL ln a (List.length fs) cp u /\ (58 : Nat) = (58 :
 Nat) /\ noOw = noOw) /\ True))))) := by kernel_rfl
set_option maxHeartbeats 4000000 in
theorem ccl_sp (b : Nat) (ln : Int) (a : Option Addr) (fs : List Fe) (cp : Nat) (u : Cu) (hA : AOK a fs.length) (hl : fs.length ≤ 1000000) (hu : u.n ≤ fs.length) : SpecC Tryz.prog [] ([(a, cFe fs)]) ([]) ([⟨b, cuL ln a fs.length cp u, 58, none⟩]) 10 #[.pointer (some ⟨b, 0, none⟩)] (Un) (fun x => x = Un.un) (fun _ => [⟨b, cuL ln a fs.length cp (u), 58, none⟩]) (fun _ => .tuple #[dgV (clD ln fs u), .bool (clB fs u)]) := by
  refine specC_of (h := ccl_h b ln a fs cp u) (?_ : wpH Tryz.prog [] ([(a, cFe fs)]) ([]) ([⟨b, cuL ln a fs.length cp u, 58, none⟩]) 400 10 [.pointer (some ⟨b, 0, none⟩)] (ccl_h b ln a fs cp u) (Un) (fun x => x = Un.un) (fun _ => [⟨b, cuL ln a fs.length cp (u), 58, none⟩]) (fun _ => .tuple #[dgV (clD ln fs u), .bool (clB fs u)]))
  rw [ccl_x]
  (repeat' (first | with_reducible exact rfl | exact trivial | with_reducible assumption | exact cU_len _ | exact cI_len _ | exact cB_len _ | exact cU_one _ | exact cI_one _ | exact cB_one _ | exact (fun _ h => h) | exact (fun _ h => (List.not_mem_nil h).elim) | (with_reducible refine e1_in ?_) | (with_reducible refine e2_in ?_) | (with_reducible refine lx_in (Nat.le_of_ble_eq_true rfl) ?_) | (with_reducible refine rqx_rf ?_) | (with_reducible refine rqx_in ?_ ?_ ?_) | (with_reducible apply And.intro) | (with_reducible intro _)))
  all_goals (try (refine ⟨Un.un, rfl, ?_, ⟨trivial, trivial⟩, ⟨rfl, ?_, rfl, rfl⟩, trivial⟩))
  all_goals (try simp only [ge_iff_le, decide_eq_true_eq, decide_eq_false_iff_not, Int.ofNat_le, Int.ofNat_lt, Int.not_le, Nat.not_le, Nat.not_lt, Int.toNat_natCast, beq_iff_eq, bne_iff_ne, beq_eq_false_iff_ne, bne_eq_false_iff_eq, ne_eq, Decidable.not_not, Bool.not_eq_true', Bool.not_eq_false'] at *)
  all_goals (try (first | omega | exact hA | (refine cFe_get0 ?_; omega) | (refine cFe_get1 ?_; omega) | (refine cFe_get2 ?_; omega)))
  all_goals (try (have hm := mo_t ‹moB fs u = true›; first | omega | (refine cFe_get0 ?_; omega) | (refine cFe_get1 ?_; omega) | (refine cFe_get2 ?_; omega)))
  all_goals (have hw : u.n ≤ 1048576 → IntKind.i64.wrap ((u.n : Int) + 1) = ((u.n + 1 : Nat) : Int) := fun hk => by rw [IntWalk.i64_in _ (by omega)]; rfl)
  all_goals (have hp : 0 < u.n → IntKind.i64.wrap ((u.n : Int) - 1) = ((u.n - 1 : Nat) : Int) := fun hk => by rw [IntWalk.i64_in _ (by omega)]; omega)
  all_goals (try (rw [hp (by omega)]))
  all_goals (try simp only [Int.toNat_natCast])
  all_goals (try (first | omega | (refine cFe_get0 ?_; omega) | (refine cFe_get1 ?_; omega) | (refine cFe_get2 ?_; omega)))
  all_goals (try (simp_all [kwU]; done))
  all_goals (try (refine congrArg (cuL ln a fs.length cp) ?_; unfold rjU; rw [if_neg (by rintro ⟨h1, h2⟩; have h3 := ‹(!u.e == 0 || e == 0) = true›; simp [h1, h2] at h3)]))
  all_goals (try (by_cases hq : 0 < u.n <;> simp_all [cuL, rjU]; done))
  all_goals (try ((try rw [hw (by omega)]) <;> by_cases hlt : u.n < fs.length <;> first | (exfalso; omega) | (simp_all [okC, rdF, rdU, feV, cuL, fe0, kwB, kwU, moB, rjU, dgV, clD, clB]; done) | (simp [okC, rdF, rdU, feV, cuL, fe0, kwB, kwU, moB, rjU, dgV, clD, clB, hlt, *]; done)))
  
end Go.Proofs.YtjibacfgcdbhlaaGreatDoor
