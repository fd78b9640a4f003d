/- Cursors over any line, and any calls of their methods, of both (TextCursors). -/
import Derived.Test.YtjibacfgcdbhlaaGreatDoorVz
import Derived.KernelRfl
import Derived.Test.YtjibacfgcdbhlaaGreatDoorProg
import Derived.Test.YtjibacfgcdbhlaaGreatDoorFda
import Derived.Test.YtjibacfgcdbhlaaGreatDoorRda
import Derived.Test.YtjibacfgcdbhlaaGreatDoorRub
import Derived.Test.YtjibacfgcdbhlaaGreatDoorRubr
import Derived.Test.YtjibacfgcdbhlaaGreatDoorSqw
import Derived.Test.YtjibacfgcdbhlaaGreatDoorSqa
import Derived.Test.YtjibacfgcdbhlaaGreatDoorBrc
import Derived.Test.YtjibacfgcdbhlaaGreatDoorTcu
import Derived.Test.YtjibacfgcdbhlaaGreatDoorTcr
import Derived.Test.YtjibacfgcdbhlaaGreatDoorTcw
set_option linter.unusedSimpArgs false
set_option linter.unusedVariables false
set_option maxRecDepth 100000
namespace Go.Proofs.YtjibacfgcdbhlaaGreatDoor
open Go.RowKit


/-- A call of a method. -/
structure Cl where
  k : Int
  lo : Int
  hi : Int
  w : ByteArray
/-- The element with an index. -/
def gCl (l : List Cl) (m : Nat) : Cl := l.getD m ⟨0, 0, 0, ⟨#[]⟩⟩
def cCl (l : List Cl) : List Value := l.flatMap fun p => [.int .u8 p.k, .int .i64 p.lo, .int .i64 p.hi, .string p.w]
def cCl_rd (l : List Cl) (m : Nat) : Nat → Value
  | 0 => .int .u8 (gCl l m).k
  | 1 => .int .i64 (gCl l m).lo
  | 2 => .int .i64 (gCl l m).hi
  | _ => .string (gCl l m).w
theorem cCl_len (l : List Cl) : (cCl l).length = l.length * 4 := by
  induction l with
  | nil => rfl
  | cons p l ih => simp only [cCl, List.flatMap_cons, List.length_append] at *; rw [ih]; simp; omega
theorem cCl_at {l : List Cl} {m j : Nat} (h : m < l.length) (hj : j < 4) : (cCl l)[m * 4 + j]? = some (cCl_rd l m j) := by
  induction l generalizing m with
  | nil => simp at h
  | cons p l ih =>
    have e : cCl (p :: l) = [.int .u8 p.k, .int .i64 p.lo, .int .i64 p.hi, .string p.w] ++ cCl l := rfl
    rw [e]
    cases m with
    | zero =>
      rw [List.getElem?_append_left (by simp; omega)]
      have : j = 0 ∨ j = 1 ∨ j = 2 ∨ j = 3 := by omega
      rcases this with rfl | rfl | rfl | rfl <;> rfl
    | succ m =>
      rw [List.getElem?_append_right (by simp; omega)]
      have e2 : (m + 1) * 4 + j - ([.int .u8 p.k, .int .i64 p.lo, .int .i64 p.hi, .string p.w] : List Value).length = m * 4 + j := by simp; omega
      rw [e2, ih (by simpa using h)]
      have : j = 0 ∨ j = 1 ∨ j = 2 ∨ j = 3 := by omega
      rcases this with rfl | rfl | rfl | rfl <;> simp [cCl_rd, gCl]
theorem cCl_one (l : List Cl) : ∀ u ∈ cCl l, u.oneCell' = true := by
  intro u hu
  simp only [cCl, List.mem_flatMap, List.mem_cons, List.not_mem_nil, or_false] at hu
  obtain ⟨p, _, h | h | h | h⟩ := hu <;> (rw [h]; rfl)
theorem cCl_app (l : List Cl) (d : Cl) : lapp (cCl l) [.int .u8 d.k, .int .i64 d.lo, .int .i64 d.hi, .string d.w] = cCl (l ++ [d]) := by
  rw [lapp_eq]
  unfold cCl
  rw [List.flatMap_append]
  rfl
theorem cCl_get0 {l : List Cl} {m : Nat} (h : m < l.length) : lgo (cCl l) (m * 4) = some (.int .u8 (gCl l m).k) := by rw [lgo_eq]; exact cCl_at (j := 0) h (by omega)
theorem cCl_get1 {l : List Cl} {m : Nat} (h : m < l.length) : lgo (cCl l) (m * 4 + 1) = some (.int .i64 (gCl l m).lo) := by rw [lgo_eq]; exact cCl_at (j := 1) h (by omega)
theorem cCl_get2 {l : List Cl} {m : Nat} (h : m < l.length) : lgo (cCl l) (m * 4 + 2) = some (.int .i64 (gCl l m).hi) := by rw [lgo_eq]; exact cCl_at (j := 2) h (by omega)
theorem cCl_get3 {l : List Cl} {m : Nat} (h : m < l.length) : lgo (cCl l) (m * 4 + 3) = some (.string (gCl l m).w) := by rw [lgo_eq]; exact cCl_at (j := 3) h (by omega)

def clV (c : Cl) : Value := .agg #[.int .u8 c.k, .int .i64 c.lo, .int .i64 c.hi, .string c.w]
def oneA : ByteArray := ⟨#[65]⟩
def oneT : ByteArray := ⟨#[49, 50]⟩
/-- The cursor behind a call. -/
def caU (c : Cl) (fs : List Fe) (u : Cu) : Cu :=
  if (c.k.tmod 8 == 0) = true then rdU false fs u else if (c.k.tmod 8 == 1) = true then kwU c.w fs u else if (c.k.tmod 8 == 2) = true then ofU [oneA, c.w, oneT, oneA] fs u
  else if (c.k.tmod 8 == 3) = true then idU fs u else if (c.k.tmod 8 == 4) = true then itU c.lo c.hi fs u else if (c.k.tmod 8 == 5) = true then rdU true fs u
  else if (c.k.tmod 8 == 6) = true then rjU c.lo fs u else u
theorem rdU_n {q : Bool} {fs : List Fe} {u : Cu} (h : u.n ≤ fs.length) : (rdU q fs u).n ≤ fs.length := by
  unfold rdU
  split
  · split
    · split <;> simp <;> omega
    · exact h
  · exact h
theorem okC_n {q : Bool} {fs : List Fe} {u : Cu} (h : okC q fs u = true) : u.n < fs.length ∧ (rdU q fs u).n = u.n + 1 := by
  unfold okC at h
  simp only [Bool.and_eq_true, decide_eq_true_eq, beq_iff_eq] at h
  obtain ⟨h1, h2, h3⟩ := h
  unfold rdU
  rw [if_pos h1, if_pos h2, if_pos h3]
  exact ⟨h2, rfl⟩
theorem kwU_n {w : ByteArray} {fs : List Fe} {u : Cu} (h : u.n ≤ fs.length) : (kwU w fs u).n ≤ fs.length := by
  unfold kwU
  split
  · rename_i hh; exact (okC_n hh.1).1
  · exact rdU_n h
theorem idU_n {fs : List Fe} {u : Cu} (h : u.n ≤ fs.length) : (idU fs u).n ≤ fs.length := by
  unfold idU
  split <;> exact rdU_n h
theorem itU_n {lo hi : Int} {fs : List Fe} {u : Cu} (h : u.n ≤ fs.length) : (itU lo hi fs u).n ≤ fs.length := by
  unfold itU
  split <;> exact rdU_n h
theorem ofU_n {l : List ByteArray} {fs : List Fe} {u : Cu} (h : u.n ≤ fs.length) : (ofU l fs u).n ≤ fs.length := by
  unfold ofU
  split <;> exact rdU_n h
theorem rjU_n {e : Int} {fs : List Fe} {u : Cu} (h : u.n ≤ fs.length) : (rjU e fs u).n ≤ fs.length := by
  unfold rjU
  split <;> exact h
theorem caU_n {c : Cl} {fs : List Fe} {u : Cu} (h : u.n ≤ fs.length) : (caU c fs u).n ≤ fs.length := by
  unfold caU
  (repeat' split) <;> first | exact rdU_n h | exact kwU_n h | exact ofU_n h | exact idU_n h | exact itU_n h | exact rjU_n h | exact h
/-- A keyword is a word of a list of one. -/
theorem fnd_1 (w t : ByteArray) : fnd [w] t = if (t.toList == w.toList) = true then 0 else -1 := by
  unfold fnd
  simp only [fndN, List.length_cons, List.length_nil]
  by_cases h : w = t
  · subst h; simp
  · have h1 : (ByteArray.toList w == ByteArray.toList t) = false := sE_ne.2 h
    have h2 : (ByteArray.toList t == ByteArray.toList w) = false := sE_ne.2 fun e => h e.symm
    simp [h1, h2]
theorem kw_of (w : ByteArray) (fs : List Fe) (u : Cu) : (ofV [w] fs u == 0) = kwB w fs u ∧ ofU [w] fs u = kwU w fs u := by
  unfold ofV ofU kwB kwU
  cases h : okC false fs u
  · simp
  · have hn := (okC_n h).2
    rw [fnd_1, hn]
    cases h2 : ((rdF false fs u).t.toList == w.toList)
    · have h3 : ¬ (rdF false fs u).t.toList = w.toList := by simpa using h2
      simp [h3]
    · have h3 : (rdF false fs u).t.toList = w.toList := by simpa using h2
      simp [h3]
/-- The laws' loop. -/
structure LX where
  i : Nat
  p : Nat
  q : Nat
  a : Option Addr
  ac : Nat
  b : Option Addr
  bc : Nat
  u : Cu
def lcI (fs : List Fe) (l : List Cl) (x : LX) : Prop := x.i ≤ l.length ∧ x.i ≤ 20 ∧ x.u.n ≤ fs.length ∧ AOK x.a fs.length ∧ AOK x.b fs.length
@[reducible] def lcL (ln : Int) (fs : List Fe) (l : List Cl) : LoopR := ⟨LX, fun x => [(24, .int .i64 x.i), (5, .pointer (some ⟨x.p, 0, none⟩)), (6, .pointer (some ⟨x.q, 0, none⟩))], [3, 4, 5, 6], fun x => [⟨x.p, cuL ln x.a fs.length x.ac x.u, 58, none⟩, ⟨0, cFe fs, 53, some ⟨x.a, fs.length, x.ac, 3⟩⟩, ⟨x.q, cuL ln x.b fs.length x.bc x.u, 60, none⟩, ⟨0, cFe fs, 53, some ⟨x.b, fs.length, x.bc, 3⟩⟩], lcI fs l, fun x => 20 - x.i, []⟩
/-- What At gives. -/
structure AX where
  b : Nat
  a : Option Addr
  c : Nat

def qat_h (ln : Int) (a : Option Addr) (fs : List Fe) (cp : Nat) : Hint := .drawf [2, 8] [0, 1] (.take 0 (.take 1 (.ob 1 (.take 3 (.take 4 (.ob 1 (.take 2 (.pl (.br (.apl (2 : Nat) (0 : Nat) (cFe fs) (.take 6 (.take 7 (.take 8 (.take 9 (.perm [3, 2] .nil)))))) .nil)))))))))
theorem qat_x (ln : Int) (a : Option Addr) (fs : List Fe) (cp : Nat) : wpH Tryz.prog [] ([(a, cFe fs)]) ([]) ([]) 400 6 [.agg #[.int .i64 ln, .slice a fs.length cp]] (qat_h ln a fs cp) (AX) (fun x => AOK x.a fs.length) (fun x => [⟨x.b, cuL ln x.a fs.length x.c ⟨0, 0, 0⟩, 60, none⟩, ⟨0, cFe fs, 53, some ⟨x.a, fs.length, x.c, 3⟩⟩]) (fun x => .pointer (some ⟨x.b, 0, none⟩)) = (∀ (b : Nat), b = b /\ b = b /\ ((∀ (b : Nat), True) /\ True /\ True) /\ ∀ (b : Nat), (True /\ True /\ True) /\ (a = a /\ AOK a (List.length fs) /\ List.length (cFe fs) = List.length fs * (3 : Nat) /\ (∀ (u : Value), u ∈ Ob.cells (Ob.mk (0 : Nat) (Prod.snd (a, cFe fs)) (0 : TypeId) (some (Ow.mk
 (Prod.fst (a, cFe fs)) (0 : Nat) (0 : Nat) (0 : Nat)))) -> Value.oneCell' u = true) /\ ((0 : Nat) + List.length fs) * (33 : Nat) ≤ (140737488355328 : Nat) /\ cFe fs = cFe fs /\ some (Addr.mk b (0 : Nat) none) = some (Addr.mk b (0 : Nat) none) /\ ∀ (a' : Option Addr) (cap : Nat), AOK a' (List.length
 fs) -> (True /\ (∀ (b : Nat), True) /\ True) /\ ∀ (b : Nat), ∃ x, ((AX.a x = none -> List.length fs = (0 : Nat)) /\ (List.length fs ≠ (0 : Nat) -> ∀ (q : Addr), AX.a x = some q -> Addr.spot q = none)) /\ Value.pointer (some (Addr.mk b (0 : Nat) none)) = Value.pointer (some (Addr.mk (AX.b x) (0 :
 Nat) none)) /\ (True /\ True /\ True) /\ (b = AX.b x /\ [Value.int .i64 ln, .slice a' (List.length fs) cap, .int .i64 0, .int .i64 0, .int .i64 0] = cuL ln (AX.a x) (List.length fs) (AX.c x) (Cu.mk (0 : Nat) (0 : Int) (0 : Int)) /\ (60 : Nat) = (60 : Nat) /\ noOw = noOw) /\ ((0 : Nat) = (0 : Nat) /\
 cFe fs = cFe fs /\ (53 : Nat) = (53 : Nat) /\ some (Ow.mk a' (List.length fs) cap (3 : Nat)) = some (Ow.mk (AX.a x) (List.length fs) (AX.c x) (3 : Nat))) /\ True) /\ True) := by kernel_rfl
set_option maxHeartbeats 4000000 in
theorem qat_sp (ln : Int) (a : Option Addr) (fs : List Fe) (cp : Nat) (hA : AOK a fs.length) (hl : fs.length ≤ 1000000) : SpecC Tryz.prog [] ([(a, cFe fs)]) ([]) ([]) 6 #[.agg #[.int .i64 ln, .slice a fs.length cp]] (AX) (fun x => AOK x.a fs.length) (fun x => [⟨x.b, cuL ln x.a fs.length x.c ⟨0, 0, 0⟩, 60, none⟩, ⟨0, cFe fs, 53, some ⟨x.a, fs.length, x.c, 3⟩⟩]) (fun x => .pointer (some ⟨x.b, 0, none⟩)) := by
  refine specC_of (h := qat_h ln a fs cp) (?_ : wpH Tryz.prog [] ([(a, cFe fs)]) ([]) ([]) 400 6 [.agg #[.int .i64 ln, .slice a fs.length cp]] (qat_h ln a fs cp) (AX) (fun x => AOK x.a fs.length) (fun x => [⟨x.b, cuL ln x.a fs.length x.c ⟨0, 0, 0⟩, 60, none⟩, ⟨0, cFe fs, 53, some ⟨x.a, fs.length, x.c, 3⟩⟩]) (fun x => .pointer (some ⟨x.b, 0, none⟩)))
  rw [qat_x]
  (repeat' (first | with_reducible exact rfl | exact trivial | with_reducible assumption | exact cU_len _ | exact cI_len _ | exact cB_len _ | exact cU_one _ | exact cI_one _ | exact cB_one _ | exact (fun _ h => h) | exact (fun _ h => (List.not_mem_nil h).elim) | (with_reducible refine e1_in ?_) | (with_reducible refine e2_in ?_) | (with_reducible refine lx_in (Nat.le_of_ble_eq_true rfl) ?_) | (with_reducible refine rqx_rf ?_) | (with_reducible refine rqx_in ?_ ?_ ?_) | (with_reducible apply And.intro) | (with_reducible intro _)))
  all_goals (try (exfalso; simp_all; done))
  all_goals (try (refine ⟨⟨_, _, _⟩, ?_, rfl, ⟨trivial, trivial, trivial⟩, ⟨rfl, rfl, rfl, rfl⟩, ⟨rfl, rfl, rfl, rfl⟩, trivial⟩; assumption))
  all_goals (try (refine ⟨⟨_, _, _⟩, ⟨‹_ = none → _›, ‹_ ≠ 0 → _›⟩, rfl, ⟨trivial, trivial, trivial⟩, ⟨rfl, rfl, rfl, rfl⟩, ⟨rfl, rfl, rfl, rfl⟩, trivial⟩))
  all_goals (try (refine ⟨_, trivial, rfl, ⟨trivial, trivial⟩, ⟨rfl, rfl, rfl, rfl⟩, trivial⟩))
  all_goals (try (rename_i hh; exact cFe_one _ _ hh))
  all_goals (try (first | exact cFe_len _ | omega))
  
def cas_h (ln : Int) (a : Option Addr) (fs : List Fe) (cp : Nat) : Hint := .draw [0, 1] none [0, 1] (.take 0 (.take 1 (.ob 1 (.take 2 (.take 3 (.ob 1 (.pl (.br (.inl (.split .no (.apl (2 : Nat) (0 : Nat) (cFe fs) (.take 5 (.pl (.br (.take 7 (.perm [3, 2] .nil)) .nil)))))) .nil))))))))
theorem cas_x (ln : Int) (a : Option Addr) (fs : List Fe) (cp : Nat) : wpH Tryz.prog [] ([(a, cFe fs)]) ([]) ([]) 400 5 [.agg #[.int .i64 ln, .slice a fs.length cp]] (cas_h ln a fs cp) (AX) (fun x => AOK x.a fs.length) (fun x => [⟨x.b, cuL ln x.a fs.length x.c ⟨0, 0, 0⟩, 58, none⟩, ⟨0, cFe fs, 53, some ⟨x.a, fs.length, x.c, 3⟩⟩]) (fun x => .pointer (some ⟨x.b, 0, none⟩)) = (∀ (b : Nat), b = b /\ b = b /\ True /\ ((Option.isNone a = true -> False) /\ (Option.isNone a = false -> ∀ (b : Nat), a = a /\ AOK a (List.length fs) /\ List.length (cFe fs) = List.length fs * (3 : Nat) /\ (∀ (u : Value), u ∈ Ob.cells (Ob.mk (0 : Nat) (Prod.snd (a, cFe fs)) (0 : TypeId) (some (Ow.mk
 (Prod.fst (a, cFe fs)) (0 : Nat) (0 : Nat) (0 : Nat)))) -> Value.oneCell' u = true) /\ ((0 : Nat) + List.length fs) * (33 : Nat) ≤ (140737488355328 : Nat) /\ cFe fs = cFe fs /\ some (Addr.mk b (0 : Nat) none) = some (Addr.mk b (0 : Nat) none) /\ ∀ (a' : Option Addr) (cap : Nat), AOK a' (List.length
 fs) -> True /\ (∀ (b : Nat), ∃ x, ((AX.a x = none -> List.length fs = (0 : Nat)) /\ (List.length fs ≠ (0 : Nat) -> ∀ (q : Addr), AX.a x = some q -> Addr.spot q = none)) /\ Value.pointer (some (Addr.mk b (0 : Nat) none)) = Value.pointer (some (Addr.mk (AX.b x) (0 : Nat) none)) /\ (True /\ True /\
 True) /\ (b = AX.b x /\ [Value.int .i64 ln, .slice a' (List.length fs) cap, .int .i64 0, .int .i64 0, .int .i64 0] = cuL ln (AX.a x) (List.length fs) (AX.c x) (Cu.mk (0 : Nat) (0 : Int) (0 : Int)) /\ (58 : Nat) = (58 : Nat) /\ noOw = noOw) /\ ((0 : Nat) = (0 : Nat) /\ cFe fs = cFe fs /\ (53 : Nat) =
 (53 : Nat) /\ some (Ow.mk a' (List.length fs) cap (3 : Nat)) = some (Ow.mk (AX.a x) (List.length fs) (AX.c x) (3 : Nat))) /\ True) /\ True)) /\ True) := by kernel_rfl
set_option maxHeartbeats 4000000 in
theorem cas_sp (ln : Int) (a : Option Addr) (fs : List Fe) (cp : Nat) (hA : AOK a fs.length) (hl : fs.length ≤ 1000000) (hn : a.isNone = false) : SpecC Tryz.prog [] ([(a, cFe fs)]) ([]) ([]) 5 #[.agg #[.int .i64 ln, .slice a fs.length cp]] (AX) (fun x => AOK x.a fs.length) (fun x => [⟨x.b, cuL ln x.a fs.length x.c ⟨0, 0, 0⟩, 58, none⟩, ⟨0, cFe fs, 53, some ⟨x.a, fs.length, x.c, 3⟩⟩]) (fun x => .pointer (some ⟨x.b, 0, none⟩)) := by
  refine specC_of (h := cas_h ln a fs cp) (?_ : wpH Tryz.prog [] ([(a, cFe fs)]) ([]) ([]) 400 5 [.agg #[.int .i64 ln, .slice a fs.length cp]] (cas_h ln a fs cp) (AX) (fun x => AOK x.a fs.length) (fun x => [⟨x.b, cuL ln x.a fs.length x.c ⟨0, 0, 0⟩, 58, none⟩, ⟨0, cFe fs, 53, some ⟨x.a, fs.length, x.c, 3⟩⟩]) (fun x => .pointer (some ⟨x.b, 0, none⟩)))
  rw [cas_x]
  (repeat' (first | with_reducible exact rfl | exact trivial | with_reducible assumption | exact cU_len _ | exact cI_len _ | exact cB_len _ | exact cU_one _ | exact cI_one _ | exact cB_one _ | exact (fun _ h => h) | exact (fun _ h => (List.not_mem_nil h).elim) | (with_reducible refine e1_in ?_) | (with_reducible refine e2_in ?_) | (with_reducible refine lx_in (Nat.le_of_ble_eq_true rfl) ?_) | (with_reducible refine rqx_rf ?_) | (with_reducible refine rqx_in ?_ ?_ ?_) | (with_reducible apply And.intro) | (with_reducible intro _)))
  all_goals (try (exfalso; simp_all; done))
  all_goals (try (refine ⟨⟨_, _, _⟩, ?_, rfl, ⟨trivial, trivial, trivial⟩, ⟨rfl, rfl, rfl, rfl⟩, ⟨rfl, rfl, rfl, rfl⟩, trivial⟩; assumption))
  all_goals (try (refine ⟨⟨_, _, _⟩, ⟨‹_ = none → _›, ‹_ ≠ 0 → _›⟩, rfl, ⟨trivial, trivial, trivial⟩, ⟨rfl, rfl, rfl, rfl⟩, ⟨rfl, rfl, rfl, rfl⟩, trivial⟩))
  all_goals (try (refine ⟨_, trivial, rfl, ⟨trivial, trivial⟩, ⟨rfl, rfl, rfl, rfl⟩, trivial⟩))
  all_goals (try (rename_i hh; exact cFe_one _ _ hh))
  all_goals (try (first | exact cFe_len _ | omega))
  
def can_h (ln : Int) (cp : Nat) : Hint := .draw [0] none [0] (.take 0 (.take 1 (.ob 0 (.take 2 (.take 3 (.ob 0 (.pl (.br (.inl (.lit (.take 5 (.pl (.br (.take 7 (.perm [1] .nil)) .nil))))) .nil))))))))
theorem can_x (ln : Int) (cp : Nat) : wpH Tryz.prog [] ([]) ([]) ([]) 400 5 [.agg #[.int .i64 ln, .slice none 0 cp]] (can_h ln cp) (Nat) (fun _ => True) (fun x => [⟨x, cuL ln none 0 0 ⟨0, 0, 0⟩, 58, none⟩]) (fun x => .pointer (some ⟨x, 0, none⟩)) = (∀ (b : Nat), b = b /\ b = b /\ True /\ (True /\ (∀ (b : Nat), ∃ x, True /\ Value.pointer (some (Addr.mk b (0 : Nat) none)) = Value.pointer (some (Addr.mk x (0 : Nat) none)) /\ (True /\ True) /\ (b = x /\ [Value.int .i64 ln, .slice none (0 : Nat) (0 : Nat), .int .i64 0, .int .i64 0, .int .i64 0] = cuL
 ln none (0 : Nat) (0 : Nat) (Cu.mk (0 : Nat) (0 : Int) (0 : Int)) /\ (58 : Nat) = (58 : Nat) /\ noOw = noOw) /\ True) /\ True) /\ True) := by kernel_rfl
set_option maxHeartbeats 4000000 in
theorem can_sp (ln : Int) (cp : Nat)  : SpecC Tryz.prog [] ([]) ([]) ([]) 5 #[.agg #[.int .i64 ln, .slice none 0 cp]] (Nat) (fun _ => True) (fun x => [⟨x, cuL ln none 0 0 ⟨0, 0, 0⟩, 58, none⟩]) (fun x => .pointer (some ⟨x, 0, none⟩)) := by
  refine specC_of (h := can_h ln cp) (?_ : wpH Tryz.prog [] ([]) ([]) ([]) 400 5 [.agg #[.int .i64 ln, .slice none 0 cp]] (can_h ln cp) (Nat) (fun _ => True) (fun x => [⟨x, cuL ln none 0 0 ⟨0, 0, 0⟩, 58, none⟩]) (fun x => .pointer (some ⟨x, 0, none⟩)))
  rw [can_x]
  (repeat' (first | with_reducible exact rfl | exact trivial | with_reducible assumption | exact cU_len _ | exact cI_len _ | exact cB_len _ | exact cU_one _ | exact cI_one _ | exact cB_one _ | exact (fun _ h => h) | exact (fun _ h => (List.not_mem_nil h).elim) | (with_reducible refine e1_in ?_) | (with_reducible refine e2_in ?_) | (with_reducible refine lx_in (Nat.le_of_ble_eq_true rfl) ?_) | (with_reducible refine rqx_rf ?_) | (with_reducible refine rqx_in ?_ ?_ ?_) | (with_reducible apply And.intro) | (with_reducible intro _)))
  all_goals (try (exfalso; simp_all; done))
  all_goals (try (refine ⟨⟨_, _, _⟩, ?_, rfl, ⟨trivial, trivial, trivial⟩, ⟨rfl, rfl, rfl, rfl⟩, ⟨rfl, rfl, rfl, rfl⟩, trivial⟩; assumption))
  all_goals (try (refine ⟨⟨_, _, _⟩, ⟨‹_ = none → _›, ‹_ ≠ 0 → _›⟩, rfl, ⟨trivial, trivial, trivial⟩, ⟨rfl, rfl, rfl, rfl⟩, ⟨rfl, rfl, rfl, rfl⟩, trivial⟩))
  all_goals (try (refine ⟨_, trivial, rfl, ⟨trivial, trivial⟩, ⟨rfl, rfl, rfl, rfl⟩, trivial⟩))
  all_goals (try (rename_i hh; exact cFe_one _ _ hh))
  all_goals (try (first | exact cFe_len _ | omega))
  

/-- A contract of which a list of nothing comes too. -/
theorem specC_nil {P : Program} {E : List Ex} {rds rds' : List (Option Addr × List Value)} {ghs : List Gh} {ins : List Ob} {f : FuncId} {args : Array Value} {α β : Type} {inv : α → Prop} {outs : α → List Ob} {v : α → Value} {inv' : β → Prop} {outs' : β → List Ob} {v' : β → Value} (hs : SpecC P E rds ghs ins f args α inv outs v) (p : TypeId × Nat) (g : α → β) (hr : ∀ x, x ∈ rds → x ∈ rds') (hi : ∀ x, inv x → inv' (g x)) (ho : ∀ x, outs' (g x) = outs x ++ [nilOb p]) (hv : ∀ x, v' (g x) = v x) : SpecC P E rds' ghs ins f args β inv' outs' v' := by
  intro w0 w hb hE hrd hgs hin hap hsep
  refine (hs w0 w hb hE (fun a xs h => hrd a xs (hr _ h)) hgs hin hap (fun o h k hk => ⟨fun a xs h2 => (hsep o h k hk).1 a xs (hr _ h2), (hsep o h k hk).2⟩)).mono ?_
  rintro e w' ⟨x, hx, he, hbl, hc, h1, h2⟩
  refine ⟨g x, hi x hx, by rw [hv]; exact he, hbl, hc, fun o h => ?_, fun i j o q k hi hj hk hd => ?_⟩
  · rw [ho, List.mem_append, List.mem_singleton] at h
    rcases h with h | rfl
    · exact h1 o h
    · exact ⟨nilOb_ok _ _ _, fun k hk => (nilOb_dep hk).elim⟩
  · rw [ho] at hi hj
    have key : ∀ {m : Nat} {o : Ob}, (outs x ++ [nilOb p])[m]? = some o → (outs x)[m]? = some o ∨ o = nilOb p := fun {m o} h => by
      rw [List.getElem?_append] at h
      split at h
      · exact Or.inl h
      · have := List.mem_of_getElem? h
        rw [List.mem_singleton] at this
        exact Or.inr this
    rcases key hj with hj | rfl
    · rcases key hi with hi | rfl
      · exact h2 i j o q k hi hj hk hd
      · rcases hk with hk | hk
        · unfold Ob.key nilOb at hk
          simp only at hk
          split at hk <;> cases hk
        · exact False.elim hk
    · exact (nilOb_dep hd).elim
theorem cat_sp (ln : Int) (a : Option Addr) (fs : List Fe) (cp : Nat) (hA : AOK a fs.length) (hl : fs.length ≤ 1000000) : SpecC Tryz.prog [] [(a, cFe fs)] [] [] 5 #[.agg #[.int .i64 ln, .slice a fs.length cp]] AX (fun x => AOK x.a fs.length) (fun x => [⟨x.b, cuL ln x.a fs.length x.c ⟨0, 0, 0⟩, 58, none⟩, ⟨0, cFe fs, 53, some ⟨x.a, fs.length, x.c, 3⟩⟩]) (fun x => .pointer (some ⟨x.b, 0, none⟩)) := by
  cases a with
  | some p => exact cas_sp ln (some p) fs cp hA hl rfl
  | none =>
    have e : fs = [] := List.length_eq_zero_iff.1 (hA.1 rfl)
    subst e
    exact specC_nil (can_sp ln cp) (53, 3) (fun x => ⟨x, none, 0⟩) (fun x h => by cases h) (fun x _ => ⟨fun _ => rfl, fun h => absurd rfl h⟩) (fun x => rfl) (fun x => rfl)


theorem qof1_sp (b : Nat) (ln : Int) (a : Option Addr) (fs : List Fe) (cp : Nat) (u : Cu) (b1 : Nat) (x : ByteArray) (hA : AOK a fs.length) (hl : fs.length ≤ 1000000) (hu : u.n ≤ fs.length) (hf : FeOk fs) : SpecC Tryz.prog [] ([(a, cFe fs), (some ⟨b1, 0, none⟩, cS [x])]) ([]) ([⟨b, cuL ln a fs.length cp u, 60, none⟩]) 26 #[.pointer (some ⟨b, 0, none⟩), .slice (some ⟨b1, 0, none⟩) 1 1] Un (fun x => x = Un.un) (fun _ => [⟨b, cuL ln a fs.length cp (ofU [x] fs u), 60, none⟩]) (fun _ => .int .i64 (ofV [x] fs u)) :=
  qof_sp b ln a fs cp u (some ⟨b1, 0, none⟩) [x] 1 hA hl hu hf ⟨fun h => (by cases h), fun _ q h => (by cases h; rfl)⟩ (Nat.le_of_ble_eq_true rfl)

def qkw_h (b : Nat) (ln : Int) (a : Option Addr) (fs : List Fe) (cp : Nat) (u : Cu) (x : ByteArray) : Hint := .osf fun l ↦ .specc [] [(a, cFe fs), (some (Addr.mk (bk (Prod.fst (nthO l (2 : Nat)))) (0 : Nat) none), cS [x])] [] [Ob.mk b (cuL ln a (List.length fs) cp u) (60 : TypeId) none] Un (fun x ↦ x = Un.un) (fun x_1 ↦ [Ob.mk b (cuL ln a (List.length fs) cp (ofU [x] fs u)) (60 : TypeId) none]) (fun x_1 ↦
 Value.int .i64 (ofV [x] fs u)) [0, 2] [] [1] fun x_124 ↦ .pl (.perm [3] .nil)
theorem qkw_x (b : Nat) (ln : Int) (a : Option Addr) (fs : List Fe) (cp : Nat) (u : Cu) (x : ByteArray) : wpH Tryz.prog [] ([(a, cFe fs)]) ([]) ([⟨b, cuL ln a fs.length cp u, 60, none⟩]) 400 25 [.pointer (some ⟨b, 0, none⟩), .string x] (qkw_h b ln a fs cp u x) (Un) (fun x => x = Un.un) (fun _ => [⟨b, cuL ln a fs.length cp (kwU x fs u), 60, none⟩]) (fun _ => .bool (kwB x fs u)) = (∀ (b_1 : Nat), (SpecC Tryz.prog [] [(a, cFe fs), (some (Addr.mk b_1 (0 : Nat) none), cS [x])] [] [Ob.mk b (cuL ln a (List.length fs) cp u) (60 : TypeId) noOw] (26 : FuncId) #[Value.pointer (some (Addr.mk b (0 : Nat) none)), .slice (some (Addr.mk b_1 (0 : Nat) none)) (List.length [x]) (1 : Nat)] Un
 (fun x ↦ x = Un.un) (fun x_1 ↦ [Ob.mk b (cuL ln a (List.length fs) cp (ofU [x] fs u)) (60 : TypeId) noOw]) fun x_1 ↦ Value.int .i64 (ofV [x] fs u)) /\ (∀ (e : Ex), e ∈ [] -> e ∈ []) /\ ((b = b /\ cuL ln a (List.length fs) cp u = cuL ln a (List.length fs) cp u /\ (60 : Nat) = (60 : Nat) /\ noOw =
 noOw) /\ True) /\ ((a = a /\ cFe fs = cFe fs) /\ (some (Addr.mk b_1 (0 : Nat) none) = some (Addr.mk b_1 (0 : Nat) none) /\ [Value.string x] = cS [x]) /\ True) /\ True /\ ∀ (x_124 : Un), x_124 = Un.un -> ∃ x_2, x_2 = Un.un /\ Value.bool (ofV [x] fs u == 0) = Value.bool (kwB x fs u) /\ (True /\ True)
 /\ (b = b /\ cuL ln a (List.length fs) cp (ofU [x] fs u) = cuL ln a (List.length fs) cp (kwU x fs u) /\ (60 : Nat) = (60 : Nat) /\ noOw = noOw) /\ True) := by kernel_rfl
set_option maxHeartbeats 4000000 in
theorem qkw_sp (b : Nat) (ln : Int) (a : Option Addr) (fs : List Fe) (cp : Nat) (u : Cu) (x : ByteArray) (hA : AOK a fs.length) (hl : fs.length ≤ 1000000) (hu : u.n ≤ fs.length) (hf : FeOk fs) : SpecC Tryz.prog [] ([(a, cFe fs)]) ([]) ([⟨b, cuL ln a fs.length cp u, 60, none⟩]) 25 #[.pointer (some ⟨b, 0, none⟩), .string x] (Un) (fun x => x = Un.un) (fun _ => [⟨b, cuL ln a fs.length cp (kwU x fs u), 60, none⟩]) (fun _ => .bool (kwB x fs u)) := by
  refine specC_of (h := qkw_h b ln a fs cp u x) (?_ : wpH Tryz.prog [] ([(a, cFe fs)]) ([]) ([⟨b, cuL ln a fs.length cp u, 60, none⟩]) 400 25 [.pointer (some ⟨b, 0, none⟩), .string x] (qkw_h b ln a fs cp u x) (Un) (fun x => x = Un.un) (fun _ => [⟨b, cuL ln a fs.length cp (kwU x fs u), 60, none⟩]) (fun _ => .bool (kwB x fs u)))
  rw [qkw_x]
  (repeat' (first | with_reducible exact rfl | exact trivial | with_reducible assumption | exact qof1_sp _ _ _ _ _ _ _ _ hA hl hu hf | exact cU_len _ | exact cI_len _ | exact cB_len _ | exact cU_one _ | exact cI_one _ | exact cB_one _ | exact (fun _ h => h) | exact (fun _ h => (List.not_mem_nil h).elim) | (with_reducible refine e1_in ?_) | (with_reducible refine e2_in ?_) | (with_reducible refine lx_in (Nat.le_of_ble_eq_true rfl) ?_) | (with_reducible refine rqx_rf ?_) | (with_reducible refine rqx_in ?_ ?_ ?_) | (with_reducible apply And.intro) | (with_reducible intro _)))
  all_goals (try (refine ⟨Un.un, rfl, ?_, ⟨trivial, trivial⟩, ⟨rfl, ?_, rfl, rfl⟩, trivial⟩))
  all_goals (try (exact rfl))
  all_goals (try (rw [(kw_of x fs u).1]; done))
  all_goals (try (rw [(kw_of x fs u).2]; done))
  
end Go.Proofs.YtjibacfgcdbhlaaGreatDoor
