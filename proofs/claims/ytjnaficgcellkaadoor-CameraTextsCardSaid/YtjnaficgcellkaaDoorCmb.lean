/- Layer 31 (camera): the other side of the pitch, other times, of both; equal lists. -/
import Derived.Test.YtjnaficgcellkaaDoorVz
import Derived.KernelRfl
import Derived.Test.YtjnaficgcellkaaDoorProg
import Derived.Test.YtjnaficgcellkaaDoorCma
import Derived.Test.YtjnaficgcellkaaDoorCmar
set_option linter.unusedSimpArgs false
set_option linter.unusedVariables false
set_option maxRecDepth 100000
namespace Go.Proofs.YtjnaficgcellkaaDoor
open Go.RowKit


/-! A part of an element is written. -/
def sS0 (l : List Sn) (m : Nat) (n : Int) : List Sn := l.set m ⟨n, (gSn l m).x, (gSn l m).y, (gSn l m).z, (gSn l m).e⟩
def sS1 (l : List Sn) (m : Nat) (n : Int) : List Sn := l.set m ⟨(gSn l m).t, n, (gSn l m).y, (gSn l m).z, (gSn l m).e⟩
def sS2 (l : List Sn) (m : Nat) (n : Int) : List Sn := l.set m ⟨(gSn l m).t, (gSn l m).x, n, (gSn l m).z, (gSn l m).e⟩
def sS3 (l : List Sn) (m : Nat) (n : Int) : List Sn := l.set m ⟨(gSn l m).t, (gSn l m).x, (gSn l m).y, n, (gSn l m).e⟩
def sS4 (l : List Sn) (m : Nat) (n : Int) : List Sn := l.set m ⟨(gSn l m).t, (gSn l m).x, (gSn l m).y, (gSn l m).z, n⟩
def cSn_st (l : List Sn) (m : Nat) : Nat → Value → List Value
  | 0, .int _ n => cSn (sS0 l m n)
  | 1, .int _ n => cSn (sS1 l m n)
  | 2, .int _ n => cSn (sS2 l m n)
  | 3, .int _ n => cSn (sS3 l m n)
  | 4, .int _ n => cSn (sS4 l m n)
  | _, _ => []
theorem cSn_cons (p : Sn) (l : List Sn) : cSn (p :: l) = .int .i64 p.t :: .int .i64 p.x :: .int .i64 p.y :: .int .i64 p.z :: .int .i64 p.e :: cSn l := rfl


theorem cSn_set0 {l : List Sn} {m : Nat} (n : Int) (h : m < l.length) : lset (cSn l) (m * 5) (.int .i64 n) = cSn (sS0 l m n) := by
  rw [lset_eq]
  unfold sS0
  induction l generalizing m with
  | nil => simp at h
  | cons p l ih =>
    cases m with
    | zero => rfl
    | succ m =>
      have := ih (m := m) (by simpa using h)
      have e2 : (m + 1) * 5 = m * 5 + 1 + 1 + 1 + 1 + 1 := by omega
      rw [cSn_cons, e2]
      simp only [List.set_cons_succ]
      rw [this]
      rfl
theorem sS0_len (l : List Sn) (m : Nat) (n : Int) : (sS0 l m n).length = l.length := by unfold sS0; exact List.length_set
theorem sS0_at {l : List Sn} {m : Nat} (n : Int) (h : m < l.length) : gSn (sS0 l m n) m = ⟨n, (gSn l m).x, (gSn l m).y, (gSn l m).z, (gSn l m).e⟩ := by
  unfold sS0 gSn
  rw [List.getD_eq_getElem?_getD, List.getElem?_set_self h]; rfl


theorem cSn_set1 {l : List Sn} {m : Nat} (n : Int) (h : m < l.length) : lset (cSn l) (m * 5 + 1) (.int .i64 n) = cSn (sS1 l m n) := by
  rw [lset_eq]
  unfold sS1
  induction l generalizing m with
  | nil => simp at h
  | cons p l ih =>
    cases m with
    | zero => rfl
    | succ m =>
      have := ih (m := m) (by simpa using h)
      have e2 : (m + 1) * 5 + 1 = m * 5 + 1 + 1 + 1 + 1 + 1 + 1 := by omega
      rw [cSn_cons, e2]
      simp only [List.set_cons_succ]
      rw [this]
      rfl
theorem sS1_len (l : List Sn) (m : Nat) (n : Int) : (sS1 l m n).length = l.length := by unfold sS1; exact List.length_set
theorem sS1_at {l : List Sn} {m : Nat} (n : Int) (h : m < l.length) : gSn (sS1 l m n) m = ⟨(gSn l m).t, n, (gSn l m).y, (gSn l m).z, (gSn l m).e⟩ := by
  unfold sS1 gSn
  rw [List.getD_eq_getElem?_getD, List.getElem?_set_self h]; rfl


theorem cSn_set2 {l : List Sn} {m : Nat} (n : Int) (h : m < l.length) : lset (cSn l) (m * 5 + 2) (.int .i64 n) = cSn (sS2 l m n) := by
  rw [lset_eq]
  unfold sS2
  induction l generalizing m with
  | nil => simp at h
  | cons p l ih =>
    cases m with
    | zero => rfl
    | succ m =>
      have := ih (m := m) (by simpa using h)
      have e2 : (m + 1) * 5 + 2 = m * 5 + 2 + 1 + 1 + 1 + 1 + 1 := by omega
      rw [cSn_cons, e2]
      simp only [List.set_cons_succ]
      rw [this]
      rfl
theorem sS2_len (l : List Sn) (m : Nat) (n : Int) : (sS2 l m n).length = l.length := by unfold sS2; exact List.length_set
theorem sS2_at {l : List Sn} {m : Nat} (n : Int) (h : m < l.length) : gSn (sS2 l m n) m = ⟨(gSn l m).t, (gSn l m).x, n, (gSn l m).z, (gSn l m).e⟩ := by
  unfold sS2 gSn
  rw [List.getD_eq_getElem?_getD, List.getElem?_set_self h]; rfl


theorem cSn_set3 {l : List Sn} {m : Nat} (n : Int) (h : m < l.length) : lset (cSn l) (m * 5 + 3) (.int .i64 n) = cSn (sS3 l m n) := by
  rw [lset_eq]
  unfold sS3
  induction l generalizing m with
  | nil => simp at h
  | cons p l ih =>
    cases m with
    | zero => rfl
    | succ m =>
      have := ih (m := m) (by simpa using h)
      have e2 : (m + 1) * 5 + 3 = m * 5 + 3 + 1 + 1 + 1 + 1 + 1 := by omega
      rw [cSn_cons, e2]
      simp only [List.set_cons_succ]
      rw [this]
      rfl
theorem sS3_len (l : List Sn) (m : Nat) (n : Int) : (sS3 l m n).length = l.length := by unfold sS3; exact List.length_set
theorem sS3_at {l : List Sn} {m : Nat} (n : Int) (h : m < l.length) : gSn (sS3 l m n) m = ⟨(gSn l m).t, (gSn l m).x, (gSn l m).y, n, (gSn l m).e⟩ := by
  unfold sS3 gSn
  rw [List.getD_eq_getElem?_getD, List.getElem?_set_self h]; rfl


theorem cSn_set4 {l : List Sn} {m : Nat} (n : Int) (h : m < l.length) : lset (cSn l) (m * 5 + 4) (.int .i64 n) = cSn (sS4 l m n) := by
  rw [lset_eq]
  unfold sS4
  induction l generalizing m with
  | nil => simp at h
  | cons p l ih =>
    cases m with
    | zero => rfl
    | succ m =>
      have := ih (m := m) (by simpa using h)
      have e2 : (m + 1) * 5 + 4 = m * 5 + 4 + 1 + 1 + 1 + 1 + 1 := by omega
      rw [cSn_cons, e2]
      simp only [List.set_cons_succ]
      rw [this]
      rfl
theorem sS4_len (l : List Sn) (m : Nat) (n : Int) : (sS4 l m n).length = l.length := by unfold sS4; exact List.length_set
theorem sS4_at {l : List Sn} {m : Nat} (n : Int) (h : m < l.length) : gSn (sS4 l m n) m = ⟨(gSn l m).t, (gSn l m).x, (gSn l m).y, (gSn l m).z, n⟩ := by
  unfold sS4 gSn
  rw [List.getD_eq_getElem?_getD, List.getElem?_set_self h]; rfl


/-- The other side of the pitch. -/
def mirF (s : Sn) : Sn := ⟨s.t, s.x, IntKind.i64.wrap (0 - s.y), s.z, s.e⟩
def mirS (l : List Sn) : List Sn := l.map mirF
def mfS (l : List Sn) (i : Nat) : List Sn := (l.take i).map mirF ++ l.drop i
theorem mf_len (l : List Sn) (i : Nat) : (mfS l i).length = l.length := by unfold mfS; simp; omega
theorem mf_0 (l : List Sn) : mfS l 0 = l := by simp [mfS]
theorem mf_all {l : List Sn} {i : Nat} (h : i = l.length) : mfS l i = mirS l := by subst h; simp [mfS, mirS]
theorem mf_at {l : List Sn} {i : Nat} (h : i < l.length) : gSn (mfS l i) i = gSn l i := by
  unfold gSn mfS
  rw [List.getD_eq_getElem?_getD, List.getD_eq_getElem?_getD, List.getElem?_append_right (by simp; omega)]
  have e : i - ((l.take i).map mirF).length = 0 := by simp; omega
  rw [e, List.getElem?_drop]; rfl
theorem mf_s {l : List Sn} {i : Nat} (h : i < l.length) : sS2 (mfS l i) i (IntKind.i64.wrap (0 - (gSn (mfS l i) i).y)) = mfS l (i + 1) := by
  show (mfS l i).set i _ = _
  rw [mf_at h]
  show (mfS l i).set i (mirF (gSn l i)) = _
  unfold mfS
  rw [List.set_append_right _ _ (by simp; omega)]
  have e : i - ((l.take i).map mirF).length = 0 := by simp; omega
  rw [e, List.drop_eq_getElem_cons h, List.set_cons_zero, List.take_add_one, List.getElem?_eq_getElem h, List.map_append, List.append_assoc, gSn_el h]
  rfl
theorem mir_len (l : List Sn) : (mirS l).length = l.length := by simp [mirS]
theorem mir_at {l : List Sn} {m : Nat} (h : m < l.length) : gSn (mirS l) m = mirF (gSn l m) := by
  rw [gSn_el h, gSn_el (by rw [mir_len]; exact h)]
  simp [mirS]
structure MX where
  i : Nat
  a : Option Addr
  c : Nat
@[reducible] def mrL (l : List Sn) : LoopR := ⟨MX, fun x => [(10, .int .i64 x.i), (3, .slice x.a l.length x.c)], [1], fun x => [⟨0, cSn (mfS l x.i), 33, some ⟨x.a, l.length, x.c, 5⟩⟩], fun x => x.i ≤ l.length ∧ AOK x.a l.length, fun x => l.length - x.i, []⟩
@[reducible] def smL (l : List Sn) : LoopR := ⟨Nat, fun i => [(13, .int .i64 i)], [], fun _ => [], fun i => i ≤ l.length, fun i => l.length - i, []⟩

def mir_h (a : Option Addr) (c : Nat) (l : List Sn) : Hint := .apl (1 : Nat) (0 : Nat) (cSn l) (.pl (.inv (mrL l) fun x0 ↦ .split (.ix (.lst (1 : Nat) (Int.toNat (↑(MX.i x0) : Int) * (5 : Nat) + (2 : Nat)) (Value.int .i64 (Sn.y (gSn (mfS l (MX.i x0)) (Int.toNat (↑(MX.i x0) : Int))))) (.ix (.sto (1 : Nat) (Int.toNat (↑(MX.i x0) : Int) * (5 : Nat) + (2 : Nat))
 (cSn (sS2 (mfS l (MX.i x0)) (Int.toNat (↑(MX.i x0) : Int)) (IntKind.i64.wrap ((0 : Int) - Sn.y (gSn (mfS l (MX.i x0)) (Int.toNat (↑(MX.i x0) : Int))))))) (.perm [1] .nil))))) (.perm [1] .nil)))
theorem mir_x (a : Option Addr) (c : Nat) (l : List Sn) : wpG Tryd.prog [] ([(a, cSn l)]) 400 20 [.slice a l.length c] (mir_h a c l) ([⟨33, 5, l.length, cSn (mirS l)⟩]) (fun ads => .slice (nthS ads 0).1 l.length (nthS ads 0).2) = (∀ (b : Nat), a = a /\ AOK a (List.length l) /\ List.length (cSn l) = List.length l * (5 : Nat) /\ (∀ (u : Value), u ∈ Ob.cells (Ob.mk (0 : Nat) (Prod.snd (a, cSn l)) (0 : TypeId) (some (Ow.mk (Prod.fst (a, cSn l)) (0 : Nat) (0 : Nat) (0 : Nat)))) -> Value.oneCell' u = true) /\ ((0 : Nat) +
 List.length l) * (41 : Nat) ≤ (140737488355328 : Nat) /\ cSn l = cSn l /\ some (Addr.mk b (0 : Nat) none) = some (Addr.mk b (0 : Nat) none) /\ ∀ (a' : Option Addr) (cap : Nat), AOK a' (List.length l) -> (∃ x, (MX.i x ≤ List.length l /\ AOK (MX.a x) (List.length l)) /\ Value.int .i64 0 = Value.int
 .i64 (↑(MX.i x) : Int) /\ Value.slice a' (List.length l) cap = Value.slice (MX.a x) (List.length l) (MX.c x) /\ ((0 : Nat) = (0 : Nat) /\ cSn l = cSn (mfS l (MX.i x)) /\ (33 : Nat) = (33 : Nat) /\ some (Ow.mk a' (List.length l) cap (5 : Nat)) = some (Ow.mk (MX.a x) (List.length l) (MX.c x) (5 :
 Nat))) /\ True) /\ ∀ (x0 : MX), MX.i x0 ≤ List.length l /\ AOK (MX.a x0) (List.length l) -> ∀ (junk : Nat -> Value), (decide ((↑(MX.i x0) : Int) < (↑(List.length l) : Int)) = true -> (((0 : Int) ≤ (↑(MX.i x0) : Int) /\ (↑(MX.i x0) : Int) < (↑(List.length l) : Int)) /\ AOK (MX.a x0) (List.length l))
 /\ bk (MX.a x0) = bk (MX.a x0) /\ ofs (MX.a x0) + Int.toNat (↑(MX.i x0) : Int) * (5 : Nat) + (2 : Nat) = ofs (MX.a x0) + (Int.toNat (↑(MX.i x0) : Int) * (5 : Nat) + (2 : Nat)) /\ lgo (cSn (mfS l (MX.i x0))) (Int.toNat (↑(MX.i x0) : Int) * (5 : Nat) + (2 : Nat)) = some (Value.int .i64 (Sn.y (gSn (mfS
 l (MX.i x0)) (Int.toNat (↑(MX.i x0) : Int))))) /\ (((0 : Int) ≤ (↑(MX.i x0) : Int) /\ (↑(MX.i x0) : Int) < (↑(List.length l) : Int)) /\ AOK (MX.a x0) (List.length l)) /\ bk (MX.a x0) = bk (MX.a x0) /\ ofs (MX.a x0) + Int.toNat (↑(MX.i x0) : Int) * (5 : Nat) + (2 : Nat) = ofs (MX.a x0) + (Int.toNat
 (↑(MX.i x0) : Int) * (5 : Nat) + (2 : Nat)) /\ True /\ lset (cSn (mfS l (MX.i x0))) (Int.toNat (↑(MX.i x0) : Int) * (5 : Nat) + (2 : Nat)) (Value.int .i64 (IntKind.i64.wrap ((0 : Int) - Sn.y (gSn (mfS l (MX.i x0)) (Int.toNat (↑(MX.i x0) : Int)))))) = cSn (sS2 (mfS l (MX.i x0)) (Int.toNat (↑(MX.i x0)
 : Int)) (IntKind.i64.wrap ((0 : Int) - Sn.y (gSn (mfS l (MX.i x0)) (Int.toNat (↑(MX.i x0) : Int)))))) /\ Int.toNat (↑(MX.i x0) : Int) * (5 : Nat) + (2 : Nat) < List.length (cSn (mfS l (MX.i x0))) /\ ∃ y, (MX.i y ≤ List.length l /\ AOK (MX.a y) (List.length l)) /\ List.length l - MX.i y < List.length
 l - MX.i x0 /\ Value.int .i64 (IntKind.i64.wrap ((↑(MX.i x0) : Int) + (1 : Int))) = Value.int .i64 (↑(MX.i y) : Int) /\ Value.slice (MX.a x0) (List.length l) (MX.c x0) = Value.slice (MX.a y) (List.length l) (MX.c y) /\ ((0 : Nat) = (0 : Nat) /\ cSn (sS2 (mfS l (MX.i x0)) (Int.toNat (↑(MX.i x0) :
 Int)) (IntKind.i64.wrap ((0 : Int) - Sn.y (gSn (mfS l (MX.i x0)) (Int.toNat (↑(MX.i x0) : Int)))))) = cSn (mfS l (MX.i y)) /\ (33 : Nat) = (33 : Nat) /\ some (Ow.mk (MX.a x0) (List.length l) (MX.c x0) (5 : Nat)) = some (Ow.mk (MX.a y) (List.length l) (MX.c y) (5 : Nat))) /\ True) /\ (decide ((↑(MX.i
 x0) : Int) < (↑(List.length l) : Int)) = false -> (33 : Nat) = (33 : Nat) /\ (5 : Nat) = (5 : Nat) /\ List.length l = List.length l /\ cSn (mfS l (MX.i x0)) = cSn (mirS l) /\ Value.slice (MX.a x0) (List.length l) (MX.c x0) = Value.slice (MX.a x0) (List.length l) (MX.c x0))) := by kernel_rfl
set_option maxHeartbeats 4000000 in
theorem mir_sp (a : Option Addr) (c : Nat) (l : List Sn) (hA : AOK a l.length) (hl : l.length ≤ 200) : SpecG Tryd.prog [] ([(a, cSn l)]) 20 #[.slice a l.length c] ([⟨33, 5, l.length, cSn (mirS l)⟩]) (fun ads => .slice (nthS ads 0).1 l.length (nthS ads 0).2) := by
  refine specG_of (h := mir_h a c l) (?_ : wpG Tryd.prog [] ([(a, cSn l)]) 400 20 [.slice a l.length c] (mir_h a c l) ([⟨33, 5, l.length, cSn (mirS l)⟩]) (fun ads => .slice (nthS ads 0).1 l.length (nthS ads 0).2))
  rw [mir_x]
  (repeat' (first | with_reducible exact rfl | exact trivial | with_reducible assumption | exact cSn_len _ | exact cSn_one _ | exact cU_len _ | exact cI_len _ | exact cB_len _ | exact cU_one _ | exact cI_one _ | exact cB_one _ | exact (fun _ h => h) | exact (fun _ h => (List.not_mem_nil h).elim) | (with_reducible refine e1_in ?_) | (with_reducible refine e2_in ?_) | (with_reducible refine lx_in (Nat.le_of_ble_eq_true rfl) ?_) | (with_reducible refine rqx_rf ?_) | (with_reducible refine rqx_in ?_ ?_ ?_) | (with_reducible apply And.intro) | (with_reducible intro _)))
  all_goals (try simp only [Int.toNat_natCast] at *)
  all_goals (first
    | omega
    | (exact ⟨⟨0, _, _⟩, ⟨Nat.zero_le _, (by assumption)⟩, rfl, rfl, ⟨(by trivial), (by rw [mf_0]), (by trivial), rfl⟩, trivial⟩)
    | (have hx := ‹_ ≤ l.length ∧ AOK _ _›; have hi := lt_s ‹_›; first | omega | exact hx.2 | (refine cSn_get2 ?_; rw [mf_len]; exact hi) | (refine cSn_set2 _ ?_; rw [mf_len]; exact hi) | (rw [cSn_len, mf_len]; omega) | exact ⟨⟨_ + 1, _, _⟩, ⟨hi, hx.2⟩, (by show _ - (_ + 1) < _; omega), wr_s (by omega), rfl, ⟨(by trivial), (by rw [mf_s hi]), (by trivial), rfl⟩, trivial⟩)
    | (have hx := ‹_ ≤ l.length ∧ AOK _ _›; rw [mf_all (ge_s ‹_› hx.1)])
    | trace_state)
end Go.Proofs.YtjnaficgcellkaaDoor
