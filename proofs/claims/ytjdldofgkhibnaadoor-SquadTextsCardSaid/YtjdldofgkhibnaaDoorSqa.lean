/- Layer 6 (squad): players by name, the first error of a side, titles, of both. -/
import Derived.Test.YtjdldofgkhibnaaDoorVz
import Derived.KernelRfl
import Derived.Test.YtjdldofgkhibnaaDoorProg
import Derived.Test.YtjdldofgkhibnaaDoorRda
import Derived.Test.YtjdldofgkhibnaaDoorRub
import Derived.Test.YtjdldofgkhibnaaDoorRubr
import Derived.Test.YtjdldofgkhibnaaDoorSqw
set_option linter.unusedSimpArgs false
set_option linter.unusedVariables false
set_option maxRecDepth 100000
namespace Go.Proofs.YtjdldofgkhibnaaDoor
open Go.RowKit


theorem sE_iff {x y : ByteArray} : (ByteArray.toList x == ByteArray.toList y) = true ↔ x = y := by
  constructor
  · intro h
    have := eq_of_beq h
    rw [ByteArray.toList_eq, ByteArray.toList_eq] at this
    obtain ⟨⟨l⟩⟩ := x
    obtain ⟨⟨m⟩⟩ := y
    simp only at this
    rw [this]
  · rintro rfl
    exact beq_self_eq_true _
theorem sE_ne {x y : ByteArray} : (ByteArray.toList x == ByteArray.toList y) = false ↔ x ≠ y := by
  rw [← Bool.not_eq_true, sE_iff]
/-- How many players stand before the first one with a name. -/
def fndN (x : ByteArray) : List ByteArray → Nat
  | [] => 0
  | y :: l => if (ByteArray.toList y == ByteArray.toList x) = true then 0 else fndN x l + 1
/-- The index of a name, -1 if there is none. -/
def fnd (l : List ByteArray) (x : ByteArray) : Int := if fndN x l < l.length then (fndN x l : Int) else -1
def fI (l : List ByteArray) (x : ByteArray) (i : Nat) : Prop := i ≤ l.length ∧ ∀ y ∈ l.take i, y ≠ x
theorem fndN_le (x : ByteArray) (l : List ByteArray) : fndN x l ≤ l.length := by
  induction l with
  | nil => simp [fndN]
  | cons y l ih => simp only [fndN, List.length_cons]; split <;> omega
theorem fnd_lo (l : List ByteArray) (x : ByteArray) : -1 ≤ fnd l x := by unfold fnd; split <;> omega
theorem fnd_hi (l : List ByteArray) (x : ByteArray) : fnd l x < l.length ∨ fnd l x = -1 := by unfold fnd; split <;> omega
theorem fI_0 (l : List ByteArray) (x : ByteArray) : fI l x 0 := ⟨Nat.zero_le _, fun y h => by simp at h⟩
theorem fI_step {l : List ByteArray} {x : ByteArray} {i : Nat} (h : fI l x i) (hi : i < l.length) (hn : ¬ gS l i = x) : fI l x (i + 1) := by
  refine ⟨hi, fun y hm => ?_⟩
  rw [List.take_add_one, List.getElem?_eq_getElem hi, List.mem_append] at hm
  rcases hm with hm | hm
  · exact h.2 y hm
  · rw [gS, List.getD_eq_getElem?_getD, List.getElem?_eq_getElem hi] at hn
    simp at hm hn
    rw [hm]; exact hn
theorem fndN_skip {x : ByteArray} : ∀ (l m : List ByteArray), (∀ y ∈ l, y ≠ x) → fndN x (l ++ m) = l.length + fndN x m := by
  intro l m h
  induction l with
  | nil => simp
  | cons y l ih =>
    have h1 : (ByteArray.toList y == ByteArray.toList x) = false := sE_ne.2 (h y (List.mem_cons_self ..))
    have h2 := ih fun z hz => h z (List.mem_cons_of_mem _ hz)
    simp only [List.cons_append, fndN, h1, List.length_cons]
    rw [if_neg (by simp), h2]
    omega
theorem fnd_hit {l : List ByteArray} {x : ByteArray} {i : Nat} (h : fI l x i) (hi : i < l.length) (e : gS l i = x) : fnd l x = i := by
  have e1 : l = l.take i ++ gS l i :: l.drop (i + 1) := by
    rw [gS, List.getD_eq_getElem?_getD, List.getElem?_eq_getElem hi]
    simp
  have e2 : fndN x l = i := by
    rw [e1, fndN_skip _ _ h.2, e]
    simp only [fndN]
    rw [if_pos (sE_iff.2 rfl), List.length_take]
    omega
  unfold fnd
  rw [e2, if_pos hi]
theorem fnd_no {l : List ByteArray} {x : ByteArray} (h : ∀ y ∈ l, y ≠ x) : fnd l x = -1 := by
  have := fndN_skip l [] h
  rw [List.append_nil] at this
  unfold fnd
  rw [this]
  simp [fndN]
theorem fnd_end {l : List ByteArray} {x : ByteArray} {i : Nat} (h : fI l x i) (hi : ¬ (i : Int) < l.length) : fnd l x = -1 := by
  have e : i = l.length := by have := h.1; omega
  have := h.2
  rw [e, List.take_length] at this
  exact fnd_no this
theorem fnd_mem {l : List ByteArray} {x : ByteArray} (h : fnd l x = -1) : ∀ y ∈ l, y ≠ x := by
  intro y hy e
  subst e
  obtain ⟨i, hi⟩ := List.getElem?_of_mem hy
  have hl := (List.getElem?_eq_some_iff.1 hi).1
  have : ∀ (l : List ByteArray), y ∈ l → fndN y l < l.length := by
    intro l
    induction l with
    | nil => intro h; simp at h
    | cons z l ih =>
      intro hm
      simp only [fndN, List.length_cons]
      split
      · omega
      · rename_i hz
        rcases List.mem_cons.1 hm with rfl | hm
        · exact absurd (sE_iff.2 rfl) hz
        · have := ih hm
          omega
  have h3 := this l hy
  unfold fnd at h
  rw [if_pos h3] at h
  omega
theorem take_getD {l : List ByteArray} {n i : Nat} (h : i < n) : gS (l.take n) i = gS l i := by
  rw [gS, gS, List.getD_eq_getElem?_getD, List.getD_eq_getElem?_getD, List.getElem?_take, if_pos h]
theorem len_take {l : List ByteArray} {n : Nat} (h : n ≤ l.length) : (l.take n).length = n := by rw [List.length_take]; omega
theorem getD_sz {l : List ByteArray} (h : ∀ x ∈ l, x.size ≤ 1000000) (i : Nat) : (gS l i).size ≤ 1000000 := by
  rw [gS, List.getD_eq_getElem?_getD]
  cases e : l[i]? with
  | none => simp; decide
  | some y => exact h y (List.mem_of_getElem? e)
/-- The error of the player with an index. -/
def pbad (l : List ByteArray) (i : Nat) : Int := if nmOk (gS l i) = false then 5 else if fnd (l.take i) (gS l i) ≥ 0 then 7 else 0
def plF (l : List ByteArray) : Nat → Nat → Int
  | 0, _ => 0
  | k + 1, i => if pbad l i = 0 then plF l k (i + 1) else pbad l i
/-- The first error of players. -/
def plE (l : List ByteArray) : Int := plF l l.length 0
def plI (l : List ByteArray) (i : Nat) : Prop := i ≤ l.length ∧ plE l = plF l (l.length - i) i
theorem pl_0 (l : List ByteArray) : plI l 0 := ⟨Nat.zero_le _, rfl⟩
theorem pl_eq {l : List ByteArray} {i : Nat} (h : plI l i) (hi : i < l.length) : plE l = if pbad l i = 0 then plF l (l.length - (i + 1)) (i + 1) else pbad l i := by
  rw [h.2, show l.length - i = (l.length - (i + 1)) + 1 by omega]
  rfl
theorem pl_step {l : List ByteArray} {i : Nat} (h : plI l i) (hi : i < l.length) (h1 : nmOk (gS l i) = true) (h2 : ¬ fnd (l.take i) (gS l i) ≥ 0) : plI l (i + 1) := by
  refine ⟨hi, ?_⟩
  rw [pl_eq h hi, if_pos]
  unfold pbad
  rw [if_neg (by rw [h1]; decide), if_neg h2]
theorem pl_nm {l : List ByteArray} {i : Nat} (h : plI l i) (hi : i < l.length) (h1 : nmOk (gS l i) = false) : plE l = 5 := by
  rw [pl_eq h hi]
  have : pbad l i = 5 := by unfold pbad; rw [if_pos h1]
  rw [this]
  rfl
theorem pl_two {l : List ByteArray} {i : Nat} (h : plI l i) (hi : i < l.length) (h1 : nmOk (gS l i) = true) (h2 : fnd (l.take i) (gS l i) ≥ 0) : plE l = 7 := by
  rw [pl_eq h hi]
  have : pbad l i = 7 := by unfold pbad; rw [if_neg (by rw [h1]; decide), if_pos h2]
  rw [this]
  rfl
theorem pl_end {l : List ByteArray} {i : Nat} (h : plI l i) (hi : ¬ (i : Int) < l.length) : plE l = 0 := by
  have e : i = l.length := by have := h.1; omega
  rw [h.2, e, Nat.sub_self]
  rfl
/-- A name that stands before is found there. -/
theorem fnd_self {l : List ByteArray} {i : Nat} (hi : i < l.length) : fnd l (gS l i) = i ↔ ¬ fnd (l.take i) (gS l i) ≥ 0 := by
  constructor
  · intro h h2
    generalize gS l i = x at *
    have h3 : fndN x (l.take i) < (l.take i).length := by
      unfold fnd at h2
      split at h2
      · assumption
      · omega
    have h4 : ∀ (m k : List ByteArray), fndN x m < m.length → fndN x (m ++ k) = fndN x m := by
      intro m k
      induction m with
      | nil => intro h; simp at h
      | cons y m ih =>
        simp only [fndN, List.cons_append, List.length_cons]
        split
        · intro _; rfl
        · intro h; rw [ih (by omega)]
    have h5 := h4 (l.take i) (l.drop i) h3
    rw [List.take_append_drop] at h5
    rw [List.length_take] at h3
    unfold fnd at h
    split at h <;> omega
  · intro h
    have h2 : fnd (l.take i) (gS l i) = -1 := by
      have := fnd_lo (l.take i) (gS l i)
      omega
    exact fnd_hit ⟨by omega, fnd_mem h2⟩ hi rfl
def isP (s : Squ) (p : Int) : Bool := decide (1 ≤ p) && decide (p ≤ s.pl.length)
/-- The first error of a side. -/
def sqk (s : Squ) : Int := if nmOk s.nm = false then 5 else if s.pl.length < 2 ∨ s.pl.length > 11 then 9 else if plE s.pl ≠ 0 then plE s.pl else if isP s s.ca = false ∨ isP s s.ke = false then 6 else 0
def cMark : ByteArray := ⟨#[32, 40, 99, 41]⟩
def kMark : ByteArray := ⟨#[32, 40, 107, 41]⟩
/-- The name of a player, with the marks of captain and keeper. -/
def ttl (s : Squ) (p : Int) : ByteArray := if isP s p = false then ⟨#[]⟩ else if p = s.ca then (if p = s.ke then catB (catB (gS s.pl (p - 1).toNat) cMark) kMark else catB (gS s.pl (p - 1).toNat) cMark) else if p = s.ke then catB (gS s.pl (p - 1).toNat) kMark else gS s.pl (p - 1).toNat


@[reducible] def ixL (l : List ByteArray) (n : Nat) (x : ByteArray) : LoopR := ⟨Nat, fun i => [(8, .int .i64 i)], [], fun _ => [], fI (l.take n) x, fun i => n - i, []⟩
@[reducible] def ckL (l : List ByteArray) : LoopR := ⟨Nat, fun i => [(7, .int .i64 i)], [], fun _ => [], plI l, fun i => l.length - i, []⟩
@[reducible] def rfL (l : List ByteArray) (x : ByteArray) : LoopR := ⟨Nat, fun i => [(10, .int .i64 i)], [], fun _ => [], fI l x, fun i => l.length - i, []⟩
@[reducible] def rkL (l : List ByteArray) : LoopR := ⟨Nat, fun i => [(22, .int .i64 i)], [], fun _ => [], plI l, fun i => l.length - i, []⟩
theorem fnd_w (l : List ByteArray) (x : ByteArray) (h : l.length ≤ 1000000) : IntKind.i64.wrap (fnd l x + 1) = fnd l x + 1 := IntWalk.i64_in _ (by have := fnd_lo l x; have := fnd_hi l x; omega)

def ixS_h (a : Option Addr) (l : List ByteArray) (n c : Nat) (x : ByteArray) : Hint := .pl (.inv (ixL l n x) fun x0 ↦ .split (.ix (.lst (0 : Nat) (x0 * (1 : Nat)) (Value.string (gS l x0)) (.pl (.split (.perm [] .nil) (.perm [] .nil))))) (.perm [] .nil))
theorem ixS_x (a : Option Addr) (l : List ByteArray) (n c : Nat) (x : ByteArray) : wpG Tryd.prog [] ([(a, cS l)]) 400 54 [.slice a n c, .string x] (ixS_h a l n c x) ([]) (fun _ => .int .i64 (fnd (l.take n) x)) = ((∃ x_1, fI (List.take n l) x x_1 /\ Value.int .i64 0 = Value.int .i64 (↑x_1 : Int) /\ True) /\ ∀ (x0 : Nat), fI (List.take n l) x x0 -> ∀ (junk : Nat -> Value), (decide ((↑x0 : Int) < (↑n : Int)) = true -> (((0 : Int) ≤ (↑x0 : Int) /\ (↑x0 : Int) < (↑n : Int)) /\ AOK a n) /\ bk a = bk a /\ ofs a + x0
 * (1 : Nat) = ofs a + x0 * (1 : Nat) /\ lgo (cS l) (x0 * (1 : Nat)) = some (Value.string (gS l x0)) /\ ((ByteArray.toList x == ByteArray.toList (gS l x0)) = true -> Value.int .i64 (↑x0 : Int) = Value.int .i64 (fnd (List.take n l) x)) /\ ((ByteArray.toList x == ByteArray.toList (gS l x0)) = false ->
 ∃ y, fI (List.take n l) x y /\ n - y < n - x0 /\ Value.int .i64 (IntKind.i64.wrap ((↑x0 : Int) + (1 : Int))) = Value.int .i64 (↑y : Int) /\ True)) /\ (decide ((↑x0 : Int) < (↑n : Int)) = false -> Value.int .i64 (-1 : Int) = Value.int .i64 (fnd (List.take n l) x))) := by kernel_rfl
set_option maxHeartbeats 4000000 in
theorem ixS_sp (a : Option Addr) (l : List ByteArray) (n c : Nat) (x : ByteArray) (hA : AOK a l.length) (hn : n ≤ l.length) (hl : l.length ≤ 1000000) : SpecG Tryd.prog [] ([(a, cS l)]) 54 #[.slice a n c, .string x] ([]) (fun _ => .int .i64 (fnd (l.take n) x)) := by
  refine specG_of (h := ixS_h a l n c x) (?_ : wpG Tryd.prog [] ([(a, cS l)]) 400 54 [.slice a n c, .string x] (ixS_h a l n c x) ([]) (fun _ => .int .i64 (fnd (l.take n) x)))
  rw [ixS_x]
  have hAn : AOK a n := ⟨(fun e => by have := hA.1 e; omega), (fun h q hq => hA.2 (by omega) q hq)⟩
  (repeat' (first | with_reducible exact rfl | exact trivial | with_reducible assumption | exact cU_len _ | exact cI_len _ | exact cB_len _ | exact cU_one _ | exact cI_one _ | exact cB_one _ | exact (fun _ h => h) | exact (fun _ h => (List.not_mem_nil h).elim) | exact cS_len _ | exact cS_one _ | (with_reducible refine e1_in ?_) | (with_reducible refine e2_in ?_) | (with_reducible refine lx_in (Nat.le_of_ble_eq_true rfl) ?_) | (with_reducible refine rqx_rf ?_) | (with_reducible refine rqx_in ?_ ?_ ?_) | (with_reducible apply And.intro) | (with_reducible intro _)))
  all_goals (try simp only [Int.toNat_natCast] at *)
  all_goals (try simp only [len_take hn] at *)
  all_goals first
    | exact ⟨0, fI_0 _ _, rfl, trivial⟩
    | (have hf := of_decide_eq_true ‹decide (((_ : Nat) : Int) < ((_ : Nat) : Int)) = true›; have hf2 := Int.ofNat_lt.1 hf; have hx := ‹fI _ _ _›; first
        | omega
        | (refine cS_get ?_; omega)
        | (have he := ‹(_ == _) = true›; rw [fnd_hit hx (by rw [len_take hn]; exact hf2) (by rw [take_getD hf2]; exact (sE_iff.1 he).symm)]; done)
        | (have he := ‹(_ == _) = false›; exact ⟨_, fI_step hx (by rw [len_take hn]; exact hf2) (by rw [take_getD hf2]; exact fun e => sE_ne.1 he e.symm), (by show _ - (_ + 1) < _; omega), (by rw [IntWalk.i64_in _ (by omega)]; rfl), trivial⟩))
    | (have hf := of_decide_eq_false ‹decide (((_ : Nat) : Int) < ((_ : Nat) : Int)) = false›; have hx := ‹fI _ _ _›; rw [fnd_end hx (by rw [len_take hn]; exact hf)])
    | trace_state
def ckp_h (a : Option Addr) (l : List ByteArray) (c : Nat) : Hint := .pl (.inv (ckL l) fun x0 ↦ .split (.ix (.lst (0 : Nat) (x0 * (1 : Nat)) (Value.string (gS l x0)) (.specg [] [] [] [] (fun ads0 x ↦ Value.bool (nmOk (gS l x0))) (.split (.perm [] .nil) (.ix (.inl (.specg [] [0] [cS l] [] (fun ads0 x ↦ Value.int .i64 (fnd (List.take x0 l) (gS l x0))) (.split (.perm []
 .nil) (.perm [] .nil))))))))) (.perm [] .nil))
theorem ckp_x (a : Option Addr) (l : List ByteArray) (c : Nat) : wpG Tryd.prog [] ([(a, cS l)]) 400 22 [.slice a l.length c] (ckp_h a l c) ([]) (fun _ => .int .i64 (plE l)) = ((∃ x, plI l x /\ Value.int .i64 0 = Value.int .i64 (↑x : Int) /\ True) /\ ∀ (x0 : Nat), plI l x0 -> ∀ (junk : Nat -> Value), (decide ((↑x0 : Int) < (↑(List.length l) : Int)) = true -> (((0 : Int) ≤ (↑x0 : Int) /\ (↑x0 : Int) < (↑(List.length l) : Int)) /\ AOK a (List.length l)) /\ bk a = bk a /\ ofs
 a + x0 * (1 : Nat) = ofs a + x0 * (1 : Nat) /\ lgo (cS l) (x0 * (1 : Nat)) = some (Value.string (gS l x0)) /\ (SpecG Tryd.prog [] [] (21 : FuncId) #[Value.string (gS l x0)] [] fun x ↦ Value.bool (nmOk (gS l x0))) /\ (∀ (e : Ex), e ∈ [] -> e ∈ []) /\ ((!nmOk (gS l x0)) = true -> Value.int .i64 5 =
 Value.int .i64 (plE l)) /\ ((!nmOk (gS l x0)) = false -> ((0 : Int) ≤ (↑x0 : Int) /\ (↑x0 : Int) ≤ (↑c : Int)) /\ cS l = cS l /\ (SpecG Tryd.prog [] [(a, cS l)] (54 : FuncId) #[Value.slice a x0 c, .string (gS l x0)] [] fun x ↦ Value.int .i64 (fnd (List.take x0 l) (gS l x0))) /\ (∀ (e : Ex), e ∈ [] ->
 e ∈ []) /\ (decide (fnd (List.take x0 l) (gS l x0) ≥ 0) = true -> Value.int .i64 7 = Value.int .i64 (plE l)) /\ (decide (fnd (List.take x0 l) (gS l x0) ≥ 0) = false -> ∃ y, plI l y /\ List.length l - y < List.length l - x0 /\ Value.int .i64 (IntKind.i64.wrap ((↑x0 : Int) + (1 : Int))) = Value.int
 .i64 (↑y : Int) /\ True))) /\ (decide ((↑x0 : Int) < (↑(List.length l) : Int)) = false -> Value.int .i64 0 = Value.int .i64 (plE l))) := by kernel_rfl
set_option maxHeartbeats 4000000 in
theorem ckp_sp (a : Option Addr) (l : List ByteArray) (c : Nat) (hA : AOK a l.length) (hc : l.length ≤ c) (hl : l.length ≤ 1000000) (hp : ∀ x ∈ l, x.size ≤ 1000000) : SpecG Tryd.prog [] ([(a, cS l)]) 22 #[.slice a l.length c] ([]) (fun _ => .int .i64 (plE l)) := by
  refine specG_of (h := ckp_h a l c) (?_ : wpG Tryd.prog [] ([(a, cS l)]) 400 22 [.slice a l.length c] (ckp_h a l c) ([]) (fun _ => .int .i64 (plE l)))
  rw [ckp_x]
  (repeat' (first | with_reducible exact rfl | exact trivial | with_reducible assumption | exact cU_len _ | exact cI_len _ | exact cB_len _ | exact cU_one _ | exact cI_one _ | exact cB_one _ | exact (fun _ h => h) | exact (fun _ h => (List.not_mem_nil h).elim) | exact cS_len _ | exact cS_one _ | (with_reducible refine e1_in ?_) | (with_reducible refine e2_in ?_) | (with_reducible refine lx_in (Nat.le_of_ble_eq_true rfl) ?_) | (with_reducible refine rqx_rf ?_) | (with_reducible refine rqx_in ?_ ?_ ?_) | (with_reducible apply And.intro) | (with_reducible intro _)))
  all_goals (try simp only [Int.toNat_natCast] at *)
  all_goals first
    | exact ⟨0, pl_0 _, rfl, trivial⟩
    | (have hf := of_decide_eq_true ‹decide (((_ : Nat) : Int) < ((_ : Nat) : Int)) = true›; have hf2 := Int.ofNat_lt.1 hf; have hx := ‹plI _ _›; first
        | omega
        | (refine cS_get ?_; omega)
        | exact tnm_sp _ (getD_sz hp _)
        | exact rnm_sp _ (getD_sz hp _)
        | (with_reducible exact ixS_sp _ _ _ _ _ hA (by omega) hl)
        | (have h1 := ‹(!nmOk _) = true›; rw [pl_nm hx hf2 (by simpa using h1)]; done)
        | (have h1 := ‹(!nmOk _) = false›; have h2 := of_decide_eq_true ‹decide (fnd _ _ ≥ 0) = true›; rw [pl_two hx hf2 (by simpa using h1) h2]; done)
        | (have h1 := ‹(!nmOk _) = false›; have h2 := of_decide_eq_false ‹decide (fnd _ _ ≥ 0) = false›; exact ⟨_, pl_step hx hf2 (by simpa using h1) h2, (by show _ - (_ + 1) < _; omega), (by rw [IntWalk.i64_in _ (by omega)]; rfl), trivial⟩))
    | (have hf := of_decide_eq_false ‹decide (((_ : Nat) : Int) < ((_ : Nat) : Int)) = false›; have hx := ‹plI _ _›; rw [pl_end hx hf])
    | trace_state
def sch_h (s : Squ) (B : RAd) : Hint := .ob 1 (.pl (.ob 1 (.specg [] [] [] [] (fun ads0 x ↦ Value.bool (nmOk (Squ.nm s))) (.split (.perm [] .nil) (.split (hl 3 (.perm [] .nil)) (.lit (.lit (.split (.perm [] .nil) (.ob 1 (.specg [] [0] [cS (Squ.pl s)] [] (fun ads0 x ↦ Value.int .i64 (plE (Squ.pl s))) (.pl (.split (.perm [] .nil) (ho 1 5
 (.inl (.split (.lit (.lit (.ob 2 (.lit (.pl (.lit (.lit (.split (hl 6 (.perm [] .nil)) (ho 1 4 (.lit (.lit (.ob 1 (.lit (.inl (.split (.lit (.lit (.ob 3 (.lit (.pl (hl 4 (.split (.perm [] .nil) (.perm [] .nil)))))))) (hl 8 (.perm [] .nil))))))))))))))))) (hl 12 (.perm [] .nil)))))))))))))))))
theorem sch_x (s : Squ) (B : RAd) : wpG Tryd.prog [] ([(B.a, cS s.pl)]) 400 12 [sqV s B] (sch_h s B) ([]) (fun _ => .int .i64 (sqk s)) = (∀ (b : Nat), b = b /\ b = b /\ (SpecG Tryd.prog [] [] (21 : FuncId) #[Value.string (Squ.nm s)] [] fun x ↦ Value.bool (nmOk (Squ.nm s))) /\ (∀ (e : Ex), e ∈ [] -> e ∈ []) /\ ((!nmOk (Squ.nm s)) = true -> Value.int .i64 5 = Value.int .i64 (sqk s)) /\ ((!nmOk (Squ.nm s)) = false -> (decide
 ((↑(List.length (Squ.pl s)) : Int) < (2 : Int)) = true -> Value.int .i64 9 = Value.int .i64 (sqk s)) /\ (decide ((↑(List.length (Squ.pl s)) : Int) < (2 : Int)) = false -> (decide ((↑(List.length (Squ.pl s)) : Int) > (11 : Int)) = true -> Value.int .i64 9 = Value.int .i64 (sqk s)) /\ (decide
 ((↑(List.length (Squ.pl s)) : Int) > (11 : Int)) = false -> b = b /\ cS (Squ.pl s) = cS (Squ.pl s) /\ (SpecG Tryd.prog [] [(RAd.a B, cS (Squ.pl s))] (22 : FuncId) #[Value.slice (RAd.a B) (List.length (Squ.pl s)) (RAd.c B)] [] fun x ↦ Value.int .i64 (plE (Squ.pl s))) /\ (∀ (e : Ex), e ∈ [] -> e ∈ [])
 /\ ((plE (Squ.pl s) != 0) = true -> Value.int .i64 (plE (Squ.pl s)) = Value.int .i64 (sqk s)) /\ ((plE (Squ.pl s) != 0) = false -> e1 b 5 (∀ (b_1 : Nat), (decide (Squ.ca s ≥ 1) = true -> b_1 = b_1 /\ ((!decide (Squ.ca s ≤ (↑(List.length (Squ.pl s)) : Int))) = true -> Value.int .i64 6 = Value.int
 .i64 (sqk s)) /\ ((!decide (Squ.ca s ≤ (↑(List.length (Squ.pl s)) : Int))) = false -> e1 b 5 (∀ (b : Nat), (decide (Squ.ke s ≥ 1) = true -> b = b /\ ((!decide (Squ.ke s ≤ (↑(List.length (Squ.pl s)) : Int))) = true -> Value.int .i64 6 = Value.int .i64 (sqk s)) /\ ((!decide (Squ.ke s ≤ (↑(List.length
 (Squ.pl s)) : Int))) = false -> Value.int .i64 0 = Value.int .i64 (sqk s))) /\ (decide (Squ.ke s ≥ 1) = false -> Value.int .i64 6 = Value.int .i64 (sqk s))))) /\ (decide (Squ.ca s ≥ 1) = false -> Value.int .i64 6 = Value.int .i64 (sqk s)))))))) := by kernel_rfl
set_option maxHeartbeats 4000000 in
theorem sch_sp (s : Squ) (B : RAd) (hB : AOK B.a s.pl.length) (hc : s.pl.length ≤ B.c) (hl : s.pl.length ≤ 1000000) (hn : s.nm.size ≤ 1000000) (hp : ∀ x ∈ s.pl, x.size ≤ 1000000) : SpecG Tryd.prog [] ([(B.a, cS s.pl)]) 12 #[sqV s B] ([]) (fun _ => .int .i64 (sqk s)) := by
  refine specG_of (h := sch_h s B) (?_ : wpG Tryd.prog [] ([(B.a, cS s.pl)]) 400 12 [sqV s B] (sch_h s B) ([]) (fun _ => .int .i64 (sqk s)))
  rw [sch_x]
  (repeat' (first | with_reducible exact rfl | exact trivial | with_reducible assumption | exact tnm_sp _ hn | exact ckp_sp _ _ _ hB hc hl hp | exact cU_len _ | exact cI_len _ | exact cB_len _ | exact cU_one _ | exact cI_one _ | exact cB_one _ | exact (fun _ h => h) | exact (fun _ h => (List.not_mem_nil h).elim) | (with_reducible refine e1_in ?_) | (with_reducible refine e2_in ?_) | (with_reducible refine lx_in (Nat.le_of_ble_eq_true rfl) ?_) | (with_reducible refine rqx_rf ?_) | (with_reducible refine rqx_in ?_ ?_ ?_) | (with_reducible apply And.intro) | (with_reducible intro _)))
  all_goals (first | (simp only [*, Bool.and_true, Bool.true_and, Bool.and_false, Bool.false_and, Bool.or_true, Bool.true_or, Bool.or_false, Bool.false_or, Bool.not_true, Bool.not_false, cond_true, cond_false]; done) | (refine congrArg (Value.int .i64) ?_; unfold sqk isP; (try (simp only [Bool.not_eq_true', Bool.not_eq_false', Bool.or_eq_true, Bool.or_eq_false_iff, Bool.and_eq_true, Bool.and_eq_false_iff, decide_eq_true_eq, decide_eq_false_iff_not, bne_iff_ne, bne_eq_false_iff_eq, beq_iff_eq, beq_eq_false_iff_ne, ne_eq, Decidable.not_not] at *)); (repeat' split) <;> first | rfl | omega | (simp_all; done) | (exfalso; simp_all; omega)) | trace_state)
def fdr_h (s : Squ) (B : RAd) (x : ByteArray) : Hint := .ob 1 (.pl (.inv (rfL (Squ.pl s) x) fun x0 ↦ .split (.ix (.lst (0 : Nat) (x0 * (1 : Nat)) (Value.string (gS (Squ.pl s) x0)) (.pl (.split (.perm [] .nil) (.perm [] .nil))))) (.perm [] .nil)))
theorem fdr_x (s : Squ) (B : RAd) (x : ByteArray) : wpG Tryd.prog [] ([(B.a, cS s.pl)]) 400 28 [sqV s B, .string x] (fdr_h s B x) ([]) (fun _ => .int .i64 (fnd s.pl x + 1)) = (∀ (b : Nat), b = b /\ (∃ x_1, fI (Squ.pl s) x x_1 /\ Value.int .i64 0 = Value.int .i64 (↑x_1 : Int) /\ True) /\ ∀ (x0 : Nat), fI (Squ.pl s) x x0 -> ∀ (junk : Nat -> Value), (decide ((↑x0 : Int) < (↑(List.length (Squ.pl s)) : Int)) = true -> (((0 : Int) ≤ (↑x0 : Int) /\ (↑x0 : Int) < (↑(List.length
 (Squ.pl s)) : Int)) /\ AOK (RAd.a B) (List.length (Squ.pl s))) /\ bk (RAd.a B) = bk (RAd.a B) /\ ofs (RAd.a B) + x0 * (1 : Nat) = ofs (RAd.a B) + x0 * (1 : Nat) /\ lgo (cS (Squ.pl s)) (x0 * (1 : Nat)) = some (Value.string (gS (Squ.pl s) x0)) /\ ((ByteArray.toList (gS (Squ.pl s) x0) ==
 ByteArray.toList x) = true -> Value.int .i64 (IntKind.i64.wrap ((↑x0 : Int) + (1 : Int))) = Value.int .i64 (fnd (Squ.pl s) x + 1)) /\ ((ByteArray.toList (gS (Squ.pl s) x0) == ByteArray.toList x) = false -> ∃ y, fI (Squ.pl s) x y /\ List.length (Squ.pl s) - y < List.length (Squ.pl s) - x0 /\
 Value.int .i64 (IntKind.i64.wrap ((↑x0 : Int) + (1 : Int))) = Value.int .i64 (↑y : Int) /\ True)) /\ (decide ((↑x0 : Int) < (↑(List.length (Squ.pl s)) : Int)) = false -> Value.int .i64 0 = Value.int .i64 (fnd (Squ.pl s) x + 1))) := by kernel_rfl
set_option maxHeartbeats 4000000 in
theorem fdr_sp (s : Squ) (B : RAd) (x : ByteArray) (hB : AOK B.a s.pl.length) (hl : s.pl.length ≤ 1000000) : SpecG Tryd.prog [] ([(B.a, cS s.pl)]) 28 #[sqV s B, .string x] ([]) (fun _ => .int .i64 (fnd s.pl x + 1)) := by
  refine specG_of (h := fdr_h s B x) (?_ : wpG Tryd.prog [] ([(B.a, cS s.pl)]) 400 28 [sqV s B, .string x] (fdr_h s B x) ([]) (fun _ => .int .i64 (fnd s.pl x + 1)))
  rw [fdr_x]
  (repeat' (first | with_reducible exact rfl | exact trivial | with_reducible assumption | exact cU_len _ | exact cI_len _ | exact cB_len _ | exact cU_one _ | exact cI_one _ | exact cB_one _ | exact (fun _ h => h) | exact (fun _ h => (List.not_mem_nil h).elim) | exact cS_len _ | exact cS_one _ | (with_reducible refine e1_in ?_) | (with_reducible refine e2_in ?_) | (with_reducible refine lx_in (Nat.le_of_ble_eq_true rfl) ?_) | (with_reducible refine rqx_rf ?_) | (with_reducible refine rqx_in ?_ ?_ ?_) | (with_reducible apply And.intro) | (with_reducible intro _)))
  all_goals (try simp only [Int.toNat_natCast] at *)
  all_goals first
    | exact ⟨0, fI_0 _ _, rfl, trivial⟩
    | (have hf := of_decide_eq_true ‹decide (((_ : Nat) : Int) < ((_ : Nat) : Int)) = true›; have hf2 := Int.ofNat_lt.1 hf; have hx := ‹fI _ _ _›; first
        | omega
        | (refine cS_get ?_; omega)
        | (have he := ‹(_ == _) = true›; rw [IntWalk.i64_in _ (by omega), fnd_hit hx hf2 (sE_iff.1 he)]; done)
        | (have he := ‹(_ == _) = false›; exact ⟨_, fI_step hx hf2 (sE_ne.1 he), (by show _ - (_ + 1) < _; omega), (by rw [IntWalk.i64_in _ (by omega)]; rfl), trivial⟩))
    | (have hf := of_decide_eq_false ‹decide (((_ : Nat) : Int) < ((_ : Nat) : Int)) = false›; have hx := ‹fI _ _ _›; rw [fnd_end hx hf]; rfl)
    | trace_state

theorem cr_t {l : List ByteArray} {i : Nat} (hi : i < l.length) (h : (fnd l (gS l i) + 1 != (i : Int) + 1) = true) : fnd (l.take i) (gS l i) ≥ 0 := by
  rw [bne_iff_ne] at h
  by_cases c : fnd (l.take i) (gS l i) ≥ 0
  · exact c
  · exact absurd (by rw [(fnd_self hi).2 c]) h
theorem cr_f {l : List ByteArray} {i : Nat} (hi : i < l.length) (h : (fnd l (gS l i) + 1 != (i : Int) + 1) = false) : ¬ fnd (l.take i) (gS l i) ≥ 0 := by
  rw [bne_eq_false_iff_eq] at h
  exact (fnd_self hi).1 (by omega)

def scr_h (s : Squ) (B : RAd) : Hint := .ob 1 (.specg [] [] [] [] (fun ads0 x ↦ Value.bool (nmOk (Squ.nm s))) (.split (.perm [] .nil) (.ob 1 (.pl (.split (hl 3 (.perm [] .nil)) (.lit (.lit (.split (.perm [] .nil) (.ob 1 (.pl (.inv (rkL (Squ.pl s)) fun x0 ↦ .split (.ix (.lst (0 : Nat) (x0 * (1 : Nat)) (Value.string (gS (Squ.pl s) x0))
 (.specg [] [] [] [] (fun ads0 x ↦ Value.bool (nmOk (gS (Squ.pl s) x0))) (.split (.perm [] .nil) (ho 1 4 (.specg [] [0] [cS (Squ.pl s)] [] (fun ads0 x ↦ Value.int .i64 (fnd (Squ.pl s) (gS (Squ.pl s) x0) + 1)) (.pl (.split (.perm [] .nil) (.perm [] .nil))))))))) (.ob 1 (.split (hl 14 (.perm [] .nil))
 (.lit (.ob 1 (hl 3 (.split (hl 9 (.perm [] .nil)) (.lit (.ob 1 (.lit (.lit (.split (hl 5 (.perm [] .nil)) (.lit (.ob 1 (hl 3 (.split (.perm [] .nil) (.perm [] .nil)))))))))))))))))))))))))))
theorem scr_x (s : Squ) (B : RAd) : wpG Tryd.prog [] ([(B.a, cS s.pl)]) 400 15 [sqV s B] (scr_h s B) ([]) (fun _ => .int .i64 (sqk s)) = (∀ (b : Nat), b = b /\ (SpecG Tryd.prog [] [] (27 : FuncId) #[Value.string (Squ.nm s)] [] fun x ↦ Value.bool (nmOk (Squ.nm s))) /\ (∀ (e : Ex), e ∈ [] -> e ∈ []) /\ ((!nmOk (Squ.nm s)) = true -> Value.int .i64 5 = Value.int .i64 (sqk s)) /\ ((!nmOk (Squ.nm s)) = false -> b = b /\ (decide
 ((↑(List.length (Squ.pl s)) : Int) < (2 : Int)) = true -> Value.int .i64 9 = Value.int .i64 (sqk s)) /\ (decide ((↑(List.length (Squ.pl s)) : Int) < (2 : Int)) = false -> (decide ((↑(List.length (Squ.pl s)) : Int) > (11 : Int)) = true -> Value.int .i64 9 = Value.int .i64 (sqk s)) /\ (decide
 ((↑(List.length (Squ.pl s)) : Int) > (11 : Int)) = false -> b = b /\ (∃ x, plI (Squ.pl s) x /\ Value.int .i64 0 = Value.int .i64 (↑x : Int) /\ True) /\ ∀ (x0 : Nat), plI (Squ.pl s) x0 -> ∀ (junk : Nat -> Value), (decide ((↑x0 : Int) < (↑(List.length (Squ.pl s)) : Int)) = true -> (((0 : Int) ≤ (↑x0 :
 Int) /\ (↑x0 : Int) < (↑(List.length (Squ.pl s)) : Int)) /\ AOK (RAd.a B) (List.length (Squ.pl s))) /\ bk (RAd.a B) = bk (RAd.a B) /\ ofs (RAd.a B) + x0 * (1 : Nat) = ofs (RAd.a B) + x0 * (1 : Nat) /\ lgo (cS (Squ.pl s)) (x0 * (1 : Nat)) = some (Value.string (gS (Squ.pl s) x0)) /\ (SpecG Tryd.prog []
 [] (27 : FuncId) #[Value.string (gS (Squ.pl s) x0)] [] fun x ↦ Value.bool (nmOk (gS (Squ.pl s) x0))) /\ (∀ (e : Ex), e ∈ [] -> e ∈ []) /\ ((!nmOk (gS (Squ.pl s) x0)) = true -> Value.int .i64 5 = Value.int .i64 (sqk s)) /\ ((!nmOk (gS (Squ.pl s) x0)) = false -> e1 b 4 (cS (Squ.pl s) = cS (Squ.pl s)
 /\ (SpecG Tryd.prog [] [(RAd.a B, cS (Squ.pl s))] (28 : FuncId) #[sqV s B, .string (gS (Squ.pl s) x0)] [] fun x ↦ Value.int .i64 (fnd (Squ.pl s) (gS (Squ.pl s) x0) + 1)) /\ (∀ (e : Ex), e ∈ [] -> e ∈ []) /\ ((fnd (Squ.pl s) (gS (Squ.pl s) x0) + 1 != IntKind.i64.wrap ((↑x0 : Int) + (1 : Int))) = true
 -> Value.int .i64 7 = Value.int .i64 (sqk s)) /\ ((fnd (Squ.pl s) (gS (Squ.pl s) x0) + 1 != IntKind.i64.wrap ((↑x0 : Int) + (1 : Int))) = false -> ∃ y, plI (Squ.pl s) y /\ List.length (Squ.pl s) - y < List.length (Squ.pl s) - x0 /\ Value.int .i64 (IntKind.i64.wrap ((↑x0 : Int) + (1 : Int))) =
 Value.int .i64 (↑y : Int) /\ True)))) /\ (decide ((↑x0 : Int) < (↑(List.length (Squ.pl s)) : Int)) = false -> b = b /\ (decide (Squ.ca s < 1) = true -> Value.int .i64 6 = Value.int .i64 (sqk s)) /\ (decide (Squ.ca s < 1) = false -> b = b /\ (decide (Squ.ca s > (↑(List.length (Squ.pl s)) : Int)) =
 true -> Value.int .i64 6 = Value.int .i64 (sqk s)) /\ (decide (Squ.ca s > (↑(List.length (Squ.pl s)) : Int)) = false -> b = b /\ (decide (Squ.ke s < 1) = true -> Value.int .i64 6 = Value.int .i64 (sqk s)) /\ (decide (Squ.ke s < 1) = false -> b = b /\ (decide (Squ.ke s > (↑(List.length (Squ.pl s)) :
 Int)) = true -> Value.int .i64 6 = Value.int .i64 (sqk s)) /\ (decide (Squ.ke s > (↑(List.length (Squ.pl s)) : Int)) = false -> Value.int .i64 0 = Value.int .i64 (sqk s)))))))))) := by kernel_rfl
set_option maxHeartbeats 4000000 in
theorem scr_sp (s : Squ) (B : RAd) (hB : AOK B.a s.pl.length) (hc : s.pl.length ≤ B.c) (hl : s.pl.length ≤ 1000000) (hn : s.nm.size ≤ 1000000) (hp : ∀ x ∈ s.pl, x.size ≤ 1000000) : SpecG Tryd.prog [] ([(B.a, cS s.pl)]) 15 #[sqV s B] ([]) (fun _ => .int .i64 (sqk s)) := by
  refine specG_of (h := scr_h s B) (?_ : wpG Tryd.prog [] ([(B.a, cS s.pl)]) 400 15 [sqV s B] (scr_h s B) ([]) (fun _ => .int .i64 (sqk s)))
  rw [scr_x]
  (repeat' (first | with_reducible exact rfl | exact trivial | with_reducible assumption | exact rnm_sp _ hn | exact cU_len _ | exact cI_len _ | exact cB_len _ | exact cU_one _ | exact cI_one _ | exact cB_one _ | exact (fun _ h => h) | exact (fun _ h => (List.not_mem_nil h).elim) | exact cS_len _ | exact cS_one _ | (with_reducible refine e1_in ?_) | (with_reducible refine e2_in ?_) | (with_reducible refine lx_in (Nat.le_of_ble_eq_true rfl) ?_) | (with_reducible refine rqx_rf ?_) | (with_reducible refine rqx_in ?_ ?_ ?_) | (with_reducible apply And.intro) | (with_reducible intro _)))
  all_goals (try simp only [Int.toNat_natCast] at *)
  all_goals first
    | exact ⟨0, pl_0 _, rfl, trivial⟩
    | (simp only [*, Bool.and_true, Bool.true_and, Bool.and_false, Bool.false_and, Bool.or_true, Bool.true_or, Bool.or_false, Bool.false_or, Bool.not_true, Bool.not_false, cond_true, cond_false]; done)
    | (have hf := of_decide_eq_true ‹decide (((_ : Nat) : Int) < ((_ : Nat) : Int)) = true›; have hf2 := Int.ofNat_lt.1 hf; have hx := ‹plI _ _›; first
        | omega
        | (refine cS_get ?_; omega)
        | exact rnm_sp _ (getD_sz hp _)
        | (with_reducible exact fdr_sp _ _ _ hB hl)
        | (have h1 := ‹(!nmOk (gS _ _)) = true›; have e := pl_nm hx hf2 (by simpa using h1); (refine congrArg (Value.int .i64) ?_; unfold sqk isP; (try (simp only [Bool.not_eq_true', Bool.not_eq_false', Bool.or_eq_true, Bool.or_eq_false_iff, Bool.and_eq_true, Bool.and_eq_false_iff, decide_eq_true_eq, decide_eq_false_iff_not, bne_iff_ne, bne_eq_false_iff_eq, beq_iff_eq, beq_eq_false_iff_ne, ne_eq, Decidable.not_not] at *)); (repeat' split) <;> first | rfl | omega | (simp_all; done) | (exfalso; simp_all; omega)))
        | (have h1 := ‹(!nmOk (gS _ _)) = false›; have h2 := ‹(_ != _) = true›; rw [IntWalk.i64_in _ (by omega)] at h2; have e := pl_two hx hf2 (by simpa using h1) (cr_t hf2 h2); (refine congrArg (Value.int .i64) ?_; unfold sqk isP; (try (simp only [Bool.not_eq_true', Bool.not_eq_false', Bool.or_eq_true, Bool.or_eq_false_iff, Bool.and_eq_true, Bool.and_eq_false_iff, decide_eq_true_eq, decide_eq_false_iff_not, bne_iff_ne, bne_eq_false_iff_eq, beq_iff_eq, beq_eq_false_iff_ne, ne_eq, Decidable.not_not] at *)); (repeat' split) <;> first | rfl | omega | (simp_all; done) | (exfalso; simp_all; omega)))
        | (have h1 := ‹(!nmOk (gS _ _)) = false›; have h2 := ‹(_ != _) = false›; rw [IntWalk.i64_in _ (by omega)] at h2; exact ⟨_, pl_step hx hf2 (by simpa using h1) (cr_f hf2 h2), (by show _ - (_ + 1) < _; omega), (by rw [IntWalk.i64_in _ (by omega)]; rfl), trivial⟩))
    | (have hf := of_decide_eq_false ‹decide (((_ : Nat) : Int) < ((_ : Nat) : Int)) = false›; have hx := ‹plI _ _›; have e := pl_end hx hf; (refine congrArg (Value.int .i64) ?_; unfold sqk isP; (try (simp only [Bool.not_eq_true', Bool.not_eq_false', Bool.or_eq_true, Bool.or_eq_false_iff, Bool.and_eq_true, Bool.and_eq_false_iff, decide_eq_true_eq, decide_eq_false_iff_not, bne_iff_ne, bne_eq_false_iff_eq, beq_iff_eq, beq_eq_false_iff_ne, ne_eq, Decidable.not_not] at *)); (repeat' split) <;> first | rfl | omega | (simp_all; done) | (exfalso; simp_all; omega)))
    | (refine congrArg (Value.int .i64) ?_; unfold sqk isP; (try (simp only [Bool.not_eq_true', Bool.not_eq_false', Bool.or_eq_true, Bool.or_eq_false_iff, Bool.and_eq_true, Bool.and_eq_false_iff, decide_eq_true_eq, decide_eq_false_iff_not, bne_iff_ne, bne_eq_false_iff_eq, beq_iff_eq, beq_eq_false_iff_ne, ne_eq, Decidable.not_not] at *)); (repeat' split) <;> first | rfl | omega | (simp_all; done) | (exfalso; simp_all; omega))
    | trace_state

theorem catB_size (a b : ByteArray) : (catB a b).size = a.size + b.size := by unfold catB; rw [ByteArray.size_append]

def ttp_h (s : Squ) (B : RAd) (p : Int) : Hint := ho 1 4 (.inl (.split (.lit (.lit (.ob 2 (.lit (.pl (.lit (.lit (.split (.perm [] .nil) (.ob 1 (.ix (.lst (0 : Nat) (Int.toNat (IntKind.i64.wrap (p - 1)) * (1 : Nat)) (Value.string (gS (Squ.pl s) (Int.toNat (IntKind.i64.wrap (p - 1))))) (.ob 1 (.pl (.split (.ix (.ob 1 (.pl (.split (.ix (.perm []
 .nil)) (.perm [] .nil))))) (.ob 1 (.pl (.split (.ix (.perm [] .nil)) (.perm [] .nil)))))))))))))))))) (hl 6 (.perm [] .nil))))
theorem ttp_x (s : Squ) (B : RAd) (p : Int) : wpG Tryd.prog [] ([(B.a, cS s.pl)]) 400 11 [sqV s B, .int .i64 p] (ttp_h s B p) ([]) (fun _ => .string (ttl s p)) = (∀ (b : Nat), e1 b 4 (∀ (b_1 : Nat), (decide (p ≥ 1) = true -> b_1 = b_1 /\ ((!decide (p ≤ (↑(List.length (Squ.pl s)) : Int))) = true -> Value.string (ByteArray.mk (Array.mk [])) = Value.string (ttl s p)) /\ ((!decide (p ≤ (↑(List.length (Squ.pl s)) : Int))) = false -> b = b /\ (((0 : Int) ≤
 IntKind.i64.wrap (p - 1) /\ IntKind.i64.wrap (p - 1) < (↑(List.length (Squ.pl s)) : Int)) /\ AOK (RAd.a B) (List.length (Squ.pl s))) /\ bk (RAd.a B) = bk (RAd.a B) /\ ofs (RAd.a B) + Int.toNat (IntKind.i64.wrap (p - 1)) * (1 : Nat) = ofs (RAd.a B) + Int.toNat (IntKind.i64.wrap (p - 1)) * (1 : Nat)
 /\ lgo (cS (Squ.pl s)) (Int.toNat (IntKind.i64.wrap (p - 1)) * (1 : Nat)) = some (Value.string (gS (Squ.pl s) (Int.toNat (IntKind.i64.wrap (p - 1))))) /\ b = b /\ ((p == Squ.ca s) = true -> ByteArray.size (gS (Squ.pl s) (Int.toNat (IntKind.i64.wrap (p - 1)))) + (4 : Nat) ≤ (9223372036854775807 :
 Nat) /\ b = b /\ ((p == Squ.ke s) = true -> ByteArray.size (catB (gS (Squ.pl s) (Int.toNat (IntKind.i64.wrap (p - 1)))) (ByteArray.mk (Array.mk [(32 : UInt8), (40 : UInt8), (99 : UInt8), (41 : UInt8)]))) + (4 : Nat) ≤ (9223372036854775807 : Nat) /\ Value.string (catB (catB (gS (Squ.pl s) (Int.toNat
 (IntKind.i64.wrap (p - 1)))) (ByteArray.mk (Array.mk [(32 : UInt8), (40 : UInt8), (99 : UInt8), (41 : UInt8)]))) (ByteArray.mk (Array.mk [(32 : UInt8), (40 : UInt8), (107 : UInt8), (41 : UInt8)]))) = Value.string (ttl s p)) /\ ((p == Squ.ke s) = false -> Value.string (catB (gS (Squ.pl s) (Int.toNat
 (IntKind.i64.wrap (p - 1)))) (ByteArray.mk (Array.mk [(32 : UInt8), (40 : UInt8), (99 : UInt8), (41 : UInt8)]))) = Value.string (ttl s p))) /\ ((p == Squ.ca s) = false -> b = b /\ ((p == Squ.ke s) = true -> ByteArray.size (gS (Squ.pl s) (Int.toNat (IntKind.i64.wrap (p - 1)))) + (4 : Nat) ≤
 (9223372036854775807 : Nat) /\ Value.string (catB (gS (Squ.pl s) (Int.toNat (IntKind.i64.wrap (p - 1)))) (ByteArray.mk (Array.mk [(32 : UInt8), (40 : UInt8), (107 : UInt8), (41 : UInt8)]))) = Value.string (ttl s p)) /\ ((p == Squ.ke s) = false -> Value.string (gS (Squ.pl s) (Int.toNat
 (IntKind.i64.wrap (p - 1)))) = Value.string (ttl s p))))) /\ (decide (p ≥ 1) = false -> Value.string (ByteArray.mk (Array.mk [])) = Value.string (ttl s p)))) := by kernel_rfl
set_option maxHeartbeats 4000000 in
theorem ttp_sp (s : Squ) (B : RAd) (p : Int) (hB : AOK B.a s.pl.length) (hl : s.pl.length ≤ 1000000) (hp : ∀ x ∈ s.pl, x.size ≤ 1000000) : SpecG Tryd.prog [] ([(B.a, cS s.pl)]) 11 #[sqV s B, .int .i64 p] ([]) (fun _ => .string (ttl s p)) := by
  refine specG_of (h := ttp_h s B p) (?_ : wpG Tryd.prog [] ([(B.a, cS s.pl)]) 400 11 [sqV s B, .int .i64 p] (ttp_h s B p) ([]) (fun _ => .string (ttl s p)))
  rw [ttp_x]
  (repeat' (first | with_reducible exact rfl | exact trivial | with_reducible assumption | exact cU_len _ | exact cI_len _ | exact cB_len _ | exact cU_one _ | exact cI_one _ | exact cB_one _ | exact (fun _ h => h) | exact (fun _ h => (List.not_mem_nil h).elim) | (with_reducible refine e1_in ?_) | (with_reducible refine e2_in ?_) | (with_reducible refine lx_in (Nat.le_of_ble_eq_true rfl) ?_) | (with_reducible refine rqx_rf ?_) | (with_reducible refine rqx_in ?_ ?_ ?_) | (with_reducible apply And.intro) | (with_reducible intro _)))
  all_goals (try simp only [Int.toNat_natCast] at *)
  all_goals (try (simp only [Bool.not_eq_true', Bool.not_eq_false', Bool.or_eq_true, Bool.or_eq_false_iff, Bool.and_eq_true, Bool.and_eq_false_iff, decide_eq_true_eq, decide_eq_false_iff_not, bne_iff_ne, bne_eq_false_iff_eq, beq_iff_eq, beq_eq_false_iff_ne, ne_eq, Decidable.not_not] at *))
  all_goals first
    | (simp only [*, Bool.and_true, Bool.true_and, Bool.and_false, Bool.false_and, Bool.or_true, Bool.true_or, Bool.or_false, Bool.false_or, Bool.not_true, Bool.not_false, cond_true, cond_false]; done)
    | omega
    | (refine cS_get ?_; rw [IntWalk.i64_in _ (by omega)]; omega)
    | (rw [IntWalk.i64_in _ (by omega)]; omega)
    | (rw [catB_size]; have h1 := getD_sz hp (IntKind.i64.wrap (p - 1)).toNat; show (gS _ _).size + 4 + 4 ≤ _; omega)
    | (have h1 := getD_sz hp (IntKind.i64.wrap (p - 1)).toNat; show (gS _ _).size + 4 ≤ _; omega)
    | (rw [IntWalk.i64_in _ (by omega)]; refine congrArg Value.string ?_; unfold ttl isP cMark kMark; (repeat' split) <;> first | rfl | (exfalso; simp_all; done) | (exfalso; simp_all; omega) | omega)
    | (refine congrArg Value.string ?_; unfold ttl isP; (repeat' split) <;> first | rfl | (exfalso; simp_all; done) | (exfalso; simp_all; omega))
    | trace_state
end Go.Proofs.YtjdldofgkhibnaaDoor
