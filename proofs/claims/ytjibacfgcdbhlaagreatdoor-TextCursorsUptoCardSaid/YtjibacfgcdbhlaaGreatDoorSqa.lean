/- Layer 6 (squad): players by name, the first error of a side, titles, of both. -/
import Derived.Test.YtjibacfgcdbhlaaGreatDoorVz
import Derived.KernelRfl
import Derived.Test.YtjibacfgcdbhlaaGreatDoorProg
import Derived.Test.YtjibacfgcdbhlaaGreatDoorRda
import Derived.Test.YtjibacfgcdbhlaaGreatDoorRub
import Derived.Test.YtjibacfgcdbhlaaGreatDoorRubr
import Derived.Test.YtjibacfgcdbhlaaGreatDoorSqw
set_option linter.unusedSimpArgs false
set_option linter.unusedVariables false
set_option maxRecDepth 100000
namespace Go.Proofs.YtjibacfgcdbhlaaGreatDoor
open Go.RowKit


theorem sE_iff {x y : ByteArray} : (ByteArray.toList x == ByteArray.toList y) = true ↔ x = y := by
  constructor
  · intro h
    have := eq_of_beq h
    rw [ByteArray.toList_eq, ByteArray.toList_eq] at this
    obtain ⟨⟨l⟩⟩ := x
    obtain ⟨⟨m⟩⟩ := y
    simp only at this
    rw [this]
  · rintro rfl
    exact beq_self_eq_true _
theorem sE_ne {x y : ByteArray} : (ByteArray.toList x == ByteArray.toList y) = false ↔ x ≠ y := by
  rw [← Bool.not_eq_true, sE_iff]
/-- How many players stand before the first one with a name. -/
def fndN (x : ByteArray) : List ByteArray → Nat
  | [] => 0
  | y :: l => if (ByteArray.toList y == ByteArray.toList x) = true then 0 else fndN x l + 1
/-- The index of a name, -1 if there is none. -/
def fnd (l : List ByteArray) (x : ByteArray) : Int := if fndN x l < l.length then (fndN x l : Int) else -1
def fI (l : List ByteArray) (x : ByteArray) (i : Nat) : Prop := i ≤ l.length ∧ ∀ y ∈ l.take i, y ≠ x
theorem fndN_le (x : ByteArray) (l : List ByteArray) : fndN x l ≤ l.length := by
  induction l with
  | nil => simp [fndN]
  | cons y l ih => simp only [fndN, List.length_cons]; split <;> omega
theorem fnd_lo (l : List ByteArray) (x : ByteArray) : -1 ≤ fnd l x := by unfold fnd; split <;> omega
theorem fnd_hi (l : List ByteArray) (x : ByteArray) : fnd l x < l.length ∨ fnd l x = -1 := by unfold fnd; split <;> omega
theorem fI_0 (l : List ByteArray) (x : ByteArray) : fI l x 0 := ⟨Nat.zero_le _, fun y h => by simp at h⟩
theorem fI_step {l : List ByteArray} {x : ByteArray} {i : Nat} (h : fI l x i) (hi : i < l.length) (hn : ¬ gS l i = x) : fI l x (i + 1) := by
  refine ⟨hi, fun y hm => ?_⟩
  rw [List.take_add_one, List.getElem?_eq_getElem hi, List.mem_append] at hm
  rcases hm with hm | hm
  · exact h.2 y hm
  · rw [gS, List.getD_eq_getElem?_getD, List.getElem?_eq_getElem hi] at hn
    simp at hm hn
    rw [hm]; exact hn
theorem fndN_skip {x : ByteArray} : ∀ (l m : List ByteArray), (∀ y ∈ l, y ≠ x) → fndN x (l ++ m) = l.length + fndN x m := by
  intro l m h
  induction l with
  | nil => simp
  | cons y l ih =>
    have h1 : (ByteArray.toList y == ByteArray.toList x) = false := sE_ne.2 (h y (List.mem_cons_self ..))
    have h2 := ih fun z hz => h z (List.mem_cons_of_mem _ hz)
    simp only [List.cons_append, fndN, h1, List.length_cons]
    rw [if_neg (by simp), h2]
    omega
theorem fnd_hit {l : List ByteArray} {x : ByteArray} {i : Nat} (h : fI l x i) (hi : i < l.length) (e : gS l i = x) : fnd l x = i := by
  have e1 : l = l.take i ++ gS l i :: l.drop (i + 1) := by
    rw [gS, List.getD_eq_getElem?_getD, List.getElem?_eq_getElem hi]
    simp
  have e2 : fndN x l = i := by
    rw [e1, fndN_skip _ _ h.2, e]
    simp only [fndN]
    rw [if_pos (sE_iff.2 rfl), List.length_take]
    omega
  unfold fnd
  rw [e2, if_pos hi]
theorem fnd_no {l : List ByteArray} {x : ByteArray} (h : ∀ y ∈ l, y ≠ x) : fnd l x = -1 := by
  have := fndN_skip l [] h
  rw [List.append_nil] at this
  unfold fnd
  rw [this]
  simp [fndN]
theorem fnd_end {l : List ByteArray} {x : ByteArray} {i : Nat} (h : fI l x i) (hi : ¬ (i : Int) < l.length) : fnd l x = -1 := by
  have e : i = l.length := by have := h.1; omega
  have := h.2
  rw [e, List.take_length] at this
  exact fnd_no this
theorem fnd_mem {l : List ByteArray} {x : ByteArray} (h : fnd l x = -1) : ∀ y ∈ l, y ≠ x := by
  intro y hy e
  subst e
  obtain ⟨i, hi⟩ := List.getElem?_of_mem hy
  have hl := (List.getElem?_eq_some_iff.1 hi).1
  have : ∀ (l : List ByteArray), y ∈ l → fndN y l < l.length := by
    intro l
    induction l with
    | nil => intro h; simp at h
    | cons z l ih =>
      intro hm
      simp only [fndN, List.length_cons]
      split
      · omega
      · rename_i hz
        rcases List.mem_cons.1 hm with rfl | hm
        · exact absurd (sE_iff.2 rfl) hz
        · have := ih hm
          omega
  have h3 := this l hy
  unfold fnd at h
  rw [if_pos h3] at h
  omega
theorem take_getD {l : List ByteArray} {n i : Nat} (h : i < n) : gS (l.take n) i = gS l i := by
  rw [gS, gS, List.getD_eq_getElem?_getD, List.getD_eq_getElem?_getD, List.getElem?_take, if_pos h]
theorem len_take {l : List ByteArray} {n : Nat} (h : n ≤ l.length) : (l.take n).length = n := by rw [List.length_take]; omega
theorem getD_sz {l : List ByteArray} (h : ∀ x ∈ l, x.size ≤ 1000000) (i : Nat) : (gS l i).size ≤ 1000000 := by
  rw [gS, List.getD_eq_getElem?_getD]
  cases e : l[i]? with
  | none => simp; decide
  | some y => exact h y (List.mem_of_getElem? e)
/-- The error of the player with an index. -/
def pbad (l : List ByteArray) (i : Nat) : Int := if nmOk (gS l i) = false then 5 else if fnd (l.take i) (gS l i) ≥ 0 then 7 else 0
def plF (l : List ByteArray) : Nat → Nat → Int
  | 0, _ => 0
  | k + 1, i => if pbad l i = 0 then plF l k (i + 1) else pbad l i
/-- The first error of players. -/
def plE (l : List ByteArray) : Int := plF l l.length 0
def plI (l : List ByteArray) (i : Nat) : Prop := i ≤ l.length ∧ plE l = plF l (l.length - i) i
theorem pl_0 (l : List ByteArray) : plI l 0 := ⟨Nat.zero_le _, rfl⟩
theorem pl_eq {l : List ByteArray} {i : Nat} (h : plI l i) (hi : i < l.length) : plE l = if pbad l i = 0 then plF l (l.length - (i + 1)) (i + 1) else pbad l i := by
  rw [h.2, show l.length - i = (l.length - (i + 1)) + 1 by omega]
  rfl
theorem pl_step {l : List ByteArray} {i : Nat} (h : plI l i) (hi : i < l.length) (h1 : nmOk (gS l i) = true) (h2 : ¬ fnd (l.take i) (gS l i) ≥ 0) : plI l (i + 1) := by
  refine ⟨hi, ?_⟩
  rw [pl_eq h hi, if_pos]
  unfold pbad
  rw [if_neg (by rw [h1]; decide), if_neg h2]
theorem pl_nm {l : List ByteArray} {i : Nat} (h : plI l i) (hi : i < l.length) (h1 : nmOk (gS l i) = false) : plE l = 5 := by
  rw [pl_eq h hi]
  have : pbad l i = 5 := by unfold pbad; rw [if_pos h1]
  rw [this]
  rfl
theorem pl_two {l : List ByteArray} {i : Nat} (h : plI l i) (hi : i < l.length) (h1 : nmOk (gS l i) = true) (h2 : fnd (l.take i) (gS l i) ≥ 0) : plE l = 7 := by
  rw [pl_eq h hi]
  have : pbad l i = 7 := by unfold pbad; rw [if_neg (by rw [h1]; decide), if_pos h2]
  rw [this]
  rfl
theorem pl_end {l : List ByteArray} {i : Nat} (h : plI l i) (hi : ¬ (i : Int) < l.length) : plE l = 0 := by
  have e : i = l.length := by have := h.1; omega
  rw [h.2, e, Nat.sub_self]
  rfl
/-- A name that stands before is found there. -/
theorem fnd_self {l : List ByteArray} {i : Nat} (hi : i < l.length) : fnd l (gS l i) = i ↔ ¬ fnd (l.take i) (gS l i) ≥ 0 := by
  constructor
  · intro h h2
    generalize gS l i = x at *
    have h3 : fndN x (l.take i) < (l.take i).length := by
      unfold fnd at h2
      split at h2
      · assumption
      · omega
    have h4 : ∀ (m k : List ByteArray), fndN x m < m.length → fndN x (m ++ k) = fndN x m := by
      intro m k
      induction m with
      | nil => intro h; simp at h
      | cons y m ih =>
        simp only [fndN, List.cons_append, List.length_cons]
        split
        · intro _; rfl
        · intro h; rw [ih (by omega)]
    have h5 := h4 (l.take i) (l.drop i) h3
    rw [List.take_append_drop] at h5
    rw [List.length_take] at h3
    unfold fnd at h
    split at h <;> omega
  · intro h
    have h2 : fnd (l.take i) (gS l i) = -1 := by
      have := fnd_lo (l.take i) (gS l i)
      omega
    exact fnd_hit ⟨by omega, fnd_mem h2⟩ hi rfl
def isP (s : Squ) (p : Int) : Bool := decide (1 ≤ p) && decide (p ≤ s.pl.length)
/-- The first error of a side. -/
def sqk (s : Squ) : Int := if nmOk s.nm = false then 5 else if s.pl.length < 2 ∨ s.pl.length > 11 then 9 else if plE s.pl ≠ 0 then plE s.pl else if isP s s.ca = false ∨ isP s s.ke = false then 6 else 0
def cMark : ByteArray := ⟨#[32, 40, 99, 41]⟩
def kMark : ByteArray := ⟨#[32, 40, 107, 41]⟩
/-- The name of a player, with the marks of captain and keeper. -/
def ttl (s : Squ) (p : Int) : ByteArray := if isP s p = false then ⟨#[]⟩ else if p = s.ca then (if p = s.ke then catB (catB (gS s.pl (p - 1).toNat) cMark) kMark else catB (gS s.pl (p - 1).toNat) cMark) else if p = s.ke then catB (gS s.pl (p - 1).toNat) kMark else gS s.pl (p - 1).toNat


@[reducible] def ixL (l : List ByteArray) (n : Nat) (x : ByteArray) : LoopR := ⟨Nat, fun i => [(8, .int .i64 i)], [], fun _ => [], fI (l.take n) x, fun i => n - i, []⟩
@[reducible] def ckL (l : List ByteArray) : LoopR := ⟨Nat, fun i => [(7, .int .i64 i)], [], fun _ => [], plI l, fun i => l.length - i, []⟩
@[reducible] def rfL (l : List ByteArray) (x : ByteArray) : LoopR := ⟨Nat, fun i => [(10, .int .i64 i)], [], fun _ => [], fI l x, fun i => l.length - i, []⟩
@[reducible] def rkL (l : List ByteArray) : LoopR := ⟨Nat, fun i => [(22, .int .i64 i)], [], fun _ => [], plI l, fun i => l.length - i, []⟩
theorem fnd_w (l : List ByteArray) (x : ByteArray) (h : l.length ≤ 1000000) : IntKind.i64.wrap (fnd l x + 1) = fnd l x + 1 := IntWalk.i64_in _ (by have := fnd_lo l x; have := fnd_hi l x; omega)

def ixS_h (a : Option Addr) (l : List ByteArray) (n c : Nat) (x : ByteArray) : Hint := .pl (.inv (ixL l n x) fun x0 ↦ .split (.ix (.lst (0 : Nat) (x0 * (1 : Nat)) (Value.string (gS l x0)) (.pl (.split (.perm [] .nil) (.perm [] .nil))))) (.perm [] .nil))
theorem ixS_x (a : Option Addr) (l : List ByteArray) (n c : Nat) (x : ByteArray) : wpG Tryz.prog [] ([(a, cS l)]) 400 34 [.slice a n c, .string x] (ixS_h a l n c x) ([]) (fun _ => .int .i64 (fnd (l.take n) x)) = ((∃ x_1, fI (List.take n l) x x_1 /\ Value.int .i64 0 = Value.int .i64 (↑x_1 : Int) /\ True) /\ ∀ (x0 : Nat), fI (List.take n l) x x0 -> ∀ (junk : Nat -> Value), (decide ((↑x0 : Int) < (↑n : Int)) = true -> (((0 : Int) ≤ (↑x0 : Int) /\ (↑x0 : Int) < (↑n : Int)) /\ AOK a n) /\ bk a = bk a /\ ofs a + x0
 * (1 : Nat) = ofs a + x0 * (1 : Nat) /\ lgo (cS l) (x0 * (1 : Nat)) = some (Value.string (gS l x0)) /\ ((ByteArray.toList x == ByteArray.toList (gS l x0)) = true -> Value.int .i64 (↑x0 : Int) = Value.int .i64 (fnd (List.take n l) x)) /\ ((ByteArray.toList x == ByteArray.toList (gS l x0)) = false ->
 ∃ y, fI (List.take n l) x y /\ n - y < n - x0 /\ Value.int .i64 (IntKind.i64.wrap ((↑x0 : Int) + (1 : Int))) = Value.int .i64 (↑y : Int) /\ True)) /\ (decide ((↑x0 : Int) < (↑n : Int)) = false -> Value.int .i64 (-1 : Int) = Value.int .i64 (fnd (List.take n l) x))) := by kernel_rfl
set_option maxHeartbeats 4000000 in
theorem ixS_sp (a : Option Addr) (l : List ByteArray) (n c : Nat) (x : ByteArray) (hA : AOK a l.length) (hn : n ≤ l.length) (hl : l.length ≤ 1000000) : SpecG Tryz.prog [] ([(a, cS l)]) 34 #[.slice a n c, .string x] ([]) (fun _ => .int .i64 (fnd (l.take n) x)) := by
  refine specG_of (h := ixS_h a l n c x) (?_ : wpG Tryz.prog [] ([(a, cS l)]) 400 34 [.slice a n c, .string x] (ixS_h a l n c x) ([]) (fun _ => .int .i64 (fnd (l.take n) x)))
  rw [ixS_x]
  have hAn : AOK a n := ⟨(fun e => by have := hA.1 e; omega), (fun h q hq => hA.2 (by omega) q hq)⟩
  (repeat' (first | with_reducible exact rfl | exact trivial | with_reducible assumption | exact cU_len _ | exact cI_len _ | exact cB_len _ | exact cU_one _ | exact cI_one _ | exact cB_one _ | exact (fun _ h => h) | exact (fun _ h => (List.not_mem_nil h).elim) | exact cS_len _ | exact cS_one _ | (with_reducible refine e1_in ?_) | (with_reducible refine e2_in ?_) | (with_reducible refine lx_in (Nat.le_of_ble_eq_true rfl) ?_) | (with_reducible refine rqx_rf ?_) | (with_reducible refine rqx_in ?_ ?_ ?_) | (with_reducible apply And.intro) | (with_reducible intro _)))
  all_goals (try simp only [Int.toNat_natCast] at *)
  all_goals (try simp only [len_take hn] at *)
  all_goals first
    | exact ⟨0, fI_0 _ _, rfl, trivial⟩
    | (have hf := of_decide_eq_true ‹decide (((_ : Nat) : Int) < ((_ : Nat) : Int)) = true›; have hf2 := Int.ofNat_lt.1 hf; have hx := ‹fI _ _ _›; first
        | omega
        | (refine cS_get ?_; omega)
        | (have he := ‹(_ == _) = true›; rw [fnd_hit hx (by rw [len_take hn]; exact hf2) (by rw [take_getD hf2]; exact (sE_iff.1 he).symm)]; done)
        | (have he := ‹(_ == _) = false›; exact ⟨_, fI_step hx (by rw [len_take hn]; exact hf2) (by rw [take_getD hf2]; exact fun e => sE_ne.1 he e.symm), (by show _ - (_ + 1) < _; omega), (by rw [IntWalk.i64_in _ (by omega)]; rfl), trivial⟩))
    | (have hf := of_decide_eq_false ‹decide (((_ : Nat) : Int) < ((_ : Nat) : Int)) = false›; have hx := ‹fI _ _ _›; rw [fnd_end hx (by rw [len_take hn]; exact hf)])
    | trace_state

theorem cr_t {l : List ByteArray} {i : Nat} (hi : i < l.length) (h : (fnd l (gS l i) + 1 != (i : Int) + 1) = true) : fnd (l.take i) (gS l i) ≥ 0 := by
  rw [bne_iff_ne] at h
  by_cases c : fnd (l.take i) (gS l i) ≥ 0
  · exact c
  · exact absurd (by rw [(fnd_self hi).2 c]) h
theorem cr_f {l : List ByteArray} {i : Nat} (hi : i < l.length) (h : (fnd l (gS l i) + 1 != (i : Int) + 1) = false) : ¬ fnd (l.take i) (gS l i) ≥ 0 := by
  rw [bne_eq_false_iff_eq] at h
  exact (fnd_self hi).1 (by omega)


theorem catB_size (a b : ByteArray) : (catB a b).size = a.size + b.size := by unfold catB; rw [ByteArray.size_append]

end Go.Proofs.YtjibacfgcdbhlaaGreatDoor
