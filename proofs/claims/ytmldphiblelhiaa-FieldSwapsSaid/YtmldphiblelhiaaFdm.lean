/- Layer 11 (field): a substitute takes a player from the field, and the player comes back (FieldSwaps). -/
import Derived.Test.YtmldphiblelhiaaVy
import Derived.KernelRfl
import Derived.Test.YtmldphiblelhiaaProg
import Derived.Test.YtmldphiblelhiaaFda
import Derived.Test.YtmldphiblelhiaaFdb
import Derived.Test.YtmldphiblelhiaaFdc
import Derived.Test.YtmldphiblelhiaaFdd
import Derived.Test.YtmldphiblelhiaaFde
import Derived.Test.YtmldphiblelhiaaFdf
import Derived.Test.YtmldphiblelhiaaFdh
import Derived.Test.YtmldphiblelhiaaFdi
import Derived.Test.YtmldphiblelhiaaFdj
import Derived.Test.YtmldphiblelhiaaFdk
set_option linter.unusedSimpArgs false
set_option linter.unusedVariables false
set_option maxRecDepth 100000
namespace Go.Proofs.Ytmldphiblelhiaa
open Go.RowKit


def cnI (l : List Int) (v : Int) (i : Nat) : Prop := i ≤ l.length ∧ v ∉ l.take i
@[reducible] def cnL (l : List Int) (v : Int) : LoopR := ⟨Nat, fun i => [(8, .int .i64 i)], [], fun _ => [], cnI l v, fun i => l.length - i, []⟩
theorem cnI_step {l : List Int} {v : Int} {i : Nat} (h : cnI l v i) (hi : i < l.length) (hn : ¬ v = l.getD i 0) : cnI l v (i + 1) := by
  refine ⟨hi, fun hm => ?_⟩
  rw [List.take_add_one, List.getElem?_eq_getElem hi, List.mem_append] at hm
  rcases hm with hm | hm
  · exact h.2 hm
  · rw [List.getD_eq_getElem?_getD, List.getElem?_eq_getElem hi] at hn
    simp at hm hn
    exact hn hm
theorem cnI_end {l : List Int} {v : Int} {i : Nat} (h : cnI l v i) (hi : ¬ (i : Int) < l.length) : l.contains v = false := by
  have e : i = l.length := by have := h.1; omega
  have := h.2
  rw [e, List.take_length] at this
  simpa using this
theorem cn_hit {l : List Int} {v : Int} {i : Nat} (hi : i < l.length) (he : v = l.getD i 0) : l.contains v = true := by
  rw [List.getD_eq_getElem?_getD, List.getElem?_eq_getElem hi] at he
  simp at he
  rw [List.contains_iff_mem, he]
  exact List.getElem_mem _

def cont_h (a : Option Addr) (l : List Int) (c : Nat) (v : Int) : Hint := Hint.inl (Hint.pl (Hint.inv (cnL l v) fun x0 ↦ Hint.split (Hint.ix (Hint.lst (0 : Nat) (x0 * (1 : Nat)) (Value.int IntKind.i64 (List.getD l x0 (0 : Int))) (Hint.pl (Hint.split (Hint.perm [] Hint.nil) (Hint.perm [] Hint.nil))))) (Hint.perm [] Hint.nil)))
theorem cont_x (a : Option Addr) (l : List Int) (c : Nat) (v : Int) : wpG Try.prog [] ([(a, cI l)]) 400 25 [.slice a l.length c, .int .i64 v] (cont_h a l c v) ([]) (fun _ => .bool (l.contains v)) = ((∃ x, cnI l v x ∧ Value.int IntKind.i64 (0 : Int) = Value.int IntKind.i64 (↑x : Int) ∧ True) ∧ ∀ (x0 : Nat), cnI l v x0 → ∀ (junk : Nat → Value), (decide ((↑x0 : Int) < (↑(List.length l) : Int)) = true → (((0 : Int) ≤ (↑x0 : Int) ∧ (↑x0 : Int) < (↑(List.length l) : Int)) ∧ AOK a (List.length l)) ∧ bk a = bk a ∧ ofs a + x0 * (1 : Nat) = ofs a + x0 * (1 : Nat) ∧ lgo (cI l) (x0 * (1 : Nat)) = some (Value.int IntKind.i64 (List.getD l x0 (0 : Int))) ∧ ((v == List.getD l x0 (0 : Int)) = true → Value.bool (decide ((↑x0 : Int) ≥ (0 : Int))) = Value.bool (List.contains l v)) ∧ ((v == List.getD l x0 (0 : Int)) = false → ∃ y, cnI l v y ∧ List.length l - y < List.length l - x0 ∧ Value.int IntKind.i64 (IntKind.wrap IntKind.i64 ((↑x0 : Int) + (1 : Int))) = Value.int IntKind.i64 (↑y : Int) ∧ True)) ∧ (decide ((↑x0 : Int) < (↑(List.length l) : Int)) = false → Value.bool false = Value.bool (List.contains l v))) := by kernel_rfl
set_option maxHeartbeats 4000000 in
theorem cont_sp (a : Option Addr) (l : List Int) (c : Nat) (v : Int) (hA : AOK a l.length) (hl : l.length ≤ 1000000) : SpecG Try.prog [] ([(a, cI l)]) 25 #[.slice a l.length c, .int .i64 v] ([]) (fun _ => .bool (l.contains v)) := by
  refine specG_of (h := cont_h a l c v) (?_ : wpG Try.prog [] ([(a, cI l)]) 400 25 [.slice a l.length c, .int .i64 v] (cont_h a l c v) ([]) (fun _ => .bool (l.contains v)))
  rw [cont_x]
  (repeat' (first | with_reducible exact rfl | exact trivial | with_reducible assumption | exact cU_len _ | exact cI_len _ | exact cB_len _ | exact cU_one _ | exact cI_one _ | exact cB_one _ | exact (fun _ h => h) | exact (fun _ h => (List.not_mem_nil h).elim) | (with_reducible apply And.intro) | (with_reducible intro _)))
  all_goals (try simp only [Int.toNat_natCast, decide_eq_true_eq, decide_eq_false_iff_not, beq_iff_eq, beq_eq_false_iff_ne, ne_eq] at *)
  all_goals first
    | exact ⟨0, ⟨Nat.zero_le _, by simp⟩, rfl, trivial⟩
    | omega
    | (refine cI_get ?_; omega)
    | (have hx := ‹cnI _ _ _›; have hn := ‹¬ v = _›; exact ⟨_, cnI_step hx (by omega) hn, (by show _ - (_ + 1) < _; omega), (by rw [IntWalk.i64_in _ (by omega)]; rfl), trivial⟩)
    | (have he := ‹v = List.getD l _ 0›; have h1 := cn_hit (by omega) he; rw [h1]; exact congrArg Value.bool (decide_eq_true (by omega)))
    | (rw [cnI_end ‹cnI _ _ _› (by assumption)]; done)
    | (rw [cnI_end ‹cnI _ _ _› (by assumption)]; rfl)
    | trace_state

theorem pres_mem (l : List Bool) (k : Nat) (x : Int) : x ∈ pres l k ↔ ∃ j, j < k ∧ l.getD j false = false ∧ x = (j : Int) + 1 := by
  induction k with
  | zero => simp [pres]
  | succ k ih =>
    simp only [pres, List.mem_append, ih]
    constructor
    · rintro (⟨j, h1, h2, h3⟩ | h)
      · exact ⟨j, by omega, h2, h3⟩
      · cases hk : l.getD k false
        · rw [hk] at h
          simp at h
          exact ⟨k, by omega, hk, h⟩
        · rw [hk] at h
          simp at h
    · rintro ⟨j, h1, h2, h3⟩
      by_cases e : j = k
      · subst e
        right
        rw [h2]
        simp [h3]
      · exact Or.inl ⟨j, by omega, h2, h3⟩
theorem getD_set_b (l : List Bool) (i j : Nat) (b : Bool) (hi : i < l.length) : (l.set i b).getD j false = if i = j then b else l.getD j false := by
  rw [List.getD_eq_getElem?_getD, List.getD_eq_getElem?_getD, List.getElem?_set]
  split
  · rename_i e
    subst e
    simp [hi]
  · rfl
theorem pres_set (l : List Bool) (i : Nat) (hi : i < l.length) (h0 : l.getD i false = false) (k : Nat) : (pres (l.set i true) k).length + (if i < k then 1 else 0) = (pres l k).length := by
  induction k with
  | zero => simp [pres]
  | succ k ih =>
    simp only [pres, List.length_append]
    rw [getD_set_b l i k true hi]
    by_cases e : i = k
    · subst e
      rw [h0]
      simp at ih ⊢
      exact ih
    · rw [if_neg e]
      by_cases h : i < k
      · rw [if_pos h] at ih
        rw [if_pos (show i < k + 1 by omega)]
        omega
      · rw [if_neg h] at ih
        rw [if_neg (show ¬ i < k + 1 by omega)]
        omega
theorem set_back (l : List Bool) (i : Nat) (h0 : l.getD i false = false) : (l.set i true).set i false = l := by
  rw [List.set_set]
  apply List.ext_getElem?
  intro j
  rw [List.getElem?_set]
  split
  · rename_i e
    subst e
    rw [List.getD_eq_getElem?_getD] at h0
    by_cases hi : i < l.length
    · simp [hi] at h0 ⊢
      exact h0
    · simp [hi]
  · rfl
/-- What a substitution and its taking back come to. -/
theorem swap_all {s : Inn} {p : Int} (h : sbL s p true = 0) :
    (pres (sbS s p true).sbs (sbS s p true).sbs.length).length + 1 = (pres s.sbs s.sbs.length).length ∧ (pres (sbS s p true).sbs (sbS s p true).sbs.length).contains p = false ∧ sbL (sbS s p true) p false = 0 ∧ (sbS (sbS s p true) p false).sbs = s.sbs ∧ (sbS s p true).kp ≠ p ∧ (sbS s p true).bw ≠ p := by
  have hp : plr s p = true := by
    unfold sbL at h
    cases e : plr s p
    · rw [e] at h; simp at h
    · rfl
  have hr : rpl s p = false := by
    unfold sbL at h
    rw [hp] at h
    cases e : rpl s p
    · rfl
    · rw [e] at h; simp at h
  obtain ⟨h1, h2⟩ := plr_in hp
  have hi : (p - 1).toNat < s.sbs.length := by omega
  have e1 : (sbS s p true).sbs = s.sbs.set (p - 1).toNat true := by simp [sbS, h]
  have hr' : s.sbs.getD (p - 1).toNat false = false := hr
  have hp2 : plr (sbS s p true) p = true := by unfold plr; rw [e1]; simp; omega
  have hr2 : rpl (sbS s p true) p = true := by unfold rpl; rw [e1, getD_set_b _ _ _ _ hi]; simp
  have h3 : sbL (sbS s p true) p false = 0 := by unfold sbL; rw [hp2, hr2]; simp
  refine ⟨?_, ?_, h3, ?_, ?_, ?_⟩
  · rw [e1, List.length_set]
    have := pres_set s.sbs _ hi hr' s.sbs.length
    rw [if_pos hi] at this
    exact this
  · rw [e1, List.length_set]
    rw [← Bool.not_eq_true, List.contains_iff_mem, pres_mem]
    rintro ⟨j, hj, hg, he⟩
    have : j = (p - 1).toNat := by omega
    subst this
    rw [getD_set_b _ _ _ _ hi] at hg
    simp at hg
  · have : (sbS (sbS s p true) p false).sbs = (sbS s p true).sbs.set (p - 1).toNat false := by
      show (if sbL (sbS s p true) p false = 0 then _ else _) = _
      rw [if_pos h3]
    rw [this, e1, set_back _ _ hr']
  · show (if sbL s p true = 0 ∧ true = true ∧ s.kp = p then 0 else s.kp) ≠ p
    split <;> simp_all <;> omega
  · show (if sbL s p true = 0 ∧ true = true ∧ s.bw = p then 0 else s.bw) ≠ p
    split <;> simp_all <;> omega


theorem len_sb (s : Inn) (p : Int) (on : Bool) : (sbS s p on).sbs.length = s.sbs.length := by
  simp only [sbS]
  split <;> simp
theorem ok_sb {s : Inn} {A : Adr} (h : OkI s A) (p : Int) (on : Bool) {B : Adr} (h1 : AOK B.a1 (sbS s p on).bts.length) (h2 : AOK B.a2 (sbS s p on).bws.length) (h3 : AOK B.a3 (sbS s p on).bfs.length) (h4 : AOK B.a4 (sbS s p on).bwd.length) (h5 : AOK B.a5 (sbS s p on).sbs.length) : OkI (sbS s p on) B :=
  ⟨h1, h2, h3, h4, h5, h.l1, h.l2, h.l3, h.l4, by rw [len_sb]; exact h.l5⟩
theorem ok_sb2 {s : Inn} {A : Adr} (h : OkI s A) (p : Int) (on : Bool) (q : Int) (of : Bool) {B : Adr} (h1 : AOK B.a1 (sbS (sbS s p on) q of).bts.length) (h2 : AOK B.a2 (sbS (sbS s p on) q of).bws.length) (h3 : AOK B.a3 (sbS (sbS s p on) q of).bfs.length) (h4 : AOK B.a4 (sbS (sbS s p on) q of).bwd.length) (h5 : AOK B.a5 (sbS (sbS s p on) q of).sbs.length) : OkI (sbS (sbS s p on) q of) B :=
  ⟨h1, h2, h3, h4, h5, h.l1, h.l2, h.l3, h.l4, by rw [len_sb, len_sb]; exact h.l5⟩
theorem pl_sb {s : Inn} {A : Adr} (h : OkI s A) (p : Int) (on : Bool) : (pres (sbS s p on).sbs (sbS s p on).sbs.length).length ≤ 1000000 := by
  have h1 := pres_len (sbS s p on).sbs (sbS s p on).sbs.length
  rw [len_sb] at *
  have := h.l5
  omega
theorem pl_sb2 {s : Inn} {A : Adr} (h : OkI s A) (p : Int) (on : Bool) (q : Int) (of : Bool) : (pres (sbS (sbS s p on) q of).sbs (sbS (sbS s p on) q of).sbs.length).length ≤ 1000000 := by
  have h1 := pres_len (sbS (sbS s p on) q of).sbs (sbS (sbS s p on) q of).sbs.length
  have h2 := len_sb (sbS s p on) q of
  have h3 := len_sb s p on
  have := h.l5
  omega
theorem swap_fin {s : Inn} {A : Adr} (hA : OkI s A) {p : Int} (h : sbL s p true = 0) : ((pres (sbS s p true).sbs (sbS s p true).sbs.length).length : Int) = IntKind.i64.wrap (((pres s.sbs s.sbs.length).length : Int) - 1) ∧ (pres (sbS s p true).sbs (sbS s p true).sbs.length).contains p = false ∧ sbL (sbS s p true) p false = 0 ∧ pres (sbS (sbS s p true) p false).sbs (sbS (sbS s p true) p false).sbs.length = pres s.sbs s.sbs.length ∧ (sbS s p true).kp ≠ p ∧ (sbS s p true).bw ≠ p := by
  obtain ⟨e1, e2, e3, e4, e5, e6⟩ := swap_all h
  refine ⟨?_, e2, e3, by rw [e4], e5, e6⟩
  have h1 := pres_len s.sbs s.sbs.length
  have := hA.l5
  rw [IntWalk.i64_in _ (by omega)]
  omega
theorem swap_val {a b : Int} {l : Bool} {x y p : Int} {u v : List Int} {c : Int} (e1 : a = b) (e2 : l = false) (e3 : c = 0) (e4 : u = v) (e5 : x ≠ p) (e6 : y ≠ p) : (a == b && (!l && (c == 0 && (decide (u = v) && (x != p && y != p))))) = true := by
  subst e1 e2 e3 e4
  simp [e5, e6]
theorem sbL_vals (s : Inn) (p : Int) (on : Bool) : sbL s p on = 3 ∨ sbL s p on = 18 ∨ sbL s p on = 0 := by
  unfold sbL
  split
  · exact Or.inl rfl
  · split
    · exact Or.inr (Or.inl rfl)
    · exact Or.inr (Or.inr rfl)

def fieldSwaps_h (s : Inn) (A : Adr) (p : Int) : Hint := Hint.specg [] [] [] [] (fun ads0 x ↦ Value.bool true) (Hint.lit (Hint.ob (5 : Nat) (Hint.ob (5 : Nat) (Hint.ob (5 : Nat) (Hint.ob (5 : Nat) (Hint.ob (5 : Nat) (Hint.ob (5 : Nat) (Hint.ob (5 : Nat) (Hint.ob (5 : Nat) (Hint.ob (5 : Nat) (Hint.ob (5 : Nat) (Hint.ob (5 : Nat) (Hint.ob (5 : Nat) (Hint.ob (5 : Nat) (Hint.ob (5 : Nat) (Hint.ob (5 : Nat) (Hint.ob (5 : Nat) (Hint.ob (5 : Nat) (Hint.ob (5 : Nat) (Hint.ob (5 : Nat) (Hint.ob (5 : Nat) (Hint.ob (5 : Nat) (Hint.ob (5 : Nat) (Hint.ob (5 : Nat) (Hint.ob (5 : Nat) (Hint.ob (5 : Nat) (Hint.ob (5 : Nat) (Hint.ob (5 : Nat) (Hint.ob (5 : Nat) (Hint.specg [] [] [] [] (fun ads0 x ↦ inV (few s) A) (Hint.ob (5 : Nat) (Hint.ob (5 : Nat) (Hint.ob (5 : Nat) (Hint.ob (5 : Nat) (Hint.ob (5 : Nat) (Hint.ob (5 : Nat) (Hint.ob (5 : Nat) (Hint.ob (5 : Nat) (Hint.ob (5 : Nat) (Hint.ob (5 : Nat) (Hint.ob (5 : Nat) (Hint.ob (5 : Nat) (Hint.ob (5 : Nat) (Hint.ob (5 : Nat) (Hint.ob (5 : Nat) (Hint.ob (5 : Nat) (Hint.ob (5 : Nat) (Hint.ob (5 : Nat) (Hint.ob (5 : Nat) (Hint.ob (5 : Nat) (Hint.ob (5 : Nat) (Hint.ob (5 : Nat) (Hint.ob (5 : Nat) (Hint.ob (5 : Nat) (Hint.ob (5 : Nat) (Hint.ob (5 : Nat) (Hint.ob (5 : Nat) (Hint.ob (5 : Nat) (Hint.ob (5 : Nat) (Hint.ob (5 : Nat) (Hint.ob (5 : Nat) (Hint.ob (5 : Nat) (Hint.ob (5 : Nat) (Hint.ob (5 : Nat) (Hint.ob (5 : Nat) (Hint.ob (5 : Nat) (Hint.ob (5 : Nat) (Hint.ob (5 : Nat) (Hint.ob (5 : Nat) (Hint.ob (5 : Nat) (Hint.ob (5 : Nat) (Hint.ob (5 : Nat) (Hint.ob (5 : Nat) (Hint.ob (5 : Nat) (Hint.ob (5 : Nat) (Hint.ob (5 : Nat) (Hint.ob (5 : Nat) (Hint.ob (5 : Nat) (Hint.ob (5 : Nat) (Hint.ob (5 : Nat) (Hint.ob (5 : Nat) (Hint.ob (5 : Nat) (Hint.ob (5 : Nat) (Hint.ob (5 : Nat) (Hint.ob (5 : Nat) (Hint.ob (5 : Nat) (Hint.specg [] [(0 : Nat), (1 : Nat), (2 : Nat), (3 : Nat), (4 : Nat)] [cU (Inn.bts (few s)), cI (Inn.bws (few s)), cI (Inn.bfs (few s)), cI (Inn.bwd (few s)), cB (Inn.sbs (few s))] [RowT.mk (3 : TypeId) (1 : Nat) (List.length (pres (Inn.sbs (few s)) (List.length (Inn.sbs (few s))))) (cI (pres (Inn.sbs (few s)) (List.length (Inn.sbs (few s)))))] (fun ads0 ads ↦ Value.slice (Prod.fst (nthA ads (0 : Nat))) (List.length (pres (Inn.sbs (few s)) (List.length (Inn.sbs (few s))))) (Prod.snd (nthA ads (0 : Nat)))) (Hint.ob (5 : Nat) (Hint.ob (5 : Nat) (Hint.ob (5 : Nat) (Hint.ob (5 : Nat) (Hint.ob (5 : Nat) (Hint.ob (5 : Nat) (Hint.ob (5 : Nat) (Hint.ob (5 : Nat) (Hint.ob (5 : Nat) (Hint.ob (5 : Nat) (Hint.ob (5 : Nat) (Hint.ob (5 : Nat) (Hint.ob (5 : Nat) (Hint.ob (5 : Nat) (Hint.ob (5 : Nat) (Hint.ob (5 : Nat) (Hint.ob (5 : Nat) (Hint.ob (5 : Nat) (Hint.ob (5 : Nat) (Hint.ob (5 : Nat) (Hint.ob (5 : Nat) (Hint.ob (5 : Nat) (Hint.ob (5 : Nat) (Hint.ob (5 : Nat) (Hint.ob (5 : Nat) (Hint.ob (5 : Nat) (Hint.ob (5 : Nat) (Hint.ob (5 : Nat) (Hint.specg [] [(0 : Nat), (1 : Nat), (2 : Nat), (3 : Nat), (4 : Nat)] [cU (Inn.bts (few s)), cI (Inn.bws (few s)), cI (Inn.bfs (few s)), cI (Inn.bwd (few s)), cB (Inn.sbs (few s))] (rowI (sbS (few s) p true)) (fun ads0 ads ↦ Value.tuple #[inV (sbS (few s) p true) (adA ads), Value.int IntKind.i64 (sbL (few s) p true)]) (Hint.ob (12 : Nat) (Hint.ob (12 : Nat) (Hint.ob (12 : Nat) (Hint.ob (12 : Nat) (Hint.ob (12 : Nat) (Hint.ob (12 : Nat) (Hint.ob (12 : Nat) (Hint.ob (12 : Nat) (Hint.ob (12 : Nat) (Hint.ob (12 : Nat) (Hint.ob (12 : Nat) (Hint.ob (12 : Nat) (Hint.ob (12 : Nat) (Hint.ob (12 : Nat) (Hint.ob (12 : Nat) (Hint.ob (12 : Nat) (Hint.ob (12 : Nat) (Hint.ob (12 : Nat) (Hint.ob (12 : Nat) (Hint.ob (12 : Nat) (Hint.ob (12 : Nat) (Hint.ob (12 : Nat) (Hint.ob (12 : Nat) (Hint.ob (12 : Nat) (Hint.ob (12 : Nat) (Hint.ob (12 : Nat) (Hint.ob (12 : Nat) (Hint.ob (12 : Nat) (Hint.pl (Hint.split (Hint.cut [((4 : Nat), Value.bool (sbL (few s) p true == (3 : Int) || sbL (few s) p true == (18 : Int)))] (Hint.pl (Hint.split (Hint.lit (Hint.lit Hint.nil)) (Hint.lit (Hint.pl (Hint.lit Hint.nil))))) (Hint.perm [] Hint.nil)) (Hint.ob (12 : Nat) (Hint.ob (12 : Nat) (Hint.ob (12 : Nat) (Hint.ob (12 : Nat) (Hint.ob (12 : Nat) (Hint.ob (12 : Nat) (Hint.ob (12 : Nat) (Hint.ob (12 : Nat) (Hint.ob (12 : Nat) (Hint.ob (12 : Nat) (Hint.ob (12 : Nat) (Hint.ob (12 : Nat) (Hint.ob (12 : Nat) (Hint.ob (12 : Nat) (Hint.ob (12 : Nat) (Hint.ob (12 : Nat) (Hint.ob (12 : Nat) (Hint.ob (12 : Nat) (Hint.ob (12 : Nat) (Hint.ob (12 : Nat) (Hint.ob (12 : Nat) (Hint.ob (12 : Nat) (Hint.ob (12 : Nat) (Hint.ob (12 : Nat) (Hint.ob (12 : Nat) (Hint.ob (12 : Nat) (Hint.ob (12 : Nat) (Hint.ob (12 : Nat) (Hint.specg [] [(7 : Nat), (8 : Nat), (9 : Nat), (10 : Nat), (11 : Nat)] [cU (Inn.bts (sbS (few s) p true)), cI (Inn.bws (sbS (few s) p true)), cI (Inn.bfs (sbS (few s) p true)), cI (Inn.bwd (sbS (few s) p true)), cB (Inn.sbs (sbS (few s) p true))] [RowT.mk (3 : TypeId) (1 : Nat) (List.length (pres (Inn.sbs (sbS (few s) p true)) (List.length (Inn.sbs (sbS (few s) p true))))) (cI (pres (Inn.sbs (sbS (few s) p true)) (List.length (Inn.sbs (sbS (few s) p true)))))] (fun ads0 ads ↦ Value.slice (Prod.fst (nthA ads (0 : Nat))) (List.length (pres (Inn.sbs (sbS (few s) p true)) (List.length (Inn.sbs (sbS (few s) p true))))) (Prod.snd (nthA ads (0 : Nat)))) (Hint.ob (12 : Nat) (Hint.ob (12 : Nat) (Hint.ob (12 : Nat) (Hint.ob (12 : Nat) (Hint.ob (12 : Nat) (Hint.ob (12 : Nat) (Hint.ob (12 : Nat) (Hint.ob (12 : Nat) (Hint.ob (12 : Nat) (Hint.ob (12 : Nat) (Hint.ob (12 : Nat) (Hint.ob (12 : Nat) (Hint.ob (12 : Nat) (Hint.ob (12 : Nat) (Hint.ob (12 : Nat) (Hint.ob (12 : Nat) (Hint.ob (12 : Nat) (Hint.ob (12 : Nat) (Hint.ob (12 : Nat) (Hint.ob (12 : Nat) (Hint.ob (12 : Nat) (Hint.ob (12 : Nat) (Hint.ob (12 : Nat) (Hint.ob (12 : Nat) (Hint.ob (12 : Nat) (Hint.ob (12 : Nat) (Hint.ob (12 : Nat) (Hint.ob (12 : Nat) (Hint.specg [] [(7 : Nat), (8 : Nat), (9 : Nat), (10 : Nat), (11 : Nat)] [cU (Inn.bts (sbS (few s) p true)), cI (Inn.bws (sbS (few s) p true)), cI (Inn.bfs (sbS (few s) p true)), cI (Inn.bwd (sbS (few s) p true)), cB (Inn.sbs (sbS (few s) p true))] (rowI (sbS (sbS (few s) p true) p false)) (fun ads0 ads ↦ Value.tuple #[inV (sbS (sbS (few s) p true) p false) (adA ads), Value.int IntKind.i64 (sbL (sbS (few s) p true) p false)]) (Hint.ob (19 : Nat) (Hint.ob (19 : Nat) (Hint.ob (19 : Nat) (Hint.ob (19 : Nat) (Hint.ob (19 : Nat) (Hint.ob (19 : Nat) (Hint.ob (19 : Nat) (Hint.ob (19 : Nat) (Hint.ob (19 : Nat) (Hint.ob (19 : Nat) (Hint.ob (19 : Nat) (Hint.ob (19 : Nat) (Hint.ob (19 : Nat) (Hint.ob (19 : Nat) (Hint.ob (19 : Nat) (Hint.ob (19 : Nat) (Hint.ob (19 : Nat) (Hint.ob (19 : Nat) (Hint.ob (19 : Nat) (Hint.ob (19 : Nat) (Hint.ob (19 : Nat) (Hint.ob (19 : Nat) (Hint.ob (19 : Nat) (Hint.ob (19 : Nat) (Hint.ob (19 : Nat) (Hint.ob (19 : Nat) (Hint.ob (19 : Nat) (Hint.ob (19 : Nat) (Hint.cut [((4 : Nat), Value.bool ((↑(List.length (pres (Inn.sbs (sbS (few s) p true)) (List.length (Inn.sbs (sbS (few s) p true))))) : Int) == IntKind.wrap IntKind.i64 ((↑(List.length (pres (Inn.sbs (few s)) (List.length (Inn.sbs (few s))))) : Int) - (1 : Int)) && (!List.contains (pres (Inn.sbs (sbS (few s) p true)) (List.length (Inn.sbs (sbS (few s) p true)))) p && (sbL (sbS (few s) p true) p false == (0 : Int) && (decide (pres (Inn.sbs (sbS (sbS (few s) p true) p false)) (List.length (Inn.sbs (sbS (sbS (few s) p true) p false))) = pres (Inn.sbs (few s)) (List.length (Inn.sbs (few s)))) && (Inn.kp (sbS (few s) p true) != p && Inn.bw (sbS (few s) p true) != p))))))] (Hint.pl (Hint.pl (Hint.pl (Hint.split (Hint.lit (Hint.lit (Hint.specg [] [(13 : Nat)] [cI (pres (Inn.sbs (sbS (few s) p true)) (List.length (Inn.sbs (sbS (few s) p true))))] [] (fun ads0 x ↦ Value.bool (List.contains (pres (Inn.sbs (sbS (few s) p true)) (List.length (Inn.sbs (sbS (few s) p true)))) p)) (Hint.lit (Hint.lit (Hint.split (Hint.lit (Hint.pl (Hint.lit (Hint.split (Hint.ob (19 : Nat) (Hint.ob (19 : Nat) (Hint.ob (19 : Nat) (Hint.ob (19 : Nat) (Hint.ob (19 : Nat) (Hint.ob (19 : Nat) (Hint.ob (19 : Nat) (Hint.ob (19 : Nat) (Hint.ob (19 : Nat) (Hint.ob (19 : Nat) (Hint.ob (19 : Nat) (Hint.ob (19 : Nat) (Hint.ob (19 : Nat) (Hint.ob (19 : Nat) (Hint.ob (19 : Nat) (Hint.ob (19 : Nat) (Hint.ob (19 : Nat) (Hint.ob (19 : Nat) (Hint.ob (19 : Nat) (Hint.ob (19 : Nat) (Hint.ob (19 : Nat) (Hint.ob (19 : Nat) (Hint.ob (19 : Nat) (Hint.ob (19 : Nat) (Hint.ob (19 : Nat) (Hint.ob (19 : Nat) (Hint.ob (19 : Nat) (Hint.ob (19 : Nat) (Hint.lit (Hint.specg [] [(14 : Nat), (15 : Nat), (16 : Nat), (17 : Nat), (18 : Nat)] [cU (Inn.bts (sbS (sbS (few s) p true) p false)), cI (Inn.bws (sbS (sbS (few s) p true) p false)), cI (Inn.bfs (sbS (sbS (few s) p true) p false)), cI (Inn.bwd (sbS (sbS (few s) p true) p false)), cB (Inn.sbs (sbS (sbS (few s) p true) p false))] [RowT.mk (3 : TypeId) (1 : Nat) (List.length (pres (Inn.sbs (sbS (sbS (few s) p true) p false)) (List.length (Inn.sbs (sbS (sbS (few s) p true) p false))))) (cI (pres (Inn.sbs (sbS (sbS (few s) p true) p false)) (List.length (Inn.sbs (sbS (sbS (few s) p true) p false)))))] (fun ads0 ads ↦ Value.slice (Prod.fst (nthA ads (0 : Nat))) (List.length (pres (Inn.sbs (sbS (sbS (few s) p true) p false)) (List.length (Inn.sbs (sbS (sbS (few s) p true) p false))))) (Prod.snd (nthA ads (0 : Nat)))) (Hint.lit (Hint.lit (Hint.specg [] [(20 : Nat), (6 : Nat)] [cI (pres (Inn.sbs (sbS (sbS (few s) p true) p false)) (List.length (Inn.sbs (sbS (sbS (few s) p true) p false)))), cI (pres (Inn.sbs (few s)) (List.length (Inn.sbs (few s))))] [] (fun ads0 x ↦ Value.bool (decide (pres (Inn.sbs (sbS (sbS (few s) p true) p false)) (List.length (Inn.sbs (sbS (sbS (few s) p true) p false))) = pres (Inn.sbs (few s)) (List.length (Inn.sbs (few s)))))) (Hint.lit (Hint.split (Hint.lit (Hint.ob (12 : Nat) (Hint.lit (Hint.lit (Hint.pl (Hint.lit (Hint.split (Hint.lit (Hint.ob (12 : Nat) (Hint.lit (Hint.lit (Hint.pl (Hint.lit Hint.nil)))))) (Hint.lit (Hint.lit (Hint.lit (Hint.lit Hint.nil))))))))))) (Hint.lit (Hint.lit (Hint.lit (Hint.lit (Hint.lit (Hint.lit (Hint.lit (Hint.lit (Hint.lit Hint.nil)))))))))))))))))))))))))))))))))))))))))))) (Hint.lit (Hint.lit (Hint.lit (Hint.lit (Hint.lit (Hint.lit (Hint.lit (Hint.lit (Hint.lit (Hint.lit (Hint.lit (Hint.lit (Hint.lit (Hint.lit Hint.nil)))))))))))))))))) (Hint.lit (Hint.lit (Hint.lit (Hint.lit (Hint.lit (Hint.lit (Hint.lit (Hint.lit (Hint.lit (Hint.lit (Hint.lit (Hint.lit (Hint.lit (Hint.lit (Hint.lit (Hint.lit (Hint.lit Hint.nil))))))))))))))))))))))) (Hint.lit (Hint.lit (Hint.lit (Hint.lit (Hint.lit (Hint.lit (Hint.lit (Hint.lit (Hint.lit (Hint.lit (Hint.lit (Hint.lit (Hint.lit (Hint.lit (Hint.lit (Hint.lit (Hint.lit (Hint.lit (Hint.lit (Hint.lit (Hint.lit (Hint.lit Hint.nil)))))))))))))))))))))))))) (Hint.perm [] Hint.nil))))))))))))))))))))))))))))))))))))))))))))))))))))))))))))))))))))))))))))))))))))))))))))))))))))))))))))))))))))))))))))))))))))))))))))))))))))))))))))))))))))))))))))))))))))))))))))))))))))))))))))))))))))))))))))))))))))))))))
theorem fieldSwaps_x (s : Inn) (A : Adr) (p : Int) : wpG Try.prog [] (rdI (few s) A) 400 6 [inV s A, .int .i64 p] (fieldSwaps_h s A p) ([]) (fun _ => .bool true) = (∀ (b : Nat), (SpecG Try.prog [] [] (10 : FuncId) #[] [] fun x ↦ Value.bool true) ∧ (∀ (e : Ex), e ∈ [] → e ∈ []) ∧ b = b ∧ b = b ∧ b = b ∧ b = b ∧ b = b ∧ b = b ∧ b = b ∧ b = b ∧ b = b ∧ b = b ∧ b = b ∧ b = b ∧ b = b ∧ b = b ∧ b = b ∧ b = b ∧ b = b ∧ b = b ∧ b = b ∧ b = b ∧ b = b ∧ b = b ∧ b = b ∧ b = b ∧ b = b ∧ b = b ∧ b = b ∧ b = b ∧ (SpecG Try.prog [] [] (11 : FuncId) #[inV s A] [] fun x ↦ inV (few s) A) ∧ (∀ (e : Ex), e ∈ [] → e ∈ []) ∧ b = b ∧ True ∧ b = b ∧ True ∧ b = b ∧ True ∧ b = b ∧ True ∧ b = b ∧ True ∧ b = b ∧ True ∧ b = b ∧ True ∧ b = b ∧ True ∧ b = b ∧ True ∧ b = b ∧ True ∧ b = b ∧ True ∧ b = b ∧ True ∧ b = b ∧ True ∧ b = b ∧ True ∧ b = b ∧ True ∧ b = b ∧ True ∧ b = b ∧ True ∧ b = b ∧ True ∧ b = b ∧ True ∧ b = b ∧ True ∧ b = b ∧ True ∧ b = b ∧ True ∧ b = b ∧ True ∧ b = b ∧ True ∧ b = b ∧ True ∧ b = b ∧ True ∧ b = b ∧ True ∧ b = b ∧ True ∧ b = b ∧ b = b ∧ b = b ∧ b = b ∧ b = b ∧ b = b ∧ b = b ∧ b = b ∧ b = b ∧ b = b ∧ b = b ∧ b = b ∧ b = b ∧ b = b ∧ b = b ∧ b = b ∧ b = b ∧ b = b ∧ b = b ∧ b = b ∧ b = b ∧ b = b ∧ b = b ∧ b = b ∧ b = b ∧ b = b ∧ b = b ∧ b = b ∧ cU (Inn.bts (few s)) = cU (Inn.bts (few s)) ∧ cI (Inn.bws (few s)) = cI (Inn.bws (few s)) ∧ cI (Inn.bfs (few s)) = cI (Inn.bfs (few s)) ∧ cI (Inn.bwd (few s)) = cI (Inn.bwd (few s)) ∧ cB (Inn.sbs (few s)) = cB (Inn.sbs (few s)) ∧ (SpecG Try.prog [] (rdI (few s) A) (16 : FuncId) #[inV (few s) A] [RowT.mk (3 : TypeId) (1 : Nat) (List.length (pres (Inn.sbs (few s)) (List.length (Inn.sbs (few s))))) (cI (pres (Inn.sbs (few s)) (List.length (Inn.sbs (few s)))))] fun ads ↦ Value.slice (Prod.fst (nthA ads (0 : Nat))) (List.length (pres (Inn.sbs (few s)) (List.length (Inn.sbs (few s))))) (Prod.snd (nthA ads (0 : Nat)))) ∧ (∀ (e : Ex), e ∈ [] → e ∈ []) ∧ ∀ (a : Option Addr) (cap : Nat), AOK a (List.length (pres (Inn.sbs (few s)) (List.length (Inn.sbs (few s))))) → b = b ∧ b = b ∧ b = b ∧ b = b ∧ b = b ∧ b = b ∧ b = b ∧ b = b ∧ b = b ∧ b = b ∧ b = b ∧ b = b ∧ b = b ∧ b = b ∧ b = b ∧ b = b ∧ b = b ∧ b = b ∧ b = b ∧ b = b ∧ b = b ∧ b = b ∧ b = b ∧ b = b ∧ b = b ∧ b = b ∧ b = b ∧ b = b ∧ cU (Inn.bts (few s)) = cU (Inn.bts (few s)) ∧ cI (Inn.bws (few s)) = cI (Inn.bws (few s)) ∧ cI (Inn.bfs (few s)) = cI (Inn.bfs (few s)) ∧ cI (Inn.bwd (few s)) = cI (Inn.bwd (few s)) ∧ cB (Inn.sbs (few s)) = cB (Inn.sbs (few s)) ∧ (SpecG Try.prog [] (rdI (few s) A) (24 : FuncId) #[inV (few s) A, Value.int IntKind.i64 p, Value.bool true] (rowI (sbS (few s) p true)) fun ads ↦ Value.tuple #[inV (sbS (few s) p true) (adA ads), Value.int IntKind.i64 (sbL (few s) p true)]) ∧ (∀ (e : Ex), e ∈ [] → e ∈ []) ∧ ∀ (a_1 : Option Addr) (cap_1 : Nat), AOK a_1 (List.length (Inn.bts (sbS (few s) p true))) → ∀ (a_2 : Option Addr) (cap_2 : Nat), AOK a_2 (List.length (Inn.bws (sbS (few s) p true))) → ∀ (a_3 : Option Addr) (cap_3 : Nat), AOK a_3 (List.length (Inn.bfs (sbS (few s) p true))) → ∀ (a_4 : Option Addr) (cap_4 : Nat), AOK a_4 (List.length (Inn.bwd (sbS (few s) p true))) → ∀ (a_5 : Option Addr) (cap_5 : Nat), AOK a_5 (List.length (Inn.sbs (sbS (few s) p true))) → ∀ (b : Nat), b = b ∧ True ∧ b = b ∧ True ∧ b = b ∧ True ∧ b = b ∧ True ∧ b = b ∧ True ∧ b = b ∧ True ∧ b = b ∧ True ∧ b = b ∧ True ∧ b = b ∧ True ∧ b = b ∧ True ∧ b = b ∧ True ∧ b = b ∧ True ∧ b = b ∧ True ∧ b = b ∧ True ∧ b = b ∧ True ∧ b = b ∧ True ∧ b = b ∧ True ∧ b = b ∧ True ∧ b = b ∧ True ∧ b = b ∧ True ∧ b = b ∧ True ∧ b = b ∧ True ∧ b = b ∧ True ∧ b = b ∧ True ∧ b = b ∧ True ∧ b = b ∧ True ∧ b = b ∧ True ∧ b = b ∧ True ∧ ((sbL (few s) p true != (0 : Int)) = true → (((sbL (few s) p true == (3 : Int)) = true → Value.bool true = Value.bool (sbL (few s) p true == (3 : Int) || sbL (few s) p true == (18 : Int)) ∧ True) ∧ ((sbL (few s) p true == (3 : Int)) = false → Value.bool (sbL (few s) p true == (18 : Int)) = Value.bool (sbL (few s) p true == (3 : Int) || sbL (few s) p true == (18 : Int)) ∧ True)) ∧ ∀ (junk : Nat → Value), Value.bool (sbL (few s) p true == (3 : Int) || sbL (few s) p true == (18 : Int)) = Value.bool true) ∧ ((sbL (few s) p true != (0 : Int)) = false → b = b ∧ b = b ∧ b = b ∧ b = b ∧ b = b ∧ b = b ∧ b = b ∧ b = b ∧ b = b ∧ b = b ∧ b = b ∧ b = b ∧ b = b ∧ b = b ∧ b = b ∧ b = b ∧ b = b ∧ b = b ∧ b = b ∧ b = b ∧ b = b ∧ b = b ∧ b = b ∧ b = b ∧ b = b ∧ b = b ∧ b = b ∧ b = b ∧ cU (Inn.bts (sbS (few s) p true)) = cU (Inn.bts (sbS (few s) p true)) ∧ cI (Inn.bws (sbS (few s) p true)) = cI (Inn.bws (sbS (few s) p true)) ∧ cI (Inn.bfs (sbS (few s) p true)) = cI (Inn.bfs (sbS (few s) p true)) ∧ cI (Inn.bwd (sbS (few s) p true)) = cI (Inn.bwd (sbS (few s) p true)) ∧ cB (Inn.sbs (sbS (few s) p true)) = cB (Inn.sbs (sbS (few s) p true)) ∧ (SpecG Try.prog [] (rdI (sbS (few s) p true) (Adr.mk a_1 a_2 a_3 a_4 a_5 cap_1 cap_2 cap_3 cap_4 cap_5)) (16 : FuncId) #[inV (sbS (few s) p true) (Adr.mk a_1 a_2 a_3 a_4 a_5 cap_1 cap_2 cap_3 cap_4 cap_5)] [RowT.mk (3 : TypeId) (1 : Nat) (List.length (pres (Inn.sbs (sbS (few s) p true)) (List.length (Inn.sbs (sbS (few s) p true))))) (cI (pres (Inn.sbs (sbS (few s) p true)) (List.length (Inn.sbs (sbS (few s) p true)))))] fun ads ↦ Value.slice (Prod.fst (nthA ads (0 : Nat))) (List.length (pres (Inn.sbs (sbS (few s) p true)) (List.length (Inn.sbs (sbS (few s) p true))))) (Prod.snd (nthA ads (0 : Nat)))) ∧ (∀ (e : Ex), e ∈ [] → e ∈ []) ∧ ∀ (a_6 : Option Addr) (cap_6 : Nat), AOK a_6 (List.length (pres (Inn.sbs (sbS (few s) p true)) (List.length (Inn.sbs (sbS (few s) p true))))) → b = b ∧ b = b ∧ b = b ∧ b = b ∧ b = b ∧ b = b ∧ b = b ∧ b = b ∧ b = b ∧ b = b ∧ b = b ∧ b = b ∧ b = b ∧ b = b ∧ b = b ∧ b = b ∧ b = b ∧ b = b ∧ b = b ∧ b = b ∧ b = b ∧ b = b ∧ b = b ∧ b = b ∧ b = b ∧ b = b ∧ b = b ∧ b = b ∧ cU (Inn.bts (sbS (few s) p true)) = cU (Inn.bts (sbS (few s) p true)) ∧ cI (Inn.bws (sbS (few s) p true)) = cI (Inn.bws (sbS (few s) p true)) ∧ cI (Inn.bfs (sbS (few s) p true)) = cI (Inn.bfs (sbS (few s) p true)) ∧ cI (Inn.bwd (sbS (few s) p true)) = cI (Inn.bwd (sbS (few s) p true)) ∧ cB (Inn.sbs (sbS (few s) p true)) = cB (Inn.sbs (sbS (few s) p true)) ∧ (SpecG Try.prog [] (rdI (sbS (few s) p true) (Adr.mk a_1 a_2 a_3 a_4 a_5 cap_1 cap_2 cap_3 cap_4 cap_5)) (24 : FuncId) #[inV (sbS (few s) p true) (Adr.mk a_1 a_2 a_3 a_4 a_5 cap_1 cap_2 cap_3 cap_4 cap_5), Value.int IntKind.i64 p, Value.bool false] (rowI (sbS (sbS (few s) p true) p false)) fun ads ↦ Value.tuple #[inV (sbS (sbS (few s) p true) p false) (adA ads), Value.int IntKind.i64 (sbL (sbS (few s) p true) p false)]) ∧ (∀ (e : Ex), e ∈ [] → e ∈ []) ∧ ∀ (a_7 : Option Addr) (cap_7 : Nat), AOK a_7 (List.length (Inn.bts (sbS (sbS (few s) p true) p false))) → ∀ (a_8 : Option Addr) (cap_8 : Nat), AOK a_8 (List.length (Inn.bws (sbS (sbS (few s) p true) p false))) → ∀ (a_9 : Option Addr) (cap_9 : Nat), AOK a_9 (List.length (Inn.bfs (sbS (sbS (few s) p true) p false))) → ∀ (a_10 : Option Addr) (cap_10 : Nat), AOK a_10 (List.length (Inn.bwd (sbS (sbS (few s) p true) p false))) → ∀ (a_11 : Option Addr) (cap_11 : Nat), AOK a_11 (List.length (Inn.sbs (sbS (sbS (few s) p true) p false))) → ∀ (b_1 : Nat), b_1 = b_1 ∧ True ∧ b_1 = b_1 ∧ True ∧ b_1 = b_1 ∧ True ∧ b_1 = b_1 ∧ True ∧ b_1 = b_1 ∧ True ∧ b_1 = b_1 ∧ True ∧ b_1 = b_1 ∧ True ∧ b_1 = b_1 ∧ True ∧ b_1 = b_1 ∧ True ∧ b_1 = b_1 ∧ True ∧ b_1 = b_1 ∧ True ∧ b_1 = b_1 ∧ True ∧ b_1 = b_1 ∧ True ∧ b_1 = b_1 ∧ True ∧ b_1 = b_1 ∧ True ∧ b_1 = b_1 ∧ True ∧ b_1 = b_1 ∧ True ∧ b_1 = b_1 ∧ True ∧ b_1 = b_1 ∧ True ∧ b_1 = b_1 ∧ True ∧ b_1 = b_1 ∧ True ∧ b_1 = b_1 ∧ True ∧ b_1 = b_1 ∧ True ∧ b_1 = b_1 ∧ True ∧ b_1 = b_1 ∧ True ∧ b_1 = b_1 ∧ True ∧ b_1 = b_1 ∧ True ∧ b_1 = b_1 ∧ True ∧ ((((↑(List.length (pres (Inn.sbs (sbS (few s) p true)) (List.length (Inn.sbs (sbS (few s) p true))))) : Int) == IntKind.wrap IntKind.i64 ((↑(List.length (pres (Inn.sbs (few s)) (List.length (Inn.sbs (few s))))) : Int) - (1 : Int))) = true → cI (pres (Inn.sbs (sbS (few s) p true)) (List.length (Inn.sbs (sbS (few s) p true)))) = cI (pres (Inn.sbs (sbS (few s) p true)) (List.length (Inn.sbs (sbS (few s) p true)))) ∧ (SpecG Try.prog [] [(a_6, cI (pres (Inn.sbs (sbS (few s) p true)) (List.length (Inn.sbs (sbS (few s) p true)))))] (25 : FuncId) #[Value.slice a_6 (List.length (pres (Inn.sbs (sbS (few s) p true)) (List.length (Inn.sbs (sbS (few s) p true))))) cap_6, Value.int IntKind.i64 p] [] fun x ↦ Value.bool (List.contains (pres (Inn.sbs (sbS (few s) p true)) (List.length (Inn.sbs (sbS (few s) p true)))) p)) ∧ (∀ (e : Ex), e ∈ [] → e ∈ []) ∧ ((!List.contains (pres (Inn.sbs (sbS (few s) p true)) (List.length (Inn.sbs (sbS (few s) p true)))) p) = true → ((sbL (sbS (few s) p true) p false == (0 : Int)) = true → b_1 = b_1 ∧ b_1 = b_1 ∧ b_1 = b_1 ∧ b_1 = b_1 ∧ b_1 = b_1 ∧ b_1 = b_1 ∧ b_1 = b_1 ∧ b_1 = b_1 ∧ b_1 = b_1 ∧ b_1 = b_1 ∧ b_1 = b_1 ∧ b_1 = b_1 ∧ b_1 = b_1 ∧ b_1 = b_1 ∧ b_1 = b_1 ∧ b_1 = b_1 ∧ b_1 = b_1 ∧ b_1 = b_1 ∧ b_1 = b_1 ∧ b_1 = b_1 ∧ b_1 = b_1 ∧ b_1 = b_1 ∧ b_1 = b_1 ∧ b_1 = b_1 ∧ b_1 = b_1 ∧ b_1 = b_1 ∧ b_1 = b_1 ∧ b_1 = b_1 ∧ cU (Inn.bts (sbS (sbS (few s) p true) p false)) = cU (Inn.bts (sbS (sbS (few s) p true) p false)) ∧ cI (Inn.bws (sbS (sbS (few s) p true) p false)) = cI (Inn.bws (sbS (sbS (few s) p true) p false)) ∧ cI (Inn.bfs (sbS (sbS (few s) p true) p false)) = cI (Inn.bfs (sbS (sbS (few s) p true) p false)) ∧ cI (Inn.bwd (sbS (sbS (few s) p true) p false)) = cI (Inn.bwd (sbS (sbS (few s) p true) p false)) ∧ cB (Inn.sbs (sbS (sbS (few s) p true) p false)) = cB (Inn.sbs (sbS (sbS (few s) p true) p false)) ∧ (SpecG Try.prog [] (rdI (sbS (sbS (few s) p true) p false) (Adr.mk a_7 a_8 a_9 a_10 a_11 cap_7 cap_8 cap_9 cap_10 cap_11)) (16 : FuncId) #[inV (sbS (sbS (few s) p true) p false) (Adr.mk a_7 a_8 a_9 a_10 a_11 cap_7 cap_8 cap_9 cap_10 cap_11)] [RowT.mk (3 : TypeId) (1 : Nat) (List.length (pres (Inn.sbs (sbS (sbS (few s) p true) p false)) (List.length (Inn.sbs (sbS (sbS (few s) p true) p false))))) (cI (pres (Inn.sbs (sbS (sbS (few s) p true) p false)) (List.length (Inn.sbs (sbS (sbS (few s) p true) p false)))))] fun ads ↦ Value.slice (Prod.fst (nthA ads (0 : Nat))) (List.length (pres (Inn.sbs (sbS (sbS (few s) p true) p false)) (List.length (Inn.sbs (sbS (sbS (few s) p true) p false))))) (Prod.snd (nthA ads (0 : Nat)))) ∧ (∀ (e : Ex), e ∈ [] → e ∈ []) ∧ ∀ (a_12 : Option Addr) (cap_12 : Nat), AOK a_12 (List.length (pres (Inn.sbs (sbS (sbS (few s) p true) p false)) (List.length (Inn.sbs (sbS (sbS (few s) p true) p false))))) → cI (pres (Inn.sbs (sbS (sbS (few s) p true) p false)) (List.length (Inn.sbs (sbS (sbS (few s) p true) p false)))) = cI (pres (Inn.sbs (sbS (sbS (few s) p true) p false)) (List.length (Inn.sbs (sbS (sbS (few s) p true) p false)))) ∧ cI (pres (Inn.sbs (few s)) (List.length (Inn.sbs (few s)))) = cI (pres (Inn.sbs (few s)) (List.length (Inn.sbs (few s)))) ∧ (SpecG Try.prog [] [(a_12, cI (pres (Inn.sbs (sbS (sbS (few s) p true) p false)) (List.length (Inn.sbs (sbS (sbS (few s) p true) p false))))), (a, cI (pres (Inn.sbs (few s)) (List.length (Inn.sbs (few s)))))] (15 : FuncId) #[Value.slice a_12 (List.length (pres (Inn.sbs (sbS (sbS (few s) p true) p false)) (List.length (Inn.sbs (sbS (sbS (few s) p true) p false))))) cap_12, Value.slice a (List.length (pres (Inn.sbs (few s)) (List.length (Inn.sbs (few s))))) cap] [] fun x ↦ Value.bool (decide (pres (Inn.sbs (sbS (sbS (few s) p true) p false)) (List.length (Inn.sbs (sbS (sbS (few s) p true) p false))) = pres (Inn.sbs (few s)) (List.length (Inn.sbs (few s)))))) ∧ (∀ (e : Ex), e ∈ [] → e ∈ []) ∧ (decide (pres (Inn.sbs (sbS (sbS (few s) p true) p false)) (List.length (Inn.sbs (sbS (sbS (few s) p true) p false))) = pres (Inn.sbs (few s)) (List.length (Inn.sbs (few s)))) = true → b = b ∧ ((Inn.kp (sbS (few s) p true) != p) = true → b = b ∧ Value.bool (Inn.bw (sbS (few s) p true) != p) = Value.bool ((↑(List.length (pres (Inn.sbs (sbS (few s) p true)) (List.length (Inn.sbs (sbS (few s) p true))))) : Int) == IntKind.wrap IntKind.i64 ((↑(List.length (pres (Inn.sbs (few s)) (List.length (Inn.sbs (few s))))) : Int) - (1 : Int)) && (!List.contains (pres (Inn.sbs (sbS (few s) p true)) (List.length (Inn.sbs (sbS (few s) p true)))) p && (sbL (sbS (few s) p true) p false == (0 : Int) && (decide (pres (Inn.sbs (sbS (sbS (few s) p true) p false)) (List.length (Inn.sbs (sbS (sbS (few s) p true) p false))) = pres (Inn.sbs (few s)) (List.length (Inn.sbs (few s)))) && (Inn.kp (sbS (few s) p true) != p && Inn.bw (sbS (few s) p true) != p))))) ∧ True) ∧ ((Inn.kp (sbS (few s) p true) != p) = false → Value.bool false = Value.bool ((↑(List.length (pres (Inn.sbs (sbS (few s) p true)) (List.length (Inn.sbs (sbS (few s) p true))))) : Int) == IntKind.wrap IntKind.i64 ((↑(List.length (pres (Inn.sbs (few s)) (List.length (Inn.sbs (few s))))) : Int) - (1 : Int)) && (!List.contains (pres (Inn.sbs (sbS (few s) p true)) (List.length (Inn.sbs (sbS (few s) p true)))) p && (sbL (sbS (few s) p true) p false == (0 : Int) && (decide (pres (Inn.sbs (sbS (sbS (few s) p true) p false)) (List.length (Inn.sbs (sbS (sbS (few s) p true) p false))) = pres (Inn.sbs (few s)) (List.length (Inn.sbs (few s)))) && (Inn.kp (sbS (few s) p true) != p && Inn.bw (sbS (few s) p true) != p))))) ∧ True)) ∧ (decide (pres (Inn.sbs (sbS (sbS (few s) p true) p false)) (List.length (Inn.sbs (sbS (sbS (few s) p true) p false))) = pres (Inn.sbs (few s)) (List.length (Inn.sbs (few s)))) = false → Value.bool false = Value.bool ((↑(List.length (pres (Inn.sbs (sbS (few s) p true)) (List.length (Inn.sbs (sbS (few s) p true))))) : Int) == IntKind.wrap IntKind.i64 ((↑(List.length (pres (Inn.sbs (few s)) (List.length (Inn.sbs (few s))))) : Int) - (1 : Int)) && (!List.contains (pres (Inn.sbs (sbS (few s) p true)) (List.length (Inn.sbs (sbS (few s) p true)))) p && (sbL (sbS (few s) p true) p false == (0 : Int) && (decide (pres (Inn.sbs (sbS (sbS (few s) p true) p false)) (List.length (Inn.sbs (sbS (sbS (few s) p true) p false))) = pres (Inn.sbs (few s)) (List.length (Inn.sbs (few s)))) && (Inn.kp (sbS (few s) p true) != p && Inn.bw (sbS (few s) p true) != p))))) ∧ True)) ∧ ((sbL (sbS (few s) p true) p false == (0 : Int)) = false → Value.bool false = Value.bool ((↑(List.length (pres (Inn.sbs (sbS (few s) p true)) (List.length (Inn.sbs (sbS (few s) p true))))) : Int) == IntKind.wrap IntKind.i64 ((↑(List.length (pres (Inn.sbs (few s)) (List.length (Inn.sbs (few s))))) : Int) - (1 : Int)) && (!List.contains (pres (Inn.sbs (sbS (few s) p true)) (List.length (Inn.sbs (sbS (few s) p true)))) p && (sbL (sbS (few s) p true) p false == (0 : Int) && (decide (pres (Inn.sbs (sbS (sbS (few s) p true) p false)) (List.length (Inn.sbs (sbS (sbS (few s) p true) p false))) = pres (Inn.sbs (few s)) (List.length (Inn.sbs (few s)))) && (Inn.kp (sbS (few s) p true) != p && Inn.bw (sbS (few s) p true) != p))))) ∧ True)) ∧ ((!List.contains (pres (Inn.sbs (sbS (few s) p true)) (List.length (Inn.sbs (sbS (few s) p true)))) p) = false → Value.bool false = Value.bool ((↑(List.length (pres (Inn.sbs (sbS (few s) p true)) (List.length (Inn.sbs (sbS (few s) p true))))) : Int) == IntKind.wrap IntKind.i64 ((↑(List.length (pres (Inn.sbs (few s)) (List.length (Inn.sbs (few s))))) : Int) - (1 : Int)) && (!List.contains (pres (Inn.sbs (sbS (few s) p true)) (List.length (Inn.sbs (sbS (few s) p true)))) p && (sbL (sbS (few s) p true) p false == (0 : Int) && (decide (pres (Inn.sbs (sbS (sbS (few s) p true) p false)) (List.length (Inn.sbs (sbS (sbS (few s) p true) p false))) = pres (Inn.sbs (few s)) (List.length (Inn.sbs (few s)))) && (Inn.kp (sbS (few s) p true) != p && Inn.bw (sbS (few s) p true) != p))))) ∧ True)) ∧ (((↑(List.length (pres (Inn.sbs (sbS (few s) p true)) (List.length (Inn.sbs (sbS (few s) p true))))) : Int) == IntKind.wrap IntKind.i64 ((↑(List.length (pres (Inn.sbs (few s)) (List.length (Inn.sbs (few s))))) : Int) - (1 : Int))) = false → Value.bool false = Value.bool ((↑(List.length (pres (Inn.sbs (sbS (few s) p true)) (List.length (Inn.sbs (sbS (few s) p true))))) : Int) == IntKind.wrap IntKind.i64 ((↑(List.length (pres (Inn.sbs (few s)) (List.length (Inn.sbs (few s))))) : Int) - (1 : Int)) && (!List.contains (pres (Inn.sbs (sbS (few s) p true)) (List.length (Inn.sbs (sbS (few s) p true)))) p && (sbL (sbS (few s) p true) p false == (0 : Int) && (decide (pres (Inn.sbs (sbS (sbS (few s) p true) p false)) (List.length (Inn.sbs (sbS (sbS (few s) p true) p false))) = pres (Inn.sbs (few s)) (List.length (Inn.sbs (few s)))) && (Inn.kp (sbS (few s) p true) != p && Inn.bw (sbS (few s) p true) != p))))) ∧ True)) ∧ ∀ (junk : Nat → Value), Value.bool ((↑(List.length (pres (Inn.sbs (sbS (few s) p true)) (List.length (Inn.sbs (sbS (few s) p true))))) : Int) == IntKind.wrap IntKind.i64 ((↑(List.length (pres (Inn.sbs (few s)) (List.length (Inn.sbs (few s))))) : Int) - (1 : Int)) && (!List.contains (pres (Inn.sbs (sbS (few s) p true)) (List.length (Inn.sbs (sbS (few s) p true)))) p && (sbL (sbS (few s) p true) p false == (0 : Int) && (decide (pres (Inn.sbs (sbS (sbS (few s) p true) p false)) (List.length (Inn.sbs (sbS (sbS (few s) p true) p false))) = pres (Inn.sbs (few s)) (List.length (Inn.sbs (few s)))) && (Inn.kp (sbS (few s) p true) != p && Inn.bw (sbS (few s) p true) != p))))) = Value.bool true)) := by kernel_rfl
set_option maxHeartbeats 4000000 in
theorem fieldSwaps_sp (s : Inn) (A : Adr) (p : Int) (hA : OkA s A) (hc : CapI s A) : SpecG Try.prog [] (rdI (few s) A) 6 #[inV s A, .int .i64 p] ([]) (fun _ => .bool true) := by
  refine specG_of (h := fieldSwaps_h s A p) (?_ : wpG Try.prog [] (rdI (few s) A) 400 6 [inV s A, .int .i64 p] (fieldSwaps_h s A p) ([]) (fun _ => .bool true))
  rw [fieldSwaps_x]
  (repeat' (first | with_reducible exact rfl | exact trivial | with_reducible assumption | (with_reducible exact awake_sp) | (with_reducible exact few_sp _ _ hc) | (with_reducible exact pr_sp _ _ (ok_few hA)) | (with_reducible exact sb_sp _ _ _ _ (ok_few hA)) | (with_reducible exact pr_sp _ _ (ok_sb (ok_few hA) _ _ (by assumption) (by assumption) (by assumption) (by assumption) (by assumption))) | (with_reducible exact sb_sp _ _ _ _ (ok_sb (ok_few hA) _ _ (by assumption) (by assumption) (by assumption) (by assumption) (by assumption))) | (with_reducible exact pr_sp _ _ (ok_sb2 (ok_few hA) _ _ _ _ (by assumption) (by assumption) (by assumption) (by assumption) (by assumption))) | (with_reducible exact cont_sp _ _ _ _ (by assumption) (pl_sb (ok_few hA) _ _)) | (with_reducible exact eq_sp _ _ _ _ _ _ (by assumption) (by assumption) (pl_sb2 (ok_few hA) _ _ _ _)) | exact cU_len _ | exact cI_len _ | exact cB_len _ | exact cU_one _ | exact cI_one _ | exact cB_one _ | exact (fun _ h => h) | exact (fun _ h => (List.not_mem_nil h).elim) | (with_reducible apply And.intro) | (with_reducible intro _)))
  all_goals (try (first | (simp only [*, Bool.and_true, Bool.true_and, Bool.and_false, Bool.false_and, Bool.or_true, Bool.true_or, Bool.or_false, Bool.false_or, Bool.not_true, Bool.not_false, cond_true, cond_false]; done) | (simp only [*, Bool.true_and, Bool.false_and, Bool.and_false, Bool.false_or, Bool.true_or, Bool.or_true]; done)))
  all_goals first
    | (have h0 := ‹(sbL (few s) p true != 0) = false›
       obtain ⟨e1, e2, e3, e4, e5, e6⟩ := swap_fin (ok_few hA) (by simpa using h0)
       exact congrArg Value.bool (swap_val e1 e2 e3 e4 e5 e6))
    | (have h0 := ‹(sbL (few s) p true != 0) = true›
       rcases sbL_vals (few s) p true with h | h | h
       · rw [h]; first | rfl | (exfalso; rw [h] at *; contradiction)
       · rw [h]; first | rfl | (exfalso; rw [h] at *; contradiction)
       · rw [h] at h0; cases h0)
    | trace_state
end Go.Proofs.Ytmldphiblelhiaa
