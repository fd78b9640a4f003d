/- Layer 12 (crease): what is done with a state; how many are hurt; the chapter's example; what holds from the beginning on. -/
import Derived.Test.YtebjknedjpkomaaVy
import Derived.KernelRfl
import Derived.Test.YtebjknedjpkomaaProg
import Derived.Test.YtebjknedjpkomaaFda
import Derived.Test.YtebjknedjpkomaaFdb
import Derived.Test.YtebjknedjpkomaaFdc
import Derived.Test.YtebjknedjpkomaaFdd
import Derived.Test.YtebjknedjpkomaaFdh
import Derived.Test.YtebjknedjpkomaaFdi
import Derived.Test.YtebjknedjpkomaaFdk
import Derived.Test.YtebjknedjpkomaaCra
import Derived.Test.YtebjknedjpkomaaCrb
import Derived.Test.YtebjknedjpkomaaCrn
set_option linter.unusedSimpArgs false
set_option linter.unusedVariables false
set_option maxRecDepth 100000
namespace Go.Proofs.Ytebjknedjpkomaa
open Go.RowKit


/-- The players who bat, of the first k. -/
def bat (l : List Int) : Nat → List Int
  | 0 => []
  | k + 1 => bat l k ++ (if l.getD k 0 = 1 then [(k : Int) + 1] else [])
/-- How many of the first k have a status. -/
def ctS (l : List Int) (v : Int) : Nat → Nat
  | 0 => 0
  | k + 1 => ctS l v k + (if l.getD k 0 = v then 1 else 0)
theorem bat_len (l : List Int) (k : Nat) : (bat l k).length ≤ k := by
  induction k with
  | zero => simp [bat]
  | succ k ih => simp only [bat, List.length_append]; split <;> simp <;> omega
theorem ctS_le (l : List Int) (v : Int) (k : Nat) : ctS l v k ≤ k := by
  induction k with
  | zero => simp [ctS]
  | succ k ih => simp only [ctS]; split <;> omega
/-- Places, ascending, up to k. -/
def plA (a b : Int) (k : Nat) : List Int := (if 0 < a ∧ a ≤ k then [a] else []) ++ (if 0 < b ∧ b ≤ k then [b] else [])
theorem bat_pl {l : List Int} {a b : Int} (h : a < b ∨ (a = 0 ∧ b = 0)) (k : Nat) (hk : ∀ j : Nat, j < k → (l.getD j 0 = 1 ↔ (a = j + 1 ∨ b = j + 1))) : bat l k = plA a b k := by
  induction k with
  | zero => simp [bat, plA]; (try omega)
  | succ k ih =>
    have h1 := ih (fun j hj => hk j (by omega))
    have h2 := hk k (by omega)
    simp only [bat, h1, h2, plA]
    by_cases ha : a = (k : Int) + 1
    · have hb : ¬ (0 < b ∧ b ≤ (k : Int)) := by omega
      have hb2 : ¬ (0 < b ∧ b ≤ ((k + 1 : Nat) : Int)) := by omega
      have ha1 : ¬ (0 < a ∧ a ≤ (k : Int)) := by omega
      have ha2 : (0 < a ∧ a ≤ ((k + 1 : Nat) : Int)) := by omega
      rw [if_neg ha1, if_neg hb, if_pos (Or.inl ha), if_pos ha2, if_neg hb2, ha]
      rfl
    · by_cases hb : b = (k : Int) + 1
      · have hb1 : ¬ (0 < b ∧ b ≤ (k : Int)) := by omega
        have hb2 : (0 < b ∧ b ≤ ((k + 1 : Nat) : Int)) := by omega
        rw [if_neg hb1, if_pos (Or.inr hb), if_pos hb2, List.append_nil]
        by_cases h3 : 0 < a ∧ a ≤ (k : Int)
        · rw [if_pos h3, if_pos (by omega), hb]
        · rw [if_neg h3, if_neg (by omega), hb]
      · rw [if_neg (by omega : ¬ (a = (k : Int) + 1 ∨ b = (k : Int) + 1)), List.append_nil]
        congr 1
        · by_cases h3 : 0 < a ∧ a ≤ (k : Int)
          · rw [if_pos h3, if_pos (by omega)]
          · rw [if_neg h3, if_neg (by omega)]
        · by_cases h3 : 0 < b ∧ b ≤ (k : Int)
          · rw [if_pos h3, if_pos (by omega)]
          · rw [if_neg h3, if_neg (by omega)]
theorem set_getD (l : List Int) (i j : Nat) (w : Int) (h : i < l.length) : (l.set i w).getD j 0 = if i = j then w else l.getD j 0 := by
  rw [List.getD_eq_getElem?_getD, List.getD_eq_getElem?_getD, List.getElem?_set]
  by_cases e : i = j
  · subst e; simp [h]
  · simp [e]
theorem ctS_set (l : List Int) (i : Nat) (v w : Int) (h : i < l.length) (k : Nat) : ctS (l.set i w) v k + (if i < k ∧ l.getD i 0 = v then 1 else 0) = ctS l v k + (if i < k ∧ w = v then 1 else 0) := by
  induction k with
  | zero => simp [ctS]
  | succ k ih =>
    simp only [ctS, set_getD l i k w h]
    by_cases e : i = k
    · subst e
      simp only [if_true, Nat.lt_irrefl, false_and, if_false, Nat.lt_succ_self, true_and, Nat.add_zero] at *
      split <;> split <;> omega
    · have e1 : (i < k + 1) ↔ (i < k) := by omega
      simp only [e1, e, if_false]
      omega
/-- What holds of a state from the beginning on. -/
structure Jn (s : Inn) : Prop where
  len : s.bts.length ≤ 11
  rng : ∀ k : Nat, k < s.bts.length → 0 ≤ s.bts.getD k 0 ∧ s.bts.getD k 0 ≤ 3
  bat : ∀ k : Nat, k < s.bts.length → (s.bts.getD k 0 = 1 ↔ (s.st = k + 1 ∨ s.ot = k + 1))
  st : 0 ≤ s.st ∧ s.st ≤ s.bts.length
  ot : 0 ≤ s.ot ∧ s.ot ≤ s.bts.length
  ne : s.st = s.ot → s.st = 0
  wk : s.wk = (ctS s.bts 2 s.bts.length : Nat)
theorem begL_false {l : List Int} : begL l = false ↔ ∀ k : Nat, k < l.length → l.getD k 0 = 0 := by
  unfold begL
  rw [List.any_eq_false]
  constructor
  · intro h k hk
    have := h l[k] (List.getElem_mem _)
    rw [List.getD_eq_getElem?_getD, List.getElem?_eq_getElem hk]
    simpa using this
  · intro h x hx
    obtain ⟨k, hk, rfl⟩ := List.getElem_of_mem hx
    have := h k hk
    rw [List.getD_eq_getElem?_getD, List.getElem?_eq_getElem hk] at this
    simpa using this
theorem some_of (l : List Int) (k : Nat) (h : ∀ j : Nat, j < k → 0 ≤ l.getD j 0 ∧ l.getD j 0 ≤ 3) : (∃ j : Nat, j < k ∧ l.getD j 0 ≠ 0) ↔ 0 < (bat l k).length + ctS l 2 k + ctS l 3 k := by
  induction k with
  | zero => simp [bat, ctS]
  | succ k ih =>
    have h1 := ih (fun j hj => h j (by omega))
    have h2 := h k (by omega)
    have h3 : (∃ j : Nat, j < k + 1 ∧ l.getD j 0 ≠ 0) ↔ (∃ j : Nat, j < k ∧ l.getD j 0 ≠ 0) ∨ l.getD k 0 ≠ 0 := by
      constructor
      · rintro ⟨j, hj, e⟩
        by_cases ej : j = k
        · subst ej; exact Or.inr e
        · exact Or.inl ⟨j, by omega, e⟩
      · rintro (⟨j, hj, e⟩ | e)
        · exact ⟨j, by omega, e⟩
        · exact ⟨k, by omega, e⟩
    rw [h3, h1]
    simp only [bat, ctS, List.length_append]
    generalize l.getD k 0 = y at *
    by_cases c1 : y = 1
    · simp [c1] <;> omega
    · by_cases c2 : y = 2
      · simp [c2] <;> omega
      · by_cases c3 : y = 3
        · simp [c3] <;> omega
        · have : y = 0 := by omega
          rw [if_neg c1, if_neg c2, if_neg c3]
          simp [this]
theorem begL_some {l : List Int} : begL l = true ↔ ∃ j : Nat, j < l.length ∧ l.getD j 0 ≠ 0 := by
  rw [← Bool.not_eq_false, begL_false]
  constructor
  · intro h
    apply Classical.byContradiction
    intro hn
    apply h
    intro k hk
    apply Classical.byContradiction
    intro e
    exact hn ⟨k, hk, e⟩
  · rintro ⟨j, hj, e⟩ h
    exact e (h j hj)
/-- The law's answer about a vacant place. -/
theorem jn_vac {s : Inn} (h : Jn s) : vac s = decide (((plA s.st s.ot s.bts.length).length : Int) < 2 ∧ 0 < (bat s.bts s.bts.length).length + ctS s.bts 2 s.bts.length + ctS s.bts 3 s.bts.length) := by
  have h1 := some_of s.bts s.bts.length h.rng
  rw [← begL_some] at h1
  unfold vac beg
  rw [Bool.eq_iff_iff]
  simp only [Bool.and_eq_true, Bool.or_eq_true, beq_iff_eq, decide_eq_true_eq, h1]
  have h2 : ((plA s.st s.ot s.bts.length).length : Int) < 2 ↔ (s.st = 0 ∨ s.ot = 0) := by
    have := h.st
    have := h.ot
    unfold plA
    by_cases c1 : s.st = 0
    · simp [c1]; split <;> simp
    · by_cases c2 : s.ot = 0
      · simp [c2]; split <;> simp
      · rw [if_pos (by omega), if_pos (by omega)]; simp [c1, c2]
  rw [h2, and_comm]
theorem bat_comm (l : List Int) (a b : Int) (k : Nat) (hk : ∀ j : Nat, j < k → (l.getD j 0 = 1 ↔ (a = j + 1 ∨ b = j + 1))) : ∀ j : Nat, j < k → (l.getD j 0 = 1 ↔ (b = j + 1 ∨ a = j + 1)) := fun j hj => by rw [hk j hj]; exact Or.comm
/-- The players who bat are those who have places. -/
theorem jn_bat {s : Inn} (h : Jn s) : bat s.bts s.bts.length = if s.st < s.ot then plA s.st s.ot s.bts.length else plA s.ot s.st s.bts.length := by
  split
  · rename_i c
    exact bat_pl (Or.inl c) _ h.bat
  · rename_i c
    refine bat_pl ?_ _ (bat_comm _ _ _ _ h.bat)
    have := h.ne
    have := h.st
    have := h.ot
    omega
theorem jn_bat2 {s : Inn} (h : Jn s) : bat s.bts s.bts.length = if s.st = 0 then (if s.ot = 0 then [] else [s.ot]) else if s.ot = 0 then [s.st] else if s.ot < s.st then [s.ot, s.st] else [s.st, s.ot] := by
  rw [jn_bat h]
  have := h.ne
  have := h.st
  have := h.ot
  unfold plA
  by_cases c1 : s.st = 0
  · by_cases c2 : s.ot = 0
    · simp [c1, c2]
    · simp only [c1, c2, if_true, if_false]
      rw [if_pos (by omega), if_neg (by omega), if_pos (by omega)]; rfl
  · by_cases c2 : s.ot = 0
    · simp only [c1, c2, if_true, if_false]
      rw [if_neg (by omega), if_neg (by omega), if_pos (by omega)]; rfl
    · simp only [c1, c2, if_false]
      by_cases c3 : s.ot < s.st
      · rw [if_neg (by omega), if_pos c3, if_pos (by omega), if_pos (by omega)]; rfl
      · rw [if_pos (by omega), if_neg c3, if_pos (by omega), if_pos (by omega)]; rfl
/-- A side before its innings. -/
theorem jn_new (n : Nat) (h : n ≤ 11) (s : Inn) (h1 : s.bts = List.replicate n 0) (h2 : s.st = 0) (h3 : s.ot = 0) (h4 : s.wk = 0) : Jn s := by
  have hz : ∀ k : Nat, s.bts.getD k 0 = 0 := by
    intro k
    rw [h1, List.getD_eq_getElem?_getD, List.getElem?_replicate]
    split <;> rfl
  have hc : ∀ k : Nat, ctS s.bts 2 k = 0 := by
    intro k
    induction k with
    | zero => rfl
    | succ k ih => simp only [ctS, ih, hz k]; rfl
  have hl : s.bts.length = n := by rw [h1]; simp
  refine ⟨by omega, fun k _ => by rw [hz k]; omega, fun k _ => by rw [hz k, h2, h3]; omega, by omega, by omega, fun _ => h2, by rw [hc, h4]; rfl⟩
/-- A turned status, with other places. -/
theorem jn_set {s : Inn} (h : Jn s) {t : Inn} {p w : Int} (hp : 1 ≤ p ∧ p ≤ s.bts.length) (hb : t.bts = s.bts.set (p - 1).toNat w) (hw : 0 ≤ w ∧ w ≤ 3) (h2 : bst s p ≠ 2)
    (hst : 0 ≤ t.st ∧ t.st ≤ s.bts.length) (hot : 0 ≤ t.ot ∧ t.ot ≤ s.bts.length) (hne : t.st = t.ot → t.st = 0) (hwk : t.wk = s.wk + (if w = 2 then 1 else 0))
    (hp1 : w = 1 ↔ (t.st = p ∨ t.ot = p)) (hq : ∀ q : Int, 1 ≤ q → q ≠ p → ((t.st = q ∨ t.ot = q) ↔ (s.st = q ∨ s.ot = q))) : Jn t := by
  have hi : (p - 1).toNat < s.bts.length := by omega
  have hl : t.bts.length = s.bts.length := by rw [hb]; simp
  have hg : ∀ k : Nat, t.bts.getD k 0 = if (p - 1).toNat = k then w else s.bts.getD k 0 := fun k => by rw [hb, set_getD _ _ _ _ hi]
  refine ⟨by rw [hl]; exact h.len, fun k hk => ?_, fun k hk => ?_, by rw [hl]; exact hst, by rw [hl]; exact hot, hne, ?_⟩
  · rw [hg]
    split
    · exact hw
    · exact h.rng k (by omega)
  · rw [hg]
    split
    · rename_i e
      have e1 : (k : Int) + 1 = p := by omega
      rw [e1]
      exact hp1
    · rename_i e
      rw [h.bat k (by omega), hq ((k : Int) + 1) (by omega) (by omega)]
  · have hc := ctS_set s.bts (p - 1).toNat 2 w hi s.bts.length
    have e2 : ¬ ((p - 1).toNat < s.bts.length ∧ s.bts.getD (p - 1).toNat 0 = 2) := fun e => h2 e.2
    rw [if_neg e2] at hc
    rw [hwk, hl, hb, h.wk]
    by_cases c : w = 2
    · rw [if_pos c]
      rw [if_pos ⟨hi, c⟩] at hc
      omega
    · rw [if_neg c]
      rw [if_neg (fun e => c e.2)] at hc
      omega
/-- Other places with the same players. -/
theorem jn_swap {s : Inn} (h : Jn s) {t : Inn} (hb : t.bts = s.bts) (hw : t.wk = s.wk) (hp : (t.st = s.st ∧ t.ot = s.ot) ∨ (t.st = s.ot ∧ t.ot = s.st)) : Jn t := by
  obtain ⟨a, b, c, d, e, f, g⟩ := h
  rcases hp with ⟨p1, p2⟩ | ⟨p1, p2⟩
  · exact ⟨by rw [hb]; exact a, by rw [hb]; exact b, by rw [hb, p1, p2]; exact c, by rw [hb, p1]; exact d, by rw [hb, p2]; exact e, by rw [p1, p2]; exact f, by rw [hb, hw]; exact g⟩
  · exact ⟨by rw [hb]; exact a, by rw [hb]; exact b, by rw [hb, p1, p2]; exact fun k hk => by rw [c k hk]; exact Or.comm, by rw [hb, p1]; exact e, by rw [hb, p2]; exact d, by rw [p1, p2]; exact fun q => by have := f q.symm; omega, by rw [hb, hw]; exact g⟩
theorem jn_wk {s : Inn} (h : Jn s) : IntKind.i64.wrap (s.wk + 1) = s.wk + 1 := by
  have := ctS_le s.bts 2 s.bts.length
  have := h.len
  have := h.wk
  exact IntWalk.i64_in _ (by omega)
theorem jn_bst {s : Inn} (h : Jn s) {p : Int} (hp : 1 ≤ p ∧ p ≤ s.bts.length) : bst s p = 1 ↔ (s.st = p ∨ s.ot = p) := by
  have := h.bat (p - 1).toNat (by omega)
  have e : ((p - 1).toNat : Int) + 1 = p := by omega
  rw [e] at this
  exact this
theorem jn_open {s : Inn} (h : Jn s) (a b : Int) : Jn (opS s a b) := by
  by_cases hl : opL s a b = 0
  · have hl2 := hl
    unfold opL at hl2
    have hb : beg s = false := by
      cases hh : beg s
      · rfl
      · rw [hh] at hl2; simp at hl2
    rw [hb] at hl2
    simp only [Bool.false_eq_true, if_false] at hl2
    by_cases hr : brl s a = false ∨ brl s b = false
    · rw [if_pos hr] at hl2; omega
    rw [if_neg hr] at hl2
    have hab : a ≠ b := by intro e; rw [if_pos e] at hl2; omega
    have ha : 1 ≤ a ∧ a ≤ s.bts.length := by
      have : brl s a = true := by cases hh : brl s a <;> simp_all
      simpa [brl] using this
    have hb2 : 1 ≤ b ∧ b ≤ s.bts.length := by
      have : brl s b = true := by cases hh : brl s b <;> simp_all
      simpa [brl] using this
    have hz := begL_false.1 hb
    have hs : ∀ q : Int, 1 ≤ q → q ≤ s.bts.length → ¬ (s.st = q ∨ s.ot = q) := by
      intro q h1 h2 e
      have := (jn_bst h ⟨h1, h2⟩).2 e
      have := hz (q - 1).toNat (by omega)
      unfold bst at *
      omega
    have hst : s.st = 0 := by
      have := h.st
      have := hs s.st
      omega
    have hot : s.ot = 0 := by
      have := h.ot
      have := hs s.ot
      omega
    -- first one player, then the other
    have h1 : Jn { s with bts := s.bts.set (a - 1).toNat 1, st := a, ot := 0 } := by
      refine jn_set h (p := a) (w := 1) ha rfl (by omega) ?_ (by simp only; omega) (by simp only; omega) (by simp only; omega) (by simp) (by simp) ?_
      · have := hz (a - 1).toNat (by omega)
        unfold bst
        omega
      · intro q h1 h2
        simp only [hst, hot]
        omega
    refine jn_set h1 (p := b) (w := 1) (by simp only [List.length_set]; exact hb2) (by simp only [opS, hl, if_true]) (by omega) ?_ (by simp only [opS, hl, if_true, List.length_set]; omega) (by simp only [opS, hl, if_true, List.length_set]; omega) (by simp only [opS, hl, if_true]; omega) (by simp [opS]) (by simp [opS, hl]) ?_
    · unfold bst
      simp only
      rw [set_getD _ _ _ _ (by omega)]
      have := hz (b - 1).toNat (by omega)
      rw [if_neg (by omega)]
      omega
    · intro q h1 h2
      simp only [opS, hl, if_true]
      omega
  · unfold opS
    simp only [hl, if_false]
    exact h
theorem jn_change {s : Inn} (h : Jn s) : Jn (chS s) := jn_swap h rfl rfl (Or.inr ⟨rfl, rfl⟩)
theorem en_facts {s : Inn} {p : Int} (hl : enL s p = 0) : (1 ≤ p ∧ p ≤ s.bts.length) ∧ vac s = true ∧ bst s p ≠ 1 ∧ bst s p ≠ 2 := by
  unfold enL at hl
  by_cases h1 : brl s p = false
  · rw [if_pos h1] at hl; omega
  rw [if_neg h1] at hl
  by_cases h2 : vac s = false ∨ bst s p = 1
  · rw [if_pos h2] at hl; omega
  rw [if_neg h2] at hl
  by_cases h3 : bst s p = 2
  · rw [if_pos h3] at hl; omega
  refine ⟨?_, ?_, fun e => h2 (Or.inr e), h3⟩
  · have : brl s p = true := by cases hh : brl s p <;> simp_all
    simpa [brl] using this
  · cases hh : vac s
    · exact (h2 (Or.inl hh)).elim
    · rfl
theorem vac_pl {s : Inn} (h : vac s = true) : s.st = 0 ∨ s.ot = 0 := by
  unfold vac at h
  simp at h
  exact h.2
theorem jn_enter {s : Inn} (h : Jn s) (p : Int) : Jn (enS s p) := by
  by_cases hl : enL s p = 0
  · obtain ⟨hp, hv, h1, h2⟩ := en_facts hl
    have hv := vac_pl hv
    have hn : ¬ (s.st = p ∨ s.ot = p) := fun e => h1 ((jn_bst h hp).2 e)
    have := h.st
    have := h.ot
    have := h.ne
    by_cases c : s.st = 0
    · refine jn_set h (p := p) (w := 1) hp (by simp only [enS, hl, if_true]) (by omega) h2 (by simp only [enS, hl, c, and_self, if_true]; omega) (by simp only [enS, hl, c, ne_eq, not_true, and_false, if_false]; omega) (by simp only [enS, hl, c, ne_eq, not_true, and_false, if_false, and_self, if_true]; omega) (by simp [enS]) (by simp [enS, hl, c]) ?_
      intro q q1 q2
      simp only [enS, hl, c, ne_eq, not_true, and_false, if_false, and_self, if_true]
      omega
    · have c2 : s.ot = 0 := by omega
      refine jn_set h (p := p) (w := 1) hp (by simp only [enS, hl, if_true]) (by omega) h2 (by simp only [enS, hl, c, and_false, if_false]; omega) (by simp only [enS, hl, c, ne_eq, not_false_eq_true, and_self, if_true]; omega) (by simp only [enS, hl, c, ne_eq, not_false_eq_true, and_false, if_false, and_self, if_true]; omega) (by simp [enS]) (by simp [enS, hl, c]) ?_
      intro q q1 q2
      simp only [enS, hl, c, ne_eq, not_false_eq_true, and_false, if_false, and_self, if_true]
      omega
  · unfold enS
    simp only [hl, false_and, if_false]
    exact h
theorem jn_timeout {s : Inn} (h : Jn s) (p : Int) : Jn (toS s p) := by
  by_cases hl : enL s p = 0
  · obtain ⟨hp, hv, h1, h2⟩ := en_facts hl
    have hn : ¬ (s.st = p ∨ s.ot = p) := fun e => h1 ((jn_bst h hp).2 e)
    refine jn_set h (p := p) (w := 2) hp (by simp only [toS, hl, if_true]) (by omega) h2 h.st h.ot h.ne (by simp only [toS, hl, if_true, jn_wk h]) ?_ (fun q _ _ => Iff.rfl)
    constructor
    · intro e; omega
    · intro e; exact (hn e).elim
  · unfold toS
    simp only [hl, if_false]
    exact h
theorem jn_retire {s : Inn} (h : Jn s) (p : Int) (hu : Bool) : Jn (reS s p hu) := by
  by_cases hl : reL s p hu = 0
  · have hl2 := hl
    unfold reL at hl2
    by_cases h1 : brl s p = false
    · rw [if_pos h1] at hl2; omega
    rw [if_neg h1] at hl2
    by_cases h2 : s.st = 0 ∨ s.ot = 0
    · rw [if_pos h2] at hl2; omega
    rw [if_neg h2] at hl2
    by_cases h3 : p ≠ s.st ∧ p ≠ s.ot
    · rw [if_pos h3] at hl2; omega
    have hp : 1 ≤ p ∧ p ≤ s.bts.length := by
      have : brl s p = true := by cases hh : brl s p <;> simp_all
      simpa [brl] using this
    have hb := (jn_bst h hp).2 (by omega)
    have := h.st
    have := h.ot
    have := h.ne
    have hwk : (reS s p hu).wk = s.wk + (if (if hu = true then (3 : Int) else 2) = 2 then 1 else 0) := by
      cases hu
      · simp only [reS, hl, and_self, if_true, jn_wk h]; simp
      · simp only [reS]; simp
    have hw : (0 : Int) ≤ (if hu = true then (3 : Int) else 2) ∧ (if hu = true then (3 : Int) else 2) ≤ 3 := by split <;> omega
    have hw1 : ¬ (if hu = true then (3 : Int) else 2) = 1 := by split <;> omega
    by_cases c : s.st = p
    · refine jn_set h (p := p) (w := if hu = true then 3 else 2) hp (by simp only [reS, hl, if_true]) hw (by omega) (by simp only [reS, hl, c, and_self, if_true]; omega) (by simp only [reS, hl, c, ne_eq, not_true, and_false, if_false]; omega) (by simp only [reS, hl, c, ne_eq, not_true, and_false, if_false, and_self, if_true]; omega) hwk ?_ ?_
      · simp only [reS, hl, c, ne_eq, not_true, and_false, if_false, and_self, if_true]
        constructor
        · intro e; exact (hw1 e).elim
        · intro e; omega
      · intro q q1 q2
        simp only [reS, hl, c, ne_eq, not_true, and_false, if_false, and_self, if_true]
        omega
    · refine jn_set h (p := p) (w := if hu = true then 3 else 2) hp (by simp only [reS, hl, if_true]) hw (by omega) (by simp only [reS, hl, c, and_false, if_false]; omega) (by simp only [reS, hl, c, ne_eq, not_false_eq_true, and_self, if_true]; omega) (by simp only [reS, hl, c, ne_eq, not_false_eq_true, and_false, if_false, and_self, if_true]; omega) hwk ?_ ?_
      · simp only [reS, hl, c, ne_eq, not_false_eq_true, and_false, if_false, and_self, if_true]
        constructor
        · intro e; exact (hw1 e).elim
        · intro e; exfalso; rcases e with e | e <;> omega
      · intro q q1 q2
        simp only [reS, hl, c, ne_eq, not_false_eq_true, and_false, if_false, and_self, if_true]
        omega
  · unfold reS
    simp only [hl, false_and, if_false]
    exact h
theorem jn_ran {s : Inn} (h : Jn s) (ru : Int) (x : Bool) (hw v : Int) : Jn (rnS s ru x hw v) := by
  have h1 := h.st
  have h2 := h.ot
  have h3 := h.ne
  by_cases ho : rnO s hw v = 0
  · have ha : rnA s hw v = s.st ∧ rnB s hw v = s.ot := by
      unfold rnO at ho
      unfold rnA rnB
      constructor
      · split
        · rename_i e
          rw [if_neg e.1, if_pos e.2] at ho
          exact ho.symm
        · rfl
      · split
        · rename_i e
          rw [if_neg e.1, if_neg (by omega), if_pos e.2] at ho
          exact ho.symm
        · rfl
    refine jn_swap h (by simp only [rnS, ho, ne_eq, not_true, false_and, if_false]) (by simp only [rnS, ho, ne_eq, not_true, if_false]) ?_
    simp only [rnS, ha.1, ha.2]
    by_cases c : rnX ru x = true
    · right; simp [c]
    · left; simp [c]
  · have hc : hw ≠ 0 ∧ ((v = 1 ∧ rnO s hw v = s.st) ∨ (v = 2 ∧ rnO s hw v = s.ot)) := by
      unfold rnO at ho ⊢
      by_cases c1 : hw = 0
      · rw [if_pos c1] at ho; exact (ho rfl).elim
      · rw [if_neg c1] at ho ⊢
        by_cases c2 : v = 1
        · rw [if_pos c2]; exact ⟨c1, Or.inl ⟨c2, rfl⟩⟩
        · rw [if_neg c2] at ho ⊢
          by_cases c3 : v = 2
          · rw [if_pos c3]; exact ⟨c1, Or.inr ⟨c3, rfl⟩⟩
          · rw [if_neg c3] at ho; exact (ho rfl).elim
    obtain ⟨hw0, hc⟩ := hc
    have hp : 1 ≤ rnO s hw v ∧ rnO s hw v ≤ s.bts.length := by omega
    have hb : brl s (rnO s hw v) = true := by unfold brl; simpa using hp
    have hbs := (jn_bst h hp).2 (by omega)
    have e1 : (rnS s ru x hw v).bts = s.bts.set (rnO s hw v - 1).toNat 2 := by simp only [rnS, ho, ne_eq, not_false_eq_true, hb, and_self, if_true]
    have e2 : (rnS s ru x hw v).wk = s.wk + 1 := by simp only [rnS, ho, ne_eq, not_false_eq_true, if_true, jn_wk h]
    have e3 : (rnS s ru x hw v).st = (if rnX ru x = true then rnB s hw v else rnA s hw v) := rfl
    have e4 : (rnS s ru x hw v).ot = (if rnX ru x = true then rnA s hw v else rnB s hw v) := rfl
    have hA : rnA s hw v = if v = 1 then 0 else s.st := by unfold rnA; simp [hw0]
    have hB : rnB s hw v = if v = 2 then 0 else s.ot := by unfold rnB; simp [hw0]
    rw [hA, hB] at e3 e4
    generalize rnO s hw v = o at *
    generalize rnX ru x = xx at *
    refine jn_set h (p := o) (w := 2) hp e1 (by omega) (by omega) ?_ ?_ ?_ (by rw [e2]; simp) ?_ ?_
    all_goals simp only [e3, e4]
    all_goals (rcases hc with ⟨rfl, rfl⟩ | ⟨rfl, rfl⟩ <;> cases xx <;> simp <;> omega)


/-- What is done. -/
structure Ac2 where
  k : Int
  n : Int
  m : Int
  o : Bool
  t : Int
  sc : Int
  ru : Int
  sh : Int
  b : Int
  x : Bool
  h : Int
  v : Int
  f : Int
  g : Int
  u : Bool
  z : Int
def acV (e : Ac2) : Value := .agg #[.int .u8 e.k, .int .i64 e.n, .int .i64 e.m, .bool e.o, .int .u8 e.t, .int .u8 e.sc, .int .i64 e.ru, .int .i64 e.sh, .int .i64 e.b, .bool e.x, .int .u8 e.h, .int .i64 e.v, .int .i64 e.f, .int .i64 e.g, .bool e.u, .int .i64 e.z]
def doC (s : Inn) (e : Ac2) : Inn := if Int.tmod e.k 7 = 0 then opS s e.n e.m else if Int.tmod e.k 7 = 1 ∨ Int.tmod e.k 7 = 2 then rnS s e.ru e.x e.h e.v else if Int.tmod e.k 7 = 3 then chS s else if Int.tmod e.k 7 = 4 then enS s e.n else if Int.tmod e.k 7 = 5 then toS s e.n else reS s e.n e.o
def dlC (s : Inn) (e : Ac2) : Int := if Int.tmod e.k 7 = 0 then opL s e.n e.m else if Int.tmod e.k 7 = 1 ∨ Int.tmod e.k 7 = 2 then 0 else if Int.tmod e.k 7 = 3 then 0 else if Int.tmod e.k 7 = 4 then enL s e.n else if Int.tmod e.k 7 = 5 then enL s e.n else reL s e.n e.o
theorem jn_do {s : Inn} (h : Jn s) (e : Ac2) : Jn (doC s e) := by
  unfold doC
  split
  · exact jn_open h _ _
  · split
    · exact jn_ran h _ _ _ _
    · split
      · exact jn_change h
      · split
        · exact jn_enter h _
        · split
          · exact jn_timeout h _
          · exact jn_retire h _ _
theorem doC_len (s : Inn) (e : Ac2) : (doC s e).bws = s.bws ∧ (doC s e).bfs = s.bfs ∧ (doC s e).bwd = s.bwd ∧ (doC s e).sbs = s.sbs ∧ (doC s e).bts.length = s.bts.length := by
  unfold doC
  (repeat' split) <;> refine ⟨rfl, rfl, rfl, rfl, ?_⟩ <;> simp only [opS, rnS, chS, enS, toS, reS] <;> (try split) <;> simp
theorem ok_doC {s : Inn} {A : Adr} (h : OkI s A) (e : Ac2) {B : Adr} (h1 : AOK B.a1 (doC s e).bts.length) (h2 : AOK B.a2 (doC s e).bws.length) (h3 : AOK B.a3 (doC s e).bfs.length) (h4 : AOK B.a4 (doC s e).bwd.length) (h5 : AOK B.a5 (doC s e).sbs.length) : OkI (doC s e) B := by
  obtain ⟨e1, e2, e3, e4, e5⟩ := doC_len s e
  exact ⟨h1, h2, h3, h4, h5, by rw [e5]; exact h.l1, by rw [e1]; exact h.l2, by rw [e2]; exact h.l3, by rw [e3]; exact h.l4, by rw [e4]; exact h.l5⟩
theorem m7 {k : Int} (h : 0 ≤ k ∧ k ≤ 255) : IntKind.u8.wrap (Int.tmod k 7) = Int.tmod k 7 := IntWalk.u8_in _ (by have := Int.emod_nonneg k (show (7 : Int) ≠ 0 by omega); have := Int.emod_lt_of_pos k (show (0 : Int) < 7 by omega); rw [Int.tmod_eq_emod_of_nonneg h.1]; omega)

def doc_h (s : Inn) (A : Adr) (e : Ac2) : Hint := Hint.ob (6 : Nat) (Hint.pl (Hint.pl (Hint.split (Hint.ob (5 : Nat) (Hint.ob (5 : Nat) (Hint.ob (5 : Nat) (Hint.ob (5 : Nat) (Hint.ob (5 : Nat) (Hint.ob (5 : Nat) (Hint.ob (5 : Nat) (Hint.ob (5 : Nat) (Hint.ob (5 : Nat) (Hint.ob (5 : Nat) (Hint.ob (5 : Nat) (Hint.ob (5 : Nat) (Hint.ob (5 : Nat)
    (Hint.ob (5 : Nat) (Hint.ob (5 : Nat) (Hint.ob (5 : Nat) (Hint.ob (5 : Nat) (Hint.ob (5 : Nat) (Hint.ob (5 : Nat) (Hint.ob (5 : Nat) (Hint.ob (5 : Nat) (Hint.ob (5 : Nat) (Hint.ob (5 : Nat) (Hint.ob (5 : Nat) (Hint.ob (5 : Nat) (Hint.ob (5 : Nat) (Hint.ob (5 : Nat) (Hint.ob (5 : Nat) (Hint.ob (6
    : Nat) (Hint.ob (6 : Nat) (Hint.specg [] [(0 : Nat), (1 : Nat), (2 : Nat), (3 : Nat), (4 : Nat)] [cU (Inn.bts s), cI (Inn.bws s), cI (Inn.bfs s), cI (Inn.bwd s), cB (Inn.sbs s)] (rowI (opS s (Ac2.n e) (Ac2.m e))) (fun ads0 ads ↦ Value.tuple #[inV (opS s (Ac2.n e) (Ac2.m e)) (adA ads), Value.int
    IntKind.i64 (opL s (Ac2.n e) (Ac2.m e))]) (Hint.ob (7 : Nat) (Hint.ob (7 : Nat) (Hint.ob (7 : Nat) (Hint.ob (7 : Nat) (Hint.ob (7 : Nat) (Hint.ob (7 : Nat) (Hint.ob (7 : Nat) (Hint.ob (7 : Nat) (Hint.ob (7 : Nat) (Hint.ob (7 : Nat) (Hint.ob (7 : Nat) (Hint.ob (7 : Nat) (Hint.ob (7 : Nat) (Hint.ob
    (7 : Nat) (Hint.ob (7 : Nat) (Hint.ob (7 : Nat) (Hint.ob (7 : Nat) (Hint.ob (7 : Nat) (Hint.ob (7 : Nat) (Hint.ob (7 : Nat) (Hint.ob (7 : Nat) (Hint.ob (7 : Nat) (Hint.ob (7 : Nat) (Hint.ob (7 : Nat) (Hint.ob (7 : Nat) (Hint.ob (7 : Nat) (Hint.ob (7 : Nat) (Hint.ob (7 : Nat) (Hint.ob (7 : Nat)
    (Hint.ob (7 : Nat) (Hint.ob (7 : Nat) (Hint.ob (7 : Nat) (Hint.ob (7 : Nat) (Hint.ob (7 : Nat) (Hint.ob (7 : Nat) (Hint.ob (7 : Nat) (Hint.ob (7 : Nat) (Hint.ob (7 : Nat) (Hint.ob (7 : Nat) (Hint.ob (7 : Nat) (Hint.ob (7 : Nat) (Hint.ob (7 : Nat) (Hint.ob (7 : Nat) (Hint.ob (7 : Nat) (Hint.ob (7
    : Nat) (Hint.ob (7 : Nat) (Hint.ob (7 : Nat) (Hint.ob (7 : Nat) (Hint.ob (7 : Nat) (Hint.ob (7 : Nat) (Hint.ob (7 : Nat) (Hint.ob (7 : Nat) (Hint.ob (7 : Nat) (Hint.ob (7 : Nat) (Hint.ob (7 : Nat) (Hint.ob (7 : Nat) (Hint.perm [(8 : Nat), (9 : Nat), (10 : Nat), (11 : Nat), (12 : Nat)]
    Hint.nil)))))))))))))))))))))))))))))))))))))))))))))))))))))))))))))))))))))))))))))))))))))))) (Hint.pl (Hint.cut [((19 : Nat), Value.bool (Int.tmod (Ac2.k e) (7 : Int) == (1 : Int) || Int.tmod (Ac2.k e) (7 : Int) == (2 : Int)))] (Hint.split Hint.nil (Hint.pl Hint.nil)) (Hint.split (Hint.ob (5
    : Nat) (Hint.ob (5 : Nat) (Hint.ob (5 : Nat) (Hint.ob (5 : Nat) (Hint.ob (5 : Nat) (Hint.ob (5 : Nat) (Hint.ob (5 : Nat) (Hint.ob (5 : Nat) (Hint.ob (5 : Nat) (Hint.ob (5 : Nat) (Hint.ob (5 : Nat) (Hint.ob (5 : Nat) (Hint.ob (5 : Nat) (Hint.ob (5 : Nat) (Hint.ob (5 : Nat) (Hint.ob (5 : Nat)
    (Hint.ob (5 : Nat) (Hint.ob (5 : Nat) (Hint.ob (5 : Nat) (Hint.ob (5 : Nat) (Hint.ob (5 : Nat) (Hint.ob (5 : Nat) (Hint.ob (5 : Nat) (Hint.ob (5 : Nat) (Hint.ob (5 : Nat) (Hint.ob (5 : Nat) (Hint.ob (5 : Nat) (Hint.ob (5 : Nat) (Hint.ob (6 : Nat) (Hint.ob (6 : Nat) (Hint.ob (6 : Nat) (Hint.ob (6
    : Nat) (Hint.ob (6 : Nat) (Hint.ob (6 : Nat) (Hint.ob (6 : Nat) (Hint.ob (6 : Nat) (Hint.ob (6 : Nat) (Hint.ob (6 : Nat) (Hint.ob (6 : Nat) (Hint.ob (6 : Nat) (Hint.specg [] [(0 : Nat), (1 : Nat), (2 : Nat), (3 : Nat), (4 : Nat)] [cU (Inn.bts s), cI (Inn.bws s), cI (Inn.bfs s), cI (Inn.bwd s), cB
    (Inn.sbs s)] (rowI (rnS s (Ac2.ru e) (Ac2.x e) (Ac2.h e) (Ac2.v e))) (fun ads0 ads ↦ inV (rnS s (Ac2.ru e) (Ac2.x e) (Ac2.h e) (Ac2.v e)) (adA ads)) (Hint.ob (7 : Nat) (Hint.ob (7 : Nat) (Hint.ob (7 : Nat) (Hint.ob (7 : Nat) (Hint.ob (7 : Nat) (Hint.ob (7 : Nat) (Hint.ob (7 : Nat) (Hint.ob (7 :
    Nat) (Hint.ob (7 : Nat) (Hint.ob (7 : Nat) (Hint.ob (7 : Nat) (Hint.ob (7 : Nat) (Hint.ob (7 : Nat) (Hint.ob (7 : Nat) (Hint.ob (7 : Nat) (Hint.ob (7 : Nat) (Hint.ob (7 : Nat) (Hint.ob (7 : Nat) (Hint.ob (7 : Nat) (Hint.ob (7 : Nat) (Hint.ob (7 : Nat) (Hint.ob (7 : Nat) (Hint.ob (7 : Nat)
    (Hint.ob (7 : Nat) (Hint.ob (7 : Nat) (Hint.ob (7 : Nat) (Hint.ob (7 : Nat) (Hint.ob (7 : Nat) (Hint.ob (7 : Nat) (Hint.ob (7 : Nat) (Hint.ob (7 : Nat) (Hint.ob (7 : Nat) (Hint.ob (7 : Nat) (Hint.ob (7 : Nat) (Hint.ob (7 : Nat) (Hint.ob (7 : Nat) (Hint.ob (7 : Nat) (Hint.ob (7 : Nat) (Hint.ob (7
    : Nat) (Hint.ob (7 : Nat) (Hint.ob (7 : Nat) (Hint.ob (7 : Nat) (Hint.ob (7 : Nat) (Hint.ob (7 : Nat) (Hint.ob (7 : Nat) (Hint.ob (7 : Nat) (Hint.ob (7 : Nat) (Hint.ob (7 : Nat) (Hint.ob (7 : Nat) (Hint.ob (7 : Nat) (Hint.ob (7 : Nat) (Hint.ob (7 : Nat) (Hint.ob (7 : Nat) (Hint.ob (7 : Nat)
    (Hint.ob (7 : Nat) (Hint.ob (7 : Nat) (Hint.perm [(8 : Nat), (9 : Nat), (10 : Nat), (11 : Nat), (12 : Nat)] Hint.nil)))))))))))))))))))))))))))))))))))))))))))))))))))))))))))))))))))))))))))))))))))))))))))))))))) (Hint.pl (Hint.split (Hint.ob (5 : Nat) (Hint.ob (5 : Nat) (Hint.ob (5 : Nat)
    (Hint.ob (5 : Nat) (Hint.ob (5 : Nat) (Hint.ob (5 : Nat) (Hint.ob (5 : Nat) (Hint.ob (5 : Nat) (Hint.ob (5 : Nat) (Hint.ob (5 : Nat) (Hint.ob (5 : Nat) (Hint.ob (5 : Nat) (Hint.ob (5 : Nat) (Hint.ob (5 : Nat) (Hint.ob (5 : Nat) (Hint.ob (5 : Nat) (Hint.ob (5 : Nat) (Hint.ob (5 : Nat) (Hint.ob (5
    : Nat) (Hint.ob (5 : Nat) (Hint.ob (5 : Nat) (Hint.ob (5 : Nat) (Hint.ob (5 : Nat) (Hint.ob (5 : Nat) (Hint.ob (5 : Nat) (Hint.ob (5 : Nat) (Hint.ob (5 : Nat) (Hint.ob (5 : Nat) (Hint.specg [] [(0 : Nat), (1 : Nat), (2 : Nat), (3 : Nat), (4 : Nat)] [cU (Inn.bts s), cI (Inn.bws s), cI (Inn.bfs s),
    cI (Inn.bwd s), cB (Inn.sbs s)] (rowI s) (fun ads0 ads ↦ inV (chS s) (adA ads)) (Hint.ob (7 : Nat) (Hint.ob (7 : Nat) (Hint.ob (7 : Nat) (Hint.ob (7 : Nat) (Hint.ob (7 : Nat) (Hint.ob (7 : Nat) (Hint.ob (7 : Nat) (Hint.ob (7 : Nat) (Hint.ob (7 : Nat) (Hint.ob (7 : Nat) (Hint.ob (7 : Nat) (Hint.ob
    (7 : Nat) (Hint.ob (7 : Nat) (Hint.ob (7 : Nat) (Hint.ob (7 : Nat) (Hint.ob (7 : Nat) (Hint.ob (7 : Nat) (Hint.ob (7 : Nat) (Hint.ob (7 : Nat) (Hint.ob (7 : Nat) (Hint.ob (7 : Nat) (Hint.ob (7 : Nat) (Hint.ob (7 : Nat) (Hint.ob (7 : Nat) (Hint.ob (7 : Nat) (Hint.ob (7 : Nat) (Hint.ob (7 : Nat)
    (Hint.ob (7 : Nat) (Hint.ob (7 : Nat) (Hint.ob (7 : Nat) (Hint.ob (7 : Nat) (Hint.ob (7 : Nat) (Hint.ob (7 : Nat) (Hint.ob (7 : Nat) (Hint.ob (7 : Nat) (Hint.ob (7 : Nat) (Hint.ob (7 : Nat) (Hint.ob (7 : Nat) (Hint.ob (7 : Nat) (Hint.ob (7 : Nat) (Hint.ob (7 : Nat) (Hint.ob (7 : Nat) (Hint.ob (7
    : Nat) (Hint.ob (7 : Nat) (Hint.ob (7 : Nat) (Hint.ob (7 : Nat) (Hint.ob (7 : Nat) (Hint.ob (7 : Nat) (Hint.ob (7 : Nat) (Hint.ob (7 : Nat) (Hint.ob (7 : Nat) (Hint.ob (7 : Nat) (Hint.ob (7 : Nat) (Hint.ob (7 : Nat) (Hint.ob (7 : Nat) (Hint.ob (7 : Nat) (Hint.perm [(8 : Nat), (9 : Nat), (10 :
    Nat), (11 : Nat), (12 : Nat)] Hint.nil)))))))))))))))))))))))))))))))))))))))))))))))))))))))))))))))))))))))))))))))))))))) (Hint.pl (Hint.split (Hint.ob (5 : Nat) (Hint.ob (5 : Nat) (Hint.ob (5 : Nat) (Hint.ob (5 : Nat) (Hint.ob (5 : Nat) (Hint.ob (5 : Nat) (Hint.ob (5 : Nat) (Hint.ob (5 : Nat)
    (Hint.ob (5 : Nat) (Hint.ob (5 : Nat) (Hint.ob (5 : Nat) (Hint.ob (5 : Nat) (Hint.ob (5 : Nat) (Hint.ob (5 : Nat) (Hint.ob (5 : Nat) (Hint.ob (5 : Nat) (Hint.ob (5 : Nat) (Hint.ob (5 : Nat) (Hint.ob (5 : Nat) (Hint.ob (5 : Nat) (Hint.ob (5 : Nat) (Hint.ob (5 : Nat) (Hint.ob (5 : Nat) (Hint.ob (5
    : Nat) (Hint.ob (5 : Nat) (Hint.ob (5 : Nat) (Hint.ob (5 : Nat) (Hint.ob (5 : Nat) (Hint.ob (6 : Nat) (Hint.specg [] [(0 : Nat), (1 : Nat), (2 : Nat), (3 : Nat), (4 : Nat)] [cU (Inn.bts s), cI (Inn.bws s), cI (Inn.bfs s), cI (Inn.bwd s), cB (Inn.sbs s)] (rowI (enS s (Ac2.n e))) (fun ads0 ads ↦
    Value.tuple #[inV (enS s (Ac2.n e)) (adA ads), Value.int IntKind.i64 (enL s (Ac2.n e))]) (Hint.ob (7 : Nat) (Hint.ob (7 : Nat) (Hint.ob (7 : Nat) (Hint.ob (7 : Nat) (Hint.ob (7 : Nat) (Hint.ob (7 : Nat) (Hint.ob (7 : Nat) (Hint.ob (7 : Nat) (Hint.ob (7 : Nat) (Hint.ob (7 : Nat) (Hint.ob (7 : Nat)
    (Hint.ob (7 : Nat) (Hint.ob (7 : Nat) (Hint.ob (7 : Nat) (Hint.ob (7 : Nat) (Hint.ob (7 : Nat) (Hint.ob (7 : Nat) (Hint.ob (7 : Nat) (Hint.ob (7 : Nat) (Hint.ob (7 : Nat) (Hint.ob (7 : Nat) (Hint.ob (7 : Nat) (Hint.ob (7 : Nat) (Hint.ob (7 : Nat) (Hint.ob (7 : Nat) (Hint.ob (7 : Nat) (Hint.ob (7
    : Nat) (Hint.ob (7 : Nat) (Hint.ob (7 : Nat) (Hint.ob (7 : Nat) (Hint.ob (7 : Nat) (Hint.ob (7 : Nat) (Hint.ob (7 : Nat) (Hint.ob (7 : Nat) (Hint.ob (7 : Nat) (Hint.ob (7 : Nat) (Hint.ob (7 : Nat) (Hint.ob (7 : Nat) (Hint.ob (7 : Nat) (Hint.ob (7 : Nat) (Hint.ob (7 : Nat) (Hint.ob (7 : Nat)
    (Hint.ob (7 : Nat) (Hint.ob (7 : Nat) (Hint.ob (7 : Nat) (Hint.ob (7 : Nat) (Hint.ob (7 : Nat) (Hint.ob (7 : Nat) (Hint.ob (7 : Nat) (Hint.ob (7 : Nat) (Hint.ob (7 : Nat) (Hint.ob (7 : Nat) (Hint.ob (7 : Nat) (Hint.ob (7 : Nat) (Hint.ob (7 : Nat) (Hint.ob (7 : Nat) (Hint.perm [(8 : Nat), (9 :
    Nat), (10 : Nat), (11 : Nat), (12 : Nat)] Hint.nil))))))))))))))))))))))))))))))))))))))))))))))))))))))))))))))))))))))))))))))))))))))) (Hint.pl (Hint.split (Hint.ob (5 : Nat) (Hint.ob (5 : Nat) (Hint.ob (5 : Nat) (Hint.ob (5 : Nat) (Hint.ob (5 : Nat) (Hint.ob (5 : Nat) (Hint.ob (5 : Nat)
    (Hint.ob (5 : Nat) (Hint.ob (5 : Nat) (Hint.ob (5 : Nat) (Hint.ob (5 : Nat) (Hint.ob (5 : Nat) (Hint.ob (5 : Nat) (Hint.ob (5 : Nat) (Hint.ob (5 : Nat) (Hint.ob (5 : Nat) (Hint.ob (5 : Nat) (Hint.ob (5 : Nat) (Hint.ob (5 : Nat) (Hint.ob (5 : Nat) (Hint.ob (5 : Nat) (Hint.ob (5 : Nat) (Hint.ob (5
    : Nat) (Hint.ob (5 : Nat) (Hint.ob (5 : Nat) (Hint.ob (5 : Nat) (Hint.ob (5 : Nat) (Hint.ob (5 : Nat) (Hint.ob (6 : Nat) (Hint.specg [] [(0 : Nat), (1 : Nat), (2 : Nat), (3 : Nat), (4 : Nat)] [cU (Inn.bts s), cI (Inn.bws s), cI (Inn.bfs s), cI (Inn.bwd s), cB (Inn.sbs s)] (rowI (toS s (Ac2.n e)))
    (fun ads0 ads ↦ Value.tuple #[inV (toS s (Ac2.n e)) (adA ads), Value.int IntKind.i64 (enL s (Ac2.n e))]) (Hint.ob (7 : Nat) (Hint.ob (7 : Nat) (Hint.ob (7 : Nat) (Hint.ob (7 : Nat) (Hint.ob (7 : Nat) (Hint.ob (7 : Nat) (Hint.ob (7 : Nat) (Hint.ob (7 : Nat) (Hint.ob (7 : Nat) (Hint.ob (7 : Nat)
    (Hint.ob (7 : Nat) (Hint.ob (7 : Nat) (Hint.ob (7 : Nat) (Hint.ob (7 : Nat) (Hint.ob (7 : Nat) (Hint.ob (7 : Nat) (Hint.ob (7 : Nat) (Hint.ob (7 : Nat) (Hint.ob (7 : Nat) (Hint.ob (7 : Nat) (Hint.ob (7 : Nat) (Hint.ob (7 : Nat) (Hint.ob (7 : Nat) (Hint.ob (7 : Nat) (Hint.ob (7 : Nat) (Hint.ob (7
    : Nat) (Hint.ob (7 : Nat) (Hint.ob (7 : Nat) (Hint.ob (7 : Nat) (Hint.ob (7 : Nat) (Hint.ob (7 : Nat) (Hint.ob (7 : Nat) (Hint.ob (7 : Nat) (Hint.ob (7 : Nat) (Hint.ob (7 : Nat) (Hint.ob (7 : Nat) (Hint.ob (7 : Nat) (Hint.ob (7 : Nat) (Hint.ob (7 : Nat) (Hint.ob (7 : Nat) (Hint.ob (7 : Nat)
    (Hint.ob (7 : Nat) (Hint.ob (7 : Nat) (Hint.ob (7 : Nat) (Hint.ob (7 : Nat) (Hint.ob (7 : Nat) (Hint.ob (7 : Nat) (Hint.ob (7 : Nat) (Hint.ob (7 : Nat) (Hint.ob (7 : Nat) (Hint.ob (7 : Nat) (Hint.ob (7 : Nat) (Hint.ob (7 : Nat) (Hint.ob (7 : Nat) (Hint.ob (7 : Nat) (Hint.ob (7 : Nat) (Hint.perm
    [(8 : Nat), (9 : Nat), (10 : Nat), (11 : Nat), (12 : Nat)] Hint.nil))))))))))))))))))))))))))))))))))))))))))))))))))))))))))))))))))))))))))))))))))))))) (Hint.ob (5 : Nat) (Hint.ob (5 : Nat) (Hint.ob (5 : Nat) (Hint.ob (5 : Nat) (Hint.ob (5 : Nat) (Hint.ob (5 : Nat) (Hint.ob (5 : Nat) (Hint.ob
    (5 : Nat) (Hint.ob (5 : Nat) (Hint.ob (5 : Nat) (Hint.ob (5 : Nat) (Hint.ob (5 : Nat) (Hint.ob (5 : Nat) (Hint.ob (5 : Nat) (Hint.ob (5 : Nat) (Hint.ob (5 : Nat) (Hint.ob (5 : Nat) (Hint.ob (5 : Nat) (Hint.ob (5 : Nat) (Hint.ob (5 : Nat) (Hint.ob (5 : Nat) (Hint.ob (5 : Nat) (Hint.ob (5 : Nat)
    (Hint.ob (5 : Nat) (Hint.ob (5 : Nat) (Hint.ob (5 : Nat) (Hint.ob (5 : Nat) (Hint.ob (5 : Nat) (Hint.ob (6 : Nat) (Hint.ob (6 : Nat) (Hint.specg [] [(0 : Nat), (1 : Nat), (2 : Nat), (3 : Nat), (4 : Nat)] [cU (Inn.bts s), cI (Inn.bws s), cI (Inn.bfs s), cI (Inn.bwd s), cB (Inn.sbs s)] (rowI (reS s
    (Ac2.n e) (Ac2.o e))) (fun ads0 ads ↦ Value.tuple #[inV (reS s (Ac2.n e) (Ac2.o e)) (adA ads), Value.int IntKind.i64 (reL s (Ac2.n e) (Ac2.o e))]) (Hint.ob (7 : Nat) (Hint.ob (7 : Nat) (Hint.ob (7 : Nat) (Hint.ob (7 : Nat) (Hint.ob (7 : Nat) (Hint.ob (7 : Nat) (Hint.ob (7 : Nat) (Hint.ob (7 :
    Nat) (Hint.ob (7 : Nat) (Hint.ob (7 : Nat) (Hint.ob (7 : Nat) (Hint.ob (7 : Nat) (Hint.ob (7 : Nat) (Hint.ob (7 : Nat) (Hint.ob (7 : Nat) (Hint.ob (7 : Nat) (Hint.ob (7 : Nat) (Hint.ob (7 : Nat) (Hint.ob (7 : Nat) (Hint.ob (7 : Nat) (Hint.ob (7 : Nat) (Hint.ob (7 : Nat) (Hint.ob (7 : Nat)
    (Hint.ob (7 : Nat) (Hint.ob (7 : Nat) (Hint.ob (7 : Nat) (Hint.ob (7 : Nat) (Hint.ob (7 : Nat) (Hint.ob (7 : Nat) (Hint.ob (7 : Nat) (Hint.ob (7 : Nat) (Hint.ob (7 : Nat) (Hint.ob (7 : Nat) (Hint.ob (7 : Nat) (Hint.ob (7 : Nat) (Hint.ob (7 : Nat) (Hint.ob (7 : Nat) (Hint.ob (7 : Nat) (Hint.ob (7
    : Nat) (Hint.ob (7 : Nat) (Hint.ob (7 : Nat) (Hint.ob (7 : Nat) (Hint.ob (7 : Nat) (Hint.ob (7 : Nat) (Hint.ob (7 : Nat) (Hint.ob (7 : Nat) (Hint.ob (7 : Nat) (Hint.ob (7 : Nat) (Hint.ob (7 : Nat) (Hint.ob (7 : Nat) (Hint.ob (7 : Nat) (Hint.ob (7 : Nat) (Hint.ob (7 : Nat) (Hint.ob (7 : Nat)
    (Hint.ob (7 : Nat) (Hint.ob (7 : Nat) (Hint.perm [(8 : Nat), (9 : Nat), (10 : Nat), (11 : Nat), (12 : Nat)] Hint.nil))))))))))))))))))))))))))))))))))))))))))))))))))))))))))))))))))))))))))))))))))))))))))))))))))))
theorem doc_x (s : Inn) (A : Adr) (e : Ac2) : wpG Try.prog [] (rdI s A) 400 8 [inV s A, acV e] (doc_h s A e) (rowI (doC s e)) (fun ads => .tuple #[inV (doC s e) (adA ads), .int .i64 (dlC s e)]) = (∀ (b b_1 b_2 : Nat), b_1 = b_1 ∧ ((Int.tmod (Ac2.k e) (7 : Int) == (0 : Int)) = true → b = b ∧ b = b ∧ b = b ∧ b = b ∧ b = b ∧ b = b ∧ b = b ∧ b = b ∧ b = b ∧ b = b ∧ b = b ∧ b = b ∧ b = b ∧ b = b ∧ b = b ∧ b = b ∧ b = b ∧ b = b ∧ b = b ∧ b = b ∧ b = b ∧ b = b ∧ b = b ∧ b = b ∧ b = b ∧ b = b ∧ b = b
    ∧ b = b ∧ b_1 = b_1 ∧ b_1 = b_1 ∧ cU (Inn.bts s) = cU (Inn.bts s) ∧ cI (Inn.bws s) = cI (Inn.bws s) ∧ cI (Inn.bfs s) = cI (Inn.bfs s) ∧ cI (Inn.bwd s) = cI (Inn.bwd s) ∧ cB (Inn.sbs s) = cB (Inn.sbs s) ∧ (SpecG Try.prog [] (rdI s A) (25 : FuncId) #[inV s A, Value.int IntKind.i64 (Ac2.n e),
    Value.int IntKind.i64 (Ac2.m e)] (rowI (opS s (Ac2.n e) (Ac2.m e))) fun ads ↦ Value.tuple #[inV (opS s (Ac2.n e) (Ac2.m e)) (adA ads), Value.int IntKind.i64 (opL s (Ac2.n e) (Ac2.m e))]) ∧ (∀ (e : Ex), e ∈ [] → e ∈ []) ∧ ∀ (a : Option Addr) (cap : Nat), AOK a (List.length (Inn.bts (opS s (Ac2.n
    e) (Ac2.m e)))) → ∀ (a_1 : Option Addr) (cap_1 : Nat), AOK a_1 (List.length (Inn.bws (opS s (Ac2.n e) (Ac2.m e)))) → ∀ (a_2 : Option Addr) (cap_2 : Nat), AOK a_2 (List.length (Inn.bfs (opS s (Ac2.n e) (Ac2.m e)))) → ∀ (a_3 : Option Addr) (cap_3 : Nat), AOK a_3 (List.length (Inn.bwd (opS s (Ac2.n
    e) (Ac2.m e)))) → ∀ (a_4 : Option Addr) (cap_4 : Nat), AOK a_4 (List.length (Inn.sbs (opS s (Ac2.n e) (Ac2.m e)))) → b_2 = b_2 ∧ True ∧ b_2 = b_2 ∧ True ∧ b_2 = b_2 ∧ True ∧ b_2 = b_2 ∧ True ∧ b_2 = b_2 ∧ True ∧ b_2 = b_2 ∧ True ∧ b_2 = b_2 ∧ True ∧ b_2 = b_2 ∧ True ∧ b_2 = b_2 ∧ True ∧ b_2 = b_2
    ∧ True ∧ b_2 = b_2 ∧ True ∧ b_2 = b_2 ∧ True ∧ b_2 = b_2 ∧ True ∧ b_2 = b_2 ∧ True ∧ b_2 = b_2 ∧ True ∧ b_2 = b_2 ∧ True ∧ b_2 = b_2 ∧ True ∧ b_2 = b_2 ∧ True ∧ b_2 = b_2 ∧ True ∧ b_2 = b_2 ∧ True ∧ b_2 = b_2 ∧ True ∧ b_2 = b_2 ∧ True ∧ b_2 = b_2 ∧ True ∧ b_2 = b_2 ∧ True ∧ b_2 = b_2 ∧ True ∧ b_2
    = b_2 ∧ True ∧ b_2 = b_2 ∧ True ∧ b_2 = b_2 ∧ True ∧ b_2 = b_2 ∧ b_2 = b_2 ∧ b_2 = b_2 ∧ b_2 = b_2 ∧ b_2 = b_2 ∧ b_2 = b_2 ∧ b_2 = b_2 ∧ b_2 = b_2 ∧ b_2 = b_2 ∧ b_2 = b_2 ∧ b_2 = b_2 ∧ b_2 = b_2 ∧ b_2 = b_2 ∧ b_2 = b_2 ∧ b_2 = b_2 ∧ b_2 = b_2 ∧ b_2 = b_2 ∧ b_2 = b_2 ∧ b_2 = b_2 ∧ b_2 = b_2 ∧ b_2
    = b_2 ∧ b_2 = b_2 ∧ b_2 = b_2 ∧ b_2 = b_2 ∧ b_2 = b_2 ∧ b_2 = b_2 ∧ b_2 = b_2 ∧ b_2 = b_2 ∧ (43 : Nat) = (43 : Nat) ∧ (1 : Nat) = (1 : Nat) ∧ List.length (Inn.bts (opS s (Ac2.n e) (Ac2.m e))) = List.length (Inn.bts (doC s e)) ∧ cU (Inn.bts (opS s (Ac2.n e) (Ac2.m e))) = cU (Inn.bts (doC s e)) ∧
    (3 : Nat) = (3 : Nat) ∧ (1 : Nat) = (1 : Nat) ∧ List.length (Inn.bws (opS s (Ac2.n e) (Ac2.m e))) = List.length (Inn.bws (doC s e)) ∧ cI (Inn.bws (opS s (Ac2.n e) (Ac2.m e))) = cI (Inn.bws (doC s e)) ∧ (3 : Nat) = (3 : Nat) ∧ (1 : Nat) = (1 : Nat) ∧ List.length (Inn.bfs (opS s (Ac2.n e) (Ac2.m
    e))) = List.length (Inn.bfs (doC s e)) ∧ cI (Inn.bfs (opS s (Ac2.n e) (Ac2.m e))) = cI (Inn.bfs (doC s e)) ∧ (3 : Nat) = (3 : Nat) ∧ (1 : Nat) = (1 : Nat) ∧ List.length (Inn.bwd (opS s (Ac2.n e) (Ac2.m e))) = List.length (Inn.bwd (doC s e)) ∧ cI (Inn.bwd (opS s (Ac2.n e) (Ac2.m e))) = cI (Inn.bwd
    (doC s e)) ∧ (4 : Nat) = (4 : Nat) ∧ (1 : Nat) = (1 : Nat) ∧ List.length (Inn.sbs (opS s (Ac2.n e) (Ac2.m e))) = List.length (Inn.sbs (doC s e)) ∧ cB (Inn.sbs (opS s (Ac2.n e) (Ac2.m e))) = cB (Inn.sbs (doC s e)) ∧ Value.tuple (Array.mk [Value.agg (Array.mk [Value.int IntKind.i64 (Inn.sd (opS s
    (Ac2.n e) (Ac2.m e))), Value.int IntKind.i64 (Inn.tg (opS s (Ac2.n e) (Ac2.m e))), Value.int IntKind.i64 (Inn.ov (opS s (Ac2.n e) (Ac2.m e))), Value.int IntKind.i64 (Inn.rn (opS s (Ac2.n e) (Ac2.m e))), Value.int IntKind.i64 (Inn.wk (opS s (Ac2.n e) (Ac2.m e))), Value.int IntKind.i64 (Inn.e1 (opS
    s (Ac2.n e) (Ac2.m e))), Value.int IntKind.i64 (Inn.e2 (opS s (Ac2.n e) (Ac2.m e))), Value.int IntKind.i64 (Inn.e3 (opS s (Ac2.n e) (Ac2.m e))), Value.int IntKind.i64 (Inn.e4 (opS s (Ac2.n e) (Ac2.m e))), Value.int IntKind.i64 (Inn.e5 (opS s (Ac2.n e) (Ac2.m e))), Value.int IntKind.i64 (Inn.cm
    (opS s (Ac2.n e) (Ac2.m e))), Value.int IntKind.i64 (Inn.io (opS s (Ac2.n e) (Ac2.m e))), Value.int IntKind.i64 (Inn.st (opS s (Ac2.n e) (Ac2.m e))), Value.int IntKind.i64 (Inn.ot (opS s (Ac2.n e) (Ac2.m e))), Value.slice a (List.length (Inn.bts (opS s (Ac2.n e) (Ac2.m e)))) cap, Value.int
    IntKind.i64 (Inn.bw (opS s (Ac2.n e) (Ac2.m e))), Value.slice a_1 (List.length (Inn.bws (opS s (Ac2.n e) (Ac2.m e)))) cap_1, Value.slice a_2 (List.length (Inn.bfs (opS s (Ac2.n e) (Ac2.m e)))) cap_2, Value.bool (Inn.fr (opS s (Ac2.n e) (Ac2.m e))), Value.slice a_3 (List.length (Inn.bwd (opS s
    (Ac2.n e) (Ac2.m e)))) cap_3, Value.bool (Inn.fh (opS s (Ac2.n e) (Ac2.m e))), Value.int IntKind.i64 (Inn.ba (opS s (Ac2.n e) (Ac2.m e))), Value.int IntKind.i64 (Inn.kp (opS s (Ac2.n e) (Ac2.m e))), Value.int IntKind.i64 (Inn.ou (opS s (Ac2.n e) (Ac2.m e))), Value.slice a_4 (List.length (Inn.sbs
    (opS s (Ac2.n e) (Ac2.m e)))) cap_4, Value.int IntKind.i64 (Inn.r1 (opS s (Ac2.n e) (Ac2.m e))), Value.int IntKind.i64 (Inn.r2 (opS s (Ac2.n e) (Ac2.m e))), Value.int IntKind.u8 (Inn.en (opS s (Ac2.n e) (Ac2.m e)))]), Value.int IntKind.i64 (opL s (Ac2.n e) (Ac2.m e))]) = Value.tuple (Array.mk
    [Value.agg (Array.mk [Value.int IntKind.i64 (Inn.sd (doC s e)), Value.int IntKind.i64 (Inn.tg (doC s e)), Value.int IntKind.i64 (Inn.ov (doC s e)), Value.int IntKind.i64 (Inn.rn (doC s e)), Value.int IntKind.i64 (Inn.wk (doC s e)), Value.int IntKind.i64 (Inn.e1 (doC s e)), Value.int IntKind.i64
    (Inn.e2 (doC s e)), Value.int IntKind.i64 (Inn.e3 (doC s e)), Value.int IntKind.i64 (Inn.e4 (doC s e)), Value.int IntKind.i64 (Inn.e5 (doC s e)), Value.int IntKind.i64 (Inn.cm (doC s e)), Value.int IntKind.i64 (Inn.io (doC s e)), Value.int IntKind.i64 (Inn.st (doC s e)), Value.int IntKind.i64
    (Inn.ot (doC s e)), Value.slice a (List.length (Inn.bts (doC s e))) cap, Value.int IntKind.i64 (Inn.bw (doC s e)), Value.slice a_1 (List.length (Inn.bws (doC s e))) cap_1, Value.slice a_2 (List.length (Inn.bfs (doC s e))) cap_2, Value.bool (Inn.fr (doC s e)), Value.slice a_3 (List.length (Inn.bwd
    (doC s e))) cap_3, Value.bool (Inn.fh (doC s e)), Value.int IntKind.i64 (Inn.ba (doC s e)), Value.int IntKind.i64 (Inn.kp (doC s e)), Value.int IntKind.i64 (Inn.ou (doC s e)), Value.slice a_4 (List.length (Inn.sbs (doC s e))) cap_4, Value.int IntKind.i64 (Inn.r1 (doC s e)), Value.int IntKind.i64
    (Inn.r2 (doC s e)), Value.int IntKind.u8 (Inn.en (doC s e))]), Value.int IntKind.i64 (dlC s e)])) ∧ ((Int.tmod (Ac2.k e) (7 : Int) == (0 : Int)) = false → (((Int.tmod (Ac2.k e) (7 : Int) == (1 : Int)) = true → Value.bool true = Value.bool (Int.tmod (Ac2.k e) (7 : Int) == (1 : Int) || Int.tmod
    (Ac2.k e) (7 : Int) == (2 : Int)) ∧ True) ∧ ((Int.tmod (Ac2.k e) (7 : Int) == (1 : Int)) = false → Value.bool (Int.tmod (Ac2.k e) (7 : Int) == (2 : Int)) = Value.bool (Int.tmod (Ac2.k e) (7 : Int) == (1 : Int) || Int.tmod (Ac2.k e) (7 : Int) == (2 : Int)) ∧ True)) ∧ ∀ (junk : Nat → Value),
    ((Int.tmod (Ac2.k e) (7 : Int) == (1 : Int) || Int.tmod (Ac2.k e) (7 : Int) == (2 : Int)) = true → b = b ∧ b = b ∧ b = b ∧ b = b ∧ b = b ∧ b = b ∧ b = b ∧ b = b ∧ b = b ∧ b = b ∧ b = b ∧ b = b ∧ b = b ∧ b = b ∧ b = b ∧ b = b ∧ b = b ∧ b = b ∧ b = b ∧ b = b ∧ b = b ∧ b = b ∧ b = b ∧ b = b ∧ b = b
    ∧ b = b ∧ b = b ∧ b = b ∧ b_1 = b_1 ∧ b_1 = b_1 ∧ b_1 = b_1 ∧ b_1 = b_1 ∧ b_1 = b_1 ∧ b_1 = b_1 ∧ b_1 = b_1 ∧ b_1 = b_1 ∧ b_1 = b_1 ∧ b_1 = b_1 ∧ b_1 = b_1 ∧ b_1 = b_1 ∧ cU (Inn.bts s) = cU (Inn.bts s) ∧ cI (Inn.bws s) = cI (Inn.bws s) ∧ cI (Inn.bfs s) = cI (Inn.bfs s) ∧ cI (Inn.bwd s) = cI
    (Inn.bwd s) ∧ cB (Inn.sbs s) = cB (Inn.sbs s) ∧ (SpecG Try.prog [] (rdI s A) (27 : FuncId) #[inV s A, Value.agg #[Value.int IntKind.u8 (Ac2.t e), Value.int IntKind.u8 (Ac2.sc e), Value.int IntKind.i64 (Ac2.ru e), Value.int IntKind.i64 (Ac2.sh e), Value.int IntKind.i64 (Ac2.b e), Value.bool (Ac2.x
    e), Value.int IntKind.u8 (Ac2.h e), Value.int IntKind.i64 (Ac2.v e), Value.int IntKind.i64 (Ac2.f e), Value.int IntKind.i64 (Ac2.g e), Value.bool (Ac2.u e), Value.int IntKind.i64 (Ac2.z e)]] (rowI (rnS s (Ac2.ru e) (Ac2.x e) (Ac2.h e) (Ac2.v e))) fun ads ↦ inV (rnS s (Ac2.ru e) (Ac2.x e) (Ac2.h
    e) (Ac2.v e)) (adA ads)) ∧ (∀ (e : Ex), e ∈ [] → e ∈ []) ∧ ∀ (a : Option Addr) (cap : Nat), AOK a (List.length (Inn.bts (rnS s (Ac2.ru e) (Ac2.x e) (Ac2.h e) (Ac2.v e)))) → ∀ (a_1 : Option Addr) (cap_1 : Nat), AOK a_1 (List.length (Inn.bws (rnS s (Ac2.ru e) (Ac2.x e) (Ac2.h e) (Ac2.v e)))) → ∀
    (a_2 : Option Addr) (cap_2 : Nat), AOK a_2 (List.length (Inn.bfs (rnS s (Ac2.ru e) (Ac2.x e) (Ac2.h e) (Ac2.v e)))) → ∀ (a_3 : Option Addr) (cap_3 : Nat), AOK a_3 (List.length (Inn.bwd (rnS s (Ac2.ru e) (Ac2.x e) (Ac2.h e) (Ac2.v e)))) → ∀ (a_4 : Option Addr) (cap_4 : Nat), AOK a_4 (List.length
    (Inn.sbs (rnS s (Ac2.ru e) (Ac2.x e) (Ac2.h e) (Ac2.v e)))) → b_2 = b_2 ∧ True ∧ b_2 = b_2 ∧ True ∧ b_2 = b_2 ∧ True ∧ b_2 = b_2 ∧ True ∧ b_2 = b_2 ∧ True ∧ b_2 = b_2 ∧ True ∧ b_2 = b_2 ∧ True ∧ b_2 = b_2 ∧ True ∧ b_2 = b_2 ∧ True ∧ b_2 = b_2 ∧ True ∧ b_2 = b_2 ∧ True ∧ b_2 = b_2 ∧ True ∧ b_2 =
    b_2 ∧ True ∧ b_2 = b_2 ∧ True ∧ b_2 = b_2 ∧ True ∧ b_2 = b_2 ∧ True ∧ b_2 = b_2 ∧ True ∧ b_2 = b_2 ∧ True ∧ b_2 = b_2 ∧ True ∧ b_2 = b_2 ∧ True ∧ b_2 = b_2 ∧ True ∧ b_2 = b_2 ∧ True ∧ b_2 = b_2 ∧ True ∧ b_2 = b_2 ∧ True ∧ b_2 = b_2 ∧ True ∧ b_2 = b_2 ∧ True ∧ b_2 = b_2 ∧ True ∧ b_2 = b_2 ∧ True ∧
    b_2 = b_2 ∧ b_2 = b_2 ∧ b_2 = b_2 ∧ b_2 = b_2 ∧ b_2 = b_2 ∧ b_2 = b_2 ∧ b_2 = b_2 ∧ b_2 = b_2 ∧ b_2 = b_2 ∧ b_2 = b_2 ∧ b_2 = b_2 ∧ b_2 = b_2 ∧ b_2 = b_2 ∧ b_2 = b_2 ∧ b_2 = b_2 ∧ b_2 = b_2 ∧ b_2 = b_2 ∧ b_2 = b_2 ∧ b_2 = b_2 ∧ b_2 = b_2 ∧ b_2 = b_2 ∧ b_2 = b_2 ∧ b_2 = b_2 ∧ b_2 = b_2 ∧ b_2 = b_2
    ∧ b_2 = b_2 ∧ b_2 = b_2 ∧ b_2 = b_2 ∧ (43 : Nat) = (43 : Nat) ∧ (1 : Nat) = (1 : Nat) ∧ List.length (Inn.bts (rnS s (Ac2.ru e) (Ac2.x e) (Ac2.h e) (Ac2.v e))) = List.length (Inn.bts (doC s e)) ∧ cU (Inn.bts (rnS s (Ac2.ru e) (Ac2.x e) (Ac2.h e) (Ac2.v e))) = cU (Inn.bts (doC s e)) ∧ (3 : Nat) =
    (3 : Nat) ∧ (1 : Nat) = (1 : Nat) ∧ List.length (Inn.bws (rnS s (Ac2.ru e) (Ac2.x e) (Ac2.h e) (Ac2.v e))) = List.length (Inn.bws (doC s e)) ∧ cI (Inn.bws (rnS s (Ac2.ru e) (Ac2.x e) (Ac2.h e) (Ac2.v e))) = cI (Inn.bws (doC s e)) ∧ (3 : Nat) = (3 : Nat) ∧ (1 : Nat) = (1 : Nat) ∧ List.length
    (Inn.bfs (rnS s (Ac2.ru e) (Ac2.x e) (Ac2.h e) (Ac2.v e))) = List.length (Inn.bfs (doC s e)) ∧ cI (Inn.bfs (rnS s (Ac2.ru e) (Ac2.x e) (Ac2.h e) (Ac2.v e))) = cI (Inn.bfs (doC s e)) ∧ (3 : Nat) = (3 : Nat) ∧ (1 : Nat) = (1 : Nat) ∧ List.length (Inn.bwd (rnS s (Ac2.ru e) (Ac2.x e) (Ac2.h e) (Ac2.v
    e))) = List.length (Inn.bwd (doC s e)) ∧ cI (Inn.bwd (rnS s (Ac2.ru e) (Ac2.x e) (Ac2.h e) (Ac2.v e))) = cI (Inn.bwd (doC s e)) ∧ (4 : Nat) = (4 : Nat) ∧ (1 : Nat) = (1 : Nat) ∧ List.length (Inn.sbs (rnS s (Ac2.ru e) (Ac2.x e) (Ac2.h e) (Ac2.v e))) = List.length (Inn.sbs (doC s e)) ∧ cB (Inn.sbs
    (rnS s (Ac2.ru e) (Ac2.x e) (Ac2.h e) (Ac2.v e))) = cB (Inn.sbs (doC s e)) ∧ Value.tuple (Array.mk [Value.agg (Array.mk [Value.int IntKind.i64 (Inn.sd (rnS s (Ac2.ru e) (Ac2.x e) (Ac2.h e) (Ac2.v e))), Value.int IntKind.i64 (Inn.tg (rnS s (Ac2.ru e) (Ac2.x e) (Ac2.h e) (Ac2.v e))), Value.int
    IntKind.i64 (Inn.ov (rnS s (Ac2.ru e) (Ac2.x e) (Ac2.h e) (Ac2.v e))), Value.int IntKind.i64 (Inn.rn (rnS s (Ac2.ru e) (Ac2.x e) (Ac2.h e) (Ac2.v e))), Value.int IntKind.i64 (Inn.wk (rnS s (Ac2.ru e) (Ac2.x e) (Ac2.h e) (Ac2.v e))), Value.int IntKind.i64 (Inn.e1 (rnS s (Ac2.ru e) (Ac2.x e) (Ac2.h
    e) (Ac2.v e))), Value.int IntKind.i64 (Inn.e2 (rnS s (Ac2.ru e) (Ac2.x e) (Ac2.h e) (Ac2.v e))), Value.int IntKind.i64 (Inn.e3 (rnS s (Ac2.ru e) (Ac2.x e) (Ac2.h e) (Ac2.v e))), Value.int IntKind.i64 (Inn.e4 (rnS s (Ac2.ru e) (Ac2.x e) (Ac2.h e) (Ac2.v e))), Value.int IntKind.i64 (Inn.e5 (rnS s
    (Ac2.ru e) (Ac2.x e) (Ac2.h e) (Ac2.v e))), Value.int IntKind.i64 (Inn.cm (rnS s (Ac2.ru e) (Ac2.x e) (Ac2.h e) (Ac2.v e))), Value.int IntKind.i64 (Inn.io (rnS s (Ac2.ru e) (Ac2.x e) (Ac2.h e) (Ac2.v e))), Value.int IntKind.i64 (Inn.st (rnS s (Ac2.ru e) (Ac2.x e) (Ac2.h e) (Ac2.v e))), Value.int
    IntKind.i64 (Inn.ot (rnS s (Ac2.ru e) (Ac2.x e) (Ac2.h e) (Ac2.v e))), Value.slice a (List.length (Inn.bts (rnS s (Ac2.ru e) (Ac2.x e) (Ac2.h e) (Ac2.v e)))) cap, Value.int IntKind.i64 (Inn.bw (rnS s (Ac2.ru e) (Ac2.x e) (Ac2.h e) (Ac2.v e))), Value.slice a_1 (List.length (Inn.bws (rnS s (Ac2.ru
    e) (Ac2.x e) (Ac2.h e) (Ac2.v e)))) cap_1, Value.slice a_2 (List.length (Inn.bfs (rnS s (Ac2.ru e) (Ac2.x e) (Ac2.h e) (Ac2.v e)))) cap_2, Value.bool (Inn.fr (rnS s (Ac2.ru e) (Ac2.x e) (Ac2.h e) (Ac2.v e))), Value.slice a_3 (List.length (Inn.bwd (rnS s (Ac2.ru e) (Ac2.x e) (Ac2.h e) (Ac2.v e))))
    cap_3, Value.bool (Inn.fh (rnS s (Ac2.ru e) (Ac2.x e) (Ac2.h e) (Ac2.v e))), Value.int IntKind.i64 (Inn.ba (rnS s (Ac2.ru e) (Ac2.x e) (Ac2.h e) (Ac2.v e))), Value.int IntKind.i64 (Inn.kp (rnS s (Ac2.ru e) (Ac2.x e) (Ac2.h e) (Ac2.v e))), Value.int IntKind.i64 (Inn.ou (rnS s (Ac2.ru e) (Ac2.x e)
    (Ac2.h e) (Ac2.v e))), Value.slice a_4 (List.length (Inn.sbs (rnS s (Ac2.ru e) (Ac2.x e) (Ac2.h e) (Ac2.v e)))) cap_4, Value.int IntKind.i64 (Inn.r1 (rnS s (Ac2.ru e) (Ac2.x e) (Ac2.h e) (Ac2.v e))), Value.int IntKind.i64 (Inn.r2 (rnS s (Ac2.ru e) (Ac2.x e) (Ac2.h e) (Ac2.v e))), Value.int
    IntKind.u8 (Inn.en (rnS s (Ac2.ru e) (Ac2.x e) (Ac2.h e) (Ac2.v e)))]), Value.int IntKind.i64 (0 : Int)]) = Value.tuple (Array.mk [Value.agg (Array.mk [Value.int IntKind.i64 (Inn.sd (doC s e)), Value.int IntKind.i64 (Inn.tg (doC s e)), Value.int IntKind.i64 (Inn.ov (doC s e)), Value.int
    IntKind.i64 (Inn.rn (doC s e)), Value.int IntKind.i64 (Inn.wk (doC s e)), Value.int IntKind.i64 (Inn.e1 (doC s e)), Value.int IntKind.i64 (Inn.e2 (doC s e)), Value.int IntKind.i64 (Inn.e3 (doC s e)), Value.int IntKind.i64 (Inn.e4 (doC s e)), Value.int IntKind.i64 (Inn.e5 (doC s e)), Value.int
    IntKind.i64 (Inn.cm (doC s e)), Value.int IntKind.i64 (Inn.io (doC s e)), Value.int IntKind.i64 (Inn.st (doC s e)), Value.int IntKind.i64 (Inn.ot (doC s e)), Value.slice a (List.length (Inn.bts (doC s e))) cap, Value.int IntKind.i64 (Inn.bw (doC s e)), Value.slice a_1 (List.length (Inn.bws (doC s
    e))) cap_1, Value.slice a_2 (List.length (Inn.bfs (doC s e))) cap_2, Value.bool (Inn.fr (doC s e)), Value.slice a_3 (List.length (Inn.bwd (doC s e))) cap_3, Value.bool (Inn.fh (doC s e)), Value.int IntKind.i64 (Inn.ba (doC s e)), Value.int IntKind.i64 (Inn.kp (doC s e)), Value.int IntKind.i64
    (Inn.ou (doC s e)), Value.slice a_4 (List.length (Inn.sbs (doC s e))) cap_4, Value.int IntKind.i64 (Inn.r1 (doC s e)), Value.int IntKind.i64 (Inn.r2 (doC s e)), Value.int IntKind.u8 (Inn.en (doC s e))]), Value.int IntKind.i64 (dlC s e)])) ∧ ((Int.tmod (Ac2.k e) (7 : Int) == (1 : Int) || Int.tmod
    (Ac2.k e) (7 : Int) == (2 : Int)) = false → ((Int.tmod (Ac2.k e) (7 : Int) == (3 : Int)) = true → b = b ∧ b = b ∧ b = b ∧ b = b ∧ b = b ∧ b = b ∧ b = b ∧ b = b ∧ b = b ∧ b = b ∧ b = b ∧ b = b ∧ b = b ∧ b = b ∧ b = b ∧ b = b ∧ b = b ∧ b = b ∧ b = b ∧ b = b ∧ b = b ∧ b = b ∧ b = b ∧ b = b ∧ b = b ∧
    b = b ∧ b = b ∧ b = b ∧ cU (Inn.bts s) = cU (Inn.bts s) ∧ cI (Inn.bws s) = cI (Inn.bws s) ∧ cI (Inn.bfs s) = cI (Inn.bfs s) ∧ cI (Inn.bwd s) = cI (Inn.bwd s) ∧ cB (Inn.sbs s) = cB (Inn.sbs s) ∧ (SpecG Try.prog [] (rdI s A) (29 : FuncId) #[inV s A] (rowI s) fun ads ↦ inV (chS s) (adA ads)) ∧ (∀ (e
    : Ex), e ∈ [] → e ∈ []) ∧ ∀ (a : Option Addr) (cap : Nat), AOK a (List.length (Inn.bts s)) → ∀ (a_1 : Option Addr) (cap_1 : Nat), AOK a_1 (List.length (Inn.bws s)) → ∀ (a_2 : Option Addr) (cap_2 : Nat), AOK a_2 (List.length (Inn.bfs s)) → ∀ (a_3 : Option Addr) (cap_3 : Nat), AOK a_3 (List.length
    (Inn.bwd s)) → ∀ (a_4 : Option Addr) (cap_4 : Nat), AOK a_4 (List.length (Inn.sbs s)) → b_2 = b_2 ∧ True ∧ b_2 = b_2 ∧ True ∧ b_2 = b_2 ∧ True ∧ b_2 = b_2 ∧ True ∧ b_2 = b_2 ∧ True ∧ b_2 = b_2 ∧ True ∧ b_2 = b_2 ∧ True ∧ b_2 = b_2 ∧ True ∧ b_2 = b_2 ∧ True ∧ b_2 = b_2 ∧ True ∧ b_2 = b_2 ∧ True ∧
    b_2 = b_2 ∧ True ∧ b_2 = b_2 ∧ True ∧ b_2 = b_2 ∧ True ∧ b_2 = b_2 ∧ True ∧ b_2 = b_2 ∧ True ∧ b_2 = b_2 ∧ True ∧ b_2 = b_2 ∧ True ∧ b_2 = b_2 ∧ True ∧ b_2 = b_2 ∧ True ∧ b_2 = b_2 ∧ True ∧ b_2 = b_2 ∧ True ∧ b_2 = b_2 ∧ True ∧ b_2 = b_2 ∧ True ∧ b_2 = b_2 ∧ True ∧ b_2 = b_2 ∧ True ∧ b_2 = b_2 ∧
    True ∧ b_2 = b_2 ∧ True ∧ b_2 = b_2 ∧ b_2 = b_2 ∧ b_2 = b_2 ∧ b_2 = b_2 ∧ b_2 = b_2 ∧ b_2 = b_2 ∧ b_2 = b_2 ∧ b_2 = b_2 ∧ b_2 = b_2 ∧ b_2 = b_2 ∧ b_2 = b_2 ∧ b_2 = b_2 ∧ b_2 = b_2 ∧ b_2 = b_2 ∧ b_2 = b_2 ∧ b_2 = b_2 ∧ b_2 = b_2 ∧ b_2 = b_2 ∧ b_2 = b_2 ∧ b_2 = b_2 ∧ b_2 = b_2 ∧ b_2 = b_2 ∧ b_2 =
    b_2 ∧ b_2 = b_2 ∧ b_2 = b_2 ∧ b_2 = b_2 ∧ b_2 = b_2 ∧ b_2 = b_2 ∧ (43 : Nat) = (43 : Nat) ∧ (1 : Nat) = (1 : Nat) ∧ List.length (Inn.bts s) = List.length (Inn.bts (doC s e)) ∧ cU (Inn.bts s) = cU (Inn.bts (doC s e)) ∧ (3 : Nat) = (3 : Nat) ∧ (1 : Nat) = (1 : Nat) ∧ List.length (Inn.bws s) =
    List.length (Inn.bws (doC s e)) ∧ cI (Inn.bws s) = cI (Inn.bws (doC s e)) ∧ (3 : Nat) = (3 : Nat) ∧ (1 : Nat) = (1 : Nat) ∧ List.length (Inn.bfs s) = List.length (Inn.bfs (doC s e)) ∧ cI (Inn.bfs s) = cI (Inn.bfs (doC s e)) ∧ (3 : Nat) = (3 : Nat) ∧ (1 : Nat) = (1 : Nat) ∧ List.length (Inn.bwd s)
    = List.length (Inn.bwd (doC s e)) ∧ cI (Inn.bwd s) = cI (Inn.bwd (doC s e)) ∧ (4 : Nat) = (4 : Nat) ∧ (1 : Nat) = (1 : Nat) ∧ List.length (Inn.sbs s) = List.length (Inn.sbs (doC s e)) ∧ cB (Inn.sbs s) = cB (Inn.sbs (doC s e)) ∧ Value.tuple (Array.mk [Value.agg (Array.mk [Value.int IntKind.i64
    (Inn.sd (chS s)), Value.int IntKind.i64 (Inn.tg (chS s)), Value.int IntKind.i64 (Inn.ov (chS s)), Value.int IntKind.i64 (Inn.rn (chS s)), Value.int IntKind.i64 (Inn.wk (chS s)), Value.int IntKind.i64 (Inn.e1 (chS s)), Value.int IntKind.i64 (Inn.e2 (chS s)), Value.int IntKind.i64 (Inn.e3 (chS s)),
    Value.int IntKind.i64 (Inn.e4 (chS s)), Value.int IntKind.i64 (Inn.e5 (chS s)), Value.int IntKind.i64 (Inn.cm (chS s)), Value.int IntKind.i64 (Inn.io (chS s)), Value.int IntKind.i64 (Inn.st (chS s)), Value.int IntKind.i64 (Inn.ot (chS s)), Value.slice a (List.length (Inn.bts (chS s))) cap,
    Value.int IntKind.i64 (Inn.bw (chS s)), Value.slice a_1 (List.length (Inn.bws (chS s))) cap_1, Value.slice a_2 (List.length (Inn.bfs (chS s))) cap_2, Value.bool (Inn.fr (chS s)), Value.slice a_3 (List.length (Inn.bwd (chS s))) cap_3, Value.bool (Inn.fh (chS s)), Value.int IntKind.i64 (Inn.ba (chS
    s)), Value.int IntKind.i64 (Inn.kp (chS s)), Value.int IntKind.i64 (Inn.ou (chS s)), Value.slice a_4 (List.length (Inn.sbs (chS s))) cap_4, Value.int IntKind.i64 (Inn.r1 (chS s)), Value.int IntKind.i64 (Inn.r2 (chS s)), Value.int IntKind.u8 (Inn.en (chS s))]), Value.int IntKind.i64 (0 : Int)]) =
    Value.tuple (Array.mk [Value.agg (Array.mk [Value.int IntKind.i64 (Inn.sd (doC s e)), Value.int IntKind.i64 (Inn.tg (doC s e)), Value.int IntKind.i64 (Inn.ov (doC s e)), Value.int IntKind.i64 (Inn.rn (doC s e)), Value.int IntKind.i64 (Inn.wk (doC s e)), Value.int IntKind.i64 (Inn.e1 (doC s e)),
    Value.int IntKind.i64 (Inn.e2 (doC s e)), Value.int IntKind.i64 (Inn.e3 (doC s e)), Value.int IntKind.i64 (Inn.e4 (doC s e)), Value.int IntKind.i64 (Inn.e5 (doC s e)), Value.int IntKind.i64 (Inn.cm (doC s e)), Value.int IntKind.i64 (Inn.io (doC s e)), Value.int IntKind.i64 (Inn.st (doC s e)),
    Value.int IntKind.i64 (Inn.ot (doC s e)), Value.slice a (List.length (Inn.bts (doC s e))) cap, Value.int IntKind.i64 (Inn.bw (doC s e)), Value.slice a_1 (List.length (Inn.bws (doC s e))) cap_1, Value.slice a_2 (List.length (Inn.bfs (doC s e))) cap_2, Value.bool (Inn.fr (doC s e)), Value.slice a_3
    (List.length (Inn.bwd (doC s e))) cap_3, Value.bool (Inn.fh (doC s e)), Value.int IntKind.i64 (Inn.ba (doC s e)), Value.int IntKind.i64 (Inn.kp (doC s e)), Value.int IntKind.i64 (Inn.ou (doC s e)), Value.slice a_4 (List.length (Inn.sbs (doC s e))) cap_4, Value.int IntKind.i64 (Inn.r1 (doC s e)),
    Value.int IntKind.i64 (Inn.r2 (doC s e)), Value.int IntKind.u8 (Inn.en (doC s e))]), Value.int IntKind.i64 (dlC s e)])) ∧ ((Int.tmod (Ac2.k e) (7 : Int) == (3 : Int)) = false → ((Int.tmod (Ac2.k e) (7 : Int) == (4 : Int)) = true → b = b ∧ b = b ∧ b = b ∧ b = b ∧ b = b ∧ b = b ∧ b = b ∧ b = b ∧ b
    = b ∧ b = b ∧ b = b ∧ b = b ∧ b = b ∧ b = b ∧ b = b ∧ b = b ∧ b = b ∧ b = b ∧ b = b ∧ b = b ∧ b = b ∧ b = b ∧ b = b ∧ b = b ∧ b = b ∧ b = b ∧ b = b ∧ b = b ∧ b_1 = b_1 ∧ cU (Inn.bts s) = cU (Inn.bts s) ∧ cI (Inn.bws s) = cI (Inn.bws s) ∧ cI (Inn.bfs s) = cI (Inn.bfs s) ∧ cI (Inn.bwd s) = cI
    (Inn.bwd s) ∧ cB (Inn.sbs s) = cB (Inn.sbs s) ∧ (SpecG Try.prog [] (rdI s A) (28 : FuncId) #[inV s A, Value.int IntKind.i64 (Ac2.n e)] (rowI (enS s (Ac2.n e))) fun ads ↦ Value.tuple #[inV (enS s (Ac2.n e)) (adA ads), Value.int IntKind.i64 (enL s (Ac2.n e))]) ∧ (∀ (e : Ex), e ∈ [] → e ∈ []) ∧ ∀ (a
    : Option Addr) (cap : Nat), AOK a (List.length (Inn.bts (enS s (Ac2.n e)))) → ∀ (a_1 : Option Addr) (cap_1 : Nat), AOK a_1 (List.length (Inn.bws (enS s (Ac2.n e)))) → ∀ (a_2 : Option Addr) (cap_2 : Nat), AOK a_2 (List.length (Inn.bfs (enS s (Ac2.n e)))) → ∀ (a_3 : Option Addr) (cap_3 : Nat), AOK
    a_3 (List.length (Inn.bwd (enS s (Ac2.n e)))) → ∀ (a_4 : Option Addr) (cap_4 : Nat), AOK a_4 (List.length (Inn.sbs (enS s (Ac2.n e)))) → b_2 = b_2 ∧ True ∧ b_2 = b_2 ∧ True ∧ b_2 = b_2 ∧ True ∧ b_2 = b_2 ∧ True ∧ b_2 = b_2 ∧ True ∧ b_2 = b_2 ∧ True ∧ b_2 = b_2 ∧ True ∧ b_2 = b_2 ∧ True ∧ b_2 =
    b_2 ∧ True ∧ b_2 = b_2 ∧ True ∧ b_2 = b_2 ∧ True ∧ b_2 = b_2 ∧ True ∧ b_2 = b_2 ∧ True ∧ b_2 = b_2 ∧ True ∧ b_2 = b_2 ∧ True ∧ b_2 = b_2 ∧ True ∧ b_2 = b_2 ∧ True ∧ b_2 = b_2 ∧ True ∧ b_2 = b_2 ∧ True ∧ b_2 = b_2 ∧ True ∧ b_2 = b_2 ∧ True ∧ b_2 = b_2 ∧ True ∧ b_2 = b_2 ∧ True ∧ b_2 = b_2 ∧ True ∧
    b_2 = b_2 ∧ True ∧ b_2 = b_2 ∧ True ∧ b_2 = b_2 ∧ True ∧ b_2 = b_2 ∧ True ∧ b_2 = b_2 ∧ b_2 = b_2 ∧ b_2 = b_2 ∧ b_2 = b_2 ∧ b_2 = b_2 ∧ b_2 = b_2 ∧ b_2 = b_2 ∧ b_2 = b_2 ∧ b_2 = b_2 ∧ b_2 = b_2 ∧ b_2 = b_2 ∧ b_2 = b_2 ∧ b_2 = b_2 ∧ b_2 = b_2 ∧ b_2 = b_2 ∧ b_2 = b_2 ∧ b_2 = b_2 ∧ b_2 = b_2 ∧ b_2 =
    b_2 ∧ b_2 = b_2 ∧ b_2 = b_2 ∧ b_2 = b_2 ∧ b_2 = b_2 ∧ b_2 = b_2 ∧ b_2 = b_2 ∧ b_2 = b_2 ∧ b_2 = b_2 ∧ b_2 = b_2 ∧ (43 : Nat) = (43 : Nat) ∧ (1 : Nat) = (1 : Nat) ∧ List.length (Inn.bts (enS s (Ac2.n e))) = List.length (Inn.bts (doC s e)) ∧ cU (Inn.bts (enS s (Ac2.n e))) = cU (Inn.bts (doC s e)) ∧
    (3 : Nat) = (3 : Nat) ∧ (1 : Nat) = (1 : Nat) ∧ List.length (Inn.bws (enS s (Ac2.n e))) = List.length (Inn.bws (doC s e)) ∧ cI (Inn.bws (enS s (Ac2.n e))) = cI (Inn.bws (doC s e)) ∧ (3 : Nat) = (3 : Nat) ∧ (1 : Nat) = (1 : Nat) ∧ List.length (Inn.bfs (enS s (Ac2.n e))) = List.length (Inn.bfs (doC
    s e)) ∧ cI (Inn.bfs (enS s (Ac2.n e))) = cI (Inn.bfs (doC s e)) ∧ (3 : Nat) = (3 : Nat) ∧ (1 : Nat) = (1 : Nat) ∧ List.length (Inn.bwd (enS s (Ac2.n e))) = List.length (Inn.bwd (doC s e)) ∧ cI (Inn.bwd (enS s (Ac2.n e))) = cI (Inn.bwd (doC s e)) ∧ (4 : Nat) = (4 : Nat) ∧ (1 : Nat) = (1 : Nat) ∧
    List.length (Inn.sbs (enS s (Ac2.n e))) = List.length (Inn.sbs (doC s e)) ∧ cB (Inn.sbs (enS s (Ac2.n e))) = cB (Inn.sbs (doC s e)) ∧ Value.tuple (Array.mk [Value.agg (Array.mk [Value.int IntKind.i64 (Inn.sd (enS s (Ac2.n e))), Value.int IntKind.i64 (Inn.tg (enS s (Ac2.n e))), Value.int
    IntKind.i64 (Inn.ov (enS s (Ac2.n e))), Value.int IntKind.i64 (Inn.rn (enS s (Ac2.n e))), Value.int IntKind.i64 (Inn.wk (enS s (Ac2.n e))), Value.int IntKind.i64 (Inn.e1 (enS s (Ac2.n e))), Value.int IntKind.i64 (Inn.e2 (enS s (Ac2.n e))), Value.int IntKind.i64 (Inn.e3 (enS s (Ac2.n e))),
    Value.int IntKind.i64 (Inn.e4 (enS s (Ac2.n e))), Value.int IntKind.i64 (Inn.e5 (enS s (Ac2.n e))), Value.int IntKind.i64 (Inn.cm (enS s (Ac2.n e))), Value.int IntKind.i64 (Inn.io (enS s (Ac2.n e))), Value.int IntKind.i64 (Inn.st (enS s (Ac2.n e))), Value.int IntKind.i64 (Inn.ot (enS s (Ac2.n
    e))), Value.slice a (List.length (Inn.bts (enS s (Ac2.n e)))) cap, Value.int IntKind.i64 (Inn.bw (enS s (Ac2.n e))), Value.slice a_1 (List.length (Inn.bws (enS s (Ac2.n e)))) cap_1, Value.slice a_2 (List.length (Inn.bfs (enS s (Ac2.n e)))) cap_2, Value.bool (Inn.fr (enS s (Ac2.n e))), Value.slice
    a_3 (List.length (Inn.bwd (enS s (Ac2.n e)))) cap_3, Value.bool (Inn.fh (enS s (Ac2.n e))), Value.int IntKind.i64 (Inn.ba (enS s (Ac2.n e))), Value.int IntKind.i64 (Inn.kp (enS s (Ac2.n e))), Value.int IntKind.i64 (Inn.ou (enS s (Ac2.n e))), Value.slice a_4 (List.length (Inn.sbs (enS s (Ac2.n
    e)))) cap_4, Value.int IntKind.i64 (Inn.r1 (enS s (Ac2.n e))), Value.int IntKind.i64 (Inn.r2 (enS s (Ac2.n e))), Value.int IntKind.u8 (Inn.en (enS s (Ac2.n e)))]), Value.int IntKind.i64 (enL s (Ac2.n e))]) = Value.tuple (Array.mk [Value.agg (Array.mk [Value.int IntKind.i64 (Inn.sd (doC s e)),
    Value.int IntKind.i64 (Inn.tg (doC s e)), Value.int IntKind.i64 (Inn.ov (doC s e)), Value.int IntKind.i64 (Inn.rn (doC s e)), Value.int IntKind.i64 (Inn.wk (doC s e)), Value.int IntKind.i64 (Inn.e1 (doC s e)), Value.int IntKind.i64 (Inn.e2 (doC s e)), Value.int IntKind.i64 (Inn.e3 (doC s e)),
    Value.int IntKind.i64 (Inn.e4 (doC s e)), Value.int IntKind.i64 (Inn.e5 (doC s e)), Value.int IntKind.i64 (Inn.cm (doC s e)), Value.int IntKind.i64 (Inn.io (doC s e)), Value.int IntKind.i64 (Inn.st (doC s e)), Value.int IntKind.i64 (Inn.ot (doC s e)), Value.slice a (List.length (Inn.bts (doC s
    e))) cap, Value.int IntKind.i64 (Inn.bw (doC s e)), Value.slice a_1 (List.length (Inn.bws (doC s e))) cap_1, Value.slice a_2 (List.length (Inn.bfs (doC s e))) cap_2, Value.bool (Inn.fr (doC s e)), Value.slice a_3 (List.length (Inn.bwd (doC s e))) cap_3, Value.bool (Inn.fh (doC s e)), Value.int
    IntKind.i64 (Inn.ba (doC s e)), Value.int IntKind.i64 (Inn.kp (doC s e)), Value.int IntKind.i64 (Inn.ou (doC s e)), Value.slice a_4 (List.length (Inn.sbs (doC s e))) cap_4, Value.int IntKind.i64 (Inn.r1 (doC s e)), Value.int IntKind.i64 (Inn.r2 (doC s e)), Value.int IntKind.u8 (Inn.en (doC s
    e))]), Value.int IntKind.i64 (dlC s e)])) ∧ ((Int.tmod (Ac2.k e) (7 : Int) == (4 : Int)) = false → ((Int.tmod (Ac2.k e) (7 : Int) == (5 : Int)) = true → b = b ∧ b = b ∧ b = b ∧ b = b ∧ b = b ∧ b = b ∧ b = b ∧ b = b ∧ b = b ∧ b = b ∧ b = b ∧ b = b ∧ b = b ∧ b = b ∧ b = b ∧ b = b ∧ b = b ∧ b = b ∧
    b = b ∧ b = b ∧ b = b ∧ b = b ∧ b = b ∧ b = b ∧ b = b ∧ b = b ∧ b = b ∧ b = b ∧ b_1 = b_1 ∧ cU (Inn.bts s) = cU (Inn.bts s) ∧ cI (Inn.bws s) = cI (Inn.bws s) ∧ cI (Inn.bfs s) = cI (Inn.bfs s) ∧ cI (Inn.bwd s) = cI (Inn.bwd s) ∧ cB (Inn.sbs s) = cB (Inn.sbs s) ∧ (SpecG Try.prog [] (rdI s A) (30 :
    FuncId) #[inV s A, Value.int IntKind.i64 (Ac2.n e)] (rowI (toS s (Ac2.n e))) fun ads ↦ Value.tuple #[inV (toS s (Ac2.n e)) (adA ads), Value.int IntKind.i64 (enL s (Ac2.n e))]) ∧ (∀ (e : Ex), e ∈ [] → e ∈ []) ∧ ∀ (a : Option Addr) (cap : Nat), AOK a (List.length (Inn.bts (toS s (Ac2.n e)))) → ∀
    (a_1 : Option Addr) (cap_1 : Nat), AOK a_1 (List.length (Inn.bws (toS s (Ac2.n e)))) → ∀ (a_2 : Option Addr) (cap_2 : Nat), AOK a_2 (List.length (Inn.bfs (toS s (Ac2.n e)))) → ∀ (a_3 : Option Addr) (cap_3 : Nat), AOK a_3 (List.length (Inn.bwd (toS s (Ac2.n e)))) → ∀ (a_4 : Option Addr) (cap_4 :
    Nat), AOK a_4 (List.length (Inn.sbs (toS s (Ac2.n e)))) → b_2 = b_2 ∧ True ∧ b_2 = b_2 ∧ True ∧ b_2 = b_2 ∧ True ∧ b_2 = b_2 ∧ True ∧ b_2 = b_2 ∧ True ∧ b_2 = b_2 ∧ True ∧ b_2 = b_2 ∧ True ∧ b_2 = b_2 ∧ True ∧ b_2 = b_2 ∧ True ∧ b_2 = b_2 ∧ True ∧ b_2 = b_2 ∧ True ∧ b_2 = b_2 ∧ True ∧ b_2 = b_2 ∧
    True ∧ b_2 = b_2 ∧ True ∧ b_2 = b_2 ∧ True ∧ b_2 = b_2 ∧ True ∧ b_2 = b_2 ∧ True ∧ b_2 = b_2 ∧ True ∧ b_2 = b_2 ∧ True ∧ b_2 = b_2 ∧ True ∧ b_2 = b_2 ∧ True ∧ b_2 = b_2 ∧ True ∧ b_2 = b_2 ∧ True ∧ b_2 = b_2 ∧ True ∧ b_2 = b_2 ∧ True ∧ b_2 = b_2 ∧ True ∧ b_2 = b_2 ∧ True ∧ b_2 = b_2 ∧ True ∧ b_2 =
    b_2 ∧ b_2 = b_2 ∧ b_2 = b_2 ∧ b_2 = b_2 ∧ b_2 = b_2 ∧ b_2 = b_2 ∧ b_2 = b_2 ∧ b_2 = b_2 ∧ b_2 = b_2 ∧ b_2 = b_2 ∧ b_2 = b_2 ∧ b_2 = b_2 ∧ b_2 = b_2 ∧ b_2 = b_2 ∧ b_2 = b_2 ∧ b_2 = b_2 ∧ b_2 = b_2 ∧ b_2 = b_2 ∧ b_2 = b_2 ∧ b_2 = b_2 ∧ b_2 = b_2 ∧ b_2 = b_2 ∧ b_2 = b_2 ∧ b_2 = b_2 ∧ b_2 = b_2 ∧ b_2
    = b_2 ∧ b_2 = b_2 ∧ b_2 = b_2 ∧ (43 : Nat) = (43 : Nat) ∧ (1 : Nat) = (1 : Nat) ∧ List.length (Inn.bts (toS s (Ac2.n e))) = List.length (Inn.bts (doC s e)) ∧ cU (Inn.bts (toS s (Ac2.n e))) = cU (Inn.bts (doC s e)) ∧ (3 : Nat) = (3 : Nat) ∧ (1 : Nat) = (1 : Nat) ∧ List.length (Inn.bws (toS s
    (Ac2.n e))) = List.length (Inn.bws (doC s e)) ∧ cI (Inn.bws (toS s (Ac2.n e))) = cI (Inn.bws (doC s e)) ∧ (3 : Nat) = (3 : Nat) ∧ (1 : Nat) = (1 : Nat) ∧ List.length (Inn.bfs (toS s (Ac2.n e))) = List.length (Inn.bfs (doC s e)) ∧ cI (Inn.bfs (toS s (Ac2.n e))) = cI (Inn.bfs (doC s e)) ∧ (3 : Nat)
    = (3 : Nat) ∧ (1 : Nat) = (1 : Nat) ∧ List.length (Inn.bwd (toS s (Ac2.n e))) = List.length (Inn.bwd (doC s e)) ∧ cI (Inn.bwd (toS s (Ac2.n e))) = cI (Inn.bwd (doC s e)) ∧ (4 : Nat) = (4 : Nat) ∧ (1 : Nat) = (1 : Nat) ∧ List.length (Inn.sbs (toS s (Ac2.n e))) = List.length (Inn.sbs (doC s e)) ∧
    cB (Inn.sbs (toS s (Ac2.n e))) = cB (Inn.sbs (doC s e)) ∧ Value.tuple (Array.mk [Value.agg (Array.mk [Value.int IntKind.i64 (Inn.sd (toS s (Ac2.n e))), Value.int IntKind.i64 (Inn.tg (toS s (Ac2.n e))), Value.int IntKind.i64 (Inn.ov (toS s (Ac2.n e))), Value.int IntKind.i64 (Inn.rn (toS s (Ac2.n
    e))), Value.int IntKind.i64 (Inn.wk (toS s (Ac2.n e))), Value.int IntKind.i64 (Inn.e1 (toS s (Ac2.n e))), Value.int IntKind.i64 (Inn.e2 (toS s (Ac2.n e))), Value.int IntKind.i64 (Inn.e3 (toS s (Ac2.n e))), Value.int IntKind.i64 (Inn.e4 (toS s (Ac2.n e))), Value.int IntKind.i64 (Inn.e5 (toS s
    (Ac2.n e))), Value.int IntKind.i64 (Inn.cm (toS s (Ac2.n e))), Value.int IntKind.i64 (Inn.io (toS s (Ac2.n e))), Value.int IntKind.i64 (Inn.st (toS s (Ac2.n e))), Value.int IntKind.i64 (Inn.ot (toS s (Ac2.n e))), Value.slice a (List.length (Inn.bts (toS s (Ac2.n e)))) cap, Value.int IntKind.i64
    (Inn.bw (toS s (Ac2.n e))), Value.slice a_1 (List.length (Inn.bws (toS s (Ac2.n e)))) cap_1, Value.slice a_2 (List.length (Inn.bfs (toS s (Ac2.n e)))) cap_2, Value.bool (Inn.fr (toS s (Ac2.n e))), Value.slice a_3 (List.length (Inn.bwd (toS s (Ac2.n e)))) cap_3, Value.bool (Inn.fh (toS s (Ac2.n
    e))), Value.int IntKind.i64 (Inn.ba (toS s (Ac2.n e))), Value.int IntKind.i64 (Inn.kp (toS s (Ac2.n e))), Value.int IntKind.i64 (Inn.ou (toS s (Ac2.n e))), Value.slice a_4 (List.length (Inn.sbs (toS s (Ac2.n e)))) cap_4, Value.int IntKind.i64 (Inn.r1 (toS s (Ac2.n e))), Value.int IntKind.i64
    (Inn.r2 (toS s (Ac2.n e))), Value.int IntKind.u8 (Inn.en (toS s (Ac2.n e)))]), Value.int IntKind.i64 (enL s (Ac2.n e))]) = Value.tuple (Array.mk [Value.agg (Array.mk [Value.int IntKind.i64 (Inn.sd (doC s e)), Value.int IntKind.i64 (Inn.tg (doC s e)), Value.int IntKind.i64 (Inn.ov (doC s e)),
    Value.int IntKind.i64 (Inn.rn (doC s e)), Value.int IntKind.i64 (Inn.wk (doC s e)), Value.int IntKind.i64 (Inn.e1 (doC s e)), Value.int IntKind.i64 (Inn.e2 (doC s e)), Value.int IntKind.i64 (Inn.e3 (doC s e)), Value.int IntKind.i64 (Inn.e4 (doC s e)), Value.int IntKind.i64 (Inn.e5 (doC s e)),
    Value.int IntKind.i64 (Inn.cm (doC s e)), Value.int IntKind.i64 (Inn.io (doC s e)), Value.int IntKind.i64 (Inn.st (doC s e)), Value.int IntKind.i64 (Inn.ot (doC s e)), Value.slice a (List.length (Inn.bts (doC s e))) cap, Value.int IntKind.i64 (Inn.bw (doC s e)), Value.slice a_1 (List.length
    (Inn.bws (doC s e))) cap_1, Value.slice a_2 (List.length (Inn.bfs (doC s e))) cap_2, Value.bool (Inn.fr (doC s e)), Value.slice a_3 (List.length (Inn.bwd (doC s e))) cap_3, Value.bool (Inn.fh (doC s e)), Value.int IntKind.i64 (Inn.ba (doC s e)), Value.int IntKind.i64 (Inn.kp (doC s e)), Value.int
    IntKind.i64 (Inn.ou (doC s e)), Value.slice a_4 (List.length (Inn.sbs (doC s e))) cap_4, Value.int IntKind.i64 (Inn.r1 (doC s e)), Value.int IntKind.i64 (Inn.r2 (doC s e)), Value.int IntKind.u8 (Inn.en (doC s e))]), Value.int IntKind.i64 (dlC s e)])) ∧ ((Int.tmod (Ac2.k e) (7 : Int) == (5 : Int))
    = false → b = b ∧ b = b ∧ b = b ∧ b = b ∧ b = b ∧ b = b ∧ b = b ∧ b = b ∧ b = b ∧ b = b ∧ b = b ∧ b = b ∧ b = b ∧ b = b ∧ b = b ∧ b = b ∧ b = b ∧ b = b ∧ b = b ∧ b = b ∧ b = b ∧ b = b ∧ b = b ∧ b = b ∧ b = b ∧ b = b ∧ b = b ∧ b = b ∧ b_1 = b_1 ∧ b_1 = b_1 ∧ cU (Inn.bts s) = cU (Inn.bts s) ∧ cI
    (Inn.bws s) = cI (Inn.bws s) ∧ cI (Inn.bfs s) = cI (Inn.bfs s) ∧ cI (Inn.bwd s) = cI (Inn.bwd s) ∧ cB (Inn.sbs s) = cB (Inn.sbs s) ∧ (SpecG Try.prog [] (rdI s A) (31 : FuncId) #[inV s A, Value.int IntKind.i64 (Ac2.n e), Value.bool (Ac2.o e)] (rowI (reS s (Ac2.n e) (Ac2.o e))) fun ads ↦
    Value.tuple #[inV (reS s (Ac2.n e) (Ac2.o e)) (adA ads), Value.int IntKind.i64 (reL s (Ac2.n e) (Ac2.o e))]) ∧ (∀ (e : Ex), e ∈ [] → e ∈ []) ∧ ∀ (a : Option Addr) (cap : Nat), AOK a (List.length (Inn.bts (reS s (Ac2.n e) (Ac2.o e)))) → ∀ (a_1 : Option Addr) (cap_1 : Nat), AOK a_1 (List.length
    (Inn.bws (reS s (Ac2.n e) (Ac2.o e)))) → ∀ (a_2 : Option Addr) (cap_2 : Nat), AOK a_2 (List.length (Inn.bfs (reS s (Ac2.n e) (Ac2.o e)))) → ∀ (a_3 : Option Addr) (cap_3 : Nat), AOK a_3 (List.length (Inn.bwd (reS s (Ac2.n e) (Ac2.o e)))) → ∀ (a_4 : Option Addr) (cap_4 : Nat), AOK a_4 (List.length
    (Inn.sbs (reS s (Ac2.n e) (Ac2.o e)))) → b_2 = b_2 ∧ True ∧ b_2 = b_2 ∧ True ∧ b_2 = b_2 ∧ True ∧ b_2 = b_2 ∧ True ∧ b_2 = b_2 ∧ True ∧ b_2 = b_2 ∧ True ∧ b_2 = b_2 ∧ True ∧ b_2 = b_2 ∧ True ∧ b_2 = b_2 ∧ True ∧ b_2 = b_2 ∧ True ∧ b_2 = b_2 ∧ True ∧ b_2 = b_2 ∧ True ∧ b_2 = b_2 ∧ True ∧ b_2 = b_2
    ∧ True ∧ b_2 = b_2 ∧ True ∧ b_2 = b_2 ∧ True ∧ b_2 = b_2 ∧ True ∧ b_2 = b_2 ∧ True ∧ b_2 = b_2 ∧ True ∧ b_2 = b_2 ∧ True ∧ b_2 = b_2 ∧ True ∧ b_2 = b_2 ∧ True ∧ b_2 = b_2 ∧ True ∧ b_2 = b_2 ∧ True ∧ b_2 = b_2 ∧ True ∧ b_2 = b_2 ∧ True ∧ b_2 = b_2 ∧ True ∧ b_2 = b_2 ∧ True ∧ b_2 = b_2 ∧ b_2 = b_2
    ∧ b_2 = b_2 ∧ b_2 = b_2 ∧ b_2 = b_2 ∧ b_2 = b_2 ∧ b_2 = b_2 ∧ b_2 = b_2 ∧ b_2 = b_2 ∧ b_2 = b_2 ∧ b_2 = b_2 ∧ b_2 = b_2 ∧ b_2 = b_2 ∧ b_2 = b_2 ∧ b_2 = b_2 ∧ b_2 = b_2 ∧ b_2 = b_2 ∧ b_2 = b_2 ∧ b_2 = b_2 ∧ b_2 = b_2 ∧ b_2 = b_2 ∧ b_2 = b_2 ∧ b_2 = b_2 ∧ b_2 = b_2 ∧ b_2 = b_2 ∧ b_2 = b_2 ∧ b_2 =
    b_2 ∧ b_2 = b_2 ∧ (43 : Nat) = (43 : Nat) ∧ (1 : Nat) = (1 : Nat) ∧ List.length (Inn.bts (reS s (Ac2.n e) (Ac2.o e))) = List.length (Inn.bts (doC s e)) ∧ cU (Inn.bts (reS s (Ac2.n e) (Ac2.o e))) = cU (Inn.bts (doC s e)) ∧ (3 : Nat) = (3 : Nat) ∧ (1 : Nat) = (1 : Nat) ∧ List.length (Inn.bws (reS s
    (Ac2.n e) (Ac2.o e))) = List.length (Inn.bws (doC s e)) ∧ cI (Inn.bws (reS s (Ac2.n e) (Ac2.o e))) = cI (Inn.bws (doC s e)) ∧ (3 : Nat) = (3 : Nat) ∧ (1 : Nat) = (1 : Nat) ∧ List.length (Inn.bfs (reS s (Ac2.n e) (Ac2.o e))) = List.length (Inn.bfs (doC s e)) ∧ cI (Inn.bfs (reS s (Ac2.n e) (Ac2.o
    e))) = cI (Inn.bfs (doC s e)) ∧ (3 : Nat) = (3 : Nat) ∧ (1 : Nat) = (1 : Nat) ∧ List.length (Inn.bwd (reS s (Ac2.n e) (Ac2.o e))) = List.length (Inn.bwd (doC s e)) ∧ cI (Inn.bwd (reS s (Ac2.n e) (Ac2.o e))) = cI (Inn.bwd (doC s e)) ∧ (4 : Nat) = (4 : Nat) ∧ (1 : Nat) = (1 : Nat) ∧ List.length
    (Inn.sbs (reS s (Ac2.n e) (Ac2.o e))) = List.length (Inn.sbs (doC s e)) ∧ cB (Inn.sbs (reS s (Ac2.n e) (Ac2.o e))) = cB (Inn.sbs (doC s e)) ∧ Value.tuple (Array.mk [Value.agg (Array.mk [Value.int IntKind.i64 (Inn.sd (reS s (Ac2.n e) (Ac2.o e))), Value.int IntKind.i64 (Inn.tg (reS s (Ac2.n e)
    (Ac2.o e))), Value.int IntKind.i64 (Inn.ov (reS s (Ac2.n e) (Ac2.o e))), Value.int IntKind.i64 (Inn.rn (reS s (Ac2.n e) (Ac2.o e))), Value.int IntKind.i64 (Inn.wk (reS s (Ac2.n e) (Ac2.o e))), Value.int IntKind.i64 (Inn.e1 (reS s (Ac2.n e) (Ac2.o e))), Value.int IntKind.i64 (Inn.e2 (reS s (Ac2.n
    e) (Ac2.o e))), Value.int IntKind.i64 (Inn.e3 (reS s (Ac2.n e) (Ac2.o e))), Value.int IntKind.i64 (Inn.e4 (reS s (Ac2.n e) (Ac2.o e))), Value.int IntKind.i64 (Inn.e5 (reS s (Ac2.n e) (Ac2.o e))), Value.int IntKind.i64 (Inn.cm (reS s (Ac2.n e) (Ac2.o e))), Value.int IntKind.i64 (Inn.io (reS s
    (Ac2.n e) (Ac2.o e))), Value.int IntKind.i64 (Inn.st (reS s (Ac2.n e) (Ac2.o e))), Value.int IntKind.i64 (Inn.ot (reS s (Ac2.n e) (Ac2.o e))), Value.slice a (List.length (Inn.bts (reS s (Ac2.n e) (Ac2.o e)))) cap, Value.int IntKind.i64 (Inn.bw (reS s (Ac2.n e) (Ac2.o e))), Value.slice a_1
    (List.length (Inn.bws (reS s (Ac2.n e) (Ac2.o e)))) cap_1, Value.slice a_2 (List.length (Inn.bfs (reS s (Ac2.n e) (Ac2.o e)))) cap_2, Value.bool (Inn.fr (reS s (Ac2.n e) (Ac2.o e))), Value.slice a_3 (List.length (Inn.bwd (reS s (Ac2.n e) (Ac2.o e)))) cap_3, Value.bool (Inn.fh (reS s (Ac2.n e)
    (Ac2.o e))), Value.int IntKind.i64 (Inn.ba (reS s (Ac2.n e) (Ac2.o e))), Value.int IntKind.i64 (Inn.kp (reS s (Ac2.n e) (Ac2.o e))), Value.int IntKind.i64 (Inn.ou (reS s (Ac2.n e) (Ac2.o e))), Value.slice a_4 (List.length (Inn.sbs (reS s (Ac2.n e) (Ac2.o e)))) cap_4, Value.int IntKind.i64 (Inn.r1
    (reS s (Ac2.n e) (Ac2.o e))), Value.int IntKind.i64 (Inn.r2 (reS s (Ac2.n e) (Ac2.o e))), Value.int IntKind.u8 (Inn.en (reS s (Ac2.n e) (Ac2.o e)))]), Value.int IntKind.i64 (reL s (Ac2.n e) (Ac2.o e))]) = Value.tuple (Array.mk [Value.agg (Array.mk [Value.int IntKind.i64 (Inn.sd (doC s e)),
    Value.int IntKind.i64 (Inn.tg (doC s e)), Value.int IntKind.i64 (Inn.ov (doC s e)), Value.int IntKind.i64 (Inn.rn (doC s e)), Value.int IntKind.i64 (Inn.wk (doC s e)), Value.int IntKind.i64 (Inn.e1 (doC s e)), Value.int IntKind.i64 (Inn.e2 (doC s e)), Value.int IntKind.i64 (Inn.e3 (doC s e)),
    Value.int IntKind.i64 (Inn.e4 (doC s e)), Value.int IntKind.i64 (Inn.e5 (doC s e)), Value.int IntKind.i64 (Inn.cm (doC s e)), Value.int IntKind.i64 (Inn.io (doC s e)), Value.int IntKind.i64 (Inn.st (doC s e)), Value.int IntKind.i64 (Inn.ot (doC s e)), Value.slice a (List.length (Inn.bts (doC s
    e))) cap, Value.int IntKind.i64 (Inn.bw (doC s e)), Value.slice a_1 (List.length (Inn.bws (doC s e))) cap_1, Value.slice a_2 (List.length (Inn.bfs (doC s e))) cap_2, Value.bool (Inn.fr (doC s e)), Value.slice a_3 (List.length (Inn.bwd (doC s e))) cap_3, Value.bool (Inn.fh (doC s e)), Value.int
    IntKind.i64 (Inn.ba (doC s e)), Value.int IntKind.i64 (Inn.kp (doC s e)), Value.int IntKind.i64 (Inn.ou (doC s e)), Value.slice a_4 (List.length (Inn.sbs (doC s e))) cap_4, Value.int IntKind.i64 (Inn.r1 (doC s e)), Value.int IntKind.i64 (Inn.r2 (doC s e)), Value.int IntKind.u8 (Inn.en (doC s
    e))]), Value.int IntKind.i64 (dlC s e)]))))))) := by kernel_rfl
set_option maxHeartbeats 4000000 in
theorem doc_sp (s : Inn) (A : Adr) (e : Ac2) (hA : OkI s A) (hk : 0 ≤ e.k ∧ e.k ≤ 255) : SpecG Try.prog [] (rdI s A) 8 #[inV s A, acV e] (rowI (doC s e)) (fun ads => .tuple #[inV (doC s e) (adA ads), .int .i64 (dlC s e)]) := by
  refine specG_of (h := doc_h s A e) (?_ : wpG Try.prog [] (rdI s A) 400 8 [inV s A, acV e] (doc_h s A e) (rowI (doC s e)) (fun ads => .tuple #[inV (doC s e) (adA ads), .int .i64 (dlC s e)]))
  rw [doc_x]
  (try simp only [m7 hk])
  (repeat' (first | with_reducible exact rfl | exact trivial | with_reducible assumption | exact op_sp _ _ _ _ hA | exact rn_sp _ _ _ _ _ _ _ _ _ _ _ _ _ _ hA | exact ch_sp _ _ hA | exact en_sp _ _ _ hA | exact to_sp _ _ _ hA | exact re_sp _ _ _ _ hA | exact cU_len _ | exact cI_len _ | exact cB_len _ | exact cU_one _ | exact cI_one _ | exact cB_one _ | exact (fun _ h => h) | exact (fun _ h => (List.not_mem_nil h).elim) | (with_reducible apply And.intro) | (with_reducible intro _)))
  all_goals (try simp only [m7 hk, beq_iff_eq, beq_eq_false_iff_ne, ne_eq] at *)
  all_goals first
    | (simp only [doC, dlC, *, if_true, if_false, true_or, or_true, or_self]; done)
    | (simp_all [doC, dlC, chS]; done)
    | trace_state

def huI (s : Inn) (x : Nat) : Prop := x ≤ s.bts.length
@[reducible] def huR (s : Inn) : LoopR := ⟨Nat, fun i => [(9, .int .i64 i), (3, .int .i64 (ctS s.bts 3 i : Nat))], [], fun _ => [], huI s, fun i => s.bts.length - i, []⟩


theorem hu_st {s : Inn} {A : Adr} (hA : OkI s A) {i : Nat} (hi : i < s.bts.length) : Value.int .i64 (bif s.bts.getD i 0 == 3 then IntKind.i64.wrap ((ctS s.bts 3 i : Nat) + 1) else (ctS s.bts 3 i : Nat)) = Value.int .i64 (ctS s.bts 3 (i + 1) : Nat) := by
  have h1 := ctS_le s.bts 3 i
  have := hA.l1
  rw [IntWalk.i64_in _ (by omega)]
  simp only [ctS]
  by_cases c : s.bts.getD i 0 = 3
  · rw [c]; rfl
  · rw [beq_eq_false_iff_ne.2 c, if_neg c]; rfl
theorem hu_i {s : Inn} {x : Nat} (h : huI s x) : x ≤ s.bts.length := h

def hurt_h (s : Inn) (A : Adr) : Hint := Hint.ob (5 : Nat) (Hint.pl (Hint.inv (huR s) fun x0 ↦ Hint.split (Hint.ix (Hint.lst (0 : Nat) (x0 * (1 : Nat)) (Value.int IntKind.u8 (List.getD (Inn.bts s) x0 (0 : Int))) (Hint.pl (Hint.cut [((3 : Nat), Value.int IntKind.i64 (bif List.getD (Inn.bts s) x0 (0 : Int) == (3 : Int) then IntKind.wrap
    IntKind.i64 ((↑(ctS (Inn.bts s) (3 : Int) x0) : Int) + (1 : Int)) else (↑(ctS (Inn.bts s) (3 : Int) x0) : Int)))] (Hint.split Hint.nil Hint.nil) (Hint.perm [] Hint.nil))))) (Hint.perm [] Hint.nil)))
theorem hurt_x (s : Inn) (A : Adr) : wpG Try.prog [] (rdI s A) 400 12 [inV s A] (hurt_h s A) ([]) (fun _ => .int .i64 (ctS s.bts 3 s.bts.length : Nat)) = (∀ (b : Nat), b = b ∧ (∃ x, huI s x ∧ Value.int IntKind.i64 (0 : Int) = Value.int IntKind.i64 (↑x : Int) ∧ Value.int IntKind.i64 (0 : Int) = Value.int IntKind.i64 (↑(ctS (Inn.bts s) (3 : Int) x) : Int) ∧ True) ∧ ∀ (x0 : Nat), huI s x0 → ∀ (junk : Nat → Value), (decide ((↑x0 : Int) < (↑(List.length
    (Inn.bts s)) : Int)) = true → (((0 : Int) ≤ (↑x0 : Int) ∧ (↑x0 : Int) < (↑(List.length (Inn.bts s)) : Int)) ∧ AOK (Adr.a1 A) (List.length (Inn.bts s))) ∧ bk (Adr.a1 A) = bk (Adr.a1 A) ∧ ofs (Adr.a1 A) + x0 * (1 : Nat) = ofs (Adr.a1 A) + x0 * (1 : Nat) ∧ lgo (cU (Inn.bts s)) (x0 * (1 : Nat)) =
    some (Value.int IntKind.u8 (List.getD (Inn.bts s) x0 (0 : Int))) ∧ (((List.getD (Inn.bts s) x0 (0 : Int) == (3 : Int)) = true → Value.int IntKind.i64 (IntKind.wrap IntKind.i64 ((↑(ctS (Inn.bts s) (3 : Int) x0) : Int) + (1 : Int))) = Value.int IntKind.i64 (bif List.getD (Inn.bts s) x0 (0 : Int) ==
    (3 : Int) then IntKind.wrap IntKind.i64 ((↑(ctS (Inn.bts s) (3 : Int) x0) : Int) + (1 : Int)) else (↑(ctS (Inn.bts s) (3 : Int) x0) : Int)) ∧ True) ∧ ((List.getD (Inn.bts s) x0 (0 : Int) == (3 : Int)) = false → Value.int IntKind.i64 (↑(ctS (Inn.bts s) (3 : Int) x0) : Int) = Value.int IntKind.i64
    (bif List.getD (Inn.bts s) x0 (0 : Int) == (3 : Int) then IntKind.wrap IntKind.i64 ((↑(ctS (Inn.bts s) (3 : Int) x0) : Int) + (1 : Int)) else (↑(ctS (Inn.bts s) (3 : Int) x0) : Int)) ∧ True)) ∧ ∀ (junk : Nat → Value), ∃ y, huI s y ∧ List.length (Inn.bts s) - y < List.length (Inn.bts s) - x0 ∧
    Value.int IntKind.i64 (IntKind.wrap IntKind.i64 ((↑x0 : Int) + (1 : Int))) = Value.int IntKind.i64 (↑y : Int) ∧ Value.int IntKind.i64 (bif List.getD (Inn.bts s) x0 (0 : Int) == (3 : Int) then IntKind.wrap IntKind.i64 ((↑(ctS (Inn.bts s) (3 : Int) x0) : Int) + (1 : Int)) else (↑(ctS (Inn.bts s) (3
    : Int) x0) : Int)) = Value.int IntKind.i64 (↑(ctS (Inn.bts s) (3 : Int) y) : Int) ∧ True) ∧ (decide ((↑x0 : Int) < (↑(List.length (Inn.bts s)) : Int)) = false → Value.int IntKind.i64 (↑(ctS (Inn.bts s) (3 : Int) x0) : Int) = Value.int IntKind.i64 (↑(ctS (Inn.bts s) (3 : Int) (List.length (Inn.bts
    s))) : Int))) := by kernel_rfl
set_option maxHeartbeats 4000000 in
theorem hurt_sp (s : Inn) (A : Adr) (hA : OkI s A) : SpecG Try.prog [] (rdI s A) 12 #[inV s A] ([]) (fun _ => .int .i64 (ctS s.bts 3 s.bts.length : Nat)) := by
  refine specG_of (h := hurt_h s A) (?_ : wpG Try.prog [] (rdI s A) 400 12 [inV s A] (hurt_h s A) ([]) (fun _ => .int .i64 (ctS s.bts 3 s.bts.length : Nat)))
  rw [hurt_x]
  (repeat' (first | with_reducible exact rfl | exact trivial | with_reducible assumption | exact cU_len _ | exact cI_len _ | exact cB_len _ | exact cU_one _ | exact cI_one _ | exact cB_one _ | exact (fun _ h => h) | exact (fun _ h => (List.not_mem_nil h).elim) | (with_reducible apply And.intro) | (with_reducible intro _)))
  all_goals (try simp only [Int.toNat_natCast, decide_eq_true_eq, decide_eq_false_iff_not, beq_iff_eq, beq_eq_false_iff_ne] at *)
  all_goals first
    | exact ⟨0, Nat.zero_le _, rfl, rfl, trivial⟩
    | exact hA.k1
    | omega
    | (refine cU_get ?_; omega)
    | (have hn := ‹List.getD s.bts _ 0 = 3›; rw [hn]; rfl)
    | (have hn := ‹List.getD s.bts _ 0 ≠ 3›; rw [beq_eq_false_iff_ne.2 hn]; rfl)
    | (have hx := hu_i ‹huI s _›; have := hA.l1; exact ⟨_ + 1, (show _ + 1 ≤ _ by omega), (by show _ - (_ + 1) < _; omega), (by rw [IntWalk.i64_in _ (by omega)]; rfl), hu_st hA (by omega), trivial⟩)
    | (have hx := hu_i ‹huI s _›; have e := (by omega : ‹Nat› = s.bts.length); subst e; rfl)
    | trace_state
def awc_h  : Hint := Hint.inl (Hint.pl (Hint.ob (0 : Nat) (Hint.ob (0 : Nat) (Hint.ob (0 : Nat) (Hint.ob (0 : Nat) (Hint.ob (0 : Nat) (Hint.ob (0 : Nat) (Hint.ob (0 : Nat) (Hint.ob (0 : Nat) (Hint.ob (0 : Nat) (Hint.ob (0 : Nat) (Hint.ob (0 : Nat) (Hint.ob (0 : Nat) (Hint.ob (0 : Nat) (Hint.ob (0 : Nat) (Hint.ob (0 :
    Nat) (Hint.ob (0 : Nat) (Hint.ob (0 : Nat) (Hint.ob (0 : Nat) (Hint.ob (0 : Nat) (Hint.ob (0 : Nat) (Hint.ob (0 : Nat) (Hint.ob (0 : Nat) (Hint.ob (0 : Nat) (Hint.ob (0 : Nat) (Hint.ob (0 : Nat) (Hint.ob (0 : Nat) (Hint.ob (0 : Nat) (Hint.ob (0 : Nat) (Hint.ob (0 : Nat) (Hint.ob (0 : Nat)
    (Hint.ob (0 : Nat) (Hint.ob (0 : Nat) (Hint.ob (0 : Nat) (Hint.ob (0 : Nat) (Hint.ob (0 : Nat) (Hint.ob (0 : Nat) (Hint.ob (0 : Nat) (Hint.ob (0 : Nat) (Hint.ob (0 : Nat) (Hint.ob (0 : Nat) (Hint.ob (0 : Nat) (Hint.ob (0 : Nat) (Hint.ob (0 : Nat) (Hint.ob (0 : Nat) (Hint.ob (0 : Nat) (Hint.ob (0
    : Nat) (Hint.ob (0 : Nat) (Hint.ob (0 : Nat) (Hint.ob (0 : Nat) (Hint.ob (0 : Nat) (Hint.ob (0 : Nat) (Hint.ob (0 : Nat) (Hint.ob (0 : Nat) (Hint.ob (0 : Nat) (Hint.ob (0 : Nat) (Hint.ob (0 : Nat) (Hint.specg [] [(1 : Nat), (1001 : Nat), (1002 : Nat), (1003 : Nat), (1004 : Nat)] [cU [(0 : Int),
    (0 : Int), (0 : Int), (0 : Int)], cI [], cI [], cI [], cB []] (rowI (opS (Inn.mk (0 : Int) (0 : Int) (0 : Int) (0 : Int) (0 : Int) (0 : Int) (0 : Int) (0 : Int) (0 : Int) (0 : Int) (0 : Int) (0 : Int) (0 : Int) (0 : Int) [(0 : Int), (0 : Int), (0 : Int), (0 : Int)] (0 : Int) [] [] false [] false
    (0 : Int) (0 : Int) (0 : Int) [] (0 : Int) (0 : Int) (0 : Int)) (1 : Int) (2 : Int))) (fun ads0 ads ↦ Value.tuple #[inV (opS (Inn.mk (0 : Int) (0 : Int) (0 : Int) (0 : Int) (0 : Int) (0 : Int) (0 : Int) (0 : Int) (0 : Int) (0 : Int) (0 : Int) (0 : Int) (0 : Int) (0 : Int) [(0 : Int), (0 : Int),
    (0 : Int), (0 : Int)] (0 : Int) [] [] false [] false (0 : Int) (0 : Int) (0 : Int) [] (0 : Int) (0 : Int) (0 : Int)) (1 : Int) (2 : Int)) (adA ads), Value.int IntKind.i64 (opL (Inn.mk (0 : Int) (0 : Int) (0 : Int) (0 : Int) (0 : Int) (0 : Int) (0 : Int) (0 : Int) (0 : Int) (0 : Int) (0 : Int) (0
    : Int) (0 : Int) (0 : Int) [(0 : Int), (0 : Int), (0 : Int), (0 : Int)] (0 : Int) [] [] false [] false (0 : Int) (0 : Int) (0 : Int) [] (0 : Int) (0 : Int) (0 : Int)) (1 : Int) (2 : Int))]) (Hint.ob (7 : Nat) (Hint.ob (7 : Nat) (Hint.ob (7 : Nat) (Hint.ob (7 : Nat) (Hint.ob (7 : Nat) (Hint.ob (7
    : Nat) (Hint.ob (7 : Nat) (Hint.ob (7 : Nat) (Hint.ob (7 : Nat) (Hint.ob (7 : Nat) (Hint.ob (7 : Nat) (Hint.ob (7 : Nat) (Hint.ob (7 : Nat) (Hint.ob (7 : Nat) (Hint.ob (7 : Nat) (Hint.ob (7 : Nat) (Hint.ob (7 : Nat) (Hint.ob (7 : Nat) (Hint.ob (7 : Nat) (Hint.ob (7 : Nat) (Hint.ob (7 : Nat)
    (Hint.ob (7 : Nat) (Hint.ob (7 : Nat) (Hint.ob (7 : Nat) (Hint.ob (7 : Nat) (Hint.ob (7 : Nat) (Hint.ob (7 : Nat) (Hint.ob (7 : Nat) (Hint.ob (7 : Nat) (Hint.ob (7 : Nat) (Hint.ob (7 : Nat) (Hint.ob (7 : Nat) (Hint.ob (7 : Nat) (Hint.ob (7 : Nat) (Hint.ob (7 : Nat) (Hint.ob (7 : Nat) (Hint.ob (7
    : Nat) (Hint.ob (7 : Nat) (Hint.ob (7 : Nat) (Hint.ob (7 : Nat) (Hint.ob (7 : Nat) (Hint.ob (7 : Nat) (Hint.ob (7 : Nat) (Hint.ob (7 : Nat) (Hint.ob (7 : Nat) (Hint.ob (7 : Nat) (Hint.ob (7 : Nat) (Hint.ob (7 : Nat) (Hint.ob (7 : Nat) (Hint.ob (7 : Nat) (Hint.ob (7 : Nat) (Hint.ob (7 : Nat)
    (Hint.ob (7 : Nat) (Hint.ob (7 : Nat) (Hint.ob (7 : Nat) (Hint.ob (7 : Nat) (Hint.specg [] [(2 : Nat), (3 : Nat), (4 : Nat), (5 : Nat), (6 : Nat)] [cU [(1 : Int), (1 : Int), (0 : Int), (0 : Int)], cI [], cI [], cI [], cB []] (rowI (rnS (Inn.mk (0 : Int) (0 : Int) (0 : Int) (0 : Int) (0 : Int) (0
    : Int) (0 : Int) (0 : Int) (0 : Int) (0 : Int) (0 : Int) (0 : Int) (1 : Int) (2 : Int) [(1 : Int), (1 : Int), (0 : Int), (0 : Int)] (0 : Int) [] [] false [] false (0 : Int) (0 : Int) (0 : Int) [] (0 : Int) (0 : Int) (0 : Int)) (1 : Int) false (0 : Int) (0 : Int))) (fun ads0 ads ↦ inV (rnS (Inn.mk
    (0 : Int) (0 : Int) (0 : Int) (0 : Int) (0 : Int) (0 : Int) (0 : Int) (0 : Int) (0 : Int) (0 : Int) (0 : Int) (0 : Int) (1 : Int) (2 : Int) [(1 : Int), (1 : Int), (0 : Int), (0 : Int)] (0 : Int) [] [] false [] false (0 : Int) (0 : Int) (0 : Int) [] (0 : Int) (0 : Int) (0 : Int)) (1 : Int) false
    (0 : Int) (0 : Int)) (adA ads)) (Hint.ob (13 : Nat) (Hint.ob (13 : Nat) (Hint.ob (13 : Nat) (Hint.ob (13 : Nat) (Hint.ob (13 : Nat) (Hint.ob (13 : Nat) (Hint.ob (13 : Nat) (Hint.ob (13 : Nat) (Hint.ob (13 : Nat) (Hint.ob (13 : Nat) (Hint.ob (13 : Nat) (Hint.ob (13 : Nat) (Hint.ob (13 : Nat)
    (Hint.ob (13 : Nat) (Hint.ob (13 : Nat) (Hint.ob (13 : Nat) (Hint.ob (13 : Nat) (Hint.ob (13 : Nat) (Hint.ob (13 : Nat) (Hint.ob (13 : Nat) (Hint.ob (13 : Nat) (Hint.ob (13 : Nat) (Hint.ob (13 : Nat) (Hint.ob (13 : Nat) (Hint.ob (13 : Nat) (Hint.ob (13 : Nat) (Hint.ob (13 : Nat) (Hint.ob (13 :
    Nat) (Hint.ob (7 : Nat) (Hint.ob (7 : Nat) (Hint.ob (7 : Nat) (Hint.ob (7 : Nat) (Hint.ob (7 : Nat) (Hint.ob (7 : Nat) (Hint.ob (7 : Nat) (Hint.ob (7 : Nat) (Hint.ob (7 : Nat) (Hint.ob (7 : Nat) (Hint.ob (7 : Nat) (Hint.ob (7 : Nat) (Hint.ob (7 : Nat) (Hint.ob (7 : Nat) (Hint.ob (7 : Nat)
    (Hint.ob (7 : Nat) (Hint.ob (7 : Nat) (Hint.ob (7 : Nat) (Hint.ob (7 : Nat) (Hint.ob (7 : Nat) (Hint.ob (7 : Nat) (Hint.ob (7 : Nat) (Hint.ob (7 : Nat) (Hint.ob (7 : Nat) (Hint.ob (7 : Nat) (Hint.ob (7 : Nat) (Hint.ob (7 : Nat) (Hint.ob (7 : Nat) (Hint.specg [] [(2 : Nat), (3 : Nat), (4 : Nat),
    (5 : Nat), (6 : Nat)] [cU [(1 : Int), (1 : Int), (0 : Int), (0 : Int)], cI [], cI [], cI [], cB []] (rowI (rnS (Inn.mk (0 : Int) (0 : Int) (0 : Int) (0 : Int) (0 : Int) (0 : Int) (0 : Int) (0 : Int) (0 : Int) (0 : Int) (0 : Int) (0 : Int) (1 : Int) (2 : Int) [(1 : Int), (1 : Int), (0 : Int), (0 :
    Int)] (0 : Int) [] [] false [] false (0 : Int) (0 : Int) (0 : Int) [] (0 : Int) (0 : Int) (0 : Int)) (1 : Int) true (6 : Int) (1 : Int))) (fun ads0 ads ↦ inV (rnS (Inn.mk (0 : Int) (0 : Int) (0 : Int) (0 : Int) (0 : Int) (0 : Int) (0 : Int) (0 : Int) (0 : Int) (0 : Int) (0 : Int) (0 : Int) (1 :
    Int) (2 : Int) [(1 : Int), (1 : Int), (0 : Int), (0 : Int)] (0 : Int) [] [] false [] false (0 : Int) (0 : Int) (0 : Int) [] (0 : Int) (0 : Int) (0 : Int)) (1 : Int) true (6 : Int) (1 : Int)) (adA ads)) (Hint.ob (19 : Nat) (Hint.ob (19 : Nat) (Hint.ob (19 : Nat) (Hint.ob (19 : Nat) (Hint.ob (19 :
    Nat) (Hint.ob (19 : Nat) (Hint.ob (19 : Nat) (Hint.ob (19 : Nat) (Hint.ob (19 : Nat) (Hint.ob (19 : Nat) (Hint.ob (19 : Nat) (Hint.ob (19 : Nat) (Hint.ob (19 : Nat) (Hint.ob (19 : Nat) (Hint.ob (19 : Nat) (Hint.ob (19 : Nat) (Hint.ob (19 : Nat) (Hint.ob (19 : Nat) (Hint.ob (19 : Nat) (Hint.ob (19
    : Nat) (Hint.ob (19 : Nat) (Hint.ob (19 : Nat) (Hint.ob (19 : Nat) (Hint.ob (19 : Nat) (Hint.ob (19 : Nat) (Hint.ob (19 : Nat) (Hint.ob (19 : Nat) (Hint.ob (19 : Nat) (Hint.ob (19 : Nat) (Hint.ob (19 : Nat) (Hint.ob (19 : Nat) (Hint.ob (19 : Nat) (Hint.ob (19 : Nat) (Hint.ob (19 : Nat) (Hint.ob
    (19 : Nat) (Hint.ob (19 : Nat) (Hint.ob (19 : Nat) (Hint.ob (19 : Nat) (Hint.ob (19 : Nat) (Hint.ob (19 : Nat) (Hint.ob (19 : Nat) (Hint.ob (19 : Nat) (Hint.ob (19 : Nat) (Hint.ob (19 : Nat) (Hint.ob (19 : Nat) (Hint.ob (19 : Nat) (Hint.ob (19 : Nat) (Hint.ob (19 : Nat) (Hint.ob (19 : Nat)
    (Hint.ob (19 : Nat) (Hint.ob (19 : Nat) (Hint.ob (19 : Nat) (Hint.ob (19 : Nat) (Hint.ob (19 : Nat) (Hint.ob (19 : Nat) (Hint.ob (19 : Nat) (Hint.specg [] [(14 : Nat), (15 : Nat), (16 : Nat), (17 : Nat), (18 : Nat)] [cU [(2 : Int), (1 : Int), (0 : Int), (0 : Int)], cI [], cI [], cI [], cB []]
    (rowI (enS (Inn.mk (0 : Int) (0 : Int) (0 : Int) (0 : Int) (1 : Int) (0 : Int) (0 : Int) (0 : Int) (0 : Int) (0 : Int) (0 : Int) (0 : Int) (0 : Int) (2 : Int) [(2 : Int), (1 : Int), (0 : Int), (0 : Int)] (0 : Int) [] [] false [] false (0 : Int) (0 : Int) (0 : Int) [] (0 : Int) (0 : Int) (0 :
    Int)) (3 : Int))) (fun ads0 ads ↦ Value.tuple #[inV (enS (Inn.mk (0 : Int) (0 : Int) (0 : Int) (0 : Int) (1 : Int) (0 : Int) (0 : Int) (0 : Int) (0 : Int) (0 : Int) (0 : Int) (0 : Int) (0 : Int) (2 : Int) [(2 : Int), (1 : Int), (0 : Int), (0 : Int)] (0 : Int) [] [] false [] false (0 : Int) (0 :
    Int) (0 : Int) [] (0 : Int) (0 : Int) (0 : Int)) (3 : Int)) (adA ads), Value.int IntKind.i64 (enL (Inn.mk (0 : Int) (0 : Int) (0 : Int) (0 : Int) (1 : Int) (0 : Int) (0 : Int) (0 : Int) (0 : Int) (0 : Int) (0 : Int) (0 : Int) (0 : Int) (2 : Int) [(2 : Int), (1 : Int), (0 : Int), (0 : Int)] (0 :
    Int) [] [] false [] false (0 : Int) (0 : Int) (0 : Int) [] (0 : Int) (0 : Int) (0 : Int)) (3 : Int))]) (Hint.ob (7 : Nat) (Hint.ob (7 : Nat) (Hint.ob (7 : Nat) (Hint.ob (7 : Nat) (Hint.ob (7 : Nat) (Hint.ob (7 : Nat) (Hint.ob (7 : Nat) (Hint.ob (7 : Nat) (Hint.ob (7 : Nat) (Hint.ob (7 : Nat)
    (Hint.ob (7 : Nat) (Hint.ob (7 : Nat) (Hint.ob (7 : Nat) (Hint.ob (7 : Nat) (Hint.ob (7 : Nat) (Hint.ob (7 : Nat) (Hint.ob (7 : Nat) (Hint.ob (7 : Nat) (Hint.ob (7 : Nat) (Hint.ob (7 : Nat) (Hint.ob (7 : Nat) (Hint.ob (7 : Nat) (Hint.ob (7 : Nat) (Hint.ob (7 : Nat) (Hint.ob (7 : Nat) (Hint.ob (7
    : Nat) (Hint.ob (7 : Nat) (Hint.ob (7 : Nat) (Hint.pl (Hint.lit (Hint.lit (Hint.ob (13 : Nat) (Hint.lit (Hint.pl (Hint.lit (Hint.lit (Hint.lit (Hint.ob (19 : Nat) (Hint.lit (Hint.pl (Hint.lit (Hint.lit (Hint.lit (Hint.ob (19 : Nat) (Hint.lit (Hint.pl (Hint.lit (Hint.lit (Hint.lit (Hint.ob (19 :
    Nat) (Hint.lit (Hint.pl (Hint.lit (Hint.lit (Hint.ob (19 : Nat) (Hint.ob (19 : Nat) (Hint.ob (19 : Nat) (Hint.ob (19 : Nat) (Hint.ob (19 : Nat) (Hint.ob (19 : Nat) (Hint.ob (19 : Nat) (Hint.ob (19 : Nat) (Hint.ob (19 : Nat) (Hint.ob (19 : Nat) (Hint.ob (19 : Nat) (Hint.ob (19 : Nat) (Hint.ob (19
    : Nat) (Hint.ob (19 : Nat) (Hint.ob (19 : Nat) (Hint.ob (19 : Nat) (Hint.ob (19 : Nat) (Hint.ob (19 : Nat) (Hint.ob (19 : Nat) (Hint.ob (19 : Nat) (Hint.ob (19 : Nat) (Hint.ob (19 : Nat) (Hint.ob (19 : Nat) (Hint.ob (19 : Nat) (Hint.ob (19 : Nat) (Hint.ob (19 : Nat) (Hint.ob (19 : Nat) (Hint.ob
    (19 : Nat) (Hint.lit (Hint.specg [] [(14 : Nat), (15 : Nat), (16 : Nat), (17 : Nat), (18 : Nat)] [cU [(2 : Int), (1 : Int), (0 : Int), (0 : Int)], cI [], cI [], cI [], cB []] [] (fun ads0 x ↦ Value.bool (vac (Inn.mk (0 : Int) (0 : Int) (0 : Int) (0 : Int) (1 : Int) (0 : Int) (0 : Int) (0 : Int)
    (0 : Int) (0 : Int) (0 : Int) (0 : Int) (0 : Int) (2 : Int) [(2 : Int), (1 : Int), (0 : Int), (0 : Int)] (0 : Int) [] [] false [] false (0 : Int) (0 : Int) (0 : Int) [] (0 : Int) (0 : Int) (0 : Int)))) (Hint.lit (Hint.lit (Hint.lit (Hint.pl (Hint.lit (Hint.lit (Hint.lit (Hint.ob (7 : Nat)
    (Hint.lit (Hint.pl (Hint.lit (Hint.perm []
    Hint.nil)))))))))))))))))))))))))))))))))))))))))))))))))))))))))))))))))))))))))))))))))))))))))))))))))))))))))))))))))))))))))))))))))))))))))))))))))))))))))))))))))))))))))))))))))))))))))))))))))))))))))))))))))))))))))))))))))))))))))))))))))))))))))))))))))))))))))))))))))))))))))))))))))))))))))))))))))))))))))))))))))))))
theorem awc_x  : wpG Try.prog [] ([]) 400 7 [] (awc_h ) ([]) (fun _ => .bool true) = (∀ (b b_1 : Nat), b = b ∧ True ∧ b = b ∧ True ∧ b = b ∧ True ∧ b = b ∧ True ∧ b = b ∧ True ∧ b = b ∧ True ∧ b = b ∧ True ∧ b = b ∧ True ∧ b = b ∧ True ∧ b = b ∧ True ∧ b = b ∧ True ∧ b = b ∧ True ∧ b = b ∧ True ∧ b = b ∧ True ∧ b = b ∧ True ∧ b = b ∧ True ∧ b = b ∧ True ∧ b = b ∧ True ∧ b = b ∧ True ∧
    b = b ∧ True ∧ b = b ∧ True ∧ b = b ∧ True ∧ b = b ∧ True ∧ b = b ∧ True ∧ b = b ∧ True ∧ b = b ∧ True ∧ b = b ∧ True ∧ b = b ∧ True ∧ b = b ∧ b = b ∧ b = b ∧ b = b ∧ b = b ∧ b = b ∧ b = b ∧ b = b ∧ b = b ∧ b = b ∧ b = b ∧ b = b ∧ b = b ∧ b = b ∧ b = b ∧ b = b ∧ b = b ∧ b = b ∧ b = b ∧ b = b ∧ b
    = b ∧ b = b ∧ b = b ∧ b = b ∧ b = b ∧ b = b ∧ b = b ∧ b = b ∧ [Value.int IntKind.u8 (0 : Int), Value.int IntKind.u8 (0 : Int), Value.int IntKind.u8 (0 : Int), Value.int IntKind.u8 (0 : Int)] = cU [(0 : Int), (0 : Int), (0 : Int), (0 : Int)] ∧ cI [] = [] ∧ cI [] = [] ∧ cI [] = [] ∧ cB [] = [] ∧
    (SpecG Try.prog [] (rdI (Inn.mk (0 : Int) (0 : Int) (0 : Int) (0 : Int) (0 : Int) (0 : Int) (0 : Int) (0 : Int) (0 : Int) (0 : Int) (0 : Int) (0 : Int) (0 : Int) (0 : Int) [(0 : Int), (0 : Int), (0 : Int), (0 : Int)] (0 : Int) [] [] false [] false (0 : Int) (0 : Int) (0 : Int) [] (0 : Int) (0 :
    Int) (0 : Int)) (Adr.mk (some (Addr.mk b_1 (0 : Nat) none)) none none none none (4 : Nat) (0 : Nat) (0 : Nat) (0 : Nat) (0 : Nat))) (25 : FuncId) #[inV (Inn.mk (0 : Int) (0 : Int) (0 : Int) (0 : Int) (0 : Int) (0 : Int) (0 : Int) (0 : Int) (0 : Int) (0 : Int) (0 : Int) (0 : Int) (0 : Int) (0 :
    Int) [(0 : Int), (0 : Int), (0 : Int), (0 : Int)] (0 : Int) [] [] false [] false (0 : Int) (0 : Int) (0 : Int) [] (0 : Int) (0 : Int) (0 : Int)) (Adr.mk (some (Addr.mk b_1 (0 : Nat) none)) none none none none (4 : Nat) (0 : Nat) (0 : Nat) (0 : Nat) (0 : Nat)), Value.int IntKind.i64 (1 : Int),
    Value.int IntKind.i64 (2 : Int)] (rowI (opS (Inn.mk (0 : Int) (0 : Int) (0 : Int) (0 : Int) (0 : Int) (0 : Int) (0 : Int) (0 : Int) (0 : Int) (0 : Int) (0 : Int) (0 : Int) (0 : Int) (0 : Int) [(0 : Int), (0 : Int), (0 : Int), (0 : Int)] (0 : Int) [] [] false [] false (0 : Int) (0 : Int) (0 : Int)
    [] (0 : Int) (0 : Int) (0 : Int)) (1 : Int) (2 : Int))) fun ads ↦ Value.tuple #[inV (opS (Inn.mk (0 : Int) (0 : Int) (0 : Int) (0 : Int) (0 : Int) (0 : Int) (0 : Int) (0 : Int) (0 : Int) (0 : Int) (0 : Int) (0 : Int) (0 : Int) (0 : Int) [(0 : Int), (0 : Int), (0 : Int), (0 : Int)] (0 : Int) [] []
    false [] false (0 : Int) (0 : Int) (0 : Int) [] (0 : Int) (0 : Int) (0 : Int)) (1 : Int) (2 : Int)) (adA ads), Value.int IntKind.i64 (opL (Inn.mk (0 : Int) (0 : Int) (0 : Int) (0 : Int) (0 : Int) (0 : Int) (0 : Int) (0 : Int) (0 : Int) (0 : Int) (0 : Int) (0 : Int) (0 : Int) (0 : Int) [(0 : Int),
    (0 : Int), (0 : Int), (0 : Int)] (0 : Int) [] [] false [] false (0 : Int) (0 : Int) (0 : Int) [] (0 : Int) (0 : Int) (0 : Int)) (1 : Int) (2 : Int))]) ∧ (∀ (e : Ex), e ∈ [] → e ∈ []) ∧ ∀ (a : Option Addr) (cap : Nat), AOK a (4 : Nat) → ∀ (a_1 : Option Addr) (cap_1 : Nat), AOK a_1 (0 : Nat) → ∀
    (a_2 : Option Addr) (cap_2 : Nat), AOK a_2 (0 : Nat) → ∀ (a_3 : Option Addr) (cap_3 : Nat), AOK a_3 (0 : Nat) → ∀ (a_4 : Option Addr) (cap_4 : Nat), AOK a_4 (0 : Nat) → ∀ (b : Nat), b = b ∧ True ∧ b = b ∧ True ∧ b = b ∧ True ∧ b = b ∧ True ∧ b = b ∧ True ∧ b = b ∧ True ∧ b = b ∧ True ∧ b = b ∧
    True ∧ b = b ∧ True ∧ b = b ∧ True ∧ b = b ∧ True ∧ b = b ∧ True ∧ b = b ∧ True ∧ b = b ∧ True ∧ b = b ∧ True ∧ b = b ∧ True ∧ b = b ∧ True ∧ b = b ∧ True ∧ b = b ∧ True ∧ b = b ∧ True ∧ b = b ∧ True ∧ b = b ∧ True ∧ b = b ∧ True ∧ b = b ∧ True ∧ b = b ∧ True ∧ b = b ∧ True ∧ b = b ∧ True ∧ b = b
    ∧ True ∧ b = b ∧ b = b ∧ b = b ∧ b = b ∧ b = b ∧ b = b ∧ b = b ∧ b = b ∧ b = b ∧ b = b ∧ b = b ∧ b = b ∧ b = b ∧ b = b ∧ b = b ∧ b = b ∧ b = b ∧ b = b ∧ b = b ∧ b = b ∧ b = b ∧ b = b ∧ b = b ∧ b = b ∧ b = b ∧ b = b ∧ b = b ∧ b = b ∧ cU [(1 : Int), (1 : Int), (0 : Int), (0 : Int)] = cU [(1 : Int),
    (1 : Int), (0 : Int), (0 : Int)] ∧ cI [] = cI [] ∧ cI [] = cI [] ∧ cI [] = cI [] ∧ cB [] = cB [] ∧ (SpecG Try.prog [] (rdI (Inn.mk (0 : Int) (0 : Int) (0 : Int) (0 : Int) (0 : Int) (0 : Int) (0 : Int) (0 : Int) (0 : Int) (0 : Int) (0 : Int) (0 : Int) (1 : Int) (2 : Int) [(1 : Int), (1 : Int), (0
    : Int), (0 : Int)] (0 : Int) [] [] false [] false (0 : Int) (0 : Int) (0 : Int) [] (0 : Int) (0 : Int) (0 : Int)) (Adr.mk a a_1 a_2 a_3 a_4 cap cap_1 cap_2 cap_3 cap_4)) (27 : FuncId) #[inV (Inn.mk (0 : Int) (0 : Int) (0 : Int) (0 : Int) (0 : Int) (0 : Int) (0 : Int) (0 : Int) (0 : Int) (0 : Int)
    (0 : Int) (0 : Int) (1 : Int) (2 : Int) [(1 : Int), (1 : Int), (0 : Int), (0 : Int)] (0 : Int) [] [] false [] false (0 : Int) (0 : Int) (0 : Int) [] (0 : Int) (0 : Int) (0 : Int)) (Adr.mk a a_1 a_2 a_3 a_4 cap cap_1 cap_2 cap_3 cap_4), Value.agg #[Value.int IntKind.u8 (1 : Int), Value.int
    IntKind.u8 (1 : Int), Value.int IntKind.i64 (1 : Int), Value.int IntKind.i64 (0 : Int), Value.int IntKind.i64 (0 : Int), Value.bool false, Value.int IntKind.u8 (0 : Int), Value.int IntKind.i64 (0 : Int), Value.int IntKind.i64 (0 : Int), Value.int IntKind.i64 (0 : Int), Value.bool false, Value.int
    IntKind.i64 (0 : Int)]] (rowI (rnS (Inn.mk (0 : Int) (0 : Int) (0 : Int) (0 : Int) (0 : Int) (0 : Int) (0 : Int) (0 : Int) (0 : Int) (0 : Int) (0 : Int) (0 : Int) (1 : Int) (2 : Int) [(1 : Int), (1 : Int), (0 : Int), (0 : Int)] (0 : Int) [] [] false [] false (0 : Int) (0 : Int) (0 : Int) [] (0 :
    Int) (0 : Int) (0 : Int)) (1 : Int) false (0 : Int) (0 : Int))) fun ads ↦ inV (rnS (Inn.mk (0 : Int) (0 : Int) (0 : Int) (0 : Int) (0 : Int) (0 : Int) (0 : Int) (0 : Int) (0 : Int) (0 : Int) (0 : Int) (0 : Int) (1 : Int) (2 : Int) [(1 : Int), (1 : Int), (0 : Int), (0 : Int)] (0 : Int) [] [] false
    [] false (0 : Int) (0 : Int) (0 : Int) [] (0 : Int) (0 : Int) (0 : Int)) (1 : Int) false (0 : Int) (0 : Int)) (adA ads)) ∧ (∀ (e : Ex), e ∈ [] → e ∈ []) ∧ ∀ (a_5 : Option Addr) (cap_5 : Nat), AOK a_5 (4 : Nat) → ∀ (a_6 : Option Addr) (cap_6 : Nat), AOK a_6 (0 : Nat) → ∀ (a_7 : Option Addr) (cap_7
    : Nat), AOK a_7 (0 : Nat) → ∀ (a_8 : Option Addr) (cap_8 : Nat), AOK a_8 (0 : Nat) → ∀ (a_9 : Option Addr) (cap_9 : Nat), AOK a_9 (0 : Nat) → ∀ (b_2 : Nat), b_2 = b_2 ∧ True ∧ b_2 = b_2 ∧ True ∧ b_2 = b_2 ∧ True ∧ b_2 = b_2 ∧ True ∧ b_2 = b_2 ∧ True ∧ b_2 = b_2 ∧ True ∧ b_2 = b_2 ∧ True ∧ b_2 =
    b_2 ∧ True ∧ b_2 = b_2 ∧ True ∧ b_2 = b_2 ∧ True ∧ b_2 = b_2 ∧ True ∧ b_2 = b_2 ∧ True ∧ b_2 = b_2 ∧ True ∧ b_2 = b_2 ∧ True ∧ b_2 = b_2 ∧ True ∧ b_2 = b_2 ∧ True ∧ b_2 = b_2 ∧ True ∧ b_2 = b_2 ∧ True ∧ b_2 = b_2 ∧ True ∧ b_2 = b_2 ∧ True ∧ b_2 = b_2 ∧ True ∧ b_2 = b_2 ∧ True ∧ b_2 = b_2 ∧ True ∧
    b_2 = b_2 ∧ True ∧ b_2 = b_2 ∧ True ∧ b_2 = b_2 ∧ True ∧ b_2 = b_2 ∧ True ∧ b_2 = b_2 ∧ True ∧ b = b ∧ b = b ∧ b = b ∧ b = b ∧ b = b ∧ b = b ∧ b = b ∧ b = b ∧ b = b ∧ b = b ∧ b = b ∧ b = b ∧ b = b ∧ b = b ∧ b = b ∧ b = b ∧ b = b ∧ b = b ∧ b = b ∧ b = b ∧ b = b ∧ b = b ∧ b = b ∧ b = b ∧ b = b ∧ b
    = b ∧ b = b ∧ b = b ∧ cU [(1 : Int), (1 : Int), (0 : Int), (0 : Int)] = cU [(1 : Int), (1 : Int), (0 : Int), (0 : Int)] ∧ cI [] = cI [] ∧ cI [] = cI [] ∧ cI [] = cI [] ∧ cB [] = cB [] ∧ (SpecG Try.prog [] (rdI (Inn.mk (0 : Int) (0 : Int) (0 : Int) (0 : Int) (0 : Int) (0 : Int) (0 : Int) (0 : Int)
    (0 : Int) (0 : Int) (0 : Int) (0 : Int) (1 : Int) (2 : Int) [(1 : Int), (1 : Int), (0 : Int), (0 : Int)] (0 : Int) [] [] false [] false (0 : Int) (0 : Int) (0 : Int) [] (0 : Int) (0 : Int) (0 : Int)) (Adr.mk a a_1 a_2 a_3 a_4 cap cap_1 cap_2 cap_3 cap_4)) (27 : FuncId) #[inV (Inn.mk (0 : Int) (0
    : Int) (0 : Int) (0 : Int) (0 : Int) (0 : Int) (0 : Int) (0 : Int) (0 : Int) (0 : Int) (0 : Int) (0 : Int) (1 : Int) (2 : Int) [(1 : Int), (1 : Int), (0 : Int), (0 : Int)] (0 : Int) [] [] false [] false (0 : Int) (0 : Int) (0 : Int) [] (0 : Int) (0 : Int) (0 : Int)) (Adr.mk a a_1 a_2 a_3 a_4 cap
    cap_1 cap_2 cap_3 cap_4), Value.agg #[Value.int IntKind.u8 (1 : Int), Value.int IntKind.u8 (1 : Int), Value.int IntKind.i64 (1 : Int), Value.int IntKind.i64 (0 : Int), Value.int IntKind.i64 (0 : Int), Value.bool true, Value.int IntKind.u8 (6 : Int), Value.int IntKind.i64 (1 : Int), Value.int
    IntKind.i64 (3 : Int), Value.int IntKind.i64 (0 : Int), Value.bool false, Value.int IntKind.i64 (0 : Int)]] (rowI (rnS (Inn.mk (0 : Int) (0 : Int) (0 : Int) (0 : Int) (0 : Int) (0 : Int) (0 : Int) (0 : Int) (0 : Int) (0 : Int) (0 : Int) (0 : Int) (1 : Int) (2 : Int) [(1 : Int), (1 : Int), (0 :
    Int), (0 : Int)] (0 : Int) [] [] false [] false (0 : Int) (0 : Int) (0 : Int) [] (0 : Int) (0 : Int) (0 : Int)) (1 : Int) true (6 : Int) (1 : Int))) fun ads ↦ inV (rnS (Inn.mk (0 : Int) (0 : Int) (0 : Int) (0 : Int) (0 : Int) (0 : Int) (0 : Int) (0 : Int) (0 : Int) (0 : Int) (0 : Int) (0 : Int)
    (1 : Int) (2 : Int) [(1 : Int), (1 : Int), (0 : Int), (0 : Int)] (0 : Int) [] [] false [] false (0 : Int) (0 : Int) (0 : Int) [] (0 : Int) (0 : Int) (0 : Int)) (1 : Int) true (6 : Int) (1 : Int)) (adA ads)) ∧ (∀ (e : Ex), e ∈ [] → e ∈ []) ∧ ∀ (a : Option Addr) (cap : Nat), AOK a (4 : Nat) → ∀
    (a_10 : Option Addr) (cap_10 : Nat), AOK a_10 (0 : Nat) → ∀ (a_11 : Option Addr) (cap_11 : Nat), AOK a_11 (0 : Nat) → ∀ (a_12 : Option Addr) (cap_12 : Nat), AOK a_12 (0 : Nat) → ∀ (a_13 : Option Addr) (cap_13 : Nat), AOK a_13 (0 : Nat) → ∀ (b_3 : Nat), b_3 = b_3 ∧ True ∧ b_3 = b_3 ∧ True ∧ b_3 =
    b_3 ∧ True ∧ b_3 = b_3 ∧ True ∧ b_3 = b_3 ∧ True ∧ b_3 = b_3 ∧ True ∧ b_3 = b_3 ∧ True ∧ b_3 = b_3 ∧ True ∧ b_3 = b_3 ∧ True ∧ b_3 = b_3 ∧ True ∧ b_3 = b_3 ∧ True ∧ b_3 = b_3 ∧ True ∧ b_3 = b_3 ∧ True ∧ b_3 = b_3 ∧ True ∧ b_3 = b_3 ∧ True ∧ b_3 = b_3 ∧ True ∧ b_3 = b_3 ∧ True ∧ b_3 = b_3 ∧ True ∧
    b_3 = b_3 ∧ True ∧ b_3 = b_3 ∧ True ∧ b_3 = b_3 ∧ True ∧ b_3 = b_3 ∧ True ∧ b_3 = b_3 ∧ True ∧ b_3 = b_3 ∧ True ∧ b_3 = b_3 ∧ True ∧ b_3 = b_3 ∧ True ∧ b_3 = b_3 ∧ True ∧ b_3 = b_3 ∧ True ∧ b_3 = b_3 ∧ b_3 = b_3 ∧ b_3 = b_3 ∧ b_3 = b_3 ∧ b_3 = b_3 ∧ b_3 = b_3 ∧ b_3 = b_3 ∧ b_3 = b_3 ∧ b_3 = b_3 ∧
    b_3 = b_3 ∧ b_3 = b_3 ∧ b_3 = b_3 ∧ b_3 = b_3 ∧ b_3 = b_3 ∧ b_3 = b_3 ∧ b_3 = b_3 ∧ b_3 = b_3 ∧ b_3 = b_3 ∧ b_3 = b_3 ∧ b_3 = b_3 ∧ b_3 = b_3 ∧ b_3 = b_3 ∧ b_3 = b_3 ∧ b_3 = b_3 ∧ b_3 = b_3 ∧ b_3 = b_3 ∧ b_3 = b_3 ∧ b_3 = b_3 ∧ cU [(2 : Int), (1 : Int), (0 : Int), (0 : Int)] = cU [(2 : Int), (1 :
    Int), (0 : Int), (0 : Int)] ∧ cI [] = cI [] ∧ cI [] = cI [] ∧ cI [] = cI [] ∧ cB [] = cB [] ∧ (SpecG Try.prog [] (rdI (Inn.mk (0 : Int) (0 : Int) (0 : Int) (0 : Int) (1 : Int) (0 : Int) (0 : Int) (0 : Int) (0 : Int) (0 : Int) (0 : Int) (0 : Int) (0 : Int) (2 : Int) [(2 : Int), (1 : Int), (0 :
    Int), (0 : Int)] (0 : Int) [] [] false [] false (0 : Int) (0 : Int) (0 : Int) [] (0 : Int) (0 : Int) (0 : Int)) (Adr.mk a a_10 a_11 a_12 a_13 cap cap_10 cap_11 cap_12 cap_13)) (28 : FuncId) #[inV (Inn.mk (0 : Int) (0 : Int) (0 : Int) (0 : Int) (1 : Int) (0 : Int) (0 : Int) (0 : Int) (0 : Int) (0
    : Int) (0 : Int) (0 : Int) (0 : Int) (2 : Int) [(2 : Int), (1 : Int), (0 : Int), (0 : Int)] (0 : Int) [] [] false [] false (0 : Int) (0 : Int) (0 : Int) [] (0 : Int) (0 : Int) (0 : Int)) (Adr.mk a a_10 a_11 a_12 a_13 cap cap_10 cap_11 cap_12 cap_13), Value.int IntKind.i64 (3 : Int)] (rowI (enS
    (Inn.mk (0 : Int) (0 : Int) (0 : Int) (0 : Int) (1 : Int) (0 : Int) (0 : Int) (0 : Int) (0 : Int) (0 : Int) (0 : Int) (0 : Int) (0 : Int) (2 : Int) [(2 : Int), (1 : Int), (0 : Int), (0 : Int)] (0 : Int) [] [] false [] false (0 : Int) (0 : Int) (0 : Int) [] (0 : Int) (0 : Int) (0 : Int)) (3 :
    Int))) fun ads ↦ Value.tuple #[inV (enS (Inn.mk (0 : Int) (0 : Int) (0 : Int) (0 : Int) (1 : Int) (0 : Int) (0 : Int) (0 : Int) (0 : Int) (0 : Int) (0 : Int) (0 : Int) (0 : Int) (2 : Int) [(2 : Int), (1 : Int), (0 : Int), (0 : Int)] (0 : Int) [] [] false [] false (0 : Int) (0 : Int) (0 : Int) []
    (0 : Int) (0 : Int) (0 : Int)) (3 : Int)) (adA ads), Value.int IntKind.i64 (enL (Inn.mk (0 : Int) (0 : Int) (0 : Int) (0 : Int) (1 : Int) (0 : Int) (0 : Int) (0 : Int) (0 : Int) (0 : Int) (0 : Int) (0 : Int) (0 : Int) (2 : Int) [(2 : Int), (1 : Int), (0 : Int), (0 : Int)] (0 : Int) [] [] false []
    false (0 : Int) (0 : Int) (0 : Int) [] (0 : Int) (0 : Int) (0 : Int)) (3 : Int))]) ∧ (∀ (e : Ex), e ∈ [] → e ∈ []) ∧ ∀ (a_14 : Option Addr) (cap_14 : Nat), AOK a_14 (4 : Nat) → ∀ (a_15 : Option Addr) (cap_15 : Nat), AOK a_15 (0 : Nat) → ∀ (a_16 : Option Addr) (cap_16 : Nat), AOK a_16 (0 : Nat) →
    ∀ (a_17 : Option Addr) (cap_17 : Nat), AOK a_17 (0 : Nat) → ∀ (a_18 : Option Addr) (cap_18 : Nat), AOK a_18 (0 : Nat) → b = b ∧ True ∧ b = b ∧ True ∧ b = b ∧ True ∧ b = b ∧ True ∧ b = b ∧ True ∧ b = b ∧ True ∧ b = b ∧ True ∧ b = b ∧ True ∧ b = b ∧ True ∧ b = b ∧ True ∧ b = b ∧ True ∧ b = b ∧ True
    ∧ b = b ∧ True ∧ b = b ∧ True ∧ b = b ∧ True ∧ b = b ∧ True ∧ b = b ∧ True ∧ b = b ∧ True ∧ b = b ∧ True ∧ b = b ∧ True ∧ b = b ∧ True ∧ b = b ∧ True ∧ b = b ∧ True ∧ b = b ∧ True ∧ b = b ∧ True ∧ b = b ∧ True ∧ b = b ∧ True ∧ b = b ∧ True ∧ b_2 = b_2 ∧ b_3 = b_3 ∧ b_3 = b_3 ∧ b_3 = b_3 ∧ b_3 =
    b_3 ∧ b_3 = b_3 ∧ b_3 = b_3 ∧ b_3 = b_3 ∧ b_3 = b_3 ∧ b_3 = b_3 ∧ b_3 = b_3 ∧ b_3 = b_3 ∧ b_3 = b_3 ∧ b_3 = b_3 ∧ b_3 = b_3 ∧ b_3 = b_3 ∧ b_3 = b_3 ∧ b_3 = b_3 ∧ b_3 = b_3 ∧ b_3 = b_3 ∧ b_3 = b_3 ∧ b_3 = b_3 ∧ b_3 = b_3 ∧ b_3 = b_3 ∧ b_3 = b_3 ∧ b_3 = b_3 ∧ b_3 = b_3 ∧ b_3 = b_3 ∧ b_3 = b_3 ∧ b_3
    = b_3 ∧ b_3 = b_3 ∧ b_3 = b_3 ∧ cU [(2 : Int), (1 : Int), (0 : Int), (0 : Int)] = cU [(2 : Int), (1 : Int), (0 : Int), (0 : Int)] ∧ cI [] = cI [] ∧ cI [] = cI [] ∧ cI [] = cI [] ∧ cB [] = cB [] ∧ (SpecG Try.prog [] (rdI (Inn.mk (0 : Int) (0 : Int) (0 : Int) (0 : Int) (1 : Int) (0 : Int) (0 : Int)
    (0 : Int) (0 : Int) (0 : Int) (0 : Int) (0 : Int) (0 : Int) (2 : Int) [(2 : Int), (1 : Int), (0 : Int), (0 : Int)] (0 : Int) [] [] false [] false (0 : Int) (0 : Int) (0 : Int) [] (0 : Int) (0 : Int) (0 : Int)) (Adr.mk a a_10 a_11 a_12 a_13 cap cap_10 cap_11 cap_12 cap_13)) (11 : FuncId) #[inV
    (Inn.mk (0 : Int) (0 : Int) (0 : Int) (0 : Int) (1 : Int) (0 : Int) (0 : Int) (0 : Int) (0 : Int) (0 : Int) (0 : Int) (0 : Int) (0 : Int) (2 : Int) [(2 : Int), (1 : Int), (0 : Int), (0 : Int)] (0 : Int) [] [] false [] false (0 : Int) (0 : Int) (0 : Int) [] (0 : Int) (0 : Int) (0 : Int)) (Adr.mk a
    a_10 a_11 a_12 a_13 cap cap_10 cap_11 cap_12 cap_13)] [] fun x ↦ Value.bool (vac (Inn.mk (0 : Int) (0 : Int) (0 : Int) (0 : Int) (1 : Int) (0 : Int) (0 : Int) (0 : Int) (0 : Int) (0 : Int) (0 : Int) (0 : Int) (0 : Int) (2 : Int) [(2 : Int), (1 : Int), (0 : Int), (0 : Int)] (0 : Int) [] [] false
    [] false (0 : Int) (0 : Int) (0 : Int) [] (0 : Int) (0 : Int) (0 : Int)))) ∧ (∀ (e : Ex), e ∈ [] → e ∈ []) ∧ b = b ∧ Value.bool true = Value.bool true) := by kernel_rfl
set_option maxHeartbeats 4000000 in
theorem awc_sp   : SpecG Try.prog [] ([]) 7 #[] ([]) (fun _ => .bool true) := by
  refine specG_of (h := awc_h ) (?_ : wpG Try.prog [] ([]) 400 7 [] (awc_h ) ([]) (fun _ => .bool true))
  rw [awc_x]
  (repeat' (first | with_reducible exact rfl | exact trivial | with_reducible assumption | exact op_sp _ _ _ _ ⟨(by first | assumption | exact aok0 | exact aokb _ _), (by first | assumption | exact aok0 | exact aokb _ _), (by first | assumption | exact aok0 | exact aokb _ _), (by first | assumption | exact aok0 | exact aokb _ _), (by first | assumption | exact aok0 | exact aokb _ _), (by decide), (by decide), (by decide), (by decide), (by decide)⟩ | exact rn_sp _ _ _ _ _ _ _ _ _ _ _ _ _ _ ⟨(by first | assumption | exact aok0 | exact aokb _ _), (by first | assumption | exact aok0 | exact aokb _ _), (by first | assumption | exact aok0 | exact aokb _ _), (by first | assumption | exact aok0 | exact aokb _ _), (by first | assumption | exact aok0 | exact aokb _ _), (by decide), (by decide), (by decide), (by decide), (by decide)⟩ | exact en_sp _ _ _ ⟨(by first | assumption | exact aok0 | exact aokb _ _), (by first | assumption | exact aok0 | exact aokb _ _), (by first | assumption | exact aok0 | exact aokb _ _), (by first | assumption | exact aok0 | exact aokb _ _), (by first | assumption | exact aok0 | exact aokb _ _), (by decide), (by decide), (by decide), (by decide), (by decide)⟩ | exact cva_sp _ _ ⟨(by first | assumption | exact aok0 | exact aokb _ _), (by first | assumption | exact aok0 | exact aokb _ _), (by first | assumption | exact aok0 | exact aokb _ _), (by first | assumption | exact aok0 | exact aokb _ _), (by first | assumption | exact aok0 | exact aokb _ _), (by decide), (by decide), (by decide), (by decide), (by decide)⟩ | exact cU_len _ | exact cI_len _ | exact cB_len _ | exact cU_one _ | exact cI_one _ | exact cB_one _ | exact (fun _ h => h) | exact (fun _ h => (List.not_mem_nil h).elim) | (with_reducible apply And.intro) | (with_reducible intro _)))
  all_goals (first | exact rfl | trace_state)
end Go.Proofs.Ytebjknedjpkomaa
