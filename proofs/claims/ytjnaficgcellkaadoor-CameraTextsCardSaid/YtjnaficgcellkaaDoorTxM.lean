/- Plain words about text: white space, words, quoted strings, the fields of a line, the lines of a source. No run of the program. -/
import Derived.Lib.CountLaws
set_option linter.unusedSimpArgs false
set_option linter.unusedVariables false
namespace Go.Proofs.YtjnaficgcellkaaDoor

def wht (b : UInt8) : Bool := decide (b.toNat = 9 ∨ b.toNat = 32)
def wrd (b : UInt8) : Bool := decide (33 ≤ b.toNat ∧ b.toNat ≤ 126 ∧ b.toNat ≠ 34 ∧ b.toNat ≠ 59)
def prn (b : UInt8) : Bool := decide (32 ≤ b.toNat ∧ b.toNat ≤ 126)
theorem wht_iff (b : UInt8) : wht b = true ↔ (b.toNat = 9 ∨ b.toNat = 32) := by unfold wht; simp
theorem wrd_iff (b : UInt8) : wrd b = true ↔ (33 ≤ b.toNat ∧ b.toNat ≤ 126 ∧ b.toNat ≠ 34 ∧ b.toNat ≠ 59) := by unfold wrd; simp
theorem prn_iff (b : UInt8) : prn b = true ↔ (32 ≤ b.toNat ∧ b.toNat ≤ 126) := by unfold prn; simp

/-- The bytes behind a quotation mark: how many are read, whether the string is closed, its text. -/
def qs : List UInt8 → Nat × Bool × List UInt8
  | [] => (0, false, [])
  | c :: r => if c.toNat = 34 then (match r with | [] => (1, true, []) | d :: r' => if d.toNat = 34 then ((qs r').1 + 2, (qs r').2.1, 34 :: (qs r').2.2) else (1, true, [])) else if prn c then ((qs r).1 + 1, (qs r).2.1, c :: (qs r).2.2) else (0, false, [])
theorem qs_nil : qs [] = (0, false, []) := by rw [qs]
theorem qs_close1 (c : UInt8) (h : c.toNat = 34) : qs [c] = (1, true, []) := by rw [qs]; simp [h]
theorem qs_close2 (c d : UInt8) (r : List UInt8) (h : c.toNat = 34) (hd : d.toNat ≠ 34) : qs (c :: d :: r) = (1, true, []) := by rw [qs]; simp [h, hd]
theorem qs_two (c d : UInt8) (r : List UInt8) (h : c.toNat = 34) (hd : d.toNat = 34) : qs (c :: d :: r) = ((qs r).1 + 2, (qs r).2.1, 34 :: (qs r).2.2) := by rw [qs]; simp [h, hd]
theorem qs_one (c : UInt8) (r : List UInt8) (h : c.toNat ≠ 34) (hp : prn c = true) : qs (c :: r) = ((qs r).1 + 1, (qs r).2.1, c :: (qs r).2.2) := by rw [qs.eq_def]; simp [h, hp]
theorem qs_bad (c : UInt8) (r : List UInt8) (h : c.toNat ≠ 34) (hp : prn c = false) : qs (c :: r) = (0, false, []) := by rw [qs.eq_def]; simp [h, hp]
theorem qs_le : ∀ (n : Nat) (l : List UInt8), l.length ≤ n → (qs l).1 ≤ l.length := by
  intro n
  induction n with
  | zero => intro l h; cases l with | nil => simp [qs_nil] | cons c r => simp at h
  | succ n ih =>
    intro l h
    cases l with
    | nil => simp [qs_nil]
    | cons c r =>
      by_cases hc : c.toNat = 34
      · cases r with
        | nil => simp [qs_close1 c hc]
        | cons d r' =>
          by_cases hd : d.toNat = 34
          · rw [qs_two c d r' hc hd]; have := ih r' (by simp at h; omega); simp; omega
          · rw [qs_close2 c d r' hc hd]; simp
      · cases hp : prn c
        · rw [qs_bad c r hc hp]; simp
        · rw [qs_one c r hc hp]; have := ih r (by simp at h; omega); simp; omega
theorem qs_pos (l : List UInt8) (h : (qs l).2.1 = true) : 1 ≤ (qs l).1 := by
  cases l with
  | nil => simp [qs_nil] at h
  | cons c r =>
    by_cases hc : c.toNat = 34
    · cases r with
      | nil => simp [qs_close1 c hc]
      | cons d r' =>
        by_cases hd : d.toNat = 34
        · rw [qs_two c d r' hc hd]; simp
        · rw [qs_close2 c d r' hc hd]; simp
    · cases hp : prn c
      · rw [qs_bad c r hc hp] at h; simp at h
      · rw [qs_one c r hc hp]; simp

/-- By places: the end of the quoted string that goes on at place i, whether it is closed, and the text from there. -/
def qE (l : List UInt8) (i : Nat) : Nat := i + (qs (l.drop i)).1
def qB (l : List UInt8) (i : Nat) : Bool := (qs (l.drop i)).2.1
def qT (l : List UInt8) (i : Nat) : List UInt8 := (qs (l.drop i)).2.2
theorem q_at (l : List UInt8) (i : Nat) (h : i < l.length) : l.drop i = l[i] :: l.drop (i + 1) := List.drop_eq_getElem_cons h
theorem q_end (l : List UInt8) (i : Nat) (h : l.length ≤ i) : qE l i = i ∧ qB l i = false ∧ qT l i = [] := by
  unfold qE qB qT; rw [List.drop_eq_nil_of_le h, qs_nil]; simp
theorem q_two (l : List UInt8) (i : Nat) (h : i < l.length) (h2 : i + 1 < l.length) (hc : l[i].toNat = 34) (hd : l[i + 1].toNat = 34) : qE l i = qE l (i + 2) ∧ qB l i = qB l (i + 2) ∧ qT l i = 34 :: qT l (i + 2) := by
  unfold qE qB qT; rw [q_at l i h, q_at l (i + 1) h2, qs_two _ _ _ hc hd]; refine ⟨?_, rfl, rfl⟩; show i + ((qs (l.drop (i + 2))).1 + 2) = i + 2 + (qs (l.drop (i + 2))).1; omega
theorem q_close (l : List UInt8) (i : Nat) (h : i < l.length) (hc : l[i].toNat = 34) (hd : ∀ h2 : i + 1 < l.length, l[i + 1].toNat ≠ 34) : qE l i = i + 1 ∧ qB l i = true ∧ qT l i = [] := by
  unfold qE qB qT
  rw [q_at l i h]
  by_cases h2 : i + 1 < l.length
  · rw [q_at l (i + 1) h2, qs_close2 _ _ _ hc (hd h2)]; simp
  · rw [List.drop_eq_nil_of_le (by omega), qs_close1 _ hc]; simp
theorem q_one (l : List UInt8) (i : Nat) (h : i < l.length) (hc : l[i].toNat ≠ 34) (hp : prn l[i] = true) : qE l i = qE l (i + 1) ∧ qB l i = qB l (i + 1) ∧ qT l i = l[i] :: qT l (i + 1) := by
  unfold qE qB qT; rw [q_at l i h, qs_one _ _ hc hp]; simp; omega
theorem q_bad (l : List UInt8) (i : Nat) (h : i < l.length) (hc : l[i].toNat ≠ 34) (hp : prn l[i] = false) : qE l i = i ∧ qB l i = false ∧ qT l i = [] := by
  unfold qE qB qT; rw [q_at l i h, qs_bad _ _ hc hp]; simp
theorem qE_le (l : List UInt8) (i : Nat) (h : i ≤ l.length) : i ≤ qE l i ∧ qE l i ≤ l.length := by
  unfold qE; have := qs_le _ (l.drop i) (Nat.le_refl _); rw [List.length_drop] at this; omega
theorem qE_lt (l : List UInt8) (i : Nat) (h : qB l i = true) : i < qE l i := by
  unfold qE; have := qs_pos _ h; omega

/-- The first place from i on that is not white, or no byte of a word. -/
def skp (l : List UInt8) (i : Nat) : Nat := i + ((l.drop i).takeWhile wht).length
def wnd (l : List UInt8) (i : Nat) : Nat := i + ((l.drop i).takeWhile wrd).length
theorem tw_le (p : UInt8 → Bool) (l : List UInt8) : (l.takeWhile p).length ≤ l.length := by
  induction l with
  | nil => simp
  | cons c r ih => rw [List.takeWhile_cons]; split <;> simp <;> omega
theorem skp_end (l : List UInt8) (i : Nat) (h : l.length ≤ i) : skp l i = i := by unfold skp; rw [List.drop_eq_nil_of_le h]; simp
theorem skp_yes (l : List UInt8) (i : Nat) (h : i < l.length) (hw : wht l[i] = true) : skp l i = skp l (i + 1) := by unfold skp; rw [q_at l i h, List.takeWhile_cons, if_pos hw]; simp; omega
theorem skp_no (l : List UInt8) (i : Nat) (h : i < l.length) (hw : wht l[i] = false) : skp l i = i := by unfold skp; rw [q_at l i h, List.takeWhile_cons]; simp [hw]
theorem skp_le (l : List UInt8) (i : Nat) (h : i ≤ l.length) : i ≤ skp l i ∧ skp l i ≤ l.length := by unfold skp; have := tw_le wht (l.drop i); rw [List.length_drop] at this; omega
theorem wnd_end (l : List UInt8) (i : Nat) (h : l.length ≤ i) : wnd l i = i := by unfold wnd; rw [List.drop_eq_nil_of_le h]; simp
theorem wnd_yes (l : List UInt8) (i : Nat) (h : i < l.length) (hw : wrd l[i] = true) : wnd l i = wnd l (i + 1) := by unfold wnd; rw [q_at l i h, List.takeWhile_cons, if_pos hw]; simp; omega
theorem wnd_no (l : List UInt8) (i : Nat) (h : i < l.length) (hw : wrd l[i] = false) : wnd l i = i := by unfold wnd; rw [q_at l i h, List.takeWhile_cons]; simp [hw]
theorem wnd_le (l : List UInt8) (i : Nat) (h : i ≤ l.length) : i ≤ wnd l i ∧ wnd l i ≤ l.length := by unfold wnd; have := tw_le wrd (l.drop i); rw [List.length_drop] at this; omega
theorem skp_not (l : List UInt8) : ∀ (n i : Nat), l.length - i ≤ n → ∀ h : skp l i < l.length, wht l[skp l i] = false := by
  intro n
  induction n with
  | zero => intro i hn h; rw [skp_end l i (by omega)] at h; omega
  | succ n ih =>
    intro i hn h
    by_cases hi : i < l.length
    · cases hw : wht l[i]
      · have e := skp_no l i hi hw
        simp only [e]; exact hw
      · have e := skp_yes l i hi hw
        have := ih (i + 1) (by omega) (by omega)
        simp only [e]; exact this
    · rw [skp_end l i (by omega)] at h; omega

/-- A field: its text, its column, whether it is quoted. -/
structure Fld where
  text : List UInt8
  col : Int
  quo : Bool
/-- What may follow a field. -/
def aft (l : List UInt8) (e : Nat) : Bool := match l[e]? with | none => true | some c => wht c || decide (c.toNat = 59)
theorem aft_end (l : List UInt8) (e : Nat) (h : l.length ≤ e) : aft l e = true := by unfold aft; rw [List.getElem?_eq_none h]
theorem aft_at (l : List UInt8) (e : Nat) (h : e < l.length) : aft l e = (wht l[e] || decide (l[e].toNat = 59)) := by unfold aft; rw [List.getElem?_eq_getElem h]
/-- The field that begins at place i, and the place behind it, or the first wrong place. -/
def fldQ (l : List UInt8) (i : Nat) : Bool := match l[i]? with | none => false | some c => decide (c.toNat = 34)
theorem fldQ_at (l : List UInt8) (i : Nat) (h : i < l.length) : fldQ l i = decide (l[i].toNat = 34) := by unfold fldQ; rw [List.getElem?_eq_getElem h]
def fldE (l : List UInt8) (i : Nat) : Nat := if fldQ l i then qE l (i + 1) else wnd l i
def fldB (l : List UInt8) (i : Nat) : Bool := if fldQ l i then qB l (i + 1) && aft l (qE l (i + 1)) else aft l (wnd l i)
def fldF (l : List UInt8) (i : Nat) : Fld := if fldQ l i then ⟨qT l (i + 1), (i : Int) + 1, true⟩ else ⟨(l.drop i).take (wnd l i - i), (i : Int) + 1, false⟩
theorem fldE_le (l : List UInt8) (i : Nat) (h : i < l.length) : i ≤ fldE l i ∧ fldE l i ≤ l.length := by
  unfold fldE
  split
  · have := qE_le l (i + 1) (by omega); omega
  · exact wnd_le l i (by omega)
theorem fldE_lt (l : List UInt8) (i : Nat) (h : i < l.length) (hb : fldB l i = true) (hs : l[i].toNat ≠ 59) (hw : wht l[i] = false) : i < fldE l i := by
  unfold fldB at hb; unfold fldE
  split
  · have := qE_le l (i + 1) (by omega); omega
  · rename_i hq
    rw [if_neg hq] at hb
    rcases Nat.lt_or_ge i (wnd l i) with h1 | h1
    · exact h1
    · exfalso
      have : wnd l i = i := by have := wnd_le l i (by omega); omega
      rw [this, aft_at l i h, hw] at hb
      simp [hs] at hb

/-- The fields from place i on, or the first wrong place. -/
def scn (l : List UInt8) (i : Nat) : Except Nat (List Fld) :=
  if h : i < l.length then
    if l[i].toNat = 59 then .ok []
    else if wht l[i] = true then scn l (i + 1)
    else if fldB l i = true then (if he : i < fldE l i then (match scn l (fldE l i) with | .ok xs => .ok (fldF l i :: xs) | .error e => .error e) else .ok [])
    else .error (fldE l i)
  else .ok []
termination_by l.length - i
theorem scn_end (l : List UInt8) (i : Nat) (h : l.length ≤ i) : scn l i = .ok [] := by rw [scn, dif_neg (by omega)]
theorem scn_semi (l : List UInt8) (i : Nat) (h : i < l.length) (hs : l[i].toNat = 59) : scn l i = .ok [] := by rw [scn, dif_pos h, if_pos hs]
theorem scn_white (l : List UInt8) (i : Nat) (h : i < l.length) (hw : wht l[i] = true) : scn l i = scn l (i + 1) := by
  have hs : l[i].toNat ≠ 59 := by rw [wht_iff] at hw; omega
  rw [scn, dif_pos h, if_neg hs, if_pos hw]
theorem scn_bad (l : List UInt8) (i : Nat) (h : i < l.length) (hs : l[i].toNat ≠ 59) (hw : wht l[i] = false) (hb : fldB l i = false) : scn l i = .error (fldE l i) := by
  rw [scn, dif_pos h, if_neg hs, if_neg (by simp [hw]), if_neg (by simp [hb])]
/-- xs ahead of what follows. -/
def pre (xs : List Fld) : Except Nat (List Fld) → Except Nat (List Fld)
  | .ok ys => .ok (xs ++ ys)
  | .error e => .error e
theorem pre_pre (xs ys : List Fld) (r : Except Nat (List Fld)) : pre xs (pre ys r) = pre (xs ++ ys) r := by cases r <;> simp [pre]
theorem pre_nil (r : Except Nat (List Fld)) : pre [] r = r := by cases r <;> simp [pre]
theorem scn_field (l : List UInt8) (i : Nat) (h : i < l.length) (hs : l[i].toNat ≠ 59) (hw : wht l[i] = false) (hb : fldB l i = true) : scn l i = pre [fldF l i] (scn l (fldE l i)) := by
  rw [scn, dif_pos h, if_neg hs, if_neg (by simp [hw]), if_pos hb, dif_pos (fldE_lt l i h hb hs hw)]
  cases scn l (fldE l i) <;> rfl
theorem scn_skp (l : List UInt8) : ∀ (n i : Nat), l.length - i ≤ n → scn l i = scn l (skp l i) := by
  intro n
  induction n with
  | zero => intro i hn; rw [skp_end l i (by omega)]
  | succ n ih =>
    intro i hn
    by_cases hi : i < l.length
    · cases hw : wht l[i]
      · rw [skp_no l i hi hw]
      · rw [scn_white l i hi hw, skp_yes l i hi hw]; exact ih (i + 1) (by omega)
    · rw [skp_end l i (by omega)]

/-- A line: its fields, or the column and the number of its error. -/
def linR (l : List UInt8) : Except (Int × Int) (List Fld) :=
  if 1000 < l.length then .error (1001, 9) else match scn l 0 with | .ok xs => .ok xs | .error e => .error ((e : Int) + 1, 4)
def linV (l : List UInt8) : List Fld := match linR l with | .ok xs => xs | .error _ => []
def linC (l : List UInt8) : Int := match linR l with | .ok _ => 0 | .error e => e.1
def linE (l : List UInt8) : Int := match linR l with | .ok _ => 0 | .error e => e.2
/-- The lines of a source. -/
def pcs : List UInt8 → List (List UInt8)
  | [] => [[]]
  | c :: r => if c.toNat = 10 then [] :: pcs r else match pcs r with | [] => [[c]] | p :: ps => (c :: p) :: ps
structure Lin where
  num : Int
  flds : List Fld
structure Dia where
  line : Int
  col : Int
  code : Int
def linesF (n : Nat) : List (List UInt8) → List Lin
  | [] => []
  | p :: ps => if linE p = 0 ∧ linV p ≠ [] then ⟨(n : Int), linV p⟩ :: linesF (n + 1) ps else linesF (n + 1) ps
def diasF (n : Nat) : List (List UInt8) → List Dia
  | [] => []
  | p :: ps => if linE p = 0 then diasF (n + 1) ps else ⟨(n : Int), linC p, linE p⟩ :: diasF (n + 1) ps
def spL (l : List UInt8) : List Lin := if 262144 < l.length then [] else linesF 1 (pcs l)
def spD (l : List UInt8) : List Dia := if 262144 < l.length then [⟨1, 1, 9⟩] else (diasF 1 (pcs l)).take 50
end Go.Proofs.YtjnaficgcellkaaDoor
