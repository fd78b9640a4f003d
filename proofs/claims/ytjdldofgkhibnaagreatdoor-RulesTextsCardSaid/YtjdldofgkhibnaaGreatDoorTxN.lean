/- Where the words of a source stand: the places at which its lines begin, and the fields of a line between white bytes. No run of the program. -/
import Derived.Test.YtjdldofgkhibnaaGreatDoorTxC
import Derived.Test.YtjdldofgkhibnaaGreatDoorTxM
set_option linter.unusedSimpArgs false
set_option linter.unusedVariables false
namespace Go.Proofs.YtjdldofgkhibnaaGreatDoor

/-- The places behind line feeds, the first byte at place n. -/
def nls (n : Nat) : List UInt8 → List Nat
  | [] => []
  | c :: r => if c.toNat = 10 then (n + 1) :: nls (n + 1) r else nls (n + 1) r
theorem nls_app (a : List UInt8) : ∀ (n : Nat) (c : UInt8), nls n (a ++ [c]) = nls n a ++ (if c.toNat = 10 then [n + a.length + 1] else []) := by
  induction a with
  | nil => intro n c; simp [nls]
  | cons b r ih =>
    intro n c
    rw [List.cons_append, nls, nls, ih (n + 1) c]
    have e : n + 1 + r.length + 1 = n + (b :: r).length + 1 := by simp; omega
    rw [e]
    split <;> simp
theorem nls_length (a : List UInt8) : ∀ n, (nls n a).length ≤ a.length := by
  induction a with
  | nil => intro n; simp [nls]
  | cons b r ih => intro n; rw [nls]; have := ih (n + 1); split <;> simp <;> omega
/-- Where lines begin. -/
def sts (n : Nat) : List (List UInt8) → List Nat
  | [] => []
  | p :: ps => n :: sts (n + p.length + 1) ps
theorem sts_pcs (l : List UInt8) : ∀ n, sts n (pcs l) = n :: nls n l := by
  induction l with
  | nil => intro n; simp [pcs, sts, nls]
  | cons c r ih =>
    intro n
    rw [pcs, nls]
    by_cases h : c.toNat = 10
    · rw [if_pos h, if_pos h, sts]
      simp only [List.length_nil, Nat.add_zero]
      rw [ih (n + 1)]
    · rw [if_neg h, if_neg h]
      have := ih (n + 1)
      cases hp : pcs r with
      | nil => rw [hp] at this; simp [sts] at this
      | cons p ps =>
        rw [hp, sts] at this
        simp only
        rw [sts]
        injection this with _ h2
        congr 1
        rw [← h2]
        congr 1
        simp; omega
theorem sts_length (ps : List (List UInt8)) : ∀ n, (sts n ps).length = ps.length := by
  induction ps with
  | nil => intro n; rfl
  | cons p ps ih => intro n; rw [sts]; simp [ih]
/-- Line j stands in the source at its place. -/
theorem sts_at (l : List UInt8) : ∀ (n j : Nat) (p : List UInt8) (s : Nat), (pcs l)[j]? = some p → (sts n (pcs l))[j]? = some s → n ≤ s ∧ s - n + p.length ≤ l.length ∧ (l.drop (s - n)).take p.length = p := by
  induction l with
  | nil =>
    intro n j p s hp hs
    rw [sts_pcs] at hs
    cases j with
    | zero => simp [pcs] at hp; simp at hs; subst hp; subst hs; simp
    | succ j => simp [pcs] at hp
  | cons c r ih =>
    intro n j p s hp hs
    rw [pcs] at hp hs
    by_cases h : c.toNat = 10
    · rw [if_pos h] at hp hs
      cases j with
      | zero =>
        rw [sts] at hs
        simp at hp hs; subst hp; subst hs
        simp
      | succ j =>
        rw [sts] at hs
        simp only [List.getElem?_cons_succ, List.length_nil, Nat.add_zero] at hp hs
        obtain ⟨h1, h2, h3⟩ := ih (n + 1) j p s hp hs
        refine ⟨by omega, by simp; omega, ?_⟩
        rw [show s - n = (s - (n + 1)) + 1 by omega, List.drop_succ_cons]; exact h3
    · rw [if_neg h] at hp hs
      cases hq : pcs r with
      | nil => have := sts_pcs r 0; rw [hq] at this; simp [sts] at this
      | cons p0 ps =>
        rw [hq] at hp hs
        simp only at hp hs
        have ih := ih (n + 1)
        rw [hq] at ih
        cases j with
        | zero =>
          rw [sts] at hs
          simp at hp hs; subst hp; subst hs
          obtain ⟨h1, h2, h3⟩ := ih 0 p0 (n + 1) (by simp) (by rw [sts]; simp)
          refine ⟨Nat.le_refl _, by simp; omega, ?_⟩
          simp only [Nat.sub_self, List.drop_zero, List.length_cons, List.take_succ_cons] at h3 ⊢
          rw [h3]
        | succ j =>
          rw [sts] at hs
          simp only [List.getElem?_cons_succ] at hp hs
          obtain ⟨h1, h2, h3⟩ := ih (j + 1) p s (by simpa using hp) (by rw [sts]; simp only [List.getElem?_cons_succ]; rw [← hs]; congr 2; simp; omega)
          refine ⟨by omega, by simp; omega, ?_⟩
          rw [show s - n = (s - (n + 1)) + 1 by omega, List.drop_succ_cons]; exact h3
/-- Each line that is given is one of the source's, and has fields. -/
theorem linesF_at : ∀ (ps : List (List UInt8)) (n k : Nat) (x : Lin), (linesF n ps)[k]? = some x → ∃ j p, ps[j]? = some p ∧ x.num = ((n + j : Nat) : Int) ∧ x.flds = linV p ∧ linE p = 0 ∧ linV p ≠ [] := by
  intro ps
  induction ps with
  | nil => intro n k x h; simp [linesF] at h
  | cons p r ih =>
    intro n k x h
    rw [linesF] at h
    split at h
    · rename_i hc
      cases k with
      | zero =>
        simp at h; subst h
        exact ⟨0, p, by simp, by simp, rfl, hc.1, hc.2⟩
      | succ k =>
        simp only [List.getElem?_cons_succ] at h
        obtain ⟨j, q, h1, h2, h3⟩ := ih (n + 1) k x h
        exact ⟨j + 1, q, by simpa using h1, by rw [h2]; congr 1; omega, h3⟩
    · obtain ⟨j, q, h1, h2, h3⟩ := ih (n + 1) k x h
      exact ⟨j + 1, q, by simpa using h1, by rw [h2]; congr 1; omega, h3⟩
/-- A field as it is written. -/
def wrt (f : Fld) : List UInt8 := if f.quo then 34 :: (dbl f.text ++ [34]) else f.text
/-- The fields stand between white bytes from place e on. -/
def Fit (p : List UInt8) : Nat → List Fld → Prop
  | _, [] => True
  | e, f :: r => ∃ i : Nat, e ≤ i ∧ (∀ t, e ≤ t → t < i → ∃ h : t < p.length, wht p[t] = true) ∧ f.col = (i : Int) + 1 ∧ i + (wrt f).length ≤ p.length ∧ (p.drop i).take (wrt f).length = wrt f ∧ f.text.length ≤ 1000 ∧ Fit p (i + (wrt f).length) r
theorem Fit.white {p : List UInt8} {e : Nat} {fs : List Fld} (he : e < p.length) (hw : wht p[e] = true) (h : Fit p (e + 1) fs) : Fit p e fs := by
  cases fs with
  | nil => exact h
  | cons f r =>
    obtain ⟨i, h1, h2, h3⟩ := h
    refine ⟨i, by omega, ?_, h3⟩
    intro t ht hti
    by_cases e0 : t = e
    · subst e0; exact ⟨he, hw⟩
    · exact h2 t (by omega) hti
/-- The bytes of a closed quoted string are its text with each mark doubled, and a mark. -/
theorem qs_wrt : ∀ (n : Nat) (l : List UInt8), l.length ≤ n → (qs l).2.1 = true → l.take (qs l).1 = dbl (qs l).2.2 ++ [34] ∧ (qs l).1 = (dbl (qs l).2.2).length + 1 := by
  intro n
  induction n with
  | zero => intro l hl h; cases l with | nil => rw [qs_nil] at h; simp at h | cons _ _ => simp at hl
  | succ n ih =>
    intro l hl h
    cases l with
    | nil => rw [qs_nil] at h; simp at h
    | cons c r =>
      by_cases hc : c.toNat = 34
      · have e : c = 34 := UInt8.toNat_inj.1 hc
        subst e
        cases r with
        | nil => rw [qs_close1 34 hc]; exact ⟨rfl, rfl⟩
        | cons d r' =>
          by_cases hd : d.toNat = 34
          · have e : d = 34 := UInt8.toNat_inj.1 hd
            subst e
            rw [qs_two 34 34 r' hc hd] at h ⊢
            simp only at h
            obtain ⟨h1, h2⟩ := ih r' (by simp at hl; omega) h
            simp only
            rw [dbl, if_pos hc, List.take_succ_cons, List.take_succ_cons, h1]
            exact ⟨rfl, by simp; omega⟩
          · rw [qs_close2 34 d r' hc hd]; exact ⟨rfl, rfl⟩
      · cases hp : prn c
        · rw [qs_bad c r hc hp] at h; simp at h
        · rw [qs_one c r hc hp] at h ⊢
          simp only at h
          obtain ⟨h1, h2⟩ := ih r (by simp at hl; omega) h
          simp only
          rw [dbl, if_neg hc, List.take_succ_cons, h1]
          exact ⟨rfl, by simp; omega⟩
theorem tw_take (f : UInt8 → Bool) (l : List UInt8) : l.take (l.takeWhile f).length = l.takeWhile f := by
  induction l with
  | nil => rfl
  | cons c r ih => rw [List.takeWhile_cons]; split <;> simp [ih]
theorem fld_wrt (p : List UInt8) (i : Nat) (h : i < p.length) (hb : fldB p i = true) : fldE p i = i + (wrt (fldF p i)).length ∧ (p.drop i).take (wrt (fldF p i)).length = wrt (fldF p i) ∧ (fldF p i).col = (i : Int) + 1 := by
  cases hq : fldQ p i
  · have hF : fldF p i = ⟨(p.drop i).take (wnd p i - i), (i : Int) + 1, false⟩ := by unfold fldF; rw [hq]; rfl
    have hE : fldE p i = wnd p i := by unfold fldE; rw [hq]; rfl
    have hw := wnd_le p i (by omega)
    rw [hF, hE]
    show wnd p i = i + ((p.drop i).take (wnd p i - i)).length ∧ (p.drop i).take ((p.drop i).take (wnd p i - i)).length = (p.drop i).take (wnd p i - i) ∧ _
    have hl : ((p.drop i).take (wnd p i - i)).length = wnd p i - i := by simp; omega
    rw [hl]
    exact ⟨by omega, rfl, rfl⟩
  · have hF : fldF p i = ⟨qT p (i + 1), (i : Int) + 1, true⟩ := by unfold fldF; rw [hq]; rfl
    have hE : fldE p i = qE p (i + 1) := by unfold fldE; rw [hq]; rfl
    have hB : qB p (i + 1) = true := by unfold fldB at hb; rw [hq] at hb; simp at hb; exact hb.1
    have h34 : p[i] = 34 := by rw [fldQ_at p i h] at hq; exact UInt8.toNat_inj.1 (of_decide_eq_true hq)
    obtain ⟨h1, h2⟩ := qs_wrt _ (p.drop (i + 1)) (Nat.le_refl _) hB
    rw [hF, hE]
    show qE p (i + 1) = i + (34 :: (dbl (qT p (i + 1)) ++ [34])).length ∧ (p.drop i).take (34 :: (dbl (qT p (i + 1)) ++ [34])).length = 34 :: (dbl (qT p (i + 1)) ++ [34]) ∧ _
    have hl : (34 :: (dbl (qT p (i + 1)) ++ [34])).length = (qs (p.drop (i + 1))).1 + 1 := by
      rw [h2]; show _ = (dbl (qT p (i + 1))).length + 1 + 1; simp
    rw [hl]
    refine ⟨by unfold qE; omega, ?_, rfl⟩
    rw [q_at p i h, List.take_succ_cons, h1, h34]; rfl
theorem wrt_text (f : Fld) : f.text.length ≤ (wrt f).length := by
  unfold wrt
  split
  · have : ∀ l : List UInt8, l.length ≤ (dbl l).length := by
      intro l
      induction l with
      | nil => simp [dbl]
      | cons c r ih => rw [dbl]; split <;> simp <;> omega
    have := this f.text
    simp; omega
  · omega
theorem scn_fit (p : List UInt8) (hp : p.length ≤ 1000) : ∀ (n e : Nat) (fs : List Fld), p.length - e ≤ n → scn p e = .ok fs → Fit p e fs := by
  intro n
  induction n with
  | zero =>
    intro e fs hn h
    rw [scn_end p e (by omega)] at h; injection h with h; subst h; trivial
  | succ n ih =>
    intro e fs hn h
    by_cases hi : e < p.length
    · by_cases h59 : p[e].toNat = 59
      · rw [scn_semi p e hi h59] at h; injection h with h; subst h; trivial
      · cases hw : wht p[e]
        · cases hb : fldB p e
          · rw [scn_bad p e hi h59 hw hb] at h; cases h
          · rw [scn_field p e hi h59 hw hb] at h
            have h3 := fldE_lt p e hi hb h59 hw
            have h4 := fldE_le p e hi
            obtain ⟨f1, f2, f3⟩ := fld_wrt p e hi hb
            cases hq : scn p (fldE p e) with
            | ok ys =>
              rw [hq] at h
              simp only [pre, Except.ok.injEq] at h
              subst h
              have hy := ih (fldE p e) ys (by omega) hq
              rw [f1] at hy
              have := wrt_text (fldF p e)
              exact ⟨e, Nat.le_refl _, fun t h1 h2 => by omega, f3, by omega, f2, by omega, hy⟩
            | error x => rw [hq] at h; simp [pre] at h
        · rw [scn_white p e hi hw] at h
          exact (ih (e + 1) fs (by omega) h).white hi hw
    · rw [scn_end p e (by omega)] at h; injection h with h; subst h; trivial
theorem lin_fit (p : List UInt8) (h0 : linE p = 0) (hn : linV p ≠ []) : Fit p 0 (linV p) := by
  unfold linE at h0
  unfold linV at hn ⊢
  cases hr : linR p with
  | error e => rw [hr] at hn; exact absurd rfl hn
  | ok xs =>
    unfold linR at hr
    by_cases hl : 1000 < p.length
    · rw [if_pos hl] at hr; cases hr
    · rw [if_neg hl] at hr
      cases hs : scn p 0 with
      | ok ys => rw [hs] at hr; injection hr with hr; subst hr; exact scn_fit p (by omega) _ 0 ys (Nat.le_refl _) hs
      | error e => rw [hs] at hr; cases hr
/-- A part of a part. -/
theorem part (l p : List UInt8) (s i n : Nat) (h : (l.drop s).take p.length = p) (hi : i + n ≤ p.length) : (l.drop (s + i)).take n = (p.drop i).take n := by
  conv => rhs; rw [← h]
  rw [List.drop_take, List.take_take, List.drop_drop, show min n (p.length - i) = n by omega]
theorem part_at (l p : List UInt8) (s t : Nat) (h : (l.drop s).take p.length = p) (ht : t < p.length) (hl : s + t < l.length) : l[s + t] = p[t] := by
  have h1 : p[t]? = l[s + t]? := by
    conv => lhs; rw [← h]
    rw [List.getElem?_take_of_lt ht, List.getElem?_drop]
  rw [List.getElem?_eq_getElem ht, List.getElem?_eq_getElem hl] at h1
  injection h1 with h1
  exact h1.symm
end Go.Proofs.YtjdldofgkhibnaaGreatDoor
