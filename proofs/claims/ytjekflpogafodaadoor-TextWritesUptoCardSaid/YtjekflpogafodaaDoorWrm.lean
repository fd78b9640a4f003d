/- What is written is read back: the lines of the text of split lines. No run of the program. -/
import Derived.Test.YtjekflpogafodaaDoorWri
import Derived.Test.YtjekflpogafodaaDoorTxE
set_option linter.unusedSimpArgs false
set_option linter.unusedVariables false
namespace Go.Proofs.YtjekflpogafodaaDoor

/-- A field as splitting gives it. -/
def okF (f : Fld) : Prop := (f.quo = false ∧ f.text ≠ [] ∧ f.text.all wrd = true) ∨ (f.quo = true ∧ f.text.all prn = true)
theorem wrd_bytes (b : UInt8) (h : wrd b = true) : b.toNat ≠ 34 ∧ b.toNat ≠ 59 ∧ b.toNat ≠ 10 ∧ wht b = false := by
  rw [wrd_iff] at h
  refine ⟨h.2.2.1, h.2.2.2, by omega, ?_⟩
  cases hw : wht b
  · rfl
  · rw [wht_iff] at hw; omega
theorem tw_all (f : UInt8 → Bool) (l : List UInt8) : (l.takeWhile f).all f = true := by
  induction l with
  | nil => rfl
  | cons c r ih =>
    rw [List.takeWhile_cons]
    split
    · rename_i h; rw [List.all_cons, h, ih]; rfl
    · rfl
theorem tw_app (f : UInt8 → Bool) (a r : List UInt8) (h : a.all f = true) (hr : ∀ c, r.head? = some c → f c = false) : (a ++ r).takeWhile f = a := by
  induction a with
  | nil =>
    cases r with
    | nil => rfl
    | cons c r => rw [List.nil_append, List.takeWhile_cons, hr c rfl]; rfl
  | cons c a ih => rw [List.all_cons, Bool.and_eq_true] at h; rw [List.cons_append, List.takeWhile_cons, if_pos h.1, ih h.2]
theorem wd_all (t : List UInt8) (h0 : t ≠ []) (h : t.all wrd = true) : wdB t = true := by
  have e : wnd t 0 = t.length := by
    unfold wnd
    have := tw_app wrd t [] h (by intro c hc; simp at hc)
    rw [List.append_nil] at this
    rw [List.drop_zero, this]; simp
  unfold wdB
  cases t with
  | nil => exact absurd rfl h0
  | cons c r => simp [e]
theorem wrF_word (f : Fld) (h : f.quo = false) (h0 : f.text ≠ []) (ha : f.text.all wrd = true) : wrF f = f.text := by unfold wrF; rw [if_pos ⟨h, wd_all _ h0 ha⟩]
theorem wrF_quo (f : Fld) (h : f.quo = true) : wrF f = 34 :: (dbl f.text ++ [34]) := by unfold wrF; rw [if_neg (by simp [h])]
theorem wrF_wrt (f : Fld) (h : okF f) : wrF f = wrt f := by
  rcases h with ⟨h, h0, ha⟩ | ⟨h, ha⟩
  · rw [wrF_word f h h0 ha]; unfold wrt; rw [h]; rfl
  · rw [wrF_quo f h]; unfold wrt; rw [h]; rfl
theorem qs_prn : ∀ (n : Nat) (l : List UInt8), l.length ≤ n → (qs l).2.1 = true → (qs l).2.2.all prn = true := by
  intro n
  induction n with
  | zero => intro l hl h; cases l with | nil => rw [qs_nil] at h; simp at h | cons _ _ => simp at hl
  | succ n ih =>
    intro l hl h
    cases l with
    | nil => rw [qs_nil] at h; simp at h
    | cons c r =>
      by_cases hc : c.toNat = 34
      · cases r with
        | nil => rw [qs_close1 c hc]; rfl
        | cons d r' =>
          by_cases hd : d.toNat = 34
          · rw [qs_two c d r' hc hd] at h ⊢
            have := ih r' (by simp at hl; omega) h
            simp only [List.all_cons, this, Bool.and_true]; decide
          · rw [qs_close2 c d r' hc hd]; rfl
      · cases hp : prn c
        · rw [qs_bad c r hc hp] at h; simp at h
        · rw [qs_one c r hc hp] at h ⊢
          have := ih r (by simp at hl; omega) h
          simp only [List.all_cons, this, hp, Bool.and_true]
theorem fld_ok (p : List UInt8) (i : Nat) (h : i < p.length) (hb : fldB p i = true) (h59 : p[i].toNat ≠ 59) (hw : wht p[i] = false) : okF (fldF p i) := by
  have hlt := fldE_lt p i h hb h59 hw
  cases hq : fldQ p i
  · have hF : fldF p i = ⟨(p.drop i).take (wnd p i - i), (i : Int) + 1, false⟩ := by unfold fldF; rw [hq]; rfl
    have hE : fldE p i = wnd p i := by unfold fldE; rw [hq]; rfl
    have ht : (p.drop i).take (wnd p i - i) = (p.drop i).takeWhile wrd := by
      rw [show wnd p i - i = ((p.drop i).takeWhile wrd).length by unfold wnd; omega]; exact tw_take wrd _
    refine Or.inl ⟨by rw [hF], ?_, ?_⟩
    · rw [hF]; show (p.drop i).take (wnd p i - i) ≠ []
      intro e
      have := congrArg List.length e
      rw [ht] at this
      rw [hE] at hlt
      unfold wnd at hlt
      rw [List.length_nil] at this
      omega
    · rw [hF]; show ((p.drop i).take (wnd p i - i)).all wrd = true
      rw [ht]; exact tw_all wrd _
  · have hF : fldF p i = ⟨qT p (i + 1), (i : Int) + 1, true⟩ := by unfold fldF; rw [hq]; rfl
    have hB : qB p (i + 1) = true := by unfold fldB at hb; rw [hq] at hb; simp at hb; exact hb.1
    refine Or.inr ⟨by rw [hF], ?_⟩
    rw [hF]
    exact qs_prn _ _ (Nat.le_refl _) hB
/-- The fields of a scan are such fields, and written they take no more room. -/
theorem scn_ok (p : List UInt8) : ∀ (n e : Nat) (fs : List Fld), p.length - e ≤ n → scn p e = .ok fs → (∀ f ∈ fs, okF f) ∧ (fs ≠ [] → e + (wrJ fs).length ≤ p.length) := by
  intro n
  induction n with
  | zero => intro e fs hn h; rw [scn_end p e (by omega)] at h; injection h with h; subst h; simp
  | succ n ih =>
    intro e fs hn h
    by_cases hi : e < p.length
    · by_cases h59 : p[e].toNat = 59
      · rw [scn_semi p e hi h59] at h; injection h with h; subst h; simp
      · cases hw : wht p[e]
        · cases hb : fldB p e
          · rw [scn_bad p e hi h59 hw hb] at h; cases h
          · rw [scn_field p e hi h59 hw hb] at h
            have h3 := fldE_lt p e hi hb h59 hw
            have h4 := fldE_le p e hi
            obtain ⟨f1, f2, f3⟩ := fld_wrt p e hi hb
            have hok := fld_ok p e hi hb h59 hw
            cases hq : scn p (fldE p e) with
            | error x => rw [hq] at h; simp [pre] at h
            | ok ys =>
              rw [hq] at h
              simp only [pre, Except.ok.injEq] at h
              subst h
              have hy := ih (fldE p e) ys (by omega) hq
              refine ⟨?_, ?_⟩
              · intro f hf
                rcases List.mem_cons.1 hf with rfl | hf
                · exact hok
                · exact hy.1 f hf
              · intro _
                have e1 : wrF (fldF p e) = wrt (fldF p e) := wrF_wrt _ hok
                by_cases hy0 : ys = []
                · subst hy0
                  simp [wrJ, e1]; omega
                · -- white behind the field
                  have ha : aft p (fldE p e) = true := by
                    unfold fldB at hb; unfold fldE
                    cases hQ : fldQ p e
                    · rw [hQ] at hb; simpa using hb
                    · rw [hQ] at hb; simp at hb; simpa using hb.2
                  by_cases hE : fldE p e < p.length
                  · rw [aft_at p _ hE] at ha
                    by_cases hS : p[fldE p e].toNat = 59
                    · rw [scn_semi p _ hE hS] at hq; injection hq with hq; exact absurd hq.symm hy0
                    · have hW : wht p[fldE p e] = true := by simpa [hS] using ha
                      rw [scn_white p _ hE hW] at hq
                      have hy2 := (ih (fldE p e + 1) ys (by omega) hq).2 hy0
                      have : (wrJ (fldF p e :: ys)).length = (wrF (fldF p e)).length + 1 + (wrJ ys).length := by
                        cases ys with
                        | nil => exact absurd rfl hy0
                        | cons y r => simp [wrJ]; omega
                      show e + (wrJ (fldF p e :: ys)).length ≤ p.length
                      rw [this, e1]; omega
                  · rw [scn_end p _ (by omega)] at hq; injection hq with hq; exact absurd hq.symm hy0
        · rw [scn_white p e hi hw] at h
          have := ih (e + 1) fs (by omega) h
          exact ⟨this.1, fun h0 => by have := this.2 h0; omega⟩
    · rw [scn_end p e (by omega)] at h; injection h with h; subst h; simp
/-- The fields read back. -/
def refld (e : Nat) : List Fld → List Fld
  | [] => []
  | f :: r => ⟨f.text, (e : Int) + 1, f.quo⟩ :: refld (e + (wrF f).length + 1) r
theorem qs_dbl2 (l r : List UInt8) (h : l.all prn = true) (hr : ∀ c, r.head? = some c → c.toNat ≠ 34) : qs (dbl l ++ 34 :: r) = ((dbl l).length + 1, true, l) := by
  induction l with
  | nil =>
    cases r with
    | nil => exact qs_close1 34 rfl
    | cons d r => exact qs_close2 34 d r rfl (hr d rfl)
  | cons c t ih =>
    simp only [List.all_cons, Bool.and_eq_true] at h
    have ih := ih h.2
    by_cases hc : c.toNat = 34
    · have e : c = 34 := UInt8.toNat_inj.1 hc
      subst e
      rw [dbl, if_pos hc, List.cons_append, List.cons_append, qs_two 34 34 _ rfl rfl, ih]; simp
    · rw [dbl, if_neg hc, List.cons_append, qs_one c _ hc h.1, ih]; simp
/-- One field in its place. -/
theorem fld_back (A R : List UInt8) (f : Fld) (h : okF f) (hR : ∀ c, R.head? = some c → c = 32) :
    ∃ hi : A.length < (A ++ wrF f ++ R).length, (A ++ wrF f ++ R)[A.length].toNat ≠ 59 ∧ wht (A ++ wrF f ++ R)[A.length] = false ∧ fldB (A ++ wrF f ++ R) A.length = true ∧ fldE (A ++ wrF f ++ R) A.length = A.length + (wrF f).length ∧ fldF (A ++ wrF f ++ R) A.length = ⟨f.text, (A.length : Int) + 1, f.quo⟩ := by
  obtain ⟨t, c, q⟩ := f
  have hd : (A ++ wrF ⟨t, c, q⟩ ++ R).drop A.length = wrF ⟨t, c, q⟩ ++ R := by rw [List.append_assoc, List.drop_left]
  have haft : aft (A ++ wrF ⟨t, c, q⟩ ++ R) (A.length + (wrF ⟨t, c, q⟩).length) = true := by
    unfold aft
    rw [← List.length_append]
    cases R with
    | nil => rw [List.append_nil, List.getElem?_eq_none (Nat.le_refl _)]
    | cons b R =>
      have hb := hR b rfl
      subst hb
      rw [List.getElem?_append_right (Nat.le_refl _)]
      simp; decide
  rcases h with ⟨h, h0, ha⟩ | ⟨h, ha⟩
  · simp only at h h0 ha
    subst h
    have hF := wrF_word ⟨t, c, false⟩ rfl h0 ha
    simp only at hF
    rw [hF] at hd haft ⊢
    obtain ⟨b, r, rfl⟩ : ∃ b r, t = b :: r := by cases t with | nil => exact absurd rfl h0 | cons b r => exact ⟨b, r, rfl⟩
    have hi : A.length < (A ++ (b :: r) ++ R).length := by simp
    have hb : (A ++ (b :: r) ++ R)[A.length] = b := by simp
    have hwb := wrd_bytes b (by simp only [List.all_cons, Bool.and_eq_true] at ha; exact ha.1)
    have hq : fldQ (A ++ (b :: r) ++ R) A.length = false := by rw [fldQ_at _ _ hi, hb]; exact decide_eq_false hwb.1
    have hwn : wnd (A ++ (b :: r) ++ R) A.length = A.length + (b :: r).length := by
      unfold wnd
      rw [hd, tw_app wrd (b :: r) R ha (by intro c hc; rw [hR c hc]; decide)]
    refine ⟨hi, by rw [hb]; exact hwb.2.1, by rw [hb]; exact hwb.2.2.2, ?_, ?_, ?_⟩
    · unfold fldB; rw [hq]; simp only [hwn]; simpa using haft
    · unfold fldE; rw [hq]; simp only [hwn]; rfl
    · unfold fldF; rw [hq]; simp only [hwn]
      rw [if_neg (by simp), hd, show A.length + (b :: r).length - A.length = (b :: r).length by omega, List.take_left]
  · simp only at h ha
    subst h
    have hF := wrF_quo ⟨t, c, true⟩ rfl
    simp only at hF
    rw [hF] at hd haft ⊢
    have hi : A.length < (A ++ (34 :: (dbl t ++ [34])) ++ R).length := by simp
    have hb : (A ++ (34 :: (dbl t ++ [34])) ++ R)[A.length] = 34 := by simp
    have hq : fldQ (A ++ (34 :: (dbl t ++ [34])) ++ R) A.length = true := by rw [fldQ_at _ _ hi, hb]; rfl
    have hd1 : (A ++ (34 :: (dbl t ++ [34])) ++ R).drop (A.length + 1) = dbl t ++ 34 :: R := by
      rw [← List.drop_drop, hd]; simp
    have hqs := qs_dbl2 t R ha (by intro c hc; rw [hR c hc]; decide)
    have hqE : qE (A ++ (34 :: (dbl t ++ [34])) ++ R) (A.length + 1) = A.length + (34 :: (dbl t ++ [34])).length := by unfold qE; rw [hd1, hqs]; simp; omega
    have hqB : qB (A ++ (34 :: (dbl t ++ [34])) ++ R) (A.length + 1) = true := by unfold qB; rw [hd1, hqs]
    have hqT : qT (A ++ (34 :: (dbl t ++ [34])) ++ R) (A.length + 1) = t := by unfold qT; rw [hd1, hqs]
    refine ⟨hi, by rw [hb]; decide, by rw [hb]; decide, ?_, ?_, ?_⟩
    · unfold fldB; rw [hq]; simp only [hqE, hqB]; simpa using haft
    · unfold fldE; rw [hq]; simp only [hqE]; rfl
    · unfold fldF; rw [hq]; simp only [hqT]; rfl
theorem scn_back : ∀ (fs : List Fld) (A : List UInt8), (∀ f ∈ fs, okF f) → scn (A ++ wrJ fs) A.length = .ok (refld A.length fs) := by
  intro fs
  induction fs with
  | nil => intro A _; rw [scn_end _ _ (by simp [wrJ])]; rfl
  | cons f r ih =>
    intro A h
    cases r with
    | nil =>
      have e : A ++ wrJ [f] = A ++ wrF f ++ [] := by simp [wrJ]
      obtain ⟨hi, h1, h2, h3, h4, h5⟩ := fld_back A [] f (h f (by simp)) (by intro c hc; simp at hc)
      rw [e, scn_field _ _ hi h1 h2 h3, h4, h5, scn_end _ _ (by simp)]
      rfl
    | cons g r =>
      have e : A ++ wrJ (f :: g :: r) = A ++ wrF f ++ (32 :: wrJ (g :: r)) := by simp [wrJ]
      obtain ⟨hi, h1, h2, h3, h4, h5⟩ := fld_back A (32 :: wrJ (g :: r)) f (h f (by simp)) (by intro c hc; simp at hc; exact hc.symm)
      have e2 : A ++ wrF f ++ (32 :: wrJ (g :: r)) = (A ++ wrF f ++ [32]) ++ wrJ (g :: r) := by simp
      have hE : A.length + (wrF f).length < (A ++ wrF f ++ (32 :: wrJ (g :: r))).length := by simp
      have hc : (A ++ wrF f ++ (32 :: wrJ (g :: r)))[A.length + (wrF f).length] = 32 := by
        simp only [← List.length_append]
        rw [List.getElem_append_right (Nat.le_refl _)]
        simp
      have := ih (A ++ wrF f ++ [32]) (fun x hx => h x (by simp at hx ⊢; exact Or.inr hx))
      rw [e, scn_field _ _ hi h1 h2 h3, h4, h5, scn_white _ _ hE (by rw [hc]; decide), e2]
      have hl : A.length + (wrF f).length + 1 = (A ++ wrF f ++ [32]).length := by simp; omega
      rw [hl, this]
      simp only [pre, refld]
      rw [hl]
      rfl
theorem pcs_app (T R : List UInt8) (h : ∀ b ∈ T, b.toNat ≠ 10) : pcs (T ++ 10 :: R) = T :: pcs R := by
  induction T with
  | nil => rw [List.nil_append, pcs, if_pos (by decide)]
  | cons c T ih =>
    rw [List.cons_append, pcs, if_neg (h c (by simp)), ih (fun b hb => h b (by simp [hb]))]
theorem dbl_bytes (l : List UInt8) (h : l.all prn = true) : ∀ b ∈ dbl l, b.toNat ≠ 10 := by
  induction l with
  | nil => intro b hb; simp [dbl] at hb
  | cons c r ih =>
    rw [List.all_cons, Bool.and_eq_true] at h
    intro b hb
    rw [dbl] at hb
    split at hb
    · simp only [List.mem_cons] at hb
      rcases hb with rfl | rfl | hb
      · decide
      · decide
      · exact ih h.2 b hb
    · rcases List.mem_cons.1 hb with rfl | hb
      · have := (prn_iff b).1 h.1; omega
      · exact ih h.2 b hb
theorem wrF_bytes (f : Fld) (h : okF f) : ∀ b ∈ wrF f, b.toNat ≠ 10 := by
  rcases h with ⟨h, h0, ha⟩ | ⟨h, ha⟩
  · rw [wrF_word f h h0 ha]
    intro b hb
    exact (wrd_bytes b (List.all_eq_true.1 ha b hb)).2.2.1
  · rw [wrF_quo f h]
    intro b hb
    rcases List.mem_cons.1 hb with rfl | hb
    · decide
    · rcases List.mem_append.1 hb with hb | hb
      · exact dbl_bytes _ ha b hb
      · simp at hb; subst hb; decide
theorem wrJ_bytes (fs : List Fld) (h : ∀ f ∈ fs, okF f) : ∀ b ∈ wrJ fs, b.toNat ≠ 10 := by
  cases fs with
  | nil => intro b hb; simp [wrJ] at hb
  | cons f r =>
    intro b hb
    rw [wrJ] at hb
    rcases List.mem_append.1 hb with hb | hb
    · exact wrF_bytes f (h f (by simp)) b hb
    · obtain ⟨g, hg, hb⟩ := List.mem_flatMap.1 hb
      rcases List.mem_cons.1 hb with rfl | hb
      · decide
      · exact wrF_bytes g (h g (by simp [hg])) b hb
/-- A line that was split: its fields are such fields, there are some, and they are written in no more than 1000 bytes. -/
structure Good (x : Lin) : Prop where
  some : x.flds ≠ []
  ok : ∀ f ∈ x.flds, okF f
  short : (wrJ x.flds).length ≤ 1000
theorem lin_good (p : List UInt8) (h0 : linE p = 0) (hn : linV p ≠ []) (n : Int) : Good ⟨n, linV p⟩ ∧ (wrJ (linV p)).length ≤ p.length := by
  have h1 : (∀ f ∈ linV p, okF f) ∧ (wrJ (linV p)).length ≤ p.length ∧ p.length ≤ 1000 := by
    unfold linE at h0
    unfold linV at hn ⊢
    cases hr : linR p with
    | error e => rw [hr] at hn; exact absurd rfl hn
    | ok xs =>
      rw [hr] at hn
      simp only at hn
      unfold linR at hr
      by_cases hl : 1000 < p.length
      · rw [if_pos hl] at hr; cases hr
      · rw [if_neg hl] at hr
        cases hs : scn p 0 with
        | ok ys =>
          rw [hs] at hr; injection hr with hr; subst hr
          have := scn_ok p _ 0 ys (Nat.le_refl _) hs
          exact ⟨this.1, by have := this.2 hn; simpa using this, by omega⟩
        | error e => rw [hs] at hr; cases hr
  exact ⟨⟨hn, h1.1, by have := h1.2; show (wrJ (linV p)).length ≤ 1000; omega⟩, h1.2.1⟩
theorem linesF_good : ∀ (ps : List (List UInt8)) (n : Nat), (∀ x ∈ linesF n ps, Good x) ∧ (wrA (linesF n ps)).length ≤ (ps.map fun p => p.length + 1).sum := by
  intro ps
  induction ps with
  | nil => intro n; simp [linesF, wrA]
  | cons p r ih =>
    intro n
    have hi := ih (n + 1)
    rw [linesF]
    split
    · rename_i hc
      obtain ⟨g1, g2⟩ := lin_good p hc.1 hc.2 n
      refine ⟨?_, ?_⟩
      · intro x hx
        rcases List.mem_cons.1 hx with rfl | hx
        · exact g1
        · exact hi.1 x hx
      · have : (wrA (⟨(n : Int), linV p⟩ :: linesF (n + 1) r)).length = (wrJ (linV p)).length + 1 + (wrA (linesF (n + 1) r)).length := by
          unfold wrA
          rw [List.flatMap_cons, List.length_append]
          have : (wrL ⟨(n : Int), linV p⟩).length = (wrJ (linV p)).length + 1 := by
            unfold wrL; rw [if_neg hc.2]; simp
          rw [this]
        rw [this, List.map_cons, List.sum_cons]
        omega
    · exact ⟨hi.1, by rw [List.map_cons, List.sum_cons]; have := hi.2; omega⟩
theorem pcs_sum (l : List UInt8) : ((pcs l).map fun p => p.length + 1).sum = l.length + 1 := by
  induction l with
  | nil => rfl
  | cons c r ih =>
    rw [pcs]
    by_cases h : c.toNat = 10
    · rw [if_pos h]; simp only [List.map_cons, List.sum_cons, ih, List.length_nil, List.length_cons]; omega
    · rw [if_neg h]
      cases hp : pcs r with
      | nil => rw [hp] at ih; simp at ih
      | cons p ps => rw [hp] at ih; simp only [List.map_cons, List.sum_cons, List.length_cons] at ih ⊢; omega
/-- The lines read back. -/
def reln (n : Nat) : List Lin → List Lin
  | [] => []
  | x :: r => ⟨(n : Int), refld 0 x.flds⟩ :: reln (n + 1) r
theorem refld_ne (e : Nat) (fs : List Fld) (h : fs ≠ []) : refld e fs ≠ [] := by cases fs with | nil => exact absurd rfl h | cons f r => simp [refld]
theorem line_back (x : Lin) (h : Good x) : linV (wrJ x.flds) = refld 0 x.flds ∧ linE (wrJ x.flds) = 0 := by
  have := scn_back x.flds [] h.ok
  rw [List.nil_append] at this
  obtain ⟨e1, e2, e3⟩ := lin_ok (wrJ x.flds) (by have := h.short; omega) _ this
  exact ⟨e1, e3⟩
theorem lines_back : ∀ (ls : List Lin) (n : Nat), (∀ x ∈ ls, Good x) → linesF n (pcs (wrA ls)) = reln n ls ∧ diasF n (pcs (wrA ls)) = [] := by
  intro ls
  induction ls with
  | nil =>
    intro n _
    obtain ⟨e1, e2, e3⟩ := lin_ok [] (by simp) [] (scn_end [] 0 (by simp))
    simp [wrA, pcs, linesF, diasF, reln, e1, e3]
  | cons x r ih =>
    intro n h
    have hx := h x (by simp)
    obtain ⟨b1, b2⟩ := line_back x hx
    have e : wrA (x :: r) = wrJ x.flds ++ 10 :: wrA r := by
      unfold wrA wrL
      rw [List.flatMap_cons, if_neg hx.some]; simp
    obtain ⟨i1, i2⟩ := ih (n + 1) (fun y hy => h y (by simp [hy]))
    rw [e, pcs_app _ _ (wrJ_bytes _ hx.ok), linesF, diasF, b1, b2, if_pos ⟨rfl, refld_ne 0 _ hx.some⟩, if_pos rfl, i1, i2]
    exact ⟨rfl, rfl⟩
/-- What is written of split lines is split into the same lines, numbered from 1. -/
theorem split_back (l : List UInt8) (h : l.length ≤ 262143) : spL (wrA (spL l)) = reln 1 (spL l) ∧ spD (wrA (spL l)) = [] ∧ (wrA (spL l)).length ≤ l.length + 1 ∧ ∀ x ∈ spL l, Good x := by
  have hs : spL l = linesF 1 (pcs l) := by unfold spL; rw [if_neg (by omega)]
  obtain ⟨g1, g2⟩ := linesF_good (pcs l) 1
  rw [pcs_sum] at g2
  rw [hs]
  obtain ⟨b1, b2⟩ := lines_back (linesF 1 (pcs l)) 1 g1
  refine ⟨?_, ?_, g2, g1⟩
  · conv => lhs; unfold spL
    rw [if_neg (by omega), b1]
  · unfold spD
    rw [if_neg (by omega), b2]; rfl
theorem reln_length (ls : List Lin) : ∀ n, (reln n ls).length = ls.length := by
  induction ls with
  | nil => intro n; rfl
  | cons x r ih => intro n; simp [reln, ih]
theorem reln_at (ls : List Lin) : ∀ (n k : Nat) (x : Lin), ls[k]? = some x → (reln n ls)[k]? = some ⟨((n + k : Nat) : Int), refld 0 x.flds⟩ := by
  induction ls with
  | nil => intro n k x h; simp at h
  | cons y r ih =>
    intro n k x h
    cases k with
    | zero => simp at h; subst h; simp [reln]
    | succ k => simp only [List.getElem?_cons_succ] at h; rw [reln, List.getElem?_cons_succ, ih (n + 1) k x h]; congr 3; omega
theorem refld_length (fs : List Fld) : ∀ e, (refld e fs).length = fs.length := by
  induction fs with
  | nil => intro e; rfl
  | cons f r ih => intro e; simp [refld, ih]
theorem refld_at (fs : List Fld) : ∀ (e k : Nat) (f : Fld), fs[k]? = some f → ∃ c, (refld e fs)[k]? = some ⟨f.text, c, f.quo⟩ := by
  induction fs with
  | nil => intro e k f h; simp at h
  | cons g r ih =>
    intro e k f h
    cases k with
    | zero => simp at h; subst h; exact ⟨_, by simp [refld]; rfl⟩
    | succ k => simp only [List.getElem?_cons_succ] at h; rw [refld, List.getElem?_cons_succ]; exact ih _ k f h
end Go.Proofs.YtjekflpogafodaaDoor
