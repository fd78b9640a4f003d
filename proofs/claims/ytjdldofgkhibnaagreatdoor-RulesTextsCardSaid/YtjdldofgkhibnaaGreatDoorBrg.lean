/- The text package's contracts in the walker's words: decimals, numbers, lines that are written, a text that is split. -/
import Derived.Test.YtjdldofgkhibnaaGreatDoorVz
import Derived.Test.YtjdldofgkhibnaaGreatDoorFda
import Derived.Test.YtjdldofgkhibnaaGreatDoorNumA
import Derived.Test.YtjdldofgkhibnaaGreatDoorTxF
import Derived.Test.YtjdldofgkhibnaaGreatDoorWrl
import Derived.KernelRfl
set_option linter.unusedSimpArgs false
set_option linter.unusedVariables false
set_option maxRecDepth 100000
namespace Go.Proofs.YtjdldofgkhibnaaGreatDoor
open Go.RowKit

/-- The library's variables, as what is known of the world. -/
def rE : List Ex := [⟨0, fun _ => none, Env, fun _ _ h hb => h.stays hb⟩]
theorem rE_env {w : World} (h : ExtOK rE w) : Env w := (h _ (List.mem_cons_self ..)).2
theorem rE_of {w : World} (h : Env w) : ExtOK rE w := fun e he => by
  rcases List.mem_cons.1 he with rfl | he
  · exact ⟨(fun _ _ h => by cases h), h⟩
  · cases he
theorem ownsL_nil (b : Nat) (w : World) : OwnsL b [] [] w := ⟨rfl, fun i o h => by simp [obsOf] at h, fun i j o p k h => by simp [obsOf] at h⟩
/-- The decimal of a number. -/
def itS (n : Int) : ByteArray := str (Lib.itoa n)
theorem dec_sp (n : Int) (hn : I64 n) : SpecG Tryz.prog rE [] 34 #[.int .i64 n] [] (fun _ => .string (itS n)) := by
  intro w hE _
  exact (decimal_any n w hn (rE_env hE)).mono fun e w' ⟨he, hb⟩ => ⟨[], he, ownsL_nil _ _, hb⟩
theorem num_g (l : List UInt8) (lo hi : Int) (hl : l.length ≤ 281474976710656) (hlo : I64 lo) (hhi : I64 hi) : SpecG Tryz.prog rE [] 95 #[.string (str l), .int .i64 lo, .int .i64 hi] [] (fun _ => .tuple #[.int .i64 (numV l lo hi), .int .i64 (numE l lo hi)]) := by
  intro w hE _
  exact (number_any l lo hi w hl hlo hhi (rE_env hE)).mono fun e w' ⟨he, hb⟩ => ⟨[], he, ownsL_nil _ _, hb⟩
/-- A word that is written. -/
def fB (b : ByteArray) : Fld := ⟨b.data.toList, 0, false⟩
def fV (b : ByteArray) : List Value := [.string b, .int .i64 0, .bool false]
theorem FC_fB (b : ByteArray) : FC (fB b) = fV b := by
  show [Value.string (str b.data.toList), _, _] = _
  rw [str_of]
  rfl
theorem flat_fB (l : List ByteArray) : (l.map fB).flatMap FC = l.flatMap fV := by
  induction l with
  | nil => rfl
  | cons b l ih => simp only [List.map_cons, List.flatMap_cons, ih, FC_fB]
theorem FC_len (f : Fld) : (FC f).length = 3 := rfl
theorem rdF_of {w : World} {a : Option Addr} {c : Nat} {fs : List Fld} (hA : AOK a fs.length) (h : Rd w a (fs.flatMap FC)) : RdF w (.slice a fs.length c) fs := by
  by_cases hn : fs = []
  · subst hn; exact Or.inl ⟨rfl, _, _, rfl⟩
  · have hp : fs.length ≠ 0 := fun e => hn (List.eq_nil_of_length_eq_zero e)
    cases a with
    | none => exact absurd (hA.1 rfl) hp
    | some q =>
      have hq := hA.2 hp q rfl
      obtain ⟨g, o, s⟩ := q
      simp only at hq
      subst hq
      have at0 : ∀ k f i, fs[k]? = some f → i < 3 → w.cell? ⟨g, o + k * 3 + i, none⟩ = (FC f)[i]? := by
        intro k f i hk hi
        have hkl := (List.getElem?_eq_some_iff.1 hk).1
        have h1 := h (k * 3 + i) ((FC f)[i]'(by rw [FC_len]; exact hi)) (by
          rw [flat_at FC 3 FC_len i hi k fs f hk]
          exact List.getElem?_eq_getElem _)
        rw [List.getElem?_eq_getElem (by rw [FC_len]; exact hi), ← h1]
        simp [bk, ofs, Nat.add_assoc]
      have hlt : g < w.heap.size := by
        have h0 : fs[0]? = some (fs[0]'(by omega)) := List.getElem?_eq_getElem _
        exact block_of_cell (at0 0 _ 0 h0 (by omega))
      refine Or.inr ⟨hn, g, o, c, rfl, hlt, trivial, trivial, fun k f hf => ?_⟩
      exact ⟨at0 k f 0 hf (by omega), at0 k f 1 hf (by omega), at0 k f 2 hf (by omega)⟩
/-- A line that is to be written: where its fields lie. -/
structure LnA where
  a : Option Addr
  c : Nat
  fs : List ByteArray
def lnP (l : LnA) : List Value := [.int .i64 0, .slice l.a l.fs.length l.c]
def lnL (ls : List LnA) : List Lin := ls.map fun l => ⟨0, l.fs.map fB⟩
def wtS (ls : List LnA) : ByteArray := str (wrA (lnL ls))
theorem rdL_of {w : World} {A : Option Addr} {c : Nat} {ls : List LnA} (hA : AOK A ls.length) (h : Rd w A (ls.flatMap lnP)) (hl : ∀ l ∈ ls, AOK l.a l.fs.length ∧ Rd w l.a (l.fs.flatMap fV)) : RdL w (.slice A ls.length c) (lnL ls) := by
  have hlen : (lnL ls).length = ls.length := by simp [lnL]
  by_cases hn : ls = []
  · subst hn; exact Or.inl ⟨rfl, _, _, rfl⟩
  · have hp : ls.length ≠ 0 := fun e => hn (List.eq_nil_of_length_eq_zero e)
    cases A with
    | none => exact absurd (hA.1 rfl) hp
    | some q =>
      have hq := hA.2 hp q rfl
      obtain ⟨g, o, s⟩ := q
      simp only at hq
      subst hq
      have at0 : ∀ k x i, ls[k]? = some x → i < 2 → w.cell? ⟨g, o + k * 2 + i, none⟩ = (lnP x)[i]? := by
        intro k x i hk hi
        have hkl := (List.getElem?_eq_some_iff.1 hk).1
        have h1 := h (k * 2 + i) ((lnP x)[i]'(by simp [lnP]; exact hi)) (by
          rw [flat_at lnP 2 (fun _ => rfl) i hi k ls x hk]
          exact List.getElem?_eq_getElem _)
        rw [List.getElem?_eq_getElem (by simp [lnP]; exact hi), ← h1]
        simp [bk, ofs, Nat.add_assoc]
      have hlt : g < w.heap.size := by
        have h0 : ls[0]? = some (ls[0]'(by omega)) := List.getElem?_eq_getElem _
        exact block_of_cell (at0 0 _ 0 h0 (by omega))
      refine Or.inr ⟨by simp [lnL, hn], g, o, c, by rw [hlen], hlt, trivial, trivial, fun k x hx => ?_⟩
      simp only [lnL, List.getElem?_map, Option.map_eq_some_iff] at hx
      obtain ⟨y, hy, rfl⟩ := hx
      obtain ⟨h1, h2⟩ := hl y (List.mem_of_getElem? hy)
      refine ⟨_, at0 k y 0 hy (by omega), at0 k y 1 hy (by omega), ?_⟩
      have := rdF_of (w := w) (a := y.a) (c := y.c) (fs := y.fs.map fB) (by rw [List.length_map]; exact h1) (by rw [flat_fB]; exact h2)
      rw [List.length_map] at this
      exact this
theorem wr_gen (A : Option Addr) (c : Nat) (ls : List LnA) (hA : AOK A ls.length) (hl : ∀ l ∈ ls, AOK l.a l.fs.length) (hf : Fine (lnL ls)) :
    SpecG Tryz.prog rE ((A, ls.flatMap lnP) :: ls.map fun l => (l.a, l.fs.flatMap fV)) 18 #[.slice A ls.length c] [] (fun _ => .string (wtS ls)) := by
  intro w hE hrd
  have hL : RdL w (.slice A ls.length c) (lnL ls) := rdL_of hA (hrd _ _ (List.mem_cons_self ..)) fun l hm => ⟨hl l hm, hrd _ _ (List.mem_cons_of_mem _ (List.mem_map.2 ⟨l, hm, rfl⟩))⟩
  exact (write_any (lnL ls) _ w hL hf (rE_env hE)).mono fun e w' ⟨he, hb⟩ => ⟨[], he, ownsL_nil _ _, hb⟩
/-- What Split gives, in rows. -/
def spC : List Lin → Nat → List (Option Addr × Nat) → List Value
  | [], _, _ => []
  | x :: L, k, ads => .int .i64 x.num :: .slice (nthA ads k).1 x.flds.length (nthA ads k).2 :: spC L (k + 1) ads
def spR (L : List Lin) (D : List Dia) (ads : List (Option Addr × Nat)) : List RowT :=
  ⟨43, 0, L.length, spC L 2 ads⟩ :: ⟨59, 0, D.length, D.flatMap DgC⟩ :: L.map fun x => ⟨68, 0, x.flds.length, x.flds.flatMap FC⟩
def spN (L : List Lin) (D : List Dia) : List Nat := L.length :: D.length :: L.map fun x => x.flds.length
def spV (L : List Lin) (D : List Dia) (ads : List (Option Addr × Nat)) : Value := .tuple #[.slice (nthA ads 0).1 L.length (nthA ads 0).2, .slice (nthA ads 1).1 D.length (nthA ads 1).2]
def adOf : Value → Option Addr × Nat
  | .slice a _ c => (a, c)
  | _ => (none, 0)
theorem own_ad {w : World} {base sz n : Nat} {e : TypeId} {v : Value} {xs : List Value} (h : w.ownsRow base e sz v n xs) : v = .slice (adOf v).1 n (adOf v).2 ∧ AOK (adOf v).1 n ∧ n ≤ (adOf v).2 ∧ Rd w (adOf v).1 xs ∧ ∀ k, xs ≠ [] ∧ k = bk (adOf v).1 → base ≤ k := by
  have h0 := h
  rcases own_form h with ⟨e1, rfl⟩ | ⟨g, c, rfl, g1, g2, g3, g4⟩
  · subst e1
    have hx : xs = [] := List.eq_nil_of_length_eq_zero (by have := h.1; simpa using this)
    subst hx
    exact ⟨rfl, ⟨fun _ => rfl, fun h => absurd rfl h⟩, Nat.zero_le _, (fun k v hv => by simp at hv), fun k hk => absurd rfl hk.1⟩
  · exact ⟨rfl, ⟨(fun h => by cases h), (fun _ q hq => by injection hq with hq; subst hq; rfl)⟩, g3, own_rd h0, fun k hk => by rw [hk.2]; exact g1⟩
theorem nthA_get (l : List (Option Addr × Nat)) (i : Nat) (p : Option Addr × Nat) (h : l[i]? = some p) : nthA l i = p := by
  induction l generalizing i with
  | nil => simp at h
  | cons x l ih =>
    cases i with
    | zero => simpa [nthA] using h
    | succ i => simpa [nthA] using ih i (by simpa using h)
theorem spC_of (ads : List (Option Addr × Nat)) : ∀ (L : List Lin) (vs : List Value) (k : Nat), vs.length = L.length → (∀ (i : Nat) (u : Value) (x : Lin), vs[i]? = some u → L[i]? = some x → u = .slice (adOf u).1 x.flds.length (adOf u).2) →
    (∀ (i : Nat) (u : Value), vs[i]? = some u → nthA ads (k + i) = adOf u) → ((L.map (·.num)).zip vs).flatMap LC = spC L k ads := by
  intro L
  induction L with
  | nil => intro vs k _ _ _; rfl
  | cons x L ih =>
    intro vs k hl h1 h2
    cases vs with
    | nil => simp at hl
    | cons u vs =>
      have e0 := h1 0 u x rfl rfl
      have e1 := h2 0 u rfl
      have := ih vs (k + 1) (by simpa using hl) (fun i u x hu hx => h1 (i + 1) u x (by simpa using hu) (by simpa using hx)) (fun i u hu => by rw [show k + 1 + i = k + (i + 1) by omega]; exact h2 (i + 1) u (by simpa using hu))
      simp only [List.map_cons, List.zip_cons_cons, List.flatMap_cons, this, spC, LC]
      rw [Nat.add_zero] at e1
      rw [e1, ← e0]
      rfl
theorem obs_at : ∀ (rows : List RowT) (ads : List (Option Addr × Nat)) (i : Nat) (o : Ob), (obsOf rows ads)[i]? = some o → ∃ r p, rows[i]? = some r ∧ ads[i]? = some p ∧ o = ⟨0, r.cells, r.el, some ⟨p.1, r.n, p.2, r.size⟩⟩ := by
  intro rows
  induction rows with
  | nil => intro ads i o h; simp [obsOf] at h
  | cons r rs ih =>
    intro ads i o h
    cases ads with
    | nil => simp [obsOf] at h
    | cons p ads =>
      cases i with
      | zero => simp [obsOf] at h; exact ⟨r, p, rfl, rfl, h.symm⟩
      | succ i => simpa using ih ads i o (by simpa [obsOf] using h)
theorem split_gen (l : List UInt8) (hl : l.length < 4294967281) : SpecN Tryz.prog rE [] 24 #[.string (str l)] (spN (spL l) (spD l)) (spR (spL l) (spD l)) (spV (spL l) (spD l)) := by
  intro w hE _
  refine (split_any l w hl (rE_env hE)).mono ?_
  rintro e w' ⟨vL, vD, rfl, hL, hD, hb⟩
  generalize spL l = L at *
  generalize spD l = D at *
  obtain ⟨vs, hvl, hrow, hfs⟩ := hL
  obtain ⟨l1, l2, l3, l4, l5⟩ := own_ad hrow
  obtain ⟨d1, d2, d3, d4, d5⟩ := own_ad hD
  have hf : ∀ (i : Nat) (u : Value) (x : Lin), vs[i]? = some u → L[i]? = some x → u = .slice (adOf u).1 x.flds.length (adOf u).2 := fun i u x hu hx => (own_ad (hfs i u x hu hx)).1
  have e0 : nthA (adOf vL :: adOf vD :: vs.map adOf) 0 = adOf vL := rfl
  have e1 : nthA (adOf vL :: adOf vD :: vs.map adOf) 1 = adOf vD := rfl
  have e2 : ∀ (i : Nat) (u : Value), vs[i]? = some u → nthA (adOf vL :: adOf vD :: vs.map adOf) (2 + i) = adOf u := fun i u hu => nthA_get _ _ _ (by rw [show 2 + i = i + 1 + 1 by omega]; simp [hu])
  have hcell := spC_of (adOf vL :: adOf vD :: vs.map adOf) L vs 2 hvl hf e2
  rw [hcell] at l4 l5
  have each : ∀ (i : Nat) (o : Ob), (obsOf (spR L D (adOf vL :: adOf vD :: vs.map adOf)) (adOf vL :: adOf vD :: vs.map adOf))[i]? = some o → o.ok w.heap.size w' ∧ (∀ k, ¬ o.kp k) ∧ (∀ k, o.dep k → w.heap.size ≤ k) ∧ ∀ u, o.ow = some u → AOK u.a u.n ∧ u.n ≤ u.cap := by
    intro i o ho
    obtain ⟨r, p, hr, hp, rfl⟩ := obs_at _ _ i o ho
    match i, hr, hp with
    | 0, hr, hp =>
      simp only [spR, List.getElem?_cons_zero, Option.some.injEq] at hr hp
      subst hr hp
      exact ⟨⟨l4, True.intro⟩, (fun k hk => by cases Ob.kp_lit.1 hk), fun k hk => l5 k (Ob.dep_lit.1 hk), fun u hu => by simp only [Option.some.injEq] at hu; subst hu; exact ⟨l2, l3⟩⟩
    | 1, hr, hp =>
      simp only [spR, List.getElem?_cons_zero, List.getElem?_cons_succ, Option.some.injEq] at hr hp
      subst hr hp
      exact ⟨⟨d4, True.intro⟩, (fun k hk => by cases Ob.kp_lit.1 hk), fun k hk => d5 k (Ob.dep_lit.1 hk), fun u hu => by simp only [Option.some.injEq] at hu; subst hu; exact ⟨d2, d3⟩⟩
    | i + 2, hr, hp =>
      simp only [spR, List.getElem?_cons_succ, List.getElem?_map, Option.map_eq_some_iff] at hr hp
      obtain ⟨x, hx, rfl⟩ := hr
      obtain ⟨u, hu, rfl⟩ := hp
      obtain ⟨f1, f2, f3, f4, f5⟩ := own_ad (hfs i u x hu hx)
      exact ⟨⟨f4, True.intro⟩, (fun k hk => by cases Ob.kp_lit.1 hk), fun k hk => f5 k (Ob.dep_lit.1 hk), fun u hu => by simp only [Option.some.injEq] at hu; subst hu; exact ⟨f2, f3⟩⟩
  refine ⟨adOf vL :: adOf vD :: vs.map adOf, ?_, by simp [spN, hvl], fun i n p hn hp => ?_, ⟨by simp [spR, hvl], fun i o ho => ⟨(each i o ho).1, (each i o ho).2.2.1, (each i o ho).2.2.2⟩, fun i j o p k ho hp hk hd => ?_⟩, hb⟩
  · unfold spV
    rw [e0, e1, ← l1, ← d1]
  · match i, hn, hp with
    | 0, hn, hp =>
      simp only [spN, List.getElem?_cons_zero, Option.some.injEq] at hn hp
      subst hn hp
      exact ⟨l2, l3⟩
    | 1, hn, hp =>
      simp only [spN, List.getElem?_cons_zero, List.getElem?_cons_succ, Option.some.injEq] at hn hp
      subst hn hp
      exact ⟨d2, d3⟩
    | i + 2, hn, hp =>
      simp only [spN, List.getElem?_cons_succ, List.getElem?_map, Option.map_eq_some_iff] at hn hp
      obtain ⟨x, hx, rfl⟩ := hn
      obtain ⟨u, hu, rfl⟩ := hp
      obtain ⟨f1, f2, f3, f4, f5⟩ := own_ad (hfs i u x hu hx)
      exact ⟨f2, f3⟩
  · exact absurd hk ((each i o ho).2.1 k)
end Go.Proofs.YtjdldofgkhibnaaGreatDoor
