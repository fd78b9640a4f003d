/- The text package's contracts in the walker's words: decimals, numbers, lines that are written, a text that is split. -/
import Derived.Test.YtdgmogmldfhgcaaGreatDoorVz
import Derived.Test.YtdgmogmldfhgcaaGreatDoorFda
import Derived.Test.YtdgmogmldfhgcaaGreatDoorNumA
import Derived.Test.YtdgmogmldfhgcaaGreatDoorTxF
import Derived.Lib.ItoaLen
import Derived.KernelRfl
set_option linter.unusedSimpArgs false
set_option linter.unusedVariables false
set_option maxRecDepth 100000
namespace Go.Proofs.YtdgmogmldfhgcaaGreatDoor
open Go.RowKit

/-- The library's variables, as what is known of the world. -/
def rE : List Ex := [⟨0, fun _ => none, Env, fun _ _ h hb => h.stays hb⟩]
theorem rE_env {w : World} (h : ExtOK rE w) : Env w := (h _ (List.mem_cons_self ..)).2
theorem rE_of {w : World} (h : Env w) : ExtOK rE w := fun e he => by
  rcases List.mem_cons.1 he with rfl | he
  · exact ⟨(fun _ _ h => by cases h), h⟩
  · cases he
theorem ownsL_nil (b : Nat) (w : World) : OwnsL b [] [] w := ⟨rfl, fun i o h => by simp [obsOf] at h, fun i j o p k h => by simp [obsOf] at h⟩
/-- The decimal of a number. -/
def itS (n : Int) : ByteArray := str (Lib.itoa n)
theorem dec_sp (n : Int) (hn : I64 n) : SpecG Tryz.prog rE [] 27 #[.int .i64 n] [] (fun _ => .string (itS n)) := by
  intro w hE _
  exact (decimal_any n w hn (rE_env hE)).mono fun e w' ⟨he, hb⟩ => ⟨[], he, ownsL_nil _ _, hb⟩
theorem num_g (l : List UInt8) (lo hi : Int) (hl : l.length ≤ 281474976710656) (hlo : I64 lo) (hhi : I64 hi) : SpecG Tryz.prog rE [] 68 #[.string (str l), .int .i64 lo, .int .i64 hi] [] (fun _ => .tuple #[.int .i64 (numV l lo hi), .int .i64 (numE l lo hi)]) := by
  intro w hE _
  exact (number_any l lo hi w hl hlo hhi (rE_env hE)).mono fun e w' ⟨he, hb⟩ => ⟨[], he, ownsL_nil _ _, hb⟩
/-- What Split gives, in rows. -/
def spC : List Lin → Nat → List (Option Addr × Nat) → List Value
  | [], _, _ => []
  | x :: L, k, ads => .int .i64 x.num :: .slice (nthA ads k).1 x.flds.length (nthA ads k).2 :: spC L (k + 1) ads
def spR (L : List Lin) (D : List Dia) (ads : List (Option Addr × Nat)) : List RowT :=
  ⟨97, 0, L.length, spC L 2 ads⟩ :: ⟨53, 0, D.length, D.flatMap DgC⟩ :: L.map fun x => ⟨100, 0, x.flds.length, x.flds.flatMap FC⟩
def spN (L : List Lin) (D : List Dia) : List Nat := L.length :: D.length :: L.map fun x => x.flds.length
def spV (L : List Lin) (D : List Dia) (ads : List (Option Addr × Nat)) : Value := .tuple #[.slice (nthA ads 0).1 L.length (nthA ads 0).2, .slice (nthA ads 1).1 D.length (nthA ads 1).2]
def adOf : Value → Option Addr × Nat
  | .slice a _ c => (a, c)
  | _ => (none, 0)
theorem own_ad {w : World} {base sz n : Nat} {e : TypeId} {v : Value} {xs : List Value} (h : w.ownsRow base e sz v n xs) : v = .slice (adOf v).1 n (adOf v).2 ∧ AOK (adOf v).1 n ∧ n ≤ (adOf v).2 ∧ Rd w (adOf v).1 xs ∧ ∀ k, xs ≠ [] ∧ k = bk (adOf v).1 → base ≤ k := by
  have h0 := h
  rcases own_form h with ⟨e1, rfl⟩ | ⟨g, c, rfl, g1, g2, g3, g4⟩
  · subst e1
    have hx : xs = [] := List.eq_nil_of_length_eq_zero (by have := h.1; simpa using this)
    subst hx
    exact ⟨rfl, ⟨fun _ => rfl, fun h => absurd rfl h⟩, Nat.zero_le _, (fun k v hv => by simp at hv), fun k hk => absurd rfl hk.1⟩
  · exact ⟨rfl, ⟨(fun h => by cases h), (fun _ q hq => by injection hq with hq; subst hq; rfl)⟩, g3, own_rd h0, fun k hk => by rw [hk.2]; exact g1⟩
theorem nthA_get (l : List (Option Addr × Nat)) (i : Nat) (p : Option Addr × Nat) (h : l[i]? = some p) : nthA l i = p := by
  induction l generalizing i with
  | nil => simp at h
  | cons x l ih =>
    cases i with
    | zero => simpa [nthA] using h
    | succ i => simpa [nthA] using ih i (by simpa using h)
theorem spC_of (ads : List (Option Addr × Nat)) : ∀ (L : List Lin) (vs : List Value) (k : Nat), vs.length = L.length → (∀ (i : Nat) (u : Value) (x : Lin), vs[i]? = some u → L[i]? = some x → u = .slice (adOf u).1 x.flds.length (adOf u).2) →
    (∀ (i : Nat) (u : Value), vs[i]? = some u → nthA ads (k + i) = adOf u) → ((L.map (·.num)).zip vs).flatMap LC = spC L k ads := by
  intro L
  induction L with
  | nil => intro vs k _ _ _; rfl
  | cons x L ih =>
    intro vs k hl h1 h2
    cases vs with
    | nil => simp at hl
    | cons u vs =>
      have e0 := h1 0 u x rfl rfl
      have e1 := h2 0 u rfl
      have := ih vs (k + 1) (by simpa using hl) (fun i u x hu hx => h1 (i + 1) u x (by simpa using hu) (by simpa using hx)) (fun i u hu => by rw [show k + 1 + i = k + (i + 1) by omega]; exact h2 (i + 1) u (by simpa using hu))
      simp only [List.map_cons, List.zip_cons_cons, List.flatMap_cons, this, spC, LC]
      rw [Nat.add_zero] at e1
      rw [e1, ← e0]
      rfl
theorem obs_at : ∀ (rows : List RowT) (ads : List (Option Addr × Nat)) (i : Nat) (o : Ob), (obsOf rows ads)[i]? = some o → ∃ r p, rows[i]? = some r ∧ ads[i]? = some p ∧ o = ⟨0, r.cells, r.el, some ⟨p.1, r.n, p.2, r.size⟩⟩ := by
  intro rows
  induction rows with
  | nil => intro ads i o h; simp [obsOf] at h
  | cons r rs ih =>
    intro ads i o h
    cases ads with
    | nil => simp [obsOf] at h
    | cons p ads =>
      cases i with
      | zero => simp [obsOf] at h; exact ⟨r, p, rfl, rfl, h.symm⟩
      | succ i => simpa using ih ads i o (by simpa [obsOf] using h)
theorem split_gen (l : List UInt8) (hl : l.length < 4294967281) : SpecN Tryz.prog rE [] 46 #[.string (str l)] (spN (spL l) (spD l)) (spR (spL l) (spD l)) (spV (spL l) (spD l)) := by
  intro w hE _
  refine (split_any l w hl (rE_env hE)).mono ?_
  rintro e w' ⟨vL, vD, rfl, hL, hD, hb⟩
  generalize spL l = L at *
  generalize spD l = D at *
  obtain ⟨vs, hvl, hrow, hfs⟩ := hL
  obtain ⟨l1, l2, l3, l4, l5⟩ := own_ad hrow
  obtain ⟨d1, d2, d3, d4, d5⟩ := own_ad hD
  have hf : ∀ (i : Nat) (u : Value) (x : Lin), vs[i]? = some u → L[i]? = some x → u = .slice (adOf u).1 x.flds.length (adOf u).2 := fun i u x hu hx => (own_ad (hfs i u x hu hx)).1
  have e0 : nthA (adOf vL :: adOf vD :: vs.map adOf) 0 = adOf vL := rfl
  have e1 : nthA (adOf vL :: adOf vD :: vs.map adOf) 1 = adOf vD := rfl
  have e2 : ∀ (i : Nat) (u : Value), vs[i]? = some u → nthA (adOf vL :: adOf vD :: vs.map adOf) (2 + i) = adOf u := fun i u hu => nthA_get _ _ _ (by rw [show 2 + i = i + 1 + 1 by omega]; simp [hu])
  have hcell := spC_of (adOf vL :: adOf vD :: vs.map adOf) L vs 2 hvl hf e2
  rw [hcell] at l4 l5
  have each : ∀ (i : Nat) (o : Ob), (obsOf (spR L D (adOf vL :: adOf vD :: vs.map adOf)) (adOf vL :: adOf vD :: vs.map adOf))[i]? = some o → o.ok w.heap.size w' ∧ o.key = none ∧ (∀ k, o.dep k → w.heap.size ≤ k) ∧ ∀ u, o.ow = some u → AOK u.a u.n ∧ u.n ≤ u.cap := by
    intro i o ho
    obtain ⟨r, p, hr, hp, rfl⟩ := obs_at _ _ i o ho
    match i, hr, hp with
    | 0, hr, hp =>
      simp only [spR, List.getElem?_cons_zero, Option.some.injEq] at hr hp
      subst hr hp
      exact ⟨l4, rfl, fun k hk => l5 k hk, fun u hu => by simp only [Option.some.injEq] at hu; subst hu; exact ⟨l2, l3⟩⟩
    | 1, hr, hp =>
      simp only [spR, List.getElem?_cons_zero, List.getElem?_cons_succ, Option.some.injEq] at hr hp
      subst hr hp
      exact ⟨d4, rfl, fun k hk => d5 k hk, fun u hu => by simp only [Option.some.injEq] at hu; subst hu; exact ⟨d2, d3⟩⟩
    | i + 2, hr, hp =>
      simp only [spR, List.getElem?_cons_succ, List.getElem?_map, Option.map_eq_some_iff] at hr hp
      obtain ⟨x, hx, rfl⟩ := hr
      obtain ⟨u, hu, rfl⟩ := hp
      obtain ⟨f1, f2, f3, f4, f5⟩ := own_ad (hfs i u x hu hx)
      exact ⟨f4, rfl, fun k hk => f5 k hk, fun u hu => by simp only [Option.some.injEq] at hu; subst hu; exact ⟨f2, f3⟩⟩
  refine ⟨adOf vL :: adOf vD :: vs.map adOf, ?_, by simp [spN, hvl], fun i n p hn hp => ?_, ⟨by simp [spR, hvl], fun i o ho => ⟨(each i o ho).1, (each i o ho).2.2.1, (each i o ho).2.2.2⟩, fun i j o p k ho hp hk hd => ?_⟩, hb⟩
  · unfold spV
    rw [e0, e1, ← l1, ← d1]
  · match i, hn, hp with
    | 0, hn, hp =>
      simp only [spN, List.getElem?_cons_zero, Option.some.injEq] at hn hp
      subst hn hp
      exact ⟨l2, l3⟩
    | 1, hn, hp =>
      simp only [spN, List.getElem?_cons_zero, List.getElem?_cons_succ, Option.some.injEq] at hn hp
      subst hn hp
      exact ⟨d2, d3⟩
    | i + 2, hn, hp =>
      simp only [spN, List.getElem?_cons_succ, List.getElem?_map, Option.map_eq_some_iff] at hn hp
      obtain ⟨x, hx, rfl⟩ := hn
      obtain ⟨u, hu, rfl⟩ := hp
      obtain ⟨f1, f2, f3, f4, f5⟩ := own_ad (hfs i u x hu hx)
      exact ⟨f2, f3⟩
  · rw [(each i o ho).2.1] at hk
    cases hk
theorem itS_size {n : Int} (hn : I64 n) : (itS n).size ≤ 21 := by
  have := Lib.itoa_length_le n hn.1 hn.2
  unfold itS
  rw [str_size]
  exact this
theorem specG_ofQ {P : Program} {E : List Ex} {f : FuncId} {args : Array Value} {v : Value} (h : SpecQ P E f args v) : SpecG P E [] f args [] (fun _ => v) :=
  fun w hE _ => (h w hE).mono fun e w' ⟨he, hb⟩ => ⟨[], he, ownsL_nil _ _, hb⟩
theorem specG_ofC {P : Program} {f : FuncId} {args : Array Value} {v : Value} (h : ∀ w, Calls P f args w fun e w' => e = .returned v ∧ Below w.heap.size w w') : SpecG P [] [] f args [] (fun _ => v) :=
  fun w _ _ => (h w).mono fun e w' ⟨he, hb⟩ => ⟨[], he, ownsL_nil _ _, hb⟩
end Go.Proofs.YtdgmogmldfhgcaaGreatDoor
