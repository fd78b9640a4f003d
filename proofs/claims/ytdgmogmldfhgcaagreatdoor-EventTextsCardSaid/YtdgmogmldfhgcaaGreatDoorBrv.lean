/- The chapter's example of a log: its text split. -/
import Derived.Test.YtdgmogmldfhgcaaGreatDoorBrs
set_option linter.unusedSimpArgs false
set_option linter.unusedVariables false
set_option maxRecDepth 100000
namespace Go.Proofs.YtdgmogmldfhgcaaGreatDoor
open Go.RowKit

/-- What Split gives, in rows; the diagnostics' row one's own. -/
def spR3 (L : List Lin) (D : List Dia) (ads : List (Option Addr × Nat)) : List RowT :=
  ⟨97, 0, L.length, spC L 2 ads⟩ :: ⟨53, 3, D.length, D.flatMap DgC⟩ :: L.map fun x => ⟨100, 0, x.flds.length, x.flds.flatMap FC⟩
theorem ob_dep0 {w : World} {base sz n : Nat} {e : TypeId} {v : Value} {xs : List Value} (h : w.ownsRow base e sz v n xs) {k : Nat} (hk : xs ≠ [] ∧ k = bk (adOf v).1) : v.ownBlock = some k := by
  have h0 := h
  rcases own_form h with ⟨e1, rfl⟩ | ⟨g, c, rfl, g1, g2, g3, g4⟩
  · subst e1
    exact absurd (List.eq_nil_of_length_eq_zero (by have := h.1; simpa using this)) hk.1
  · rw [hk.2]; rfl
theorem ob_key {w : World} {base sz n : Nat} {e : TypeId} {v : Value} {xs : List Value} (h : w.ownsRow base e sz v n xs) {k : Nat} (hk : (adOf v).1.map (·.block) = some k) : v.ownBlock = some k := by
  rcases own_form h with ⟨e1, rfl⟩ | ⟨g, c, rfl, g1, g2, g3, g4⟩
  · cases hk
  · exact hk
theorem own_base3 {w : World} {base sz n : Nat} {e : TypeId} {v : Value} {xs : List Value} (h : w.ownsRow base e sz v n xs) {k : Nat} (hk : (adOf v).1.map (·.block) = some k) : base ≤ k := by
  rcases own_form h with ⟨e1, rfl⟩ | ⟨g, c, rfl, g1, g2, g3, g4⟩
  · cases hk
  · cases hk; exact g1
theorem split_gen3 (l : List UInt8) (hl : l.length < 4294967281) : SpecN Tryz.prog rE [] 46 #[.string (str l)] (spN (spL l) (spD l)) (spR3 (spL l) (spD l)) (spV (spL l) (spD l)) := by
  intro w hE _
  refine (split_any l w hl (rE_env hE)).mono ?_
  rintro e w' ⟨vL, vD, rfl, hL, hD, hb⟩
  generalize spL l = L at *
  generalize spD l = D at *
  obtain ⟨vs, hvl, hrow, hfs⟩ := hL
  obtain ⟨l1, l2, l3, l4, l5⟩ := own_ad hrow
  obtain ⟨d1, d2, d3, d4, d5⟩ := own_ad hD
  have hf : ∀ (i : Nat) (u : Value) (x : Lin), vs[i]? = some u → L[i]? = some x → u = .slice (adOf u).1 x.flds.length (adOf u).2 := fun i u x hu hx => (own_ad (hfs i u x hu hx)).1
  have e0 : nthA (adOf vL :: adOf vD :: vs.map adOf) 0 = adOf vL := rfl
  have e1 : nthA (adOf vL :: adOf vD :: vs.map adOf) 1 = adOf vD := rfl
  have e2 : ∀ (i : Nat) (u : Value), vs[i]? = some u → nthA (adOf vL :: adOf vD :: vs.map adOf) (2 + i) = adOf u := fun i u hu => nthA_get _ _ _ (by rw [show 2 + i = i + 1 + 1 by omega]; simp [hu])
  have hcell := spC_of (adOf vL :: adOf vD :: vs.map adOf) L vs 2 hvl hf e2
  rw [hcell] at l4 l5
  have each : ∀ (i : Nat) (o : Ob), (obsOf (spR3 L D (adOf vL :: adOf vD :: vs.map adOf)) (adOf vL :: adOf vD :: vs.map adOf))[i]? = some o → o.ok w.heap.size w' ∧ (o.key = none ∨ i = 1) ∧ (∀ k, o.dep k → w.heap.size ≤ k) ∧ ∀ u, o.ow = some u → AOK u.a u.n ∧ u.n ≤ u.cap := by
    intro i o ho
    obtain ⟨r, p, hr, hp, rfl⟩ := obs_at _ _ i o ho
    match i, hr, hp with
    | 0, hr, hp =>
      simp only [spR3, List.getElem?_cons_zero, Option.some.injEq] at hr hp
      subst hr hp
      exact ⟨l4, Or.inl rfl, fun k hk => l5 k hk, fun u hu => by simp only [Option.some.injEq] at hu; subst hu; exact ⟨l2, l3⟩⟩
    | 1, hr, hp =>
      simp only [spR3, List.getElem?_cons_zero, List.getElem?_cons_succ, Option.some.injEq] at hr hp
      subst hr hp
      exact ⟨d1 ▸ hD, Or.inr rfl, fun k hk => own_base3 hD hk, fun u hu => by simp only [Option.some.injEq] at hu; subst hu; exact ⟨d2, d3⟩⟩
    | i + 2, hr, hp =>
      simp only [spR3, List.getElem?_cons_succ, List.getElem?_map, Option.map_eq_some_iff] at hr hp
      obtain ⟨x, hx, rfl⟩ := hr
      obtain ⟨u, hu, rfl⟩ := hp
      obtain ⟨f1, f2, f3, f4, f5⟩ := own_ad (hfs i u x hu hx)
      exact ⟨f4, Or.inl rfl, fun k hk => f5 k hk, fun u hu => by simp only [Option.some.injEq] at hu; subst hu; exact ⟨f2, f3⟩⟩
  refine ⟨adOf vL :: adOf vD :: vs.map adOf, ?_, by simp [spN, hvl], fun i n p hn hp => ?_, ⟨by simp [spR3, hvl], fun i o ho => ⟨(each i o ho).1, (each i o ho).2.2.1, (each i o ho).2.2.2⟩, fun i j o p k ho hp hk hd => ?_⟩, hb⟩
  · unfold spV
    rw [e0, e1, ← l1, ← d1]
  · match i, hn, hp with
    | 0, hn, hp =>
      simp only [spN, List.getElem?_cons_zero, Option.some.injEq] at hn hp
      subst hn hp
      exact ⟨l2, l3⟩
    | 1, hn, hp =>
      simp only [spN, List.getElem?_cons_zero, List.getElem?_cons_succ, Option.some.injEq] at hn hp
      subst hn hp
      exact ⟨d2, d3⟩
    | i + 2, hn, hp =>
      simp only [spN, List.getElem?_cons_succ, List.getElem?_map, Option.map_eq_some_iff] at hn hp
      obtain ⟨x, hx, rfl⟩ := hn
      obtain ⟨u, hu, rfl⟩ := hp
      obtain ⟨f1, f2, f3, f4, f5⟩ := own_ad (hfs i u x hu hx)
      exact ⟨f2, f3⟩
  · rcases (each i o ho).2.1 with hz | rfl
    · rw [hz] at hk; cases hk
    · obtain ⟨r, q, hr, hq, rfl⟩ := obs_at _ _ 1 o ho
      simp only [spR3, List.getElem?_cons_zero, List.getElem?_cons_succ, Option.some.injEq] at hr hq
      subst hr hq
      have hk2 := ob_key hD hk
      obtain ⟨r2, q2, hr2, hq2, rfl⟩ := obs_at _ _ j p hp
      match j, hr2, hq2 with
      | 0, hr2, hq2 =>
        exfalso
        simp only [spR3, List.getElem?_cons_zero, Option.some.injEq] at hr2 hq2
        subst hr2 hq2
        have h3 : vL.ownBlock = some k := ob_dep0 hrow (by rw [hcell]; exact hd)
        rcases own_ne hD hrow (by decide) with h4 | h4
        · rw [hk2] at h4; cases h4
        · exact h4 (hk2.trans h3.symm)
      | 1, _, _ => rfl
      | j + 2, hr2, hq2 =>
        exfalso
        simp only [spR3, List.getElem?_cons_succ, List.getElem?_map, Option.map_eq_some_iff] at hr2 hq2
        obtain ⟨x, hx, rfl⟩ := hr2
        obtain ⟨u, hu, rfl⟩ := hq2
        have h3 : u.ownBlock = some k := ob_dep0 (hfs j u x hu hx) hd
        rcases own_ne hD (hfs j u x hu hx) (by decide) with h4 | h4
        · rw [hk2] at h4; cases h4
        · exact h4 (hk2.trans h3.symm)
/-- The text of the example. -/
def evB : List UInt8 := [84, 79, 83, 83, 32, 49, 32, 66, 65, 84, 10, 80, 76, 65, 89, 10]
def evS : ByteArray := ⟨#[84, 79, 83, 83, 32, 49, 32, 66, 65, 84, 10, 80, 76, 65, 89, 10]⟩
theorem evS_eq : str evB = evS := rfl
def ev_sp : List Lin := [⟨1, [⟨[84, 79, 83, 83], 1, false⟩, ⟨[49], 6, false⟩, ⟨[66, 65, 84], 8, false⟩]⟩,
  ⟨2, [⟨[80, 76, 65, 89], 1, false⟩]⟩]
theorem ev_spL : spL evB = ev_sp := by kernel_rfl
theorem ev_spD : spD evB = [] := by kernel_rfl
theorem spV_sp : SpecN Tryz.prog rE [] 46 #[.string evS] [2, 0, 3, 1] (fun ads => [⟨97, 0, 2, [.int .i64 1, .slice (nthA ads 2).1 3 (nthA ads 2).2, .int .i64 2, .slice (nthA ads 3).1 1 (nthA ads 3).2]⟩,
  ⟨53, 3, 0, []⟩,
  ⟨100, 0, 3, [.string ⟨#[84, 79, 83, 83]⟩, .int .i64 1, .bool false, .string ⟨#[49]⟩, .int .i64 6, .bool false, .string ⟨#[66, 65, 84]⟩, .int .i64 8, .bool false]⟩,
  ⟨100, 0, 1, [.string ⟨#[80, 76, 65, 89]⟩, .int .i64 1, .bool false]⟩]) (fun ads => .tuple #[.slice (nthA ads 0).1 2 (nthA ads 0).2, .slice (nthA ads 1).1 0 (nthA ads 1).2]) := by
  have h := split_gen3 evB (by decide)
  rw [ev_spL, ev_spD] at h
  exact h
end Go.Proofs.YtdgmogmldfhgcaaGreatDoor
