/- Families of rows: lists of lists whose number is open. -/
import Derived.Test.YtjnaficgcellkaaDoorVy
set_option linter.unusedSimpArgs false
set_option linter.unusedVariables false
namespace Go.Proofs.YtjnaficgcellkaaDoor
open Go.RowKit

/-- Nothing more is known of what is given. -/
inductive Un : Type where
  | un
/-- A row of a family: where it lies, how many elements, their room, the cells. -/
structure FR where
  a : Option Addr
  n : Nat
  cap : Nat
  cells : List Value
def FR.ob (el : TypeId) (size : Nat) (r : FR) : Ob := ⟨0, r.cells, el, some ⟨r.a, r.n, r.cap, size⟩⟩
def famG (el : TypeId) (size : Nat) (rw : Bool) (l : List FR) : Gh where
  rw := rw
  dep k := ∃ r, r ∈ l ∧ (r.ob el size).dep k
  ok w := (∀ r, r ∈ l → (r.ob el size).ok 0 w) ∧ ∀ (i j : Nat) (r s : FR) (k : Nat), l[i]? = some r → l[j]? = some s → (r.ob el size).kp k → (s.ob el size).dep k → i = j
  lt w h k := fun ⟨r, hr, hd⟩ => (h.1 r hr).dlt hd
  same w w' h hs := ⟨fun r hr => (h.1 r hr).same fun k hd => hs k ⟨r, hr, hd⟩, h.2⟩
theorem FR.rd {el : TypeId} {size : Nat} {r : FR} {base : Nat} {w : World} (h : (r.ob el size).ok base w) : Rd w r.a r.cells := h.rd rfl
theorem Rd.cell {w : World} {a : Option Addr} {xs : List Value} (h : Rd w a xs) {k : Nat} {v : Value} (hv : lgo xs k = some v) : w.cell? ⟨bk a, ofs a + k, none⟩ = some v := h k v (by rw [← lgo_eq]; exact hv)
theorem famG_at {el : TypeId} {size : Nat} {rw : Bool} {l : List FR} {m : Nat} {r : FR} (hm : l[m]? = some r) {w : World} (h : (famG el size rw l).ok w) : Rd w r.a r.cells := FR.rd (h.1 r (List.mem_of_getElem? hm))
/-- What is read in a family. -/
theorem famG_cell {el : TypeId} {size : Nat} {rw : Bool} {l : List FR} {m : Nat} {a : Option Addr} {n cap : Nat} {xs : List Value} (hm : l[m]? = some ⟨a, n, cap, xs⟩) {k : Nat} {v : Value} (hv : lgo xs k = some v) : GhC (famG el size rw l) ⟨bk a, ofs a + k, none⟩ v :=
  fun w h => (famG_at hm h).cell hv
theorem FR.dep_rd {el : TypeId} {size : Nat} {r : FR} {base : Nat} {w : World} (h : (r.ob el size).ok base w) (hne : r.cells ≠ []) : (r.ob el size).dep (bk r.a) := (rdP_ok (o := r.ob el size) (a := r.a) (xs := r.cells) (by unfold rdP FR.ob; exact ⟨rfl, rfl⟩) h).2 hne
theorem famG_rd {el : TypeId} {size : Nat} {rw : Bool} {l : List FR} {m : Nat} {a : Option Addr} {n cap : Nat} {xs : List Value} (hm : l[m]? = some ⟨a, n, cap, xs⟩) : GhR (famG el size rw l) a xs := fun w h => famG_at hm h
theorem famG_nil (el : TypeId) (size : Nat) (rw : Bool) : GhNil (famG el size rw []) :=
  fun w => ⟨⟨(fun r hr => by cases hr), (fun i j r s k h => by simp at h)⟩, fun k ⟨r, hr, _⟩ => by cases hr⟩
theorem GhB.own_some {g : Gh} {k : Nat} : (GhB.mk (some g)).own k ↔ g.rw = true ∧ g.dep k := Iff.rfl
theorem ghOb_dep {el : TypeId} {g : Gh} {k : Nat} : (ghOb el g).dep k ↔ g.dep k := by
  constructor
  · rintro (h | h)
    · exact absurd rfl h.1
    · exact h
  · exact fun h => Or.inr h
theorem ghOb_kp {el : TypeId} {g : Gh} {k : Nat} : (ghOb el g).kp k ↔ g.rw = true ∧ g.dep k := by
  constructor
  · rintro (h | h)
    · cases h
    · exact h
  · exact fun h => Or.inr h
theorem ghOb_ok {el : TypeId} {g : Gh} {base : Nat} {w : World} : (ghOb el g).ok base w ↔ g.ok w ∧ (g.rw = true → ∀ k, g.dep k → base ≤ k) := by
  constructor
  · exact fun h => h.2
  · exact fun h => ⟨fun k v hv => by simp [ghOb] at hv, h⟩
theorem FR.kp_of {el : TypeId} {size : Nat} {r : FR} {k : Nat} (hs : 0 < size) (h : (r.ob el size).dep k) : (r.ob el size).kp k := ownQ_at (o := r.ob el size) (by cases size with | zero => omega | succ s => exact True.intro) h
theorem Ob.ok0_base {o : Ob} {base base' : Nat} {w : World} (h : o.ok base w) (hk : ∀ k, o.kp k → base' ≤ k) (hg : o.gh.g = none) : o.ok base' w := by
  refine ⟨?_, by unfold GhB.ok; rw [hg]; trivial⟩
  have h1 := h.1
  have hk : ∀ k, o.key = some k → base' ≤ k := fun k e => hk k (Or.inl e)
  unfold Ob.ok0 at h1 ⊢
  unfold Ob.key at hk
  split at h1
  · rename_i e
    rw [e] at hk
    exact ⟨hk _ rfl, h1.2⟩
  · rename_i u e
    rw [e] at hk
    simp only at hk
    split at h1
    · exact h1
    · rename_i e2
      rw [e2] at hk
      simp only at hk
      refine ⟨h1.1, ?_⟩
      rcases h1.2 with h2 | ⟨g, cap, cur, e3, h3, h4⟩
      · exact Or.inl h2
      · injection e3 with e4 e5 e6
        refine Or.inr ⟨g, cap, cur, by rw [e4, e6], hk g (by rw [e4]; rfl), h4⟩
/-- Rows of one's own join a family. -/
theorem famG_join {el : TypeId} {size : Nat} (hs : 0 < size) (e : TypeId) (L R : List FR) : AbsP (ghOb e (famG el size true L) :: R.map (FR.ob el size)) (ghOb e (famG el size true (L ++ R))) := by
  intro base w hok hap
  have h0 := ghOb_ok.1 (hok _ (List.mem_cons_self ..))
  have hR : ∀ r, r ∈ R → (r.ob el size).ok base w := fun r hr => hok _ (List.mem_cons_of_mem _ (List.mem_map.2 ⟨r, hr, rfl⟩))
  have at0 : (ghOb e (famG el size true L) :: R.map (FR.ob el size))[0]? = some (ghOb e (famG el size true L)) := rfl
  have atS : ∀ (i : Nat) (r : FR), R[i]? = some r → (ghOb e (famG el size true L) :: R.map (FR.ob el size))[i + 1]? = some (r.ob el size) := fun i r h => by simp [h]
  have hmem : ∀ {i : Nat} {r : FR}, L[i]? = some r → r ∈ L := fun h => List.mem_of_getElem? h
  refine ⟨ghOb_ok.2 ⟨⟨fun r hr => ?_, fun i j r s k hi hj hk hd => ?_⟩, fun _ k ⟨r, hr, hd⟩ => ?_⟩, fun k hd => ?_, fun k hk => ?_⟩
  · rcases List.mem_append.1 hr with h | h
    · exact h0.1.1 r h
    · exact (hR r h).base (Nat.zero_le _)
  · rw [List.getElem?_append] at hi hj
    split at hi <;> split at hj
    · exact h0.1.2 i j r s k hi hj hk hd
    · have := hap 0 (j - L.length + 1) _ _ k at0 (atS _ s hj) (ghOb_kp.2 ⟨rfl, r, hmem hi, Ob.kp_dep hk⟩) hd
      omega
    · have := hap (i - L.length + 1) 0 _ _ k (atS _ r hi) at0 hk (ghOb_dep.2 ⟨s, hmem hj, hd⟩)
      omega
    · have := hap (i - L.length + 1) (j - L.length + 1) _ _ k (atS _ r hi) (atS _ s hj) hk hd
      omega
  · rcases List.mem_append.1 hr with h | h
    · exact h0.2 rfl k ⟨r, h, hd⟩
    · exact ((hR r h).klt (FR.kp_of hs hd)).1
  · obtain ⟨r, hr, hd⟩ := ghOb_dep.1 hd
    rcases List.mem_append.1 hr with h | h
    · exact ⟨_, List.mem_cons_self .., ghOb_dep.2 ⟨r, h, hd⟩⟩
    · exact ⟨_, List.mem_cons_of_mem _ (List.mem_map.2 ⟨r, h, rfl⟩), hd⟩
  · obtain ⟨_, r, hr, hd⟩ := ghOb_kp.1 hk
    rcases List.mem_append.1 hr with h | h
    · exact ⟨_, List.mem_cons_self .., ghOb_kp.2 ⟨rfl, r, h, hd⟩⟩
    · exact ⟨_, List.mem_cons_of_mem _ (List.mem_map.2 ⟨r, h, rfl⟩), FR.kp_of hs hd⟩
theorem famG_join1 {el : TypeId} {size : Nat} (hs : 0 < size) (e : TypeId) (L : List FR) (a : Option Addr) (n cap : Nat) (xs : List Value) : AbsP [ghOb e (famG el size true L), ⟨0, xs, el, some ⟨a, n, cap, size⟩⟩] (ghOb e (famG el size true (L ++ [⟨a, n, cap, xs⟩]))) :=
  famG_join hs e L [⟨a, n, cap, xs⟩]
theorem famG_dep {el : TypeId} {size : Nat} {rw : Bool} {l : List FR} {m : Nat} {a : Option Addr} {n cap : Nat} {xs : List Value} (hm : l[m]? = some ⟨a, n, cap, xs⟩) (ha : size ≠ 0 → a = none → xs = []) : GhD (famG el size rw l) a xs := by
  intro hne
  refine ⟨_, List.mem_of_getElem? hm, Or.inl ?_⟩
  unfold Ob.dep0 FR.ob
  simp only
  split
  · exact ⟨hne, trivial⟩
  · rename_i s hs
    cases a with
    | none => exact absurd (ha (by omega) rfl) hne
    | some q => rfl
theorem famG_ro (el : TypeId) (size : Nat) (l : List FR) : (famG el size true l).ro = (famG el size false l).ro := rfl
end Go.Proofs.YtjnaficgcellkaaDoor
