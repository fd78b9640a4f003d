/- Plain words for memory: a block known whole, rows of the call's own that stay. -/
import Derived.Test.YtjnaficgcellkaaDoorStr
import Derived.Test.YtjnaficgcellkaaDoorTxM
import Derived.Maps.AppendAt
import Derived.Laws.OwnMore
import Derived.OwnWalk
import Derived.Below
import Derived.Deep.Draws
set_option linter.unusedSimpArgs false
set_option linter.unusedVariables false
namespace Go.Proofs.YtjnaficgcellkaaDoor
open Go.RowKit

/-- A block known whole. -/
def Row (w : World) (g : Nat) (t : TypeId) (cs : List Value) : Prop := w.heap[g]? = some (.cells cs.toArray t (0, 0))
section
variable {w w' : World} {g : Nat} {t : TypeId} {cs : List Value}
theorem Row.lt (h : Row w g t cs) : g < w.heap.size := by
  rcases Nat.lt_or_ge g w.heap.size with hlt | hge
  · exact hlt
  · unfold Row at h; rw [Array.getElem?_eq_none hge] at h; cases h
theorem Row.cell (h : Row w g t cs) (i : Nat) : w.cell? ⟨g, i, none⟩ = cs[i]? := by unfold Row at h; simp [World.cell?, h]
theorem Row.free (h : Row w g t cs) (i : Nat) : w.frozen? ⟨g, i, none⟩ = false := by unfold Row at h; simp [World.frozen?, h]
theorem Row.below {B : Nat} (h : Row w g t cs) (hb : Below B w w') (hg : g < B) : Row w' g t cs := by unfold Row at h ⊢; rw [hb.block g hg]; exact h
theorem Row.alloc (h : Row w g t cs) (o : Obj) : Row (w.alloc o) g t cs := by unfold Row at h ⊢; rw [Below.heap_alloc w o g (Row.lt h)]; exact h
theorem Row.far (h : Row w g t cs) {p : Addr} (hp : g ≠ p.block) (u : Value) : Row (w.setCell p u) g t cs := by unfold Row at h ⊢; rw [Below.heap_setCell w p u g hp]; exact h
theorem Row.put (h : Row w g t cs) (i : Nat) (u : Value) : Row (w.setCell ⟨g, i, none⟩ u) g t (cs.set i u) := by
  unfold Row at h ⊢
  simp [World.setCell, Array.getElem?_modify, h]
theorem Row.new (w : World) (t : TypeId) (cs : List Value) : Row (w.alloc (.cells cs.toArray t)) w.heap.size t cs := by unfold Row; show (w.heap.push _)[w.heap.size]? = _; simp
theorem Row.six {u0 u1 u2 : Value} (h : Row w g t [u0, u1, u2]) (x0 x1 x2 y0 y1 y2 : Value) :
    ((((((w.setCell ⟨g, 0, none⟩ x0).setCell ⟨g, 1, none⟩ x1).setCell ⟨g, 2, none⟩ x2).setCell ⟨g, 0, none⟩ y0).setCell ⟨g, 1, none⟩ y1).setCell ⟨g, 2, none⟩ y2).cell? ⟨g, 0, none⟩ = some y0 ∧
    ((((((w.setCell ⟨g, 0, none⟩ x0).setCell ⟨g, 1, none⟩ x1).setCell ⟨g, 2, none⟩ x2).setCell ⟨g, 0, none⟩ y0).setCell ⟨g, 1, none⟩ y1).setCell ⟨g, 2, none⟩ y2).cell? ⟨g, 1, none⟩ = some y1 ∧
    ((((((w.setCell ⟨g, 0, none⟩ x0).setCell ⟨g, 1, none⟩ x1).setCell ⟨g, 2, none⟩ x2).setCell ⟨g, 0, none⟩ y0).setCell ⟨g, 1, none⟩ y1).setCell ⟨g, 2, none⟩ y2).cell? ⟨g, 2, none⟩ = some y2 := by
  have hr := (((((h.put 0 x0).put 1 x1).put 2 x2).put 0 y0).put 1 y1).put 2 y2
  exact ⟨hr.cell 0, hr.cell 1, hr.cell 2⟩
theorem Row.drewN (h : Row w g t cs) (n : Nat) : Row (w.drewN n) g t cs := h
theorem Row.drew (h : Row w g t cs) : Row w.drew g t cs := h
theorem Row.grown {r : Option Nat} (h : Row w g t cs) (hb : w.grownBy w' r) (hg : some g ≠ r) : Row w' g t cs := by have hl := Row.lt h; unfold Row at h ⊢; rw [hb.block g hl hg]; exact h
end

section
variable {w w' : World} {base e n sz : Nat} {v : Value} {xs : List Value}
theorem grown_of_below {B : Nat} (hb : Below B w w') (hB : w.heap.size ≤ B) : w.grownBy w' none := ⟨hb.os, hb.tape, hb.output, hb.size, fun i hi _ => hb.block i (by omega)⟩
theorem own_below {e : TypeId} (h : w.ownsRow base e sz v n xs) (hb : Below w.heap.size w w') : w'.ownsRow base e sz v n xs :=
  h.kept (grown_of_below hb (Nat.le_refl _)) (by cases hv : v.ownBlock with | none => exact Or.inl rfl | some k => exact Or.inr (by simp))
theorem own_set {e : TypeId} (h : w.ownsRow base e sz v n xs) {p : Addr} (hp : v.ownBlock ≠ some p.block) (u : Value) : (w.setCell p u).ownsRow base e sz v n xs :=
  h.kept (row := some p.block) ⟨rfl, rfl, rfl, by simp [World.setCell], fun k _ hk => Below.heap_setCell w p u k (fun e => hk (by rw [e]))⟩ (Or.inr hp)
theorem own_base {e : TypeId} {base' : Nat} (h : w.ownsRow base e sz v n xs) (hb : base' ≤ base) : w.ownsRow base' e sz v n xs := by
  refine ⟨h.1, ?_⟩
  rcases h.2 with h0 | ⟨g, cap, cur, h1, h2, h3⟩
  · exact .inl h0
  · exact .inr ⟨g, cap, cur, h1, by omega, h3⟩
theorem own_drewN {e : TypeId} (h : w.ownsRow base e sz v n xs) (k : Nat) : (w.drewN k).ownsRow base e sz v n xs := h
/-- Two rows of different element types lie in different blocks. -/
theorem own_ne {e e' : TypeId} {base' n' sz' : Nat} {v' : Value} {xs' : List Value} (h : w.ownsRow base e sz v n xs) (h' : w.ownsRow base' e' sz' v' n' xs') (hne : e ≠ e') : v.ownBlock = none ∨ v.ownBlock ≠ v'.ownBlock := by
  rcases h.2 with ⟨rfl, _⟩ | ⟨g, cap, cur, rfl, _, hg, _⟩
  · exact Or.inl rfl
  · right
    rcases h'.2 with ⟨rfl, _⟩ | ⟨g', cap', cur', rfl, _, hg', _⟩
    · simp [Value.ownBlock]
    · simp only [Value.ownBlock, ne_eq, Option.some.injEq]
      intro he
      subst he
      rw [hg] at hg'
      injection hg' with hg'
      injection hg' with _ ht
      exact hne ht
theorem own_row_ne {e t : TypeId} {g : Nat} {cs : List Value} (h : w.ownsRow base e sz v n xs) (h' : Row w g t cs) (hne : e ≠ t) : v.ownBlock ≠ some g := by
  rcases h.2 with ⟨rfl, _⟩ | ⟨g', cap, cur, rfl, _, hg, _⟩
  · simp [Value.ownBlock]
  · simp only [Value.ownBlock, ne_eq, Option.some.injEq]
    intro he
    subst he
    unfold Row at h'
    rw [hg] at h'
    injection h' with h'
    injection h' with _ ht
    exact hne ht
theorem own_form {e : TypeId} (h : w.ownsRow base e sz v n xs) : (n = 0 ∧ v = .slice none 0 0) ∨ ∃ g cap, v = .slice (some ⟨g, 0, none⟩) n cap ∧ base ≤ g ∧ g < w.heap.size ∧ n ≤ cap ∧ cap ≤ 9223372036854775807 := by
  rcases h.2 with ⟨rfl, rfl⟩ | ⟨g, cap, cur, rfl, hb, hg, hn, hc, _⟩
  · exact Or.inl ⟨rfl, rfl⟩
  · exact Or.inr ⟨g, cap, rfl, hb, (Array.getElem?_eq_some_iff.1 hg).1, hn, by unfold maxLen at hc; omega⟩
end
theorem cells_new (w : World) (cs : List Value) (t : TypeId) : ∀ (j : Nat) (u : Value), cs[j]? = some u → (w.alloc (.cells cs.toArray t)).cell? ((⟨w.heap.size, 0, none⟩ : Addr).add j) = some u := by
  intro j u hj
  have h := (Row.new w t cs).cell j
  have e : ((⟨w.heap.size, 0, none⟩ : Addr).add j) = ⟨w.heap.size, j, none⟩ := by
    unfold Addr.add
    by_cases h0 : j = 0
    · subst h0; rfl
    · rw [if_neg h0]; simp
  rw [e, h, hj]
theorem cells_at (w : World) (cs : List Value) (t : TypeId) (n : Nat) (hn : n = w.heap.size) : ∀ (j : Nat) (u : Value), cs[j]? = some u → (w.alloc (.cells cs.toArray t)).cell? ((⟨n, 0, none⟩ : Addr).add j) = some u := by
  subst hn; exact cells_new w cs t
/-- A field, a diagnostic as cells. -/
def FC (f : Fld) : List Value := [S f.text, .int .i64 f.col, .bool f.quo]
abbrev FV (f : Fld) : Value := .agg #[S f.text, .int .i64 f.col, .bool f.quo]
def DgC (d : Dia) : List Value := [.int .i64 d.line, .int .i64 d.col, .int .i64 d.code]
abbrev DgV (d : Dia) : Value := .agg #[.int .i64 d.line, .int .i64 d.col, .int .i64 d.code]
theorem FC_one (f : Fld) : ∀ u ∈ FC f, u.oneCell' = true := by intro u hu; simp [FC] at hu; rcases hu with rfl | rfl | rfl <;> rfl
theorem DC_one (d : Dia) : ∀ u ∈ DgC d, u.oneCell' = true := by intro u hu; simp [DgC] at hu; rcases hu with rfl | rfl | rfl <;> rfl
def LC (p : Int × Value) : List Value := [.int .i64 p.1, p.2]
end Go.Proofs.YtjnaficgcellkaaDoor
