/- Contracts of the law's sameDiags and sameLines on equal lists. -/
import Derived.Test.YtjdldofgkhibnaaGreatDoorMem
import Derived.RegionTactic
import Derived.BigRegion
set_option linter.unusedSimpArgs false
set_option linter.unusedVariables false
namespace Go.Proofs.YtjdldofgkhibnaaGreatDoor
open Go.RowKit

theorem own_cells {w : World} {base n sz g cap : Nat} {e : TypeId} {xs : List Value} (h : w.ownsRow base e sz (.slice (some ⟨g, 0, none⟩) n cap) n xs) (j : Nat) (u : Value) (hu : xs[j]? = some u) : w.cell? ⟨g, j, none⟩ = some u := by
  have hj : j < xs.length := (List.getElem?_eq_some_iff.1 hu).1
  rw [h.cellAt j (by have := h.1; omega), hu]
theorem flat_at {α : Type} (f : α → List Value) (k : Nat) (hf : ∀ x, (f x).length = k) (i : Nat) (hi : i < k) : ∀ (m : Nat) (D : List α) (d : α), D[m]? = some d → (D.flatMap f)[m * k + i]? = (f d)[i]? := by
  intro m
  induction m with
  | zero =>
    intro D d h
    cases D with
    | nil => simp at h
    | cons x r =>
      simp at h
      subst h
      rw [List.flatMap_cons, List.getElem?_append_left (by rw [hf]; omega)]
      congr 1; omega
  | succ m ih =>
    intro D d h
    cases D with
    | nil => simp at h
    | cons x r =>
      rw [List.flatMap_cons, List.getElem?_append_right (by rw [hf, Nat.succ_mul]; omega), hf]
      rw [← ih r d (by simpa using h)]
      congr 1
      rw [Nat.succ_mul]; omega
theorem ownD_at {w : World} {base g cap : Nat} {D : List Dia} (h : OwnD w base (.slice (some ⟨g, 0, none⟩) D.length cap) D) (k : Nat) (d : Dia) (hd : D[k]? = some d) :
    w.cell? ⟨g, k * 3, none⟩ = some (.int .i64 d.line) ∧ w.cell? ⟨g, k * 3 + 1, none⟩ = some (.int .i64 d.col) ∧ w.cell? ⟨g, k * 3 + 2, none⟩ = some (.int .i64 d.code) :=
  ⟨own_cells h _ _ (flat_at DgC 3 (fun _ => rfl) 0 (by omega) k D d hd), own_cells h _ _ (flat_at DgC 3 (fun _ => rfl) 1 (by omega) k D d hd), own_cells h _ _ (flat_at DgC 3 (fun _ => rfl) 2 (by omega) k D d hd)⟩
theorem ownF_at {w : World} {base g cap : Nat} {D : List Fld} (h : OwnF w base (.slice (some ⟨g, 0, none⟩) D.length cap) D) (k : Nat) (d : Fld) (hd : D[k]? = some d) :
    w.cell? ⟨g, k * 3, none⟩ = some (S d.text) ∧ w.cell? ⟨g, k * 3 + 1, none⟩ = some (.int .i64 d.col) ∧ w.cell? ⟨g, k * 3 + 2, none⟩ = some (.bool d.quo) :=
  ⟨own_cells h _ _ (flat_at FC 3 (fun _ => rfl) 0 (by omega) k D d hd), own_cells h _ _ (flat_at FC 3 (fun _ => rfl) 1 (by omega) k D d hd), own_cells h _ _ (flat_at FC 3 (fun _ => rfl) 2 (by omega) k D d hd)⟩
theorem ownL_at {w : World} {base g cap : Nat} {L : List Lin} (h : OwnL w base (.slice (some ⟨g, 0, none⟩) L.length cap) L) (k : Nat) (x : Lin) (hx : L[k]? = some x) :
    ∃ u, w.cell? ⟨g, k * 2, none⟩ = some (.int .i64 x.num) ∧ w.cell? ⟨g, k * 2 + 1, none⟩ = some u ∧ OwnF w base u x.flds := by
  obtain ⟨vs, q1, q2, q3⟩ := h
  have hk : k < L.length := (List.getElem?_eq_some_iff.1 hx).1
  have hu : vs[k]? = some vs[k] := List.getElem?_eq_getElem (by omega)
  have hp : ((L.map (·.num)).zip vs)[k]? = some (x.num, vs[k]) := by
    rw [List.getElem?_zip_eq_some]
    exact ⟨by rw [List.getElem?_map, hx]; rfl, hu⟩
  exact ⟨vs[k], own_cells q2 _ _ (flat_at LC 2 (fun _ => rfl) 0 (by omega) k _ _ hp), own_cells q2 _ _ (flat_at LC 2 (fun _ => rfl) 1 (by omega) k _ _ hp), q3 k _ _ hu hx⟩
end Go.Proofs.YtjdldofgkhibnaaGreatDoor
