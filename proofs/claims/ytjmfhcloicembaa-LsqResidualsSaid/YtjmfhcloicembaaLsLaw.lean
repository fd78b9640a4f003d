/- Line, At, Residual and Accept of package lsq give what the reference gives, and the line that is found is accepted: LsqLines, LsqValues, LsqResiduals, LsqAccepts return true for every input, and old memory is as it was. No condition. -/
import Derived.Test.YtjmfhcloicembaaLsOpn
set_option linter.unusedSimpArgs false
set_option linter.unusedVariables false
set_option maxRecDepth 100000
namespace Go.Proofs.Ytjmfhcloicembaa
open Go.ChangeShapes Go.WideShapes Go.ChangeAt Go.RowKit Go.Joins

theorem lsqValues_walk (x y z t : Int) (w : World) (hx : I64 x) (hy : I64 y) (hz : I64 z) (ht : I64 t) : Calls Try.prog 6 #[.agg #[.int .i64 x, .int .i64 y, .int .i64 z], .int .i64 t] w fun e w' => e = .returned (.bool true) ∧ Below w.heap.size w w' :=
  of_rd (lva_sp x y z t) (fun _ _ h => by cases h)

set_option maxRecDepth 100000 in
theorem lsqValues_lifted (os : Os) (started : os.Started) (H : Type) (enc : TypeId × Value → H) :
    ReturnsInHanded {} Try.checked os 6 .any (Rows.lsqValuesSpec.pre6 enc Try.prog Try.f6 Rows.lsqValuesRow.domain false) (Rows.lsqValuesSpec.post enc Try.prog Try.f6 false true false false) := by
  refine returnsInHanded_of_change (C := Try.checked) own started (by kernel_rfl) Try.func6
    (ChangeSpec.witness6 (enc := enc) (C := Try.checked) false ⟨#[], #[.agg #[.int .i64 0, .int .i64 0, .int .i64 0], .int .i64 0], []⟩ 8 (by kernel_rfl) (by kernel_rfl) (by kernel_rfl) (by kernel_rfl)) ?_
  intro WW base args ds gs before hval hW _ _
  have hpost := fun (W' : World) (hb : Below WW.heap.size WW W') (hfn : Rows.lsqValuesSpec.fn H (ds ++ []) = { results := [.lit (.bool true)], args := ds }) =>
    post_of_law (fresh := true) (handsOn := false) laidOut (by rw [Try.params6]; intro t ht; simp at ht; (try subst ht) <;> (try (rcases ht with rfl | rfl)) <;> exact ⟨by kernel_rfl, of_decide_eq_true (by kernel_rfl)⟩) rfl hW (tb := 4) (by kernel_rfl) Try.underlying4 hfn hb
  obtain ⟨p, q, hA, hV, rfl, hfz, hnd⟩ := hW
  rw [Try.params6] at hA hval
  obtain ⟨v0, vs0, d0, ds0, p0, q0, hargs, rfl, rfl, h0, r0⟩ := trodAll_cons hA
  obtain ⟨v1, vs1, d1, ds1, p1, q1, rfl, rfl, rfl, h1, r1⟩ := trodAll_cons r0
  obtain ⟨rfl, rfl, rfl⟩ := trodAll_nil r1
  obtain rfl : args = #[v0, v1] := by cases args; simp_all
  obtain ⟨a0_0, a0_1, a0_2, rfl, g0_0, g0_1, g0_2⟩ := op_fit (hval 0 _ v0 rfl rfl) h0
  obtain ⟨a1_0, rfl, g1_0⟩ := op_i64 (hval 1 _ v1 rfl rfl) h1
  refine (lsqValues_walk a0_0 a0_1 a0_2 a1_0 WW g0_0 g0_1 g0_2 g1_0).mono fun e W' ⟨he, hg⟩ => ?_
  exact ⟨_, he, hpost W' hg rfl⟩

theorem lsqValues_holds : Rows.LsqValuesSaid :=
  OpenClaim.holds_of_wide 6 Try.f6 rfl rfl rfl rfl rfl rfl rfl ⟨rfl, rfl, rfl, rfl, rfl⟩ rfl rfl rfl rfl rfl (by kernel_rfl) Try.func6 (by kernel_rfl)
    (of_decide_eq_true (by kernel_rfl)) (by unfold Func.isWrapper; first | (rw [if_pos (by decide +kernel)]; kernel_rfl) | (rw [if_neg (by decide +kernel)]; exact ⟨rfl, rfl⟩))
    (fun os started H enc _ => lsqValues_lifted os started H enc)
#print axioms lsqValues_holds

theorem lsqLines_walk (a : Option Addr) (l : List Pt) (c : Nat) (w : World) (b1 : AOK a l.length) (b2 : l.length ≤ c ∧ c ≤ maxLen) (b3 : Rd w a (cPt l)) : Calls Try.prog 5 #[.slice a l.length c] w fun e w' => e = .returned (.bool true) ∧ Below w.heap.size w w' :=
  of_rd (lli_sp a c l b1 (len_m b2)) (rd1 b3)

set_option maxRecDepth 100000 in
theorem lsqLines_lifted (os : Os) (started : os.Started) (H : Type) (enc : TypeId × Value → H) :
    ReturnsInHanded {} Try.checked os 5 .any (Rows.lsqLinesSpec.pre6 enc Try.prog Try.f5 Rows.lsqLinesRow.domain false) (Rows.lsqLinesSpec.post enc Try.prog Try.f5 false true false false) := by
  refine returnsInHanded_of_change (C := Try.checked) own started (by kernel_rfl) Try.func5
    (ChangeSpec.witness6 (enc := enc) (C := Try.checked) false ⟨#[], #[.slice none 0 0], []⟩ 8 (by kernel_rfl) (by kernel_rfl) (by kernel_rfl) (by kernel_rfl)) ?_
  intro WW base args ds gs before hval hW _ _
  have hpost := fun (W' : World) (hb : Below WW.heap.size WW W') (hfn : Rows.lsqLinesSpec.fn H (ds ++ []) = { results := [.lit (.bool true)], args := ds }) =>
    post_of_law (fresh := true) (handsOn := false) laidOut (by rw [Try.params5]; intro t ht; simp at ht; (try subst ht) <;> (try (rcases ht with rfl | rfl)) <;> exact ⟨by kernel_rfl, of_decide_eq_true (by kernel_rfl)⟩) rfl hW (tb := 4) (by kernel_rfl) Try.underlying4 hfn hb
  obtain ⟨p, q, hA, hV, rfl, hfz, hnd⟩ := hW
  rw [Try.params5] at hA hval
  obtain ⟨v0, vs0, d0, ds0, p0, q0, hargs, rfl, rfl, h0, r0⟩ := trodAll_cons hA
  obtain ⟨rfl, rfl, rfl⟩ := trodAll_nil r0
  obtain rfl : args = #[v0] := by cases args; simp_all
  obtain ⟨a0_0, a0_1, a0_2, rfl, g0_0, g0_1, g0_2⟩ := op_pts30 (hval 0 _ v0 rfl rfl) h0
  refine (lsqLines_walk a0_0 a0_1 a0_2 WW g0_0 g0_1 g0_2).mono fun e W' ⟨he, hg⟩ => ?_
  exact ⟨_, he, hpost W' hg rfl⟩

theorem lsqLines_holds : Rows.LsqLinesSaid :=
  OpenClaim.holds_of_wide 5 Try.f5 rfl rfl rfl rfl rfl rfl rfl ⟨rfl, rfl, rfl, rfl, rfl⟩ rfl rfl rfl rfl rfl (by kernel_rfl) Try.func5 (by kernel_rfl)
    (of_decide_eq_true (by kernel_rfl)) (by unfold Func.isWrapper; first | (rw [if_pos (by decide +kernel)]; kernel_rfl) | (rw [if_neg (by decide +kernel)]; exact ⟨rfl, rfl⟩))
    (fun os started H enc _ => lsqLines_lifted os started H enc)
#print axioms lsqLines_holds

theorem lsqResiduals_walk (a : Option Addr) (l : List Pt) (c : Nat) (x y z : Int) (w : World) (b1 : AOK a l.length) (b2 : l.length ≤ c ∧ c ≤ maxLen) (b3 : Rd w a (cPt l)) (hx : I64 x) (hy : I64 y) (hz : I64 z) : Calls Try.prog 7 #[.slice a l.length c, .agg #[.int .i64 x, .int .i64 y, .int .i64 z]] w fun e w' => e = .returned (.bool true) ∧ Below w.heap.size w w' :=
  of_rd (lre_sp a c l x y z b1 (len_m b2)) (rd1 b3)

set_option maxRecDepth 100000 in
theorem lsqResiduals_lifted (os : Os) (started : os.Started) (H : Type) (enc : TypeId × Value → H) :
    ReturnsInHanded {} Try.checked os 7 .any (Rows.lsqResidualsSpec.pre6 enc Try.prog Try.f7 Rows.lsqResidualsRow.domain false) (Rows.lsqResidualsSpec.post enc Try.prog Try.f7 false true false false) := by
  refine returnsInHanded_of_change (C := Try.checked) own started (by kernel_rfl) Try.func7
    (ChangeSpec.witness6 (enc := enc) (C := Try.checked) false ⟨#[], #[.slice none 0 0, .agg #[.int .i64 0, .int .i64 0, .int .i64 0]], []⟩ 8 (by kernel_rfl) (by kernel_rfl) (by kernel_rfl) (by kernel_rfl)) ?_
  intro WW base args ds gs before hval hW _ _
  have hpost := fun (W' : World) (hb : Below WW.heap.size WW W') (hfn : Rows.lsqResidualsSpec.fn H (ds ++ []) = { results := [.lit (.bool true)], args := ds }) =>
    post_of_law (fresh := true) (handsOn := false) laidOut (by rw [Try.params7]; intro t ht; simp at ht; (try subst ht) <;> (try (rcases ht with rfl | rfl)) <;> exact ⟨by kernel_rfl, of_decide_eq_true (by kernel_rfl)⟩) rfl hW (tb := 4) (by kernel_rfl) Try.underlying4 hfn hb
  obtain ⟨p, q, hA, hV, rfl, hfz, hnd⟩ := hW
  rw [Try.params7] at hA hval
  obtain ⟨v0, vs0, d0, ds0, p0, q0, hargs, rfl, rfl, h0, r0⟩ := trodAll_cons hA
  obtain ⟨v1, vs1, d1, ds1, p1, q1, rfl, rfl, rfl, h1, r1⟩ := trodAll_cons r0
  obtain ⟨rfl, rfl, rfl⟩ := trodAll_nil r1
  obtain rfl : args = #[v0, v1] := by cases args; simp_all
  obtain ⟨a0_0, a0_1, a0_2, rfl, g0_0, g0_1, g0_2⟩ := op_pts30 (hval 0 _ v0 rfl rfl) h0
  obtain ⟨a1_0, a1_1, a1_2, rfl, g1_0, g1_1, g1_2⟩ := op_fit (hval 1 _ v1 rfl rfl) h1
  refine (lsqResiduals_walk a0_0 a0_1 a0_2 a1_0 a1_1 a1_2 WW g0_0 g0_1 g0_2 g1_0 g1_1 g1_2).mono fun e W' ⟨he, hg⟩ => ?_
  exact ⟨_, he, hpost W' hg rfl⟩

theorem lsqResiduals_holds : Rows.LsqResidualsSaid :=
  OpenClaim.holds_of_wide 7 Try.f7 rfl rfl rfl rfl rfl rfl rfl ⟨rfl, rfl, rfl, rfl, rfl⟩ rfl rfl rfl rfl rfl (by kernel_rfl) Try.func7 (by kernel_rfl)
    (of_decide_eq_true (by kernel_rfl)) (by unfold Func.isWrapper; first | (rw [if_pos (by decide +kernel)]; kernel_rfl) | (rw [if_neg (by decide +kernel)]; exact ⟨rfl, rfl⟩))
    (fun os started H enc _ => lsqResiduals_lifted os started H enc)
#print axioms lsqResiduals_holds

theorem lsqAccepts_walk (a : Option Addr) (l : List Pt) (c : Nat) (w : World) (b1 : AOK a l.length) (b2 : l.length ≤ c ∧ c ≤ maxLen) (b3 : Rd w a (cPt l)) : Calls Try.prog 8 #[.slice a l.length c] w fun e w' => e = .returned (.bool true) ∧ Below w.heap.size w w' :=
  of_rd (lac_sp a c l b1 (len_m b2)) (rd1 b3)

set_option maxRecDepth 100000 in
theorem lsqAccepts_lifted (os : Os) (started : os.Started) (H : Type) (enc : TypeId × Value → H) :
    ReturnsInHanded {} Try.checked os 8 .any (Rows.lsqAcceptsSpec.pre6 enc Try.prog Try.f8 Rows.lsqAcceptsRow.domain false) (Rows.lsqAcceptsSpec.post enc Try.prog Try.f8 false true false false) := by
  refine returnsInHanded_of_change (C := Try.checked) own started (by kernel_rfl) Try.func8
    (ChangeSpec.witness6 (enc := enc) (C := Try.checked) false ⟨#[], #[.slice none 0 0], []⟩ 8 (by kernel_rfl) (by kernel_rfl) (by kernel_rfl) (by kernel_rfl)) ?_
  intro WW base args ds gs before hval hW _ _
  have hpost := fun (W' : World) (hb : Below WW.heap.size WW W') (hfn : Rows.lsqAcceptsSpec.fn H (ds ++ []) = { results := [.lit (.bool true)], args := ds }) =>
    post_of_law (fresh := true) (handsOn := false) laidOut (by rw [Try.params8]; intro t ht; simp at ht; (try subst ht) <;> (try (rcases ht with rfl | rfl)) <;> exact ⟨by kernel_rfl, of_decide_eq_true (by kernel_rfl)⟩) rfl hW (tb := 4) (by kernel_rfl) Try.underlying4 hfn hb
  obtain ⟨p, q, hA, hV, rfl, hfz, hnd⟩ := hW
  rw [Try.params8] at hA hval
  obtain ⟨v0, vs0, d0, ds0, p0, q0, hargs, rfl, rfl, h0, r0⟩ := trodAll_cons hA
  obtain ⟨rfl, rfl, rfl⟩ := trodAll_nil r0
  obtain rfl : args = #[v0] := by cases args; simp_all
  obtain ⟨a0_0, a0_1, a0_2, rfl, g0_0, g0_1, g0_2⟩ := op_pts30 (hval 0 _ v0 rfl rfl) h0
  refine (lsqAccepts_walk a0_0 a0_1 a0_2 WW g0_0 g0_1 g0_2).mono fun e W' ⟨he, hg⟩ => ?_
  exact ⟨_, he, hpost W' hg rfl⟩

theorem lsqAccepts_holds : Rows.LsqAcceptsSaid :=
  OpenClaim.holds_of_wide 8 Try.f8 rfl rfl rfl rfl rfl rfl rfl ⟨rfl, rfl, rfl, rfl, rfl⟩ rfl rfl rfl rfl rfl (by kernel_rfl) Try.func8 (by kernel_rfl)
    (of_decide_eq_true (by kernel_rfl)) (by unfold Func.isWrapper; first | (rw [if_pos (by decide +kernel)]; kernel_rfl) | (rw [if_neg (by decide +kernel)]; exact ⟨rfl, rfl⟩))
    (fun os started H enc _ => lsqAccepts_lifted os started H enc)
#print axioms lsqAccepts_holds

end Go.Proofs.Ytjmfhcloicembaa
