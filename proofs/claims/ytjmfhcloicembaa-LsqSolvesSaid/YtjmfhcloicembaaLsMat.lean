/- Det and Solve of package lsq give what the reference gives: LsqSolves returns true for every input, and old memory is as it was. No condition. -/
import Derived.Test.YtjmfhcloicembaaLsOpn
set_option linter.unusedSimpArgs false
set_option linter.unusedVariables false
set_option maxRecDepth 100000
namespace Go.Proofs.Ytjmfhcloicembaa
open Go.ChangeShapes Go.WideShapes Go.ChangeAt Go.RowKit Go.Joins

/-! Matrices by their shape. -/
theorem lI1 {l : List Int} (h : l.length = 1) : ∃ x, l = [x] := by
  match l, h with
  | [x], _ => exact ⟨x, rfl⟩
theorem lI2 {l : List Int} (h : l.length = 2) : ∃ x y, l = [x, y] := by
  match l, h with
  | [x, y], _ => exact ⟨x, y, rfl⟩
theorem lI3 {l : List Int} (h : l.length = 3) : ∃ x y z, l = [x, y, z] := by
  match l, h with
  | [x, y, z], _ => exact ⟨x, y, z, rfl⟩
theorem r1 {R : List Rw} (h : R.length = 1) : ∃ x, R = [x] := by
  match R, h with
  | [x], _ => exact ⟨x, rfl⟩
theorem r2 {R : List Rw} (h : R.length = 2) : ∃ x y, R = [x, y] := by
  match R, h with
  | [x, y], _ => exact ⟨x, y, rfl⟩
theorem r3 {R : List Rw} (h : R.length = 3) : ∃ x y z, R = [x, y, z] := by
  match R, h with
  | [x, y, z], _ => exact ⟨x, y, z, rfl⟩
theorem sh_y {R : List Rw} (h : shB R = true) : (R.length = 1 ∨ R.length = 2 ∨ R.length = 3) ∧ ∀ r ∈ R, r.l.length = R.length := by
  unfold shB at h
  simp at h
  exact ⟨by omega, h.2.2⟩
theorem ne_m {l : List Int} {n : Nat} (h : ¬ l.length = n) : ((l.length : Int) != (n : Int)) = true := by simp; omega
set_option maxHeartbeats 4000000 in
theorem lsqSolves_walk (a : Option Addr) (R : List Rw) (c : Nat) (b : Option Addr) (m : List Int) (d : Nat) (w : World) (b1 : AOK a R.length) (b2 : R.length ≤ c ∧ c ≤ maxLen) (b3 : Rd w a (cRw R)) (b4 : RwOK w R) (c1 : AOK b m.length) (c2 : m.length ≤ d ∧ d ≤ maxLen) (c3 : Rd w b (cI m)) : Calls Try.prog 3 #[.slice a R.length c, .slice b m.length d] w fun e w' => e = .returned (.bool true) ∧ Below w.heap.size w w' := by
  cases hb : shB R with
  | false => exact of_rd (lSb_sp a c R b d m b1 (len_m b2) hb c1 (len_m c2)) (rdc b3 (rd1 c3))
  | true =>
    obtain ⟨hn, hs⟩ := sh_y hb
    clear hb
    rcases hn with hn | hn | hn
    · obtain ⟨r0, rfl⟩ := r1 hn
      obtain ⟨k0, k0c, k0r⟩ := b4 r0 (by simp)
      have n0 := hs r0 (by simp)
      obtain ⟨ra0, rl0, rc0⟩ := r0
      simp only at k0 k0c k0r n0
      obtain ⟨m00, rfl⟩ := lI1 n0
      by_cases hm : m.length = 1
      · obtain ⟨u0, rfl⟩ := lI1 hm
        exact of_rd (lG1_sp a c ra0 rc0 m00 b d u0 b1 b2.1 k0 c1) (rdc b3 (rdc k0r (rd1 c3)))
      · exact of_rd (lX1_sp a c ra0 rc0 m00 b d m b1 b2.1 k0 c1 (len_m c2) (ne_m hm)) (rdc b3 (rdc k0r (rd1 c3)))
    · obtain ⟨r0, r1, rfl⟩ := r2 hn
      obtain ⟨k0, k0c, k0r⟩ := b4 r0 (by simp)
      have n0 := hs r0 (by simp)
      obtain ⟨ra0, rl0, rc0⟩ := r0
      simp only at k0 k0c k0r n0
      obtain ⟨m00, m01, rfl⟩ := lI2 n0
      obtain ⟨k1, k1c, k1r⟩ := b4 r1 (by simp)
      have n1 := hs r1 (by simp)
      obtain ⟨ra1, rl1, rc1⟩ := r1
      simp only at k1 k1c k1r n1
      obtain ⟨m10, m11, rfl⟩ := lI2 n1
      by_cases hm : m.length = 2
      · obtain ⟨u0, u1, rfl⟩ := lI2 hm
        exact of_rd (lG2_sp a c ra0 rc0 ra1 rc1 m00 m01 m10 m11 b d u0 u1 b1 b2.1 k0 k1 c1) (rdc b3 (rdc k0r (rdc k1r (rd1 c3))))
      · exact of_rd (lX2_sp a c ra0 rc0 ra1 rc1 m00 m01 m10 m11 b d m b1 b2.1 k0 k1 c1 (len_m c2) (ne_m hm)) (rdc b3 (rdc k0r (rdc k1r (rd1 c3))))
    · obtain ⟨r0, r1, r2, rfl⟩ := r3 hn
      obtain ⟨k0, k0c, k0r⟩ := b4 r0 (by simp)
      have n0 := hs r0 (by simp)
      obtain ⟨ra0, rl0, rc0⟩ := r0
      simp only at k0 k0c k0r n0
      obtain ⟨m00, m01, m02, rfl⟩ := lI3 n0
      obtain ⟨k1, k1c, k1r⟩ := b4 r1 (by simp)
      have n1 := hs r1 (by simp)
      obtain ⟨ra1, rl1, rc1⟩ := r1
      simp only at k1 k1c k1r n1
      obtain ⟨m10, m11, m12, rfl⟩ := lI3 n1
      obtain ⟨k2, k2c, k2r⟩ := b4 r2 (by simp)
      have n2 := hs r2 (by simp)
      obtain ⟨ra2, rl2, rc2⟩ := r2
      simp only at k2 k2c k2r n2
      obtain ⟨m20, m21, m22, rfl⟩ := lI3 n2
      by_cases hm : m.length = 3
      · obtain ⟨u0, u1, u2, rfl⟩ := lI3 hm
        exact of_rd (lG3_sp a c ra0 rc0 ra1 rc1 ra2 rc2 m00 m01 m02 m10 m11 m12 m20 m21 m22 b d u0 u1 u2 b1 b2.1 k0 k1 k2 c1) (rdc b3 (rdc k0r (rdc k1r (rdc k2r (rd1 c3)))))
      · exact of_rd (lX3_sp a c ra0 rc0 ra1 rc1 ra2 rc2 m00 m01 m02 m10 m11 m12 m20 m21 m22 b d m b1 b2.1 k0 k1 k2 c1 (len_m c2) (ne_m hm)) (rdc b3 (rdc k0r (rdc k1r (rdc k2r (rd1 c3)))))

set_option maxRecDepth 100000 in
theorem lsqSolves_lifted (os : Os) (started : os.Started) (H : Type) (enc : TypeId × Value → H) :
    ReturnsInHanded {} Try.checked os 3 .any (Rows.lsqSolvesSpec.pre6 enc Try.prog Try.f3 Rows.lsqSolvesRow.domain false) (Rows.lsqSolvesSpec.post enc Try.prog Try.f3 false true false false) := by
  refine returnsInHanded_of_change (C := Try.checked) own started (by kernel_rfl) Try.func3
    (ChangeSpec.witness6 (enc := enc) (C := Try.checked) false ⟨#[], #[.slice none 0 0, .slice none 0 0], []⟩ 8 (by kernel_rfl) (by kernel_rfl) (by kernel_rfl) (by kernel_rfl)) ?_
  intro WW base args ds gs before hval hW _ _
  have hpost := fun (W' : World) (hb : Below WW.heap.size WW W') (hfn : Rows.lsqSolvesSpec.fn H (ds ++ []) = { results := [.lit (.bool true)], args := ds }) =>
    post_of_law (fresh := true) (handsOn := false) laidOut (by rw [Try.params3]; intro t ht; simp at ht; (try subst ht) <;> (try (rcases ht with rfl | rfl)) <;> exact ⟨by kernel_rfl, of_decide_eq_true (by kernel_rfl)⟩) rfl hW (tb := 4) (by kernel_rfl) Try.underlying4 hfn hb
  obtain ⟨p, q, hA, hV, rfl, hfz, hnd⟩ := hW
  rw [Try.params3] at hA hval
  obtain ⟨v0, vs0, d0, ds0, p0, q0, hargs, rfl, rfl, h0, r0⟩ := trodAll_cons hA
  obtain ⟨v1, vs1, d1, ds1, p1, q1, rfl, rfl, rfl, h1, r1⟩ := trodAll_cons r0
  obtain ⟨rfl, rfl, rfl⟩ := trodAll_nil r1
  obtain rfl : args = #[v0, v1] := by cases args; simp_all
  obtain ⟨a0_0, a0_1, a0_2, rfl, g0_0, g0_1, g0_2, g0_3⟩ := op_mat (hval 0 _ v0 rfl rfl) h0
  obtain ⟨a1_0, a1_1, a1_2, rfl, g1_0, g1_1, g1_2⟩ := op_ints (hval 1 _ v1 rfl rfl) h1
  refine (lsqSolves_walk a0_0 a0_1 a0_2 a1_0 a1_1 a1_2 WW g0_0 g0_1 g0_2 g0_3 g1_0 g1_1 g1_2).mono fun e W' ⟨he, hg⟩ => ?_
  exact ⟨_, he, hpost W' hg rfl⟩

theorem lsqSolves_holds : Rows.LsqSolvesSaid :=
  OpenClaim.holds_of_wide 3 Try.f3 rfl rfl rfl rfl rfl rfl rfl ⟨rfl, rfl, rfl, rfl, rfl⟩ rfl rfl rfl rfl rfl (by kernel_rfl) Try.func3 (by kernel_rfl)
    (of_decide_eq_true (by kernel_rfl)) (by unfold Func.isWrapper; first | (rw [if_pos (by decide +kernel)]; kernel_rfl) | (rw [if_neg (by decide +kernel)]; exact ⟨rfl, rfl⟩))
    (fun os started H enc _ => lsqSolves_lifted os started H enc)
#print axioms lsqSolves_holds

end Go.Proofs.Ytjmfhcloicembaa
