/- Who is on strike after deliveries without a dismissal depends on the parity of the runs and of the ends of overs alone (CreaseEnds), for all lists of runs and numbers of overs. No condition. -/
import Derived.Test.YtegipcahifcpkaaLiftC
import Derived.Test.YtegipcahifcpkaaCre
set_option linter.unusedSimpArgs false
set_option linter.unusedVariables false
set_option maxRecDepth 100000
namespace Go.Proofs.Ytegipcahifcpkaa
open Go.ChangeShapes Go.WideShapes Go.ChangeAt Go.RowKit Go.Joins

theorem creaseEnds_walk (a : Option Addr) (l : List Int) (c : Nat) (o : Int) (w : World) (b1 : AOK a l.length) (b2 : l.length ≤ c) (b3 : Rd w a (cU l)) (b4 : ∀ e ∈ l, 0 ≤ e ∧ e ≤ 255) (ho : 0 ≤ o ∧ o ≤ 255) :
    Calls Try.prog 6 #[.slice a l.length c, .int .u8 o] w fun e w' => e = .returned (.bool true) ∧ Below w.heap.size w w' := by
  refine (creaseEnds_sp a l c o b1 b4 ho w (ext_nil w) ?_).mono fun e w' ⟨_, he, _, hb⟩ => ⟨he, hb⟩
  intro a' xs hm
  rw [List.mem_singleton] at hm
  injection hm with e1 e2
  subst e1 e2
  exact b3

set_option maxRecDepth 100000 in
theorem creaseEnds_lifted (os : Os) (started : os.Started) (H : Type) (enc : TypeId × Value → H) :
    ReturnsInHanded {} Try.checked os 6 .any (Rows.creaseEndsSpec.pre6 enc Try.prog Try.f6 Rows.creaseEndsRow.domain false) (Rows.creaseEndsSpec.post enc Try.prog Try.f6 false true false false) := by
  refine returnsInHanded_of_change (C := Try.checked) own started (by kernel_rfl) Try.func6
    (ChangeSpec.witness6 (enc := enc) (C := Try.checked) false ⟨#[], #[.slice none 0 0, .int .u8 0], []⟩ 8 (by kernel_rfl) (by kernel_rfl) (by kernel_rfl) (by kernel_rfl)) ?_
  intro WW base args ds gs before hval hW _ _
  have hpost := fun (W' : World) (hb : Below WW.heap.size WW W') (hfn : Rows.creaseEndsSpec.fn H (ds ++ []) = { results := [.lit (.bool true)], args := ds }) =>
    post_of_law (fresh := true) (handsOn := false) laidOut (by rw [Try.params6]; intro t ht; simp at ht; (try subst ht) <;> (try (rcases ht with rfl | rfl)) <;> exact ⟨by kernel_rfl, of_decide_eq_true (by kernel_rfl)⟩) rfl hW (tb := 4) (by kernel_rfl) Try.underlying4 hfn hb
  obtain ⟨p, q, hA, hV, rfl, hfz, hnd⟩ := hW
  rw [Try.params6] at hA hval
  obtain ⟨v0, vs0, d0, ds0, p0, q0, hargs, rfl, rfl, h0, r0⟩ := trodAll_cons hA
  obtain ⟨v1, vs1, d1, ds1, p1, q1, rfl, rfl, rfl, h1, r1⟩ := trodAll_cons r0
  obtain ⟨rfl, rfl, rfl⟩ := trodAll_nil r1
  obtain rfl : args = #[v0, v1] := by cases args; simp_all
  obtain ⟨a0_0, a0_1, a0_2, rfl, g0_0, g0_1, g0_2, g0_3⟩ := op_bytes (hval 0 _ v0 rfl rfl) h0
  obtain ⟨a1_0, rfl, g1_0⟩ := op_u8 (hval 1 _ v1 rfl rfl) h1
  refine (creaseEnds_walk a0_0 a0_1 a0_2 a1_0 WW g0_0 g0_1 g0_2 g0_3 g1_0).mono fun e W' ⟨he, hg⟩ => ?_
  exact ⟨_, he, hpost W' hg rfl⟩

theorem creaseEnds_holds : Rows.CreaseEndsSaid :=
  OpenClaim.holds_of_wide 6 Try.f6 rfl rfl rfl rfl rfl rfl rfl ⟨rfl, rfl, rfl, rfl, rfl⟩ rfl rfl rfl rfl rfl (by kernel_rfl) Try.func6 (by kernel_rfl)
    (of_decide_eq_true (by kernel_rfl)) (by unfold Func.isWrapper; first | (rw [if_pos (by decide +kernel)]; kernel_rfl) | (rw [if_neg (by decide +kernel)]; exact ⟨rfl, rfl⟩))
    (fun os started H enc _ => creaseEnds_lifted os started H enc)
#print axioms creaseEnds_holds

end Go.Proofs.Ytegipcahifcpkaa
