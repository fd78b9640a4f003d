/- From the beginning on, whatever is done, the players who bat are those who have places, and as many are out as wickets have fallen (CreaseTwo), for all sizes of a side and lists of acts. No condition. -/
import Derived.Test.YtebjknedjpkomaaLiftC
import Derived.Test.YtebjknedjpkomaaCrt
set_option linter.unusedSimpArgs false
set_option linter.unusedVariables false
set_option maxRecDepth 100000
namespace Go.Proofs.Ytebjknedjpkomaa
open Go.ChangeShapes Go.WideShapes Go.ChangeAt Go.RowKit Go.Joins

theorem creaseTwo_walk (d : Int) (a : Option Addr) (l : List Ac2) (c : Nat) (w : World) (hd : 0 ≤ d ∧ d ≤ 255) (b1 : AOK a l.length) (b2 : l.length ≤ c) (b3 : Rd w a (cAc l)) (b4 : ∀ e ∈ l, 0 ≤ e.k ∧ e.k ≤ 255) :
    Calls Try.prog 3 #[.int .u8 d, .slice a l.length c] w fun e w' => e = .returned (.bool true) ∧ Below w.heap.size w w' := by
  refine (creaseTwo_sp d a l c hd b1 b4 w (ext_nil w) ?_).mono fun e w' ⟨_, he, _, hb⟩ => ⟨he, hb⟩
  intro a' xs hm
  rw [List.mem_singleton] at hm
  injection hm with e1 e2
  subst e1 e2
  exact b3

set_option maxRecDepth 100000 in
theorem creaseTwo_lifted (os : Os) (started : os.Started) (H : Type) (enc : TypeId × Value → H) :
    ReturnsInHanded {} Try.checked os 3 .any (Rows.creaseTwoSpec.pre6 enc Try.prog Try.f3 Rows.creaseTwoRow.domain false) (Rows.creaseTwoSpec.post enc Try.prog Try.f3 false true false false) := by
  refine returnsInHanded_of_change (C := Try.checked) own started (by kernel_rfl) Try.func3
    (ChangeSpec.witness6 (enc := enc) (C := Try.checked) false ⟨#[], #[.int .u8 0, .slice none 0 0], []⟩ 8 (by kernel_rfl) (by kernel_rfl) (by kernel_rfl) (by kernel_rfl)) ?_
  intro WW base args ds gs before hval hW _ _
  have hpost := fun (W' : World) (hb : Below WW.heap.size WW W') (hfn : Rows.creaseTwoSpec.fn H (ds ++ []) = { results := [.lit (.bool true)], args := ds }) =>
    post_of_law (fresh := true) (handsOn := false) laidOut (by rw [Try.params3]; intro t ht; simp at ht; (try subst ht) <;> (try (rcases ht with rfl | rfl)) <;> exact ⟨by kernel_rfl, of_decide_eq_true (by kernel_rfl)⟩) rfl hW (tb := 4) (by kernel_rfl) Try.underlying4 hfn hb
  obtain ⟨p, q, hA, hV, rfl, hfz, hnd⟩ := hW
  rw [Try.params3] at hA hval
  obtain ⟨v0, vs0, d0, ds0, p0, q0, hargs, rfl, rfl, h0, r0⟩ := trodAll_cons hA
  obtain ⟨v1, vs1, d1, ds1, p1, q1, rfl, rfl, rfl, h1, r1⟩ := trodAll_cons r0
  obtain ⟨rfl, rfl, rfl⟩ := trodAll_nil r1
  obtain rfl : args = #[v0, v1] := by cases args; simp_all
  obtain ⟨a0_0, rfl, g0_0⟩ := op_u8 (hval 0 _ v0 rfl rfl) h0
  obtain ⟨a1_0, a1_1, a1_2, rfl, g1_0, g1_1, g1_2, g1_3⟩ := op_acts2 (hval 1 _ v1 rfl rfl) h1
  refine (creaseTwo_walk a0_0 a1_0 a1_1 a1_2 WW g0_0 g1_0 g1_1 g1_2 g1_3).mono fun e W' ⟨he, hg⟩ => ?_
  exact ⟨_, he, hpost W' hg rfl⟩

theorem creaseTwo_holds : Rows.CreaseTwoSaid :=
  OpenClaim.holds_of_wide 3 Try.f3 rfl rfl rfl rfl rfl rfl rfl ⟨rfl, rfl, rfl, rfl, rfl⟩ rfl rfl rfl rfl rfl (by kernel_rfl) Try.func3 (by kernel_rfl)
    (of_decide_eq_true (by kernel_rfl)) (by unfold Func.isWrapper; first | (rw [if_pos (by decide +kernel)]; kernel_rfl) | (rw [if_neg (by decide +kernel)]; exact ⟨rfl, rfl⟩))
    (fun os started H enc _ => creaseTwo_lifted os started H enc)
#print axioms creaseTwo_holds

end Go.Proofs.Ytebjknedjpkomaa
