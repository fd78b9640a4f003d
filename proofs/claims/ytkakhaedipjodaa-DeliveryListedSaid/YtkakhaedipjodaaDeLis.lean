/- A plain delivery stands in the list of all deliveries just once if it is legal and has few runs, else not (DeliveryListed), for every delivery and every number of runs. No condition. -/
import Derived.Test.YtkakhaedipjodaaLiftD
import Derived.Test.YtkakhaedipjodaaDvg
set_option linter.unusedSimpArgs false
set_option linter.unusedVariables false
namespace Go.Proofs.Ytkakhaedipjodaa
open Go.ChangeShapes Go.WideShapes Go.ChangeAt Go.RowKit Go.Joins

theorem deliveryListed_walk (t s r sh b : Int) (x : Bool) (h v f g : Int) (u : Bool) (z runs : Int) (w : World) (qt : 0 ≤ t ∧ t ≤ 255) (qs : 0 ≤ s ∧ s ≤ 255) (qr : -9223372036854775808 ≤ r ∧ r ≤ 9223372036854775807) (qsh : -9223372036854775808 ≤ sh ∧ sh ≤ 9223372036854775807) (qb : -9223372036854775808 ≤ b ∧ b ≤ 9223372036854775807) (qh : 0 ≤ h ∧ h ≤ 255) (qv : -9223372036854775808 ≤ v ∧ v ≤ 9223372036854775807) (qf : -9223372036854775808 ≤ f ∧ f ≤ 9223372036854775807) (qg : -9223372036854775808 ≤ g ∧ g ≤ 9223372036854775807) (qz : -9223372036854775808 ≤ z ∧ z ≤ 9223372036854775807) (qn : 0 ≤ runs ∧ runs ≤ 255) : Calls Try.prog 7 #[.agg #[.int .u8 t, .int .u8 s, .int .i64 r, .int .i64 sh, .int .i64 b, .bool x, .int .u8 h, .int .i64 v, .int .i64 f, .int .i64 g, .bool u, .int .i64 z], .int .u8 runs] w fun e w' => e = .returned (.bool true) ∧ Below w.heap.size w w' :=
  deliveryListed_sp t s r sh b x h v f g u z runs qt qs qn w

set_option maxRecDepth 100000 in
theorem deliveryListed_lifted (os : Os) (started : os.Started) (H : Type) (enc : TypeId × Value → H) :
    ReturnsInHanded {} Try.checked os 7 .any (Rows.deliveryListedSpec.pre6 enc Try.prog Try.f7 Rows.deliveryListedRow.domain false) (Rows.deliveryListedSpec.post enc Try.prog Try.f7 false true false false) := by
  refine returnsInHanded_of_change (C := Try.checked) own started (by kernel_rfl) Try.func7
    (ChangeSpec.witness6 (enc := enc) (C := Try.checked) false ⟨#[], #[.agg #[.int .u8 0, .int .u8 0, .int .i64 0, .int .i64 0, .int .i64 0, .bool false, .int .u8 0, .int .i64 0, .int .i64 0, .int .i64 0, .bool false, .int .i64 0], .int .u8 0], []⟩ 8 (by kernel_rfl) (by kernel_rfl) (by kernel_rfl) (by kernel_rfl)) ?_
  intro WW base args ds gs before hval hW _ _
  have hpost := fun (W' : World) (hb : Below WW.heap.size WW W') (hfn : Rows.deliveryListedSpec.fn H (ds ++ []) = { results := [.lit (.bool true)], args := ds }) =>
    post_of_law (fresh := true) (handsOn := false) laidOut (by rw [Try.params7]; intro t ht; simp at ht; (try subst ht) <;> (try (rcases ht with rfl | rfl)) <;> exact ⟨by kernel_rfl, of_decide_eq_true (by kernel_rfl)⟩) rfl hW (tb := 4) (by kernel_rfl) Try.underlying4 hfn hb
  obtain ⟨p, q, hA, hV, rfl, hfz, hnd⟩ := hW
  rw [Try.params7] at hA hval
  obtain ⟨v0, vs0, d0, ds0, p0, q0, hargs, rfl, rfl, h0, r0⟩ := trodAll_cons hA
  obtain ⟨v1, vs1, d1, ds1, p1, q1, rfl, rfl, rfl, h1, r1⟩ := trodAll_cons r0
  obtain ⟨rfl, rfl, rfl⟩ := trodAll_nil r1
  obtain rfl : args = #[v0, v1] := by cases args; simp_all
  obtain ⟨a0_0, a0_1, a0_2, a0_3, a0_4, a0_5, a0_6, a0_7, a0_8, a0_9, a0_10, a0_11, rfl, g0_0, g0_1, g0_2, g0_3, g0_4, g0_5, g0_6, g0_7, g0_8, g0_9⟩ := op_del (hval 0 _ v0 rfl rfl) h0
  obtain ⟨a1_0, rfl, g1_0⟩ := op_u8 (hval 1 _ v1 rfl rfl) h1
  refine (deliveryListed_walk a0_0 a0_1 a0_2 a0_3 a0_4 a0_5 a0_6 a0_7 a0_8 a0_9 a0_10 a0_11 a1_0 WW g0_0 g0_1 g0_2 g0_3 g0_4 g0_5 g0_6 g0_7 g0_8 g0_9 g1_0).mono fun e W' ⟨he, hg⟩ => ?_
  exact ⟨_, he, hpost W' hg rfl⟩

theorem deliveryListed_holds : Rows.DeliveryListedSaid :=
  OpenClaim.holds_of_wide 7 Try.f7 rfl rfl rfl rfl rfl rfl rfl ⟨rfl, rfl, rfl, rfl, rfl⟩ rfl rfl rfl rfl rfl (by kernel_rfl) Try.func7 (by kernel_rfl)
    (of_decide_eq_true (by kernel_rfl)) (by unfold Func.isWrapper; first | (rw [if_pos (by decide +kernel)]; kernel_rfl) | (rw [if_neg (by decide +kernel)]; exact ⟨rfl, rfl⟩))
    (fun os started H enc _ => deliveryListed_lifted os started H enc)
#print axioms deliveryListed_holds

end Go.Proofs.Ytkakhaedipjodaa
