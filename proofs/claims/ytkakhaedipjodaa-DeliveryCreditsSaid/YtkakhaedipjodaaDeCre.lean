/- Credit and Total of package delivery give what the reference gives (DeliveryCredits), for every delivery and all runs for wides and no-balls. No condition. -/
import Derived.Test.YtkakhaedipjodaaLiftD
import Derived.Test.YtkakhaedipjodaaDvd
set_option linter.unusedSimpArgs false
set_option linter.unusedVariables false
namespace Go.Proofs.Ytkakhaedipjodaa
open Go.ChangeShapes Go.WideShapes Go.ChangeAt Go.RowKit Go.Joins

theorem deliveryCredits_walk (n m : Int) (t s r sh b : Int) (x : Bool) (h v f g : Int) (u : Bool) (z : Int) (w : World) (qn : -9223372036854775808 ≤ n ∧ n ≤ 9223372036854775807) (qm : -9223372036854775808 ≤ m ∧ m ≤ 9223372036854775807) (qt : 0 ≤ t ∧ t ≤ 255) (qs : 0 ≤ s ∧ s ≤ 255) (qr : -9223372036854775808 ≤ r ∧ r ≤ 9223372036854775807) (qsh : -9223372036854775808 ≤ sh ∧ sh ≤ 9223372036854775807) (qb : -9223372036854775808 ≤ b ∧ b ≤ 9223372036854775807) (qh : 0 ≤ h ∧ h ≤ 255) (qv : -9223372036854775808 ≤ v ∧ v ≤ 9223372036854775807) (qf : -9223372036854775808 ≤ f ∧ f ≤ 9223372036854775807) (qg : -9223372036854775808 ≤ g ∧ g ≤ 9223372036854775807) (qz : -9223372036854775808 ≤ z ∧ z ≤ 9223372036854775807) : Calls Try.prog 4 #[.agg #[.int .i64 n, .int .i64 m], .agg #[.int .u8 t, .int .u8 s, .int .i64 r, .int .i64 sh, .int .i64 b, .bool x, .int .u8 h, .int .i64 v, .int .i64 f, .int .i64 g, .bool u, .int .i64 z]] w fun e w' => e = .returned (.bool true) ∧ Below w.heap.size w w' :=
  deliveryCredits_sp n m t s r sh b x h v f g u z w

set_option maxRecDepth 100000 in
theorem deliveryCredits_lifted (os : Os) (started : os.Started) (H : Type) (enc : TypeId × Value → H) :
    ReturnsInHanded {} Try.checked os 4 .any (Rows.deliveryCreditsSpec.pre6 enc Try.prog Try.f4 Rows.deliveryCreditsRow.domain false) (Rows.deliveryCreditsSpec.post enc Try.prog Try.f4 false true false false) := by
  refine returnsInHanded_of_change (C := Try.checked) own started (by kernel_rfl) Try.func4
    (ChangeSpec.witness6 (enc := enc) (C := Try.checked) false ⟨#[], #[.agg #[.int .i64 0, .int .i64 0], .agg #[.int .u8 0, .int .u8 0, .int .i64 0, .int .i64 0, .int .i64 0, .bool false, .int .u8 0, .int .i64 0, .int .i64 0, .int .i64 0, .bool false, .int .i64 0]], []⟩ 8 (by kernel_rfl) (by kernel_rfl) (by kernel_rfl) (by kernel_rfl)) ?_
  intro WW base args ds gs before hval hW _ _
  have hpost := fun (W' : World) (hb : Below WW.heap.size WW W') (hfn : Rows.deliveryCreditsSpec.fn H (ds ++ []) = { results := [.lit (.bool true)], args := ds }) =>
    post_of_law (fresh := true) (handsOn := false) laidOut (by rw [Try.params4]; intro t ht; simp at ht; (try subst ht) <;> (try (rcases ht with rfl | rfl)) <;> exact ⟨by kernel_rfl, of_decide_eq_true (by kernel_rfl)⟩) rfl hW (tb := 4) (by kernel_rfl) Try.underlying4 hfn hb
  obtain ⟨p, q, hA, hV, rfl, hfz, hnd⟩ := hW
  rw [Try.params4] at hA hval
  obtain ⟨v0, vs0, d0, ds0, p0, q0, hargs, rfl, rfl, h0, r0⟩ := trodAll_cons hA
  obtain ⟨v1, vs1, d1, ds1, p1, q1, rfl, rfl, rfl, h1, r1⟩ := trodAll_cons r0
  obtain ⟨rfl, rfl, rfl⟩ := trodAll_nil r1
  obtain rfl : args = #[v0, v1] := by cases args; simp_all
  obtain ⟨a0_0, a0_1, rfl, g0_0, g0_1⟩ := op_runs2 (hval 0 _ v0 rfl rfl) h0
  obtain ⟨a1_0, a1_1, a1_2, a1_3, a1_4, a1_5, a1_6, a1_7, a1_8, a1_9, a1_10, a1_11, rfl, g1_0, g1_1, g1_2, g1_3, g1_4, g1_5, g1_6, g1_7, g1_8, g1_9⟩ := op_del (hval 1 _ v1 rfl rfl) h1
  refine (deliveryCredits_walk a0_0 a0_1 a1_0 a1_1 a1_2 a1_3 a1_4 a1_5 a1_6 a1_7 a1_8 a1_9 a1_10 a1_11 WW g0_0 g0_1 g1_0 g1_1 g1_2 g1_3 g1_4 g1_5 g1_6 g1_7 g1_8 g1_9).mono fun e W' ⟨he, hg⟩ => ?_
  exact ⟨_, he, hpost W' hg rfl⟩

theorem deliveryCredits_holds : Rows.DeliveryCreditsSaid :=
  OpenClaim.holds_of_wide 4 Try.f4 rfl rfl rfl rfl rfl rfl rfl ⟨rfl, rfl, rfl, rfl, rfl⟩ rfl rfl rfl rfl rfl (by kernel_rfl) Try.func4 (by kernel_rfl)
    (of_decide_eq_true (by kernel_rfl)) (by unfold Func.isWrapper; first | (rw [if_pos (by decide +kernel)]; kernel_rfl) | (rw [if_neg (by decide +kernel)]; exact ⟨rfl, rfl⟩))
    (fun os started H enc _ => deliveryCredits_lifted os started H enc)
#print axioms deliveryCredits_holds

end Go.Proofs.Ytkakhaedipjodaa
