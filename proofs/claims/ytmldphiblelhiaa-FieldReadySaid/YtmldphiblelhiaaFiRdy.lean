/- Ready and Named of package field give what the reference gives (FieldReady), for all rules, states and deliveries. No condition. -/
import Derived.Test.YtmldphiblelhiaaLiftF
set_option linter.unusedSimpArgs false
set_option linter.unusedVariables false
set_option maxRecDepth 100000
namespace Go.Proofs.Ytmldphiblelhiaa
open Go.ChangeShapes Go.WideShapes Go.ChangeAt Go.RowKit Go.Joins

theorem fieldReady_walk (q : Rul) (B : RAd) (s : Inn) (A : Adr) (t sc ru sh b : Int) (x : Bool) (h v f g : Int) (u : Bool) (z : Int) (w : World) (b1 : AOK B.a q.pw.length) (b2 : q.pw.length ≤ B.c) (b3 : Rd w B.a (cP q.pw)) (a1 : OkA s A) (a2 : CapI s A) (a3 : RdI w s A)
    (qt : 0 ≤ t ∧ t ≤ 255) (qs : 0 ≤ sc ∧ sc ≤ 255) (qr : -9223372036854775808 ≤ ru ∧ ru ≤ 9223372036854775807) (qsh : -9223372036854775808 ≤ sh ∧ sh ≤ 9223372036854775807) (qb : -9223372036854775808 ≤ b ∧ b ≤ 9223372036854775807) (qh : 0 ≤ h ∧ h ≤ 255) (qv : -9223372036854775808 ≤ v ∧ v ≤ 9223372036854775807) (qf : -9223372036854775808 ≤ f ∧ f ≤ 9223372036854775807) (qg : -9223372036854775808 ≤ g ∧ g ≤ 9223372036854775807) (qz : -9223372036854775808 ≤ z ∧ z ≤ 9223372036854775807) :
    Calls Try.prog 4 #[ruV q B, inV s A, .agg #[.int .u8 t, .int .u8 sc, .int .i64 ru, .int .i64 sh, .int .i64 b, .bool x, .int .u8 h, .int .i64 v, .int .i64 f, .int .i64 g, .bool u, .int .i64 z]] w fun e w' => e = .returned (.bool true) ∧ Below w.heap.size w w' := by
  refine (fieldReady_sp q B s A t sc ru sh b x h v f g u z a1 a2 b1 b2 w (ext_nil w) ?_).mono fun e w' ⟨_, he, _, hb⟩ => ⟨he, hb⟩
  intro a xs hm
  rw [List.mem_cons] at hm
  rcases hm with hm | hm
  · injection hm with e1 e2
    subst e1 e2
    exact rd_pw b3 10
  · exact rd_few a3 a xs hm

set_option maxRecDepth 100000 in
theorem fieldReady_lifted (os : Os) (started : os.Started) (H : Type) (enc : TypeId × Value → H) :
    ReturnsInHanded {} Try.checked os 4 .any (Rows.fieldReadySpec.pre6 enc Try.prog Try.f4 Rows.fieldReadyRow.domain false) (Rows.fieldReadySpec.post enc Try.prog Try.f4 false true false false) := by
  refine returnsInHanded_of_change (C := Try.checked) own started (by kernel_rfl) Try.func4
    (ChangeSpec.witness6 (enc := enc) (C := Try.checked) false ⟨#[], #[.agg #[.string ⟨#[]⟩, .int .i64 0, .int .i64 0, .int .i64 0, .int .i64 0, .int .i64 0, .int .i64 0, .int .i64 0, .bool false, .int .i64 0, .int .i64 0, .int .i64 0, .int .i64 0, .slice none 0 0], .agg #[.int .i64 0, .int .i64 0, .int .i64 0, .int .i64 0, .int .i64 0, .int .i64 0, .int .i64 0, .int .i64 0, .int .i64 0, .int .i64 0, .int .i64 0, .int .i64 0, .int .i64 0, .int .i64 0, .slice none 0 0, .int .i64 0, .slice none 0 0, .slice none 0 0, .bool false, .slice none 0 0, .bool false, .int .i64 0, .int .i64 0, .int .i64 0, .slice none 0 0, .int .i64 0, .int .i64 0, .int .u8 0], .agg #[.int .u8 0, .int .u8 0, .int .i64 0, .int .i64 0, .int .i64 0, .bool false, .int .u8 0, .int .i64 0, .int .i64 0, .int .i64 0, .bool false, .int .i64 0]], []⟩ 8 (by kernel_rfl) (by kernel_rfl) (by kernel_rfl) (by kernel_rfl)) ?_
  intro WW base args ds gs before hval hW _ _
  have hpost := fun (W' : World) (hb : Below WW.heap.size WW W') (hfn : Rows.fieldReadySpec.fn H (ds ++ []) = { results := [.lit (.bool true)], args := ds }) =>
    post_of_law (fresh := true) (handsOn := false) laidOut (by rw [Try.params4]; intro t ht; simp at ht; (try subst ht) <;> (try (rcases ht with rfl | rfl | rfl)) <;> exact ⟨by kernel_rfl, of_decide_eq_true (by kernel_rfl)⟩) rfl hW (tb := 4) (by kernel_rfl) Try.underlying4 hfn hb
  obtain ⟨p, q, hA, hV, rfl, hfz, hnd⟩ := hW
  rw [Try.params4] at hA hval
  obtain ⟨v0, vs0, d0, ds0, p0, q0, hargs, rfl, rfl, h0, r0⟩ := trodAll_cons hA
  obtain ⟨v1, vs1, d1, ds1, p1, q1, rfl, rfl, rfl, h1, r1⟩ := trodAll_cons r0
  obtain ⟨v2, vs2, d2, ds2, p2, q2, rfl, rfl, rfl, h2, r2⟩ := trodAll_cons r1
  obtain ⟨rfl, rfl, rfl⟩ := trodAll_nil r2
  obtain rfl : args = #[v0, v1, v2] := by cases args; simp_all
  obtain ⟨a0_0, a0_1, rfl, g0_0, g0_1, g0_2⟩ := op_rul (hval 0 _ v0 rfl rfl) h0
  obtain ⟨a1_0, a1_1, rfl, g1_0, g1_1, g1_2⟩ := op_inn (hval 1 _ v1 rfl rfl) h1
  obtain ⟨a2_0, a2_1, a2_2, a2_3, a2_4, a2_5, a2_6, a2_7, a2_8, a2_9, a2_10, a2_11, rfl, g2_0, g2_1, g2_2, g2_3, g2_4, g2_5, g2_6, g2_7, g2_8, g2_9⟩ := op_del (hval 2 _ v2 rfl rfl) h2
  refine (fieldReady_walk a0_0 a0_1 a1_0 a1_1 a2_0 a2_1 a2_2 a2_3 a2_4 a2_5 a2_6 a2_7 a2_8 a2_9 a2_10 a2_11 WW g0_0 g0_1 g0_2 g1_0 g1_1 g1_2 g2_0 g2_1 g2_2 g2_3 g2_4 g2_5 g2_6 g2_7 g2_8 g2_9).mono fun e W' ⟨he, hg⟩ => ?_
  exact ⟨_, he, hpost W' hg rfl⟩

theorem fieldReady_holds : Rows.FieldReadySaid :=
  OpenClaim.holds_of_wide 4 Try.f4 rfl rfl rfl rfl rfl rfl rfl ⟨rfl, rfl, rfl, rfl, rfl⟩ rfl rfl rfl rfl rfl (by kernel_rfl) Try.func4 (by kernel_rfl)
    (of_decide_eq_true (by kernel_rfl)) (by unfold Func.isWrapper; first | (rw [if_pos (by decide +kernel)]; kernel_rfl) | (rw [if_neg (by decide +kernel)]; exact ⟨rfl, rfl⟩))
    (fun os started H enc _ => fieldReady_lifted os started H enc)
#print axioms fieldReady_holds

end Go.Proofs.Ytmldphiblelhiaa
