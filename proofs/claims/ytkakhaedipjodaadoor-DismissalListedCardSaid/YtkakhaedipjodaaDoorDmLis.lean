/- A dismissal that is possible is one of the ways of its type, and each of these ways is possible (DismissalListed), for every delivery, free hit or not. Condition: the table of ways is as the program's text lays it. -/
import Derived.Test.YtkakhaedipjodaaDoorLiftM
import Derived.Test.YtkakhaedipjodaaDoorDmh
set_option linter.unusedSimpArgs false
set_option linter.unusedVariables false
namespace Go.Proofs.YtkakhaedipjodaaDoor
open Go.ChangeShapes Go.WideShapes Go.ChangeAt Go.RowKit Go.Joins

theorem dismissalListed_walk (t s r sh b : Int) (x : Bool) (h v f g : Int) (u : Bool) (z : Int) (free : Bool) (w : World) (qt : 0 ≤ t ∧ t ≤ 255) (qs : 0 ≤ s ∧ s ≤ 255) (qr : -9223372036854775808 ≤ r ∧ r ≤ 9223372036854775807) (qsh : -9223372036854775808 ≤ sh ∧ sh ≤ 9223372036854775807) (qb : -9223372036854775808 ≤ b ∧ b ≤ 9223372036854775807) (qh : 0 ≤ h ∧ h ≤ 255) (qv : -9223372036854775808 ≤ v ∧ v ≤ 9223372036854775807) (qf : -9223372036854775808 ≤ f ∧ f ≤ 9223372036854775807) (qg : -9223372036854775808 ≤ g ∧ g ≤ 9223372036854775807) (qz : -9223372036854775808 ≤ z ∧ z ≤ 9223372036854775807) (hE : ExtOK wE w) : Calls Tryd.prog 7 #[.agg #[.int .u8 t, .int .u8 s, .int .i64 r, .int .i64 sh, .int .i64 b, .bool x, .int .u8 h, .int .i64 v, .int .i64 f, .int .i64 g, .bool u, .int .i64 z], .bool free] w fun e w' => e = .returned (.bool true) ∧ Below w.heap.size w w' := by
  by_cases e1 : t = 1
  · subst e1
    cases free
    · exact llaw_10_sp s r sh b x h v f g u z qh w hE
    · exact llaw_11_sp s r sh b x h v f g u z qh w hE
  by_cases e2 : t = 2
  · subst e2
    cases free
    · exact llaw_20_sp s r sh b x h v f g u z qh w hE
    · exact llaw_21_sp s r sh b x h v f g u z qh w hE
  by_cases e3 : t = 3
  · subst e3
    cases free
    · exact llaw_30_sp s r sh b x h v f g u z qh w hE
    · exact llaw_31_sp s r sh b x h v f g u z qh w hE
  cases free
  · exact llaw_00_sp t s r sh b x h v f g u z qh (by simpa using e1) (by simpa using e2) (by simpa using e3) w hE
  · exact llaw_01_sp t s r sh b x h v f g u z qh (by simpa using e1) (by simpa using e2) (by simpa using e3) w hE

set_option maxRecDepth 100000 in
theorem dismissalListed_lifted (os : Os) (started : os.Started) (H : Type) (enc : TypeId × Value → H) :
    ReturnsInHanded {} Tryd.checked os 7 .any (fun w args => (Rows.dismissalListedSpec.pre enc Tryd.prog Tryd.f7 [] false w args ∧ laidMetH Tryd.prog laidA w) ∧ sizedMet enc Tryd.prog Tryd.f7 (OpenSpec.ofChange Rows.dismissalListedSpec) false w args)
      (Rows.dismissalListedSpec.post enc Tryd.prog Tryd.f7 false true false false) := by
  refine law_lift (C := Tryd.checked) (X := fun w _ => laidMetH Tryd.prog laidA w) (tb := 4) (fun _ _ _ hh h => h.of_heap hh) own started (by kernel_rfl) Tryd.func7 laidOut
    (by rw [Tryd.params7]; intro t ht; simp at ht; (try subst ht) <;> (try (rcases ht with rfl | rfl)) <;> exact ⟨by kernel_rfl, of_decide_eq_true (by kernel_rfl)⟩) rfl (by kernel_rfl) Tryd.underlying4
    (ChangeSpec.witness_shaped (enc := enc) (C := Tryd.checked) (os := os) (X := fun w _ => laidMetH Tryd.prog laidA w) false (World.doorLaid Tryd.prog 400 os) #[.agg #[.int .u8 0, .int .u8 0, .int .i64 0, .int .i64 0, .int .i64 0, .bool false, .int .u8 0, .int .i64 0, .int .i64 0, .int .i64 0, .bool false, .int .i64 0], .bool false] 8 rfl (World.shaped_of_RefB (by kernel_rfl) (by kernel_rfl)) (by kernel_rfl) (by kernel_rfl) (by kernel_rfl) (laidA_met os _)) ?_
  intro WW base args ds gs p hval hA hreach hL hS
  rw [Tryd.params7] at hA hval
  obtain ⟨v0, vs0, d0, ds0, p0, q0, hargs, rfl, rfl, h0, r0⟩ := trodAll_cons hA
  obtain ⟨v1, vs1, d1, ds1, p1, q1, rfl, rfl, rfl, h1, r1⟩ := trodAll_cons r0
  obtain ⟨rfl, rfl, rfl⟩ := trodAll_nil r1
  obtain rfl : args = #[v0, v1] := by cases args; simp_all
  obtain ⟨a0_0, a0_1, a0_2, a0_3, a0_4, a0_5, a0_6, a0_7, a0_8, a0_9, a0_10, a0_11, rfl, g0_0, g0_1, g0_2, g0_3, g0_4, g0_5, g0_6, g0_7, g0_8, g0_9⟩ := op_del (hval 0 _ v0 rfl rfl) h0
  obtain ⟨a1_0, rfl⟩ := op_bool (hval 1 _ v1 rfl rfl) h1
  exact ⟨rfl, dismissalListed_walk a0_0 a0_1 a0_2 a0_3 a0_4 a0_5 a0_6 a0_7 a0_8 a0_9 a0_10 a0_11 a1_0 WW g0_0 g0_1 g0_2 g0_3 g0_4 g0_5 g0_6 g0_7 g0_8 g0_9 (env_of_laid hL)⟩

theorem dismissalListed_holds : Rows.DismissalListedSaid :=
  OpenClaim.holds_of_wide 7 Tryd.f7 rfl rfl rfl rfl rfl rfl rfl ⟨rfl, rfl, rfl, rfl, rfl⟩ rfl rfl rfl rfl rfl (by kernel_rfl) Tryd.func7 (by kernel_rfl)
    (of_decide_eq_true (by kernel_rfl)) (by unfold Func.isWrapper; first | (rw [if_pos (by decide +kernel)]; kernel_rfl) | (rw [if_neg (by decide +kernel)]; exact ⟨rfl, rfl⟩))
    (fun os started H enc _ => dismissalListed_lifted os started H enc)

theorem dismissalListed_card : Rows.DismissalListedCardSaid :=
  Claim7.holds_tied_plain_at .later [] [.data] true Rows.dismissalListedCard.stood.harness Rows.dismissalListedCard.stood.looks
    dismissalListed_holds (fun _ h => by cases h) (by kernel_rfl) (fun _ h => by cases h) dismissalListed_row_tie rfl ⟨rfl, rfl⟩ (by kernel_rfl) rfl
    (fun f fn hf hfn => by
      obtain rfl : f = 7 := Option.some.inj ((show Tryd.prog.funcNamed "scorebook/scorebooklaw10.DismissalListed" = some 7 by kernel_rfl).symm.trans hf) |>.symm
      obtain rfl : fn = Tryd.f7 := (Option.some.inj (Tryd.func7.symm.trans hfn)).symm
      exact ⟨by kernel_rfl, fun j t ht => by
        rw [Tryd.params7] at ht
        have hm : t ∈ [26, 4] := by simpa using Array.mem_of_getElem? ht
        have hall : ([26, 4].all fun u => !Tryd.prog.wantsStandIn u) = true := by kernel_rfl
        exact (show Tryd.prog.wantsStandIn t = false by simpa using List.all_eq_true.1 hall t hm)⟩)
    (by kernel_rfl)
#print axioms dismissalListed_card

end Go.Proofs.YtkakhaedipjodaaDoor
