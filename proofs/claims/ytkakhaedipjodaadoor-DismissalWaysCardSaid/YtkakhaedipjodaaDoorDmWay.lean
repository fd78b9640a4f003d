/- The ways of being out on any type of delivery, and the fielders that are named for any way, are those of the reference (DismissalWays). Condition: the table of ways is as the program's text lays it. -/
import Derived.Test.YtkakhaedipjodaaDoorLiftM
import Derived.Test.YtkakhaedipjodaaDoorDmg
set_option linter.unusedSimpArgs false
set_option linter.unusedVariables false
namespace Go.Proofs.YtkakhaedipjodaaDoor
open Go.ChangeShapes Go.WideShapes Go.ChangeAt Go.RowKit Go.Joins

theorem dismissalWays_walk (t : Int) (free : Bool) (h : Int) (w : World) (qt : 0 ≤ t ∧ t ≤ 255) (qh : 0 ≤ h ∧ h ≤ 255) (hE : ExtOK wE w) : Calls Tryd.prog 4 #[.int .u8 t, .bool free, .int .u8 h] w fun e w' => e = .returned (.bool true) ∧ Below w.heap.size w w' := by
  by_cases e1 : t = 1
  · subst e1
    cases free
    · exact wlaw_10_sp h qh w hE
    · exact wlaw_11_sp h qh w hE
  by_cases e2 : t = 2
  · subst e2
    cases free
    · exact wlaw_20_sp h qh w hE
    · exact wlaw_21_sp h qh w hE
  by_cases e3 : t = 3
  · subst e3
    cases free
    · exact wlaw_30_sp h qh w hE
    · exact wlaw_31_sp h qh w hE
  cases free
  · exact wlaw_00_sp t h qh (by simpa using e1) (by simpa using e2) (by simpa using e3) w hE
  · exact wlaw_01_sp t h qh (by simpa using e1) (by simpa using e2) (by simpa using e3) w hE

set_option maxRecDepth 100000 in
theorem dismissalWays_lifted (os : Os) (started : os.Started) (H : Type) (enc : TypeId × Value → H) :
    ReturnsInHanded {} Tryd.checked os 4 .any (fun w args => (Rows.dismissalWaysSpec.pre enc Tryd.prog Tryd.f4 [] false w args ∧ laidMetH Tryd.prog laidA w) ∧ sizedMet enc Tryd.prog Tryd.f4 (OpenSpec.ofChange Rows.dismissalWaysSpec) false w args)
      (Rows.dismissalWaysSpec.post enc Tryd.prog Tryd.f4 false true false false) := by
  refine law_lift (C := Tryd.checked) (X := fun w _ => laidMetH Tryd.prog laidA w) (tb := 4) (fun _ _ _ hh h => h.of_heap hh) own started (by kernel_rfl) Tryd.func4 laidOut
    (by rw [Tryd.params4]; intro t ht; simp at ht; (try subst ht) <;> (try (rcases ht with rfl | rfl | rfl)) <;> exact ⟨by kernel_rfl, of_decide_eq_true (by kernel_rfl)⟩) rfl (by kernel_rfl) Tryd.underlying4
    (ChangeSpec.witness_shaped (enc := enc) (C := Tryd.checked) (os := os) (X := fun w _ => laidMetH Tryd.prog laidA w) false (World.doorLaid Tryd.prog 400 os) #[.int .u8 0, .bool false, .int .u8 0] 8 rfl (World.shaped_of_RefB (by kernel_rfl) (by kernel_rfl)) (by kernel_rfl) (by kernel_rfl) (by kernel_rfl) (laidA_met os _)) ?_
  intro WW base args ds gs p hval hA hreach hL hS
  rw [Tryd.params4] at hA hval
  obtain ⟨v0, vs0, d0, ds0, p0, q0, hargs, rfl, rfl, h0, r0⟩ := trodAll_cons hA
  obtain ⟨v1, vs1, d1, ds1, p1, q1, rfl, rfl, rfl, h1, r1⟩ := trodAll_cons r0
  obtain ⟨v2, vs2, d2, ds2, p2, q2, rfl, rfl, rfl, h2, r2⟩ := trodAll_cons r1
  obtain ⟨rfl, rfl, rfl⟩ := trodAll_nil r2
  obtain rfl : args = #[v0, v1, v2] := by cases args; simp_all
  obtain ⟨a0_0, rfl, g0_0⟩ := op_ty (hval 0 _ v0 rfl rfl) h0
  obtain ⟨a1_0, rfl⟩ := op_bool (hval 1 _ v1 rfl rfl) h1
  obtain ⟨a2_0, rfl, g2_0⟩ := op_how (hval 2 _ v2 rfl rfl) h2
  exact ⟨rfl, dismissalWays_walk a0_0 a1_0 a2_0 WW g0_0 g2_0 (env_of_laid hL)⟩

theorem dismissalWays_holds : Rows.DismissalWaysSaid :=
  OpenClaim.holds_of_wide 4 Tryd.f4 rfl rfl rfl rfl rfl rfl rfl ⟨rfl, rfl, rfl, rfl, rfl⟩ rfl rfl rfl rfl rfl (by kernel_rfl) Tryd.func4 (by kernel_rfl)
    (of_decide_eq_true (by kernel_rfl)) (by unfold Func.isWrapper; first | (rw [if_pos (by decide +kernel)]; kernel_rfl) | (rw [if_neg (by decide +kernel)]; exact ⟨rfl, rfl⟩))
    (fun os started H enc _ => dismissalWays_lifted os started H enc)

theorem dismissalWays_card : Rows.DismissalWaysCardSaid :=
  Claim7.holds_tied_plain_at .later [] [.data] true Rows.dismissalWaysCard.stood.harness Rows.dismissalWaysCard.stood.looks
    dismissalWays_holds (fun _ h => by cases h) (by kernel_rfl) (fun _ h => by cases h) dismissalWays_row_tie rfl ⟨rfl, rfl⟩ (by kernel_rfl) rfl
    (fun f fn hf hfn => by
      obtain rfl : f = 4 := Option.some.inj ((show Tryd.prog.funcNamed "scorebook/scorebooklaw10.DismissalWays" = some 4 by kernel_rfl).symm.trans hf) |>.symm
      obtain rfl : fn = Tryd.f4 := (Option.some.inj (Tryd.func4.symm.trans hfn)).symm
      exact ⟨by kernel_rfl, fun j t ht => by
        rw [Tryd.params4] at ht
        have hm : t ∈ [22, 4, 24] := by simpa using Array.mem_of_getElem? ht
        have hall : ([22, 4, 24].all fun u => !Tryd.prog.wantsStandIn u) = true := by kernel_rfl
        exact (show Tryd.prog.wantsStandIn t = false by simpa using List.all_eq_true.1 hall t hm)⟩)
    (by kernel_rfl)
#print axioms dismissalWays_card

end Go.Proofs.YtkakhaedipjodaaDoor
