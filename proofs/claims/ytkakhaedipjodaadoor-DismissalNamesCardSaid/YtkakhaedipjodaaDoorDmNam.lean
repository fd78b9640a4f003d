/- Every way of being out is read back from its name, and every other name fails, as in the reference (DismissalNames). Condition: the table of ways is as the program's text lays it. -/
import Derived.Test.YtkakhaedipjodaaDoorLiftM
import Derived.Test.YtkakhaedipjodaaDoorDmi
set_option linter.unusedSimpArgs false
set_option linter.unusedVariables false
namespace Go.Proofs.YtkakhaedipjodaaDoor
open Go.ChangeShapes Go.WideShapes Go.ChangeAt Go.RowKit Go.Joins

theorem dismissalNames_walk (h : Int) (s : ByteArray) (w : World) (qh : 0 ≤ h ∧ h ≤ 255) (qs : s.size ≤ maxLen) (hE : ExtOK wE w) : Calls Tryd.prog 5 #[.int .u8 h, .string s] w fun e w' => e = .returned (.bool true) ∧ Below w.heap.size w w' := dismissalNames_sp h s qh w hE

set_option maxRecDepth 100000 in
theorem dismissalNames_lifted (os : Os) (started : os.Started) (H : Type) (enc : TypeId × Value → H) :
    ReturnsInHanded {} Tryd.checked os 5 .any (fun w args => (Rows.dismissalNamesSpec.pre enc Tryd.prog Tryd.f5 [] false w args ∧ laidMetH Tryd.prog laidA w) ∧ sizedMet enc Tryd.prog Tryd.f5 (OpenSpec.ofChange Rows.dismissalNamesSpec) false w args)
      (Rows.dismissalNamesSpec.post enc Tryd.prog Tryd.f5 false true false false) := by
  refine law_lift (C := Tryd.checked) (X := fun w _ => laidMetH Tryd.prog laidA w) (tb := 4) (fun _ _ _ hh h => h.of_heap hh) own started (by kernel_rfl) Tryd.func5 laidOut
    (by rw [Tryd.params5]; intro t ht; simp at ht; (try subst ht) <;> (try (rcases ht with rfl | rfl)) <;> exact ⟨by kernel_rfl, of_decide_eq_true (by kernel_rfl)⟩) rfl (by kernel_rfl) Tryd.underlying4
    (ChangeSpec.witness_shaped (enc := enc) (C := Tryd.checked) (os := os) (X := fun w _ => laidMetH Tryd.prog laidA w) false (World.doorLaid Tryd.prog 400 os) #[.int .u8 0, .string ⟨#[]⟩] 8 rfl (World.shaped_of_RefB (by kernel_rfl) (by kernel_rfl)) (by kernel_rfl) (by kernel_rfl) (by kernel_rfl) (laidA_met os _)) ?_
  intro WW base args ds gs p hval hA hreach hL hS
  rw [Tryd.params5] at hA hval
  obtain ⟨v0, vs0, d0, ds0, p0, q0, hargs, rfl, rfl, h0, r0⟩ := trodAll_cons hA
  obtain ⟨v1, vs1, d1, ds1, p1, q1, rfl, rfl, rfl, h1, r1⟩ := trodAll_cons r0
  obtain ⟨rfl, rfl, rfl⟩ := trodAll_nil r1
  obtain rfl : args = #[v0, v1] := by cases args; simp_all
  obtain ⟨a0_0, rfl, g0_0⟩ := op_how (hval 0 _ v0 rfl rfl) h0
  obtain ⟨a1_0, rfl, g1_0⟩ := op_str (hval 1 _ v1 rfl rfl) h1
  exact ⟨rfl, dismissalNames_walk a0_0 a1_0 WW g0_0 g1_0 (env_of_laid hL)⟩

theorem dismissalNames_holds : Rows.DismissalNamesSaid :=
  OpenClaim.holds_of_wide 5 Tryd.f5 rfl rfl rfl rfl rfl rfl rfl ⟨rfl, rfl, rfl, rfl, rfl⟩ rfl rfl rfl rfl rfl (by kernel_rfl) Tryd.func5 (by kernel_rfl)
    (of_decide_eq_true (by kernel_rfl)) (by unfold Func.isWrapper; first | (rw [if_pos (by decide +kernel)]; kernel_rfl) | (rw [if_neg (by decide +kernel)]; exact ⟨rfl, rfl⟩))
    (fun os started H enc _ => dismissalNames_lifted os started H enc)

theorem dismissalNames_card : Rows.DismissalNamesCardSaid :=
  Claim7.holds_tied_plain_at .later [] [.data] true Rows.dismissalNamesCard.stood.harness Rows.dismissalNamesCard.stood.looks
    dismissalNames_holds (fun _ h => by cases h) (by kernel_rfl) (fun _ h => by cases h) dismissalNames_row_tie rfl ⟨rfl, rfl⟩ (by kernel_rfl) rfl
    (fun f fn hf hfn => by
      obtain rfl : f = 5 := Option.some.inj ((show Tryd.prog.funcNamed "scorebook/scorebooklaw10.DismissalNames" = some 5 by kernel_rfl).symm.trans hf) |>.symm
      obtain rfl : fn = Tryd.f5 := (Option.some.inj (Tryd.func5.symm.trans hfn)).symm
      exact ⟨by kernel_rfl, fun j t ht => by
        rw [Tryd.params5] at ht
        have hm : t ∈ [24, 9] := by simpa using Array.mem_of_getElem? ht
        have hall : ([24, 9].all fun u => !Tryd.prog.wantsStandIn u) = true := by kernel_rfl
        exact (show Tryd.prog.wantsStandIn t = false by simpa using List.all_eq_true.1 hall t hm)⟩)
    (by kernel_rfl)
#print axioms dismissalNames_card

end Go.Proofs.YtkakhaedipjodaaDoor
