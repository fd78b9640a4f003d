/- The symbols of any deliveries, and the deliveries of any symbols, are the reference's (NotationOvers), for all lists of deliveries and all strings. Condition: the listed variables of the library are as its text lays them. -/
import Derived.Test.YtkgdlimekkdekaaDoorLiftY
import Derived.Test.YtkgdlimekkdekaaDoorNpr
set_option linter.unusedSimpArgs false
set_option linter.unusedVariables false
set_option maxRecDepth 100000
namespace Go.Proofs.YtkgdlimekkdekaaDoor
open Go.ChangeShapes Go.WideShapes Go.ChangeAt Go.RowKit Go.Joins

theorem notationOvers_walk (a : Option Addr) (ds : List Dl) (c : Nat) (b : ByteArray) (w : World) (b1 : AOK a ds.length) (b2 : ds.length ≤ c ∧ c ≤ maxLen) (b3 : Rd w a (cD ds)) (b4 : ∀ d ∈ ds, Wf d) (b5 : b.size ≤ maxLen) (hE : ExtOK rE w) :
    Calls Tryd.prog 3 #[.slice a ds.length c, .string b] w fun e w' => e = .returned (.bool true) ∧ Below w.heap.size w w' := by
  have hm : maxLen = 9223372036854775807 := by decide
  refine (notationOvers_sp a ds c b b1 ⟨b2.1, by omega⟩ b4 w hE ?_).mono fun e w' ⟨_, he, _, hb⟩ => ⟨he, hb⟩
  intro a' xs hm
  simp only [List.mem_cons, List.not_mem_nil, or_false, Prod.mk.injEq] at hm
  obtain ⟨rfl, rfl⟩ := hm
  exact b3

set_option maxRecDepth 100000 in
theorem notationOvers_lifted (os : Os) (started : os.Started) (H : Type) (enc : TypeId × Value → H) :
    ReturnsInHanded {} Tryd.checked os 3 .any (fun w args => (Rows.notationOversSpec.pre enc Tryd.prog Tryd.f3 [] false w args ∧ laidMetH Tryd.prog laidA w) ∧ sizedMet enc Tryd.prog Tryd.f3 (OpenSpec.ofChange Rows.notationOversSpec) false w args)
      (Rows.notationOversSpec.post enc Tryd.prog Tryd.f3 false true false false) := by
  refine law_lift (C := Tryd.checked) (X := fun w _ => laidMetH Tryd.prog laidA w) (tb := 4) (fun _ _ _ hh h => h.of_heap hh) own started (by kernel_rfl) Tryd.func3 laidOut
    (by rw [Tryd.params3]; intro t ht; simp at ht; (try subst ht) <;> (try (rcases ht with rfl | rfl)) <;> exact ⟨by kernel_rfl, of_decide_eq_true (by kernel_rfl)⟩) rfl (by kernel_rfl) Tryd.underlying4
    (ChangeSpec.witness_shaped (enc := enc) (C := Tryd.checked) (os := os) (X := fun w _ => laidMetH Tryd.prog laidA w) false (World.laidAll Tryd.prog os laidA) #[.slice none 0 0, .string ⟨#[]⟩] 8 rfl (laidA_shaped os) (by kernel_rfl) (by kernel_rfl) (by kernel_rfl) (laidA_met os _)) ?_
  intro WW base args ds gs p hval hA hreach hL hS
  rw [Tryd.params3] at hA hval
  obtain ⟨v0, vs0, d0, ds0, p0, q0, hargs, rfl, rfl, h0, r0⟩ := trodAll_cons hA
  obtain ⟨v1, vs1, d1, ds1, p1, q1, rfl, rfl, rfl, h1, r1⟩ := trodAll_cons r0
  obtain ⟨rfl, rfl, rfl⟩ := trodAll_nil r1
  obtain rfl : args = #[v0, v1] := by cases args; simp_all
  obtain ⟨a0_0, a0_1, a0_2, rfl, g0_0, g0_1, g0_2, g0_3⟩ := op_dels (hval 0 _ v0 rfl rfl) h0
  obtain ⟨a1_0, rfl, g1_0⟩ := op_str (hval 1 _ v1 rfl rfl) h1
  exact ⟨rfl, notationOvers_walk a0_0 a0_1 a0_2 a1_0 WW g0_0 g0_1 g0_2 g0_3 g1_0 (rE_of (env_of_laid hL hS))⟩

theorem notationOvers_holds : Rows.NotationOversSaid :=
  OpenClaim.holds_of_wide 3 Tryd.f3 rfl rfl rfl rfl rfl rfl rfl ⟨rfl, rfl, rfl, rfl, rfl⟩ rfl rfl rfl rfl rfl (by kernel_rfl) Tryd.func3 (by kernel_rfl)
    (of_decide_eq_true (by kernel_rfl)) (by unfold Func.isWrapper; first | (rw [if_pos (by decide +kernel)]; kernel_rfl) | (rw [if_neg (by decide +kernel)]; exact ⟨rfl, rfl⟩))
    (fun os started H enc _ => notationOvers_lifted os started H enc)

theorem notationOvers_card : Rows.NotationOversCardSaid :=
  Claim7.holds_tied_plain_at .later [] [.data, .data, .data, .data, .pinned] true Rows.notationOversCard.stood.harness Rows.notationOversCard.stood.looks
    notationOvers_holds (fun _ h => by cases h) (by kernel_rfl) (fun _ h => by cases h) notationOvers_row_tie rfl ⟨rfl, rfl⟩ (by kernel_rfl) rfl
    (fun f fn hf hfn => by
      obtain rfl : f = 3 := Option.some.inj ((show Tryd.prog.funcNamed "scorebook/scorebooklaw07.NotationOvers" = some 3 by kernel_rfl).symm.trans hf) |>.symm
      obtain rfl : fn = Tryd.f3 := (Option.some.inj (Tryd.func3.symm.trans hfn)).symm
      exact ⟨by kernel_rfl, fun j t ht => by
        rw [Tryd.params3] at ht
        have hm : t ∈ [22, 9] := by simpa using Array.mem_of_getElem? ht
        have hall : ([22, 9].all fun u => !Tryd.prog.wantsStandIn u) = true := by kernel_rfl
        exact (show Tryd.prog.wantsStandIn t = false by simpa using List.all_eq_true.1 hall t hm)⟩)
    (by kernel_rfl)
#print axioms notationOvers_card

end Go.Proofs.YtkgdlimekkdekaaDoor
