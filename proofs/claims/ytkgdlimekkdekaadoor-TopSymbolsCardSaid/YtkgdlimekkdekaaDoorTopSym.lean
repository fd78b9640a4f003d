/- The symbols of a delivery in both books have the runs of its credit (TopSymbols), for all rules and deliveries. Condition: the listed variables of the library and of the program are as their text lays them. -/
import Derived.Test.YtkgdlimekkdekaaDoorLiftX
import Derived.Test.YtkgdlimekkdekaaDoorTps
set_option linter.unusedSimpArgs false
set_option linter.unusedVariables false
set_option maxRecDepth 100000
namespace Go.Proofs.YtkgdlimekkdekaaDoor
open Go.ChangeShapes Go.WideShapes Go.ChangeAt Go.RowKit Go.Joins

theorem topSymbols_walk (r : Rul) (B : RAd) (d : Dl) (w : World) (b1 : AOK B.a r.pw.length) (b2 : r.pw.length ≤ B.c ∧ B.c ≤ maxLen) (b3 : Rd w B.a (cP r.pw)) (b4 : r.nm.size ≤ maxLen) (d1 : 0 ≤ d.t ∧ d.t ≤ 255) (d2 : 0 ≤ d.s ∧ d.s ≤ 255) (d3 : 0 ≤ d.h ∧ d.h ≤ 255) (hE : ExtOK tE w) :
    Calls Tryd.prog 5 #[ruV r B, dlV d] w fun e w' => e = .returned (.bool true) ∧ Below w.heap.size w w' := by
  have hm : maxLen = 9223372036854775807 := by decide
  refine (topSymbols_sp r B d b1 (by omega) (by omega) ⟨d1.1, d2.1, d3.1⟩ d3 w hE ?_).mono fun e w' ⟨_, he, _, hb⟩ => ⟨he, hb⟩
  intro a' xs hm
  simp only [List.mem_cons, List.not_mem_nil, or_false, Prod.mk.injEq] at hm
  obtain ⟨rfl, rfl⟩ := hm
  exact b3

set_option maxRecDepth 100000 in
theorem topSymbols_lifted (os : Os) (started : os.Started) (H : Type) (enc : TypeId × Value → H) :
    ReturnsInHanded {} Tryd.checked os 5 .any (fun w args => (Rows.topSymbolsSpec.pre enc Tryd.prog Tryd.f5 [] false w args ∧ laidMetH Tryd.prog laidA w) ∧ sizedMet enc Tryd.prog Tryd.f5 (OpenSpec.ofChange Rows.topSymbolsSpec) false w args)
      (Rows.topSymbolsSpec.post enc Tryd.prog Tryd.f5 false true false false) := by
  refine law_lift (C := Tryd.checked) (X := fun w _ => laidMetH Tryd.prog laidA w) (tb := 4) (fun _ _ _ hh h => h.of_heap hh) own started (by kernel_rfl) Tryd.func5 laidOut
    (by rw [Tryd.params5]; intro t ht; simp at ht; (try subst ht) <;> (try (rcases ht with rfl | rfl)) <;> exact ⟨by kernel_rfl, of_decide_eq_true (by kernel_rfl)⟩) rfl (by kernel_rfl) Tryd.underlying4
    (ChangeSpec.witness_shaped (enc := enc) (C := Tryd.checked) (os := os) (X := fun w _ => laidMetH Tryd.prog laidA w) false (World.laidAll Tryd.prog os laidA) #[.agg #[.string ⟨#[]⟩, .int .i64 0, .int .i64 0, .int .i64 0, .int .i64 0, .int .i64 0, .int .i64 0, .int .i64 0, .bool false, .int .i64 0, .int .i64 0, .int .i64 0, .int .i64 0, .slice none 0 0], .agg #[.int .u8 0, .int .u8 0, .int .i64 0, .int .i64 0, .int .i64 0, .bool false, .int .u8 0, .int .i64 0, .int .i64 0, .int .i64 0, .bool false, .int .i64 0]] 8 rfl (laidA_shaped os) (by kernel_rfl) (by kernel_rfl) (by kernel_rfl) (laidA_met os _)) ?_
  intro WW base args ds gs p hval hA hreach hL hS
  rw [Tryd.params5] at hA hval
  obtain ⟨v0, vs0, d0, ds0, p0, q0, hargs, rfl, rfl, h0, r0⟩ := trodAll_cons hA
  obtain ⟨v1, vs1, d1, ds1, p1, q1, rfl, rfl, rfl, h1, r1⟩ := trodAll_cons r0
  obtain ⟨rfl, rfl, rfl⟩ := trodAll_nil r1
  obtain rfl : args = #[v0, v1] := by cases args; simp_all
  obtain ⟨a0_0, a0_1, rfl, g0_0, g0_1, g0_2, g0_3⟩ := op_ruc (hval 0 _ v0 rfl rfl) h0
  obtain ⟨a1_0, rfl, g1_0, g1_1, g1_2⟩ := op_dw (hval 1 _ v1 rfl rfl) h1
  exact ⟨rfl, topSymbols_walk a0_0 a0_1 a1_0 WW g0_0 g0_1 g0_2 g0_3 g1_0 g1_1 g1_2 (tE_of_laid hL hS)⟩

theorem topSymbols_holds : Rows.TopSymbolsSaid :=
  OpenClaim.holds_of_wide 5 Tryd.f5 rfl rfl rfl rfl rfl rfl rfl ⟨rfl, rfl, rfl, rfl, rfl⟩ rfl rfl rfl rfl rfl (by kernel_rfl) Tryd.func5 (by kernel_rfl)
    (of_decide_eq_true (by kernel_rfl)) (by unfold Func.isWrapper; first | (rw [if_pos (by decide +kernel)]; kernel_rfl) | (rw [if_neg (by decide +kernel)]; exact ⟨rfl, rfl⟩))
    (fun os started H enc _ => topSymbols_lifted os started H enc)

theorem topSymbols_card : Rows.TopSymbolsCardSaid :=
  Claim7.holds_tied_plain_at .later [] [.data, .data, .data, .data] true Rows.topSymbolsCard.stood.harness Rows.topSymbolsCard.stood.looks
    topSymbols_holds (fun _ h => by cases h) (by kernel_rfl) (fun _ h => by cases h) topSymbols_row_tie rfl ⟨rfl, rfl⟩ (by kernel_rfl) rfl
    (fun f fn hf hfn => by
      obtain rfl : f = 5 := Option.some.inj ((show Tryd.prog.funcNamed "scorebook/scorebooktop.TopSymbols" = some 5 by kernel_rfl).symm.trans hf) |>.symm
      obtain rfl : fn = Tryd.f5 := (Option.some.inj (Tryd.func5.symm.trans hfn)).symm
      exact ⟨by kernel_rfl, fun j t ht => by
        rw [Tryd.params5] at ht
        have hm : t ∈ [36, 41] := by simpa using Array.mem_of_getElem? ht
        have hall : ([36, 41].all fun u => !Tryd.prog.wantsStandIn u) = true := by kernel_rfl
        exact (show Tryd.prog.wantsStandIn t = false by simpa using List.all_eq_true.1 hall t hm)⟩)
    (by kernel_rfl)
#print axioms topSymbols_card

end Go.Proofs.YtkgdlimekkdekaaDoor
