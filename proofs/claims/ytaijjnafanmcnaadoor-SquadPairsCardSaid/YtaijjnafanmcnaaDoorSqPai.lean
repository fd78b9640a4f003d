/- The first error of any two sides is the reference's, and there is none exactly if there is none of the sides exchanged (SquadPairs), for all rules and sides. Condition: the listed variables of the library are as its text lays them. -/
import Derived.Test.YtaijjnafanmcnaaDoorLiftQ
import Derived.Test.YtaijjnafanmcnaaDoorSqg
set_option linter.unusedSimpArgs false
set_option linter.unusedVariables false
set_option maxRecDepth 100000
namespace Go.Proofs.YtaijjnafanmcnaaDoor
open Go.ChangeShapes Go.WideShapes Go.ChangeAt Go.RowKit Go.Joins

theorem squadPairs_walk (r : Rul) (B : RAd) (a : Squ) (A : RAd) (b : Squ) (D : RAd) (w : World) (r1 : AOK B.a r.pw.length) (r2 : r.pw.length ≤ B.c) (r3 : Rd w B.a (cP r.pw)) (a1 : AOK A.a a.pl.length) (a2 : a.pl.length ≤ A.c) (a3 : Rd w A.a (cS a.pl)) (b1 : AOK D.a b.pl.length) (b2 : b.pl.length ≤ D.c) (b3 : Rd w D.a (cS b.pl)) (hE : ExtOK rE w) :
    Calls Tryd.prog 4 #[ruV r B, sqV a A, sqV b D] w fun e w' => e = .returned (.bool true) ∧ Below w.heap.size w w' := by
  refine (squadPairs_sp r B a A b D r1 r2 a1 b1 w hE ?_).mono fun e w' ⟨_, he, _, hb⟩ => ⟨he, hb⟩
  intro a' xs hm
  simp only [List.mem_cons, List.not_mem_nil, or_false, Prod.mk.injEq] at hm
  rcases hm with ⟨rfl, rfl⟩ | ⟨rfl, rfl⟩ | ⟨rfl, rfl⟩
  · exact rd_pw r3 10
  · exact a3
  · exact b3

set_option maxRecDepth 100000 in
theorem squadPairs_lifted (os : Os) (started : os.Started) (H : Type) (enc : TypeId × Value → H) :
    ReturnsInHanded {} Tryd.checked os 4 .any (fun w args => (Rows.squadPairsSpec.pre enc Tryd.prog Tryd.f4 [] false w args ∧ laidMetH Tryd.prog laidA w) ∧ sizedMet enc Tryd.prog Tryd.f4 (OpenSpec.ofChange Rows.squadPairsSpec) false w args)
      (Rows.squadPairsSpec.post enc Tryd.prog Tryd.f4 false true false false) := by
  refine law_lift (C := Tryd.checked) (X := fun w _ => laidMetH Tryd.prog laidA w) (tb := 4) (fun _ _ _ hh h => h.of_heap hh) own started (by kernel_rfl) Tryd.func4 laidOut
    (by rw [Tryd.params4]; intro t ht; simp at ht; (try subst ht) <;> (try (rcases ht with rfl | rfl)) <;> exact ⟨by kernel_rfl, of_decide_eq_true (by kernel_rfl)⟩) rfl (by kernel_rfl) Tryd.underlying4
    (ChangeSpec.witness_shaped (enc := enc) (C := Tryd.checked) (os := os) (X := fun w _ => laidMetH Tryd.prog laidA w) false (World.laidAll Tryd.prog os laidA) #[.agg #[.string ⟨#[]⟩, .int .i64 0, .int .i64 0, .int .i64 0, .int .i64 0, .int .i64 0, .int .i64 0, .int .i64 0, .bool false, .int .i64 0, .int .i64 0, .int .i64 0, .int .i64 0, .slice none 0 0], .agg #[.string ⟨#[]⟩, .slice none 0 0, .int .i64 0, .int .i64 0], .agg #[.string ⟨#[]⟩, .slice none 0 0, .int .i64 0, .int .i64 0]] 8 rfl (laidA_shaped os) (by kernel_rfl) (by kernel_rfl) (by kernel_rfl) (laidA_met os _)) ?_
  intro WW base args ds gs p hval hA hreach hL hS
  rw [Tryd.params4] at hA hval
  obtain ⟨v0, vs0, d0, ds0, p0, q0, hargs, rfl, rfl, h0, r0⟩ := trodAll_cons hA
  obtain ⟨v1, vs1, d1, ds1, p1, q1, rfl, rfl, rfl, h1, r1⟩ := trodAll_cons r0
  obtain ⟨v2, vs2, d2, ds2, p2, q2, rfl, rfl, rfl, h2, r2⟩ := trodAll_cons r1
  obtain ⟨rfl, rfl, rfl⟩ := trodAll_nil r2
  obtain rfl : args = #[v0, v1, v2] := by cases args; simp_all
  obtain ⟨a0_0, a0_1, rfl, g0_0, g0_1, g0_2⟩ := op_rul (hval 0 _ v0 rfl rfl) h0
  obtain ⟨a1_0, a1_1, rfl, g1_0, g1_1, g1_2⟩ := op_squ (hval 1 _ v1 rfl rfl) h1
  obtain ⟨a2_0, a2_1, rfl, g2_0, g2_1, g2_2⟩ := op_squ (hval 2 _ v2 rfl rfl) h2
  exact ⟨rfl, squadPairs_walk a0_0 a0_1 a1_0 a1_1 a2_0 a2_1 WW g0_0 g0_1 g0_2 g1_0 g1_1 g1_2 g2_0 g2_1 g2_2 (rE_of (env_of_shaped hS))⟩

theorem squadPairs_holds : Rows.SquadPairsSaid :=
  OpenClaim.holds_of_wide 4 Tryd.f4 rfl rfl rfl rfl rfl rfl rfl ⟨rfl, rfl, rfl, rfl, rfl⟩ rfl rfl rfl rfl rfl (by kernel_rfl) Tryd.func4 (by kernel_rfl)
    (of_decide_eq_true (by kernel_rfl)) (by unfold Func.isWrapper; first | (rw [if_pos (by decide +kernel)]; kernel_rfl) | (rw [if_neg (by decide +kernel)]; exact ⟨rfl, rfl⟩))
    (fun os started H enc _ => squadPairs_lifted os started H enc)

theorem squadPairs_card : Rows.SquadPairsCardSaid :=
  Claim7.holds_tied_plain_at .later [] [.data, .pinned] true Rows.squadPairsCard.stood.harness Rows.squadPairsCard.stood.looks
    squadPairs_holds (fun _ h => by cases h) (by kernel_rfl) (fun _ h => by cases h) squadPairs_row_tie rfl ⟨rfl, rfl⟩ (by kernel_rfl) rfl
    (fun f fn hf hfn => by
      obtain rfl : f = 4 := Option.some.inj ((show Tryd.prog.funcNamed "scorebook/scorebooklaw06.SquadPairs" = some 4 by kernel_rfl).symm.trans hf) |>.symm
      obtain rfl : fn = Tryd.f4 := (Option.some.inj (Tryd.func4.symm.trans hfn)).symm
      exact ⟨by kernel_rfl, fun j t ht => by
        rw [Tryd.params4] at ht
        have hm : t ∈ [34, 24, 24] := by simpa using Array.mem_of_getElem? ht
        have hall : ([34, 24, 24].all fun u => !Tryd.prog.wantsStandIn u) = true := by kernel_rfl
        exact (show Tryd.prog.wantsStandIn t = false by simpa using List.all_eq_true.1 hall t hm)⟩)
    (by kernel_rfl)
#print axioms squadPairs_card

end Go.Proofs.YtaijjnafanmcnaaDoor
