/- An innings that has ended takes no event, and one that goes on has neither reached its target nor used up its overs (InningsEnds), for all rules, states and events. Condition: the tables of ways and of the lines' forms are as the program's text lays them. -/
import Derived.Test.YtnhlpgdadbjmoaaGreatDoorLiftI
import Derived.Test.YtnhlpgdadbjmoaaGreatDoorLwe
set_option linter.unusedSimpArgs false
set_option linter.unusedVariables false
set_option maxRecDepth 100000
namespace Go.Proofs.YtnhlpgdadbjmoaaGreatDoor
open Go.ChangeShapes Go.WideShapes Go.ChangeAt Go.RowKit Go.Joins

theorem inningsEnds_walk (r : Rul) (B : RAd) (s : Inn) (A : Adr) (k : Int) (e : Ev) (d : Dl) (w : World) (b1 : AOK B.a r.pw.length) (b2 : r.pw.length ≤ B.c) (b3 : Rd w B.a (cP r.pw)) (a1 : OkA s A) (a2 : CapI s A) (a3 : RdI w s A) (q1 : 0 ≤ k ∧ k ≤ 255) (q2 : 0 ≤ d.h ∧ d.h ≤ 255) (hE : ExtOK wE w) :
    Calls Tryz.prog 8 #[ruV r B, inV s A, evV k e d] w fun e w' => e = .returned (.bool true) ∧ Below w.heap.size w w' := by
  refine (inningsEnds_sp r B s A k e d a1 a2 b1 b2 q2 w hE ?_).mono fun e w' ⟨_, he, _, hb⟩ => ⟨he, hb⟩
  intro a' xs hm
  rw [List.mem_cons] at hm
  rcases hm with hm | hm
  · injection hm with e1 e2
    subst e1 e2
    exact rd_pw b3 10
  · exact rd_few a3 a' xs hm

set_option maxRecDepth 100000 in
theorem inningsEnds_lifted (os : Os) (started : os.Started) (H : Type) (enc : TypeId × Value → H) :
    ReturnsInHanded {} Tryz.checked os 8 .any (fun w args => (Rows.inningsEndsSpec.pre enc Tryz.prog Tryz.f8 [] false w args ∧ laidMetH Tryz.prog laidA w) ∧ sizedMet enc Tryz.prog Tryz.f8 (OpenSpec.ofChange Rows.inningsEndsSpec) false w args)
      (Rows.inningsEndsSpec.post enc Tryz.prog Tryz.f8 false true false false) := by
  refine law_lift (C := Tryz.checked) (X := fun w _ => laidMetH Tryz.prog laidA w) (tb := 4) (fun _ _ _ hh h => h.of_heap hh) own started (by kernel_rfl) Tryz.func8 laidOut
    (by rw [Tryz.params8]; intro t ht; simp at ht; (try subst ht) <;> (try (rcases ht with rfl | rfl | rfl)) <;> exact ⟨by kernel_rfl, of_decide_eq_true (by kernel_rfl)⟩) rfl (by kernel_rfl) Tryz.underlying4
    (ChangeSpec.witness_shaped (enc := enc) (C := Tryz.checked) (os := os) (X := fun w _ => laidMetH Tryz.prog laidA w) false (World.doorLaid Tryz.prog 400 os) #[.agg #[.string ⟨#[]⟩, .int .i64 0, .int .i64 0, .int .i64 0, .int .i64 0, .int .i64 0, .int .i64 0, .int .i64 0, .bool false, .int .i64 0, .int .i64 0, .int .i64 0, .int .i64 0, .slice none 0 0], .agg #[.int .i64 0, .int .i64 0, .int .i64 0, .int .i64 0, .int .i64 0, .int .i64 0, .int .i64 0, .int .i64 0, .int .i64 0, .int .i64 0, .int .i64 0, .int .i64 0, .int .i64 0, .int .i64 0, .slice none 0 0, .int .i64 0, .slice none 0 0, .slice none 0 0, .bool false, .slice none 0 0, .bool false, .int .i64 0, .int .i64 0, .int .i64 0, .slice none 0 0, .int .i64 0, .int .i64 0, .int .u8 0], .agg #[.int .u8 0, .int .i64 0, .int .i64 0, .int .i64 0, .bool false, .int .i64 0, .int .i64 0, .int .u8 0, .int .u8 0, .int .i64 0, .int .i64 0, .int .i64 0, .bool false, .int .u8 0, .int .i64 0, .int .i64 0, .int .i64 0, .bool false, .int .i64 0]] 8 rfl (World.shaped_of_RefB (by kernel_rfl) (by kernel_rfl)) (by kernel_rfl) (by kernel_rfl) (by kernel_rfl) (laidA_met os _)) ?_
  intro WW base args ds gs p hval hA hreach hL hS
  rw [Tryz.params8] at hA hval
  obtain ⟨v0, vs0, d0, ds0, p0, q0, hargs, rfl, rfl, h0, r0⟩ := trodAll_cons hA
  obtain ⟨v1, vs1, d1, ds1, p1, q1, rfl, rfl, rfl, h1, r1⟩ := trodAll_cons r0
  obtain ⟨v2, vs2, d2, ds2, p2, q2, rfl, rfl, rfl, h2, r2⟩ := trodAll_cons r1
  obtain ⟨rfl, rfl, rfl⟩ := trodAll_nil r2
  obtain rfl : args = #[v0, v1, v2] := by cases args; simp_all
  obtain ⟨a0_0, a0_1, rfl, g0_0, g0_1, g0_2⟩ := op_rul (hval 0 _ v0 rfl rfl) h0
  obtain ⟨a1_0, a1_1, rfl, g1_0, g1_1, g1_2⟩ := op_inn (hval 1 _ v1 rfl rfl) h1
  obtain ⟨a2_0, a2_1, a2_2, rfl, g2_0, g2_1⟩ := op_ev (hval 2 _ v2 rfl rfl) h2
  exact ⟨rfl, inningsEnds_walk a0_0 a0_1 a1_0 a1_1 a2_0 a2_1 a2_2 WW g0_0 g0_1 g0_2 g1_0 g1_1 g1_2 g2_0 g2_1 (env_of_laid hL)⟩

theorem inningsEnds_holds : Rows.InningsEndsSaid :=
  OpenClaim.holds_of_wide 8 Tryz.f8 rfl rfl rfl rfl rfl rfl rfl ⟨rfl, rfl, rfl, rfl, rfl⟩ rfl rfl rfl rfl rfl (by kernel_rfl) Tryz.func8 (by kernel_rfl)
    (of_decide_eq_true (by kernel_rfl)) (by unfold Func.isWrapper; first | (rw [if_pos (by decide +kernel)]; kernel_rfl) | (rw [if_neg (by decide +kernel)]; exact ⟨rfl, rfl⟩))
    (fun os started H enc _ => inningsEnds_lifted os started H enc)

theorem inningsEnds_card : Rows.InningsEndsCardSaid :=
  Claim7.holds_tied_plain_at .later [] [.data, .data] true Rows.inningsEndsCard.stood.harness Rows.inningsEndsCard.stood.looks
    inningsEnds_holds (fun _ h => by cases h) (by kernel_rfl) (fun _ h => by cases h) inningsEnds_row_tie rfl ⟨rfl, rfl⟩ (by kernel_rfl) rfl
    (fun f fn hf hfn => by
      obtain rfl : f = 8 := Option.some.inj ((show Tryz.prog.funcNamed "scorebook/scorebooklaw14.InningsEnds" = some 8 by kernel_rfl).symm.trans hf) |>.symm
      obtain rfl : fn = Tryz.f8 := (Option.some.inj (Tryz.func8.symm.trans hfn)).symm
      exact ⟨by kernel_rfl, fun j t ht => by
        rw [Tryz.params8] at ht
        have hm : t ∈ [24, 33, 52] := by simpa using Array.mem_of_getElem? ht
        have hall : ([24, 33, 52].all fun u => !Tryz.prog.wantsStandIn u) = true := by kernel_rfl
        exact (show Tryz.prog.wantsStandIn t = false by simpa using List.all_eq_true.1 hall t hm)⟩)
    (by kernel_rfl)
#print axioms inningsEnds_card

end Go.Proofs.YtnhlpgdadbjmoaaGreatDoor
