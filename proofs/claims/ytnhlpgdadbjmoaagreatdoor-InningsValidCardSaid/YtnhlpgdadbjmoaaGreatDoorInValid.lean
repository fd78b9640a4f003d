/- Both the program and the reference say the same of every state: whether it is valid, how the innings ends in it, how many balls it has (InningsValid), for all rules and states. Condition: the tables of ways and of the lines' forms are as the program's text lays them. -/
import Derived.Test.YtnhlpgdadbjmoaaGreatDoorLiftI
import Derived.Test.YtnhlpgdadbjmoaaGreatDoorLwvs
set_option linter.unusedSimpArgs false
set_option linter.unusedVariables false
set_option maxRecDepth 100000
namespace Go.Proofs.YtnhlpgdadbjmoaaGreatDoor
open Go.ChangeShapes Go.WideShapes Go.ChangeAt Go.RowKit Go.Joins

theorem inningsValid_walk (r : Rul) (B : RAd) (s : Inn) (A : Adr) (w : World) (b1 : AOK B.a r.pw.length) (b2 : r.pw.length ≤ B.c) (b3 : Rd w B.a (cP r.pw)) (a1 : OkA s A) (a2 : CapI s A) (a3 : RdI w s A) (hE : ExtOK wE w) :
    Calls Tryz.prog 3 #[ruV r B, inV s A] w fun e w' => e = .returned (.bool true) ∧ Below w.heap.size w w' := by
  refine (inningsValid_sp r B s A a1 a2 b1 b2 w hE ?_).mono fun e w' ⟨_, he, _, hb⟩ => ⟨he, hb⟩
  intro a' xs hm
  rw [List.mem_cons] at hm
  rcases hm with hm | hm
  · injection hm with e1 e2
    subst e1 e2
    exact rd_pw b3 10
  · exact rd_few a3 a' xs hm

set_option maxRecDepth 100000 in
theorem inningsValid_lifted (os : Os) (started : os.Started) (H : Type) (enc : TypeId × Value → H) :
    ReturnsInHanded {} Tryz.checked os 3 .any (fun w args => (Rows.inningsValidSpec.pre enc Tryz.prog Tryz.f3 [] false w args ∧ laidMetH Tryz.prog laidA w) ∧ sizedMet enc Tryz.prog Tryz.f3 (OpenSpec.ofChange Rows.inningsValidSpec) false w args)
      (Rows.inningsValidSpec.post enc Tryz.prog Tryz.f3 false true false false) := by
  refine law_lift (C := Tryz.checked) (X := fun w _ => laidMetH Tryz.prog laidA w) (tb := 4) (fun _ _ _ hh h => h.of_heap hh) own started (by kernel_rfl) Tryz.func3 laidOut
    (by rw [Tryz.params3]; intro t ht; simp at ht; (try subst ht) <;> (try (rcases ht with rfl | rfl)) <;> exact ⟨by kernel_rfl, of_decide_eq_true (by kernel_rfl)⟩) rfl (by kernel_rfl) Tryz.underlying4
    (ChangeSpec.witness_shaped (enc := enc) (C := Tryz.checked) (os := os) (X := fun w _ => laidMetH Tryz.prog laidA w) false (World.doorLaid Tryz.prog 400 os) #[.agg #[.string ⟨#[]⟩, .int .i64 0, .int .i64 0, .int .i64 0, .int .i64 0, .int .i64 0, .int .i64 0, .int .i64 0, .bool false, .int .i64 0, .int .i64 0, .int .i64 0, .int .i64 0, .slice none 0 0], .agg #[.int .i64 0, .int .i64 0, .int .i64 0, .int .i64 0, .int .i64 0, .int .i64 0, .int .i64 0, .int .i64 0, .int .i64 0, .int .i64 0, .int .i64 0, .int .i64 0, .int .i64 0, .int .i64 0, .slice none 0 0, .int .i64 0, .slice none 0 0, .slice none 0 0, .bool false, .slice none 0 0, .bool false, .int .i64 0, .int .i64 0, .int .i64 0, .slice none 0 0, .int .i64 0, .int .i64 0, .int .u8 0]] 8 rfl (World.shaped_of_RefB (by kernel_rfl) (by kernel_rfl)) (by kernel_rfl) (by kernel_rfl) (by kernel_rfl) (laidA_met os _)) ?_
  intro WW base args ds gs p hval hA hreach hL hS
  rw [Tryz.params3] at hA hval
  obtain ⟨v0, vs0, d0, ds0, p0, q0, hargs, rfl, rfl, h0, r0⟩ := trodAll_cons hA
  obtain ⟨v1, vs1, d1, ds1, p1, q1, rfl, rfl, rfl, h1, r1⟩ := trodAll_cons r0
  obtain ⟨rfl, rfl, rfl⟩ := trodAll_nil r1
  obtain rfl : args = #[v0, v1] := by cases args; simp_all
  obtain ⟨a0_0, a0_1, rfl, g0_0, g0_1, g0_2⟩ := op_rul (hval 0 _ v0 rfl rfl) h0
  obtain ⟨a1_0, a1_1, rfl, g1_0, g1_1, g1_2⟩ := op_inn (hval 1 _ v1 rfl rfl) h1
  exact ⟨rfl, inningsValid_walk a0_0 a0_1 a1_0 a1_1 WW g0_0 g0_1 g0_2 g1_0 g1_1 g1_2 (env_of_laid hL)⟩

theorem inningsValid_holds : Rows.InningsValidSaid :=
  OpenClaim.holds_of_wide 3 Tryz.f3 rfl rfl rfl rfl rfl rfl rfl ⟨rfl, rfl, rfl, rfl, rfl⟩ rfl rfl rfl rfl rfl (by kernel_rfl) Tryz.func3 (by kernel_rfl)
    (of_decide_eq_true (by kernel_rfl)) (by unfold Func.isWrapper; first | (rw [if_pos (by decide +kernel)]; kernel_rfl) | (rw [if_neg (by decide +kernel)]; exact ⟨rfl, rfl⟩))
    (fun os started H enc _ => inningsValid_lifted os started H enc)

theorem inningsValid_card : Rows.InningsValidCardSaid :=
  Claim7.holds_tied_plain_at .later [] [.data, .data] true Rows.inningsValidCard.stood.harness Rows.inningsValidCard.stood.looks
    inningsValid_holds (fun _ h => by cases h) (by kernel_rfl) (fun _ h => by cases h) inningsValid_row_tie rfl ⟨rfl, rfl⟩ (by kernel_rfl) rfl
    (fun f fn hf hfn => by
      obtain rfl : f = 3 := Option.some.inj ((show Tryz.prog.funcNamed "scorebook/scorebooklaw14.InningsValid" = some 3 by kernel_rfl).symm.trans hf) |>.symm
      obtain rfl : fn = Tryz.f3 := (Option.some.inj (Tryz.func3.symm.trans hfn)).symm
      exact ⟨by kernel_rfl, fun j t ht => by
        rw [Tryz.params3] at ht
        have hm : t ∈ [24, 33] := by simpa using Array.mem_of_getElem? ht
        have hall : ([24, 33].all fun u => !Tryz.prog.wantsStandIn u) = true := by kernel_rfl
        exact (show Tryz.prog.wantsStandIn t = false by simpa using List.all_eq_true.1 hall t hm)⟩)
    (by kernel_rfl)
#print axioms inningsValid_card

end Go.Proofs.YtnhlpgdadbjmoaaGreatDoor
