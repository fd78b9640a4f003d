/- The player who is out is the striker or the other batter (DismissalVictims), for every delivery and all numbers of the batters. Condition: the table of ways is as the program's text lays it. -/
import Derived.Test.YtkakhaedipjodaaDoorLiftM
import Derived.Test.YtkakhaedipjodaaDoorDmg
set_option linter.unusedSimpArgs false
set_option linter.unusedVariables false
namespace Go.Proofs.YtkakhaedipjodaaDoor
open Go.ChangeShapes Go.WideShapes Go.ChangeAt Go.RowKit Go.Joins

theorem dismissalVictims_walk (t s r sh b : Int) (x : Bool) (h v f g : Int) (u : Bool) (z : Int) (st ot : Int) (w : World) (qt : 0 ≤ t ∧ t ≤ 255) (qs : 0 ≤ s ∧ s ≤ 255) (qr : -9223372036854775808 ≤ r ∧ r ≤ 9223372036854775807) (qsh : -9223372036854775808 ≤ sh ∧ sh ≤ 9223372036854775807) (qb : -9223372036854775808 ≤ b ∧ b ≤ 9223372036854775807) (qh : 0 ≤ h ∧ h ≤ 255) (qv : -9223372036854775808 ≤ v ∧ v ≤ 9223372036854775807) (qf : -9223372036854775808 ≤ f ∧ f ≤ 9223372036854775807) (qg : -9223372036854775808 ≤ g ∧ g ≤ 9223372036854775807) (qz : -9223372036854775808 ≤ z ∧ z ≤ 9223372036854775807) (qst : -9223372036854775808 ≤ st ∧ st ≤ 9223372036854775807) (qot : -9223372036854775808 ≤ ot ∧ ot ≤ 9223372036854775807) (hE : ExtOK wE w) : Calls Tryd.prog 8 #[.agg #[.int .u8 t, .int .u8 s, .int .i64 r, .int .i64 sh, .int .i64 b, .bool x, .int .u8 h, .int .i64 v, .int .i64 f, .int .i64 g, .bool u, .int .i64 z], .int .i64 st, .int .i64 ot] w fun e w' => e = .returned (.bool true) ∧ Below w.heap.size w w' :=
  dismissalVictims_sp t s r sh b x h v f g u z st ot qh w hE

set_option maxRecDepth 100000 in
theorem dismissalVictims_lifted (os : Os) (started : os.Started) (H : Type) (enc : TypeId × Value → H) :
    ReturnsInHanded {} Tryd.checked os 8 .any (fun w args => (Rows.dismissalVictimsSpec.pre enc Tryd.prog Tryd.f8 [] false w args ∧ laidMetH Tryd.prog laidA w) ∧ sizedMet enc Tryd.prog Tryd.f8 (OpenSpec.ofChange Rows.dismissalVictimsSpec) false w args)
      (Rows.dismissalVictimsSpec.post enc Tryd.prog Tryd.f8 false true false false) := by
  refine law_lift (C := Tryd.checked) (X := fun w _ => laidMetH Tryd.prog laidA w) (tb := 4) (fun _ _ _ hh h => h.of_heap hh) own started (by kernel_rfl) Tryd.func8 laidOut
    (by rw [Tryd.params8]; intro t ht; simp at ht; (try subst ht) <;> (try (rcases ht with rfl | rfl)) <;> exact ⟨by kernel_rfl, of_decide_eq_true (by kernel_rfl)⟩) rfl (by kernel_rfl) Tryd.underlying4
    (ChangeSpec.witness_shaped (enc := enc) (C := Tryd.checked) (os := os) (X := fun w _ => laidMetH Tryd.prog laidA w) false (World.doorLaid Tryd.prog 400 os) #[.agg #[.int .u8 0, .int .u8 0, .int .i64 0, .int .i64 0, .int .i64 0, .bool false, .int .u8 0, .int .i64 0, .int .i64 0, .int .i64 0, .bool false, .int .i64 0], .int .i64 0, .int .i64 0] 8 rfl (World.shaped_of_RefB (by kernel_rfl) (by kernel_rfl)) (by kernel_rfl) (by kernel_rfl) (by kernel_rfl) (laidA_met os _)) ?_
  intro WW base args ds gs p hval hA hreach hL hS
  rw [Tryd.params8] at hA hval
  obtain ⟨v0, vs0, d0, ds0, p0, q0, hargs, rfl, rfl, h0, r0⟩ := trodAll_cons hA
  obtain ⟨v1, vs1, d1, ds1, p1, q1, rfl, rfl, rfl, h1, r1⟩ := trodAll_cons r0
  obtain ⟨v2, vs2, d2, ds2, p2, q2, rfl, rfl, rfl, h2, r2⟩ := trodAll_cons r1
  obtain ⟨rfl, rfl, rfl⟩ := trodAll_nil r2
  obtain rfl : args = #[v0, v1, v2] := by cases args; simp_all
  obtain ⟨a0_0, a0_1, a0_2, a0_3, a0_4, a0_5, a0_6, a0_7, a0_8, a0_9, a0_10, a0_11, rfl, g0_0, g0_1, g0_2, g0_3, g0_4, g0_5, g0_6, g0_7, g0_8, g0_9⟩ := op_del (hval 0 _ v0 rfl rfl) h0
  obtain ⟨a1_0, rfl, g1_0⟩ := op_int (hval 1 _ v1 rfl rfl) h1
  obtain ⟨a2_0, rfl, g2_0⟩ := op_int (hval 2 _ v2 rfl rfl) h2
  exact ⟨rfl, dismissalVictims_walk a0_0 a0_1 a0_2 a0_3 a0_4 a0_5 a0_6 a0_7 a0_8 a0_9 a0_10 a0_11 a1_0 a2_0 WW g0_0 g0_1 g0_2 g0_3 g0_4 g0_5 g0_6 g0_7 g0_8 g0_9 g1_0 g2_0 (env_of_laid hL)⟩

theorem dismissalVictims_holds : Rows.DismissalVictimsSaid :=
  OpenClaim.holds_of_wide 8 Tryd.f8 rfl rfl rfl rfl rfl rfl rfl ⟨rfl, rfl, rfl, rfl, rfl⟩ rfl rfl rfl rfl rfl (by kernel_rfl) Tryd.func8 (by kernel_rfl)
    (of_decide_eq_true (by kernel_rfl)) (by unfold Func.isWrapper; first | (rw [if_pos (by decide +kernel)]; kernel_rfl) | (rw [if_neg (by decide +kernel)]; exact ⟨rfl, rfl⟩))
    (fun os started H enc _ => dismissalVictims_lifted os started H enc)

theorem dismissalVictims_card : Rows.DismissalVictimsCardSaid :=
  Claim7.holds_tied_plain_at .later [] [.data] true Rows.dismissalVictimsCard.stood.harness Rows.dismissalVictimsCard.stood.looks
    dismissalVictims_holds (fun _ h => by cases h) (by kernel_rfl) (fun _ h => by cases h) dismissalVictims_row_tie rfl ⟨rfl, rfl⟩ (by kernel_rfl) rfl
    (fun f fn hf hfn => by
      obtain rfl : f = 8 := Option.some.inj ((show Tryd.prog.funcNamed "scorebook/scorebooklaw10.DismissalVictims" = some 8 by kernel_rfl).symm.trans hf) |>.symm
      obtain rfl : fn = Tryd.f8 := (Option.some.inj (Tryd.func8.symm.trans hfn)).symm
      exact ⟨by kernel_rfl, fun j t ht => by
        rw [Tryd.params8] at ht
        have hm : t ∈ [26, 3, 3] := by simpa using Array.mem_of_getElem? ht
        have hall : ([26, 3, 3].all fun u => !Tryd.prog.wantsStandIn u) = true := by kernel_rfl
        exact (show Tryd.prog.wantsStandIn t = false by simpa using List.all_eq_true.1 hall t hm)⟩)
    (by kernel_rfl)
#print axioms dismissalVictims_card

end Go.Proofs.YtkakhaedipjodaaDoor
