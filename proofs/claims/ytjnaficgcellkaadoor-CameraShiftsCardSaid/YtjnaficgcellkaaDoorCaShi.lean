/- Other times and the other side of the pitch (CameraShifts): as in the reference, and back again; it returns true for every input, and old memory is as it was. Condition: the listed tables (powers of ten, limits of observations) are as the program's text lays them. -/
import Derived.Test.YtjnaficgcellkaaDoorCaOpn
import Derived.Test.YtjnaficgcellkaaDoorCme
set_option linter.unusedSimpArgs false
set_option linter.unusedVariables false
set_option maxRecDepth 100000
namespace Go.Proofs.YtjnaficgcellkaaDoor
open Go.ChangeShapes Go.WideShapes Go.ChangeAt Go.RowKit Go.Joins

theorem cameraShifts_walk (a : Option Addr) (l : List Sn) (c : Nat) (n : Int) (w : World) (b1 : AOK a l.length) (b2 : l.length ≤ c ∧ c ≤ maxLen) (b3 : Rd w a (cSn l)) (b4 : ∀ e ∈ l, -9223372036854775808 ≤ e.y ∧ e.y ≤ 9223372036854775807) (n_ : -9223372036854775808 ≤ n ∧ n ≤ 9223372036854775807) (hE : ExtOK kE w) : Calls Tryd.prog 6 #[.slice a l.length c, .int .i64 n] w fun e w' => e = .returned (.bool true) ∧ Below w.heap.size w w' := by
  by_cases hz : shE n l = 0
  · exact of_rdE (lcs0_sp a c l n b1 (len_m b2) b2.1 n_ b4 (sh_00 hz).1 (sh_00 hz).2) hE (rd1 b3)
  · exact of_rdE (lcs1_sp a c l n b1 (len_m b2) b2.1 n_ b4 hz) hE (rd1 b3)

set_option maxRecDepth 100000 in
theorem cameraShifts_lifted (os : Os) (started : os.Started) (H : Type) (enc : TypeId × Value → H) :
    ReturnsInHanded {} Tryd.checked os 6 .any (fun w args => (Rows.cameraShiftsSpec.pre enc Tryd.prog Tryd.f6 [] false w args ∧ laidMetH Tryd.prog laidA w) ∧ sizedMet enc Tryd.prog Tryd.f6 (OpenSpec.ofChange Rows.cameraShiftsSpec) false w args)
      (Rows.cameraShiftsSpec.post enc Tryd.prog Tryd.f6 false true false false) := by
  refine law_lift (C := Tryd.checked) (X := fun w _ => laidMetH Tryd.prog laidA w) (tb := 4) (fun _ _ _ hh h => h.of_heap hh) own started (by kernel_rfl) Tryd.func6 laidOut
    (by rw [Tryd.params6]; intro t ht; simp at ht; (try subst ht) <;> (try (rcases ht with rfl | rfl)) <;> exact ⟨by kernel_rfl, of_decide_eq_true (by kernel_rfl)⟩) rfl (by kernel_rfl) Tryd.underlying4
    (ChangeSpec.witness_shaped (enc := enc) (C := Tryd.checked) (os := os) (X := fun w _ => laidMetH Tryd.prog laidA w) false (World.doorLaid Tryd.prog 400 os) #[.slice none 0 0, .int .i64 0] 8 rfl (World.shaped_of_RefB (by kernel_rfl) (by kernel_rfl)) (by kernel_rfl) (by kernel_rfl) (by kernel_rfl) (laidA_met os _)) ?_
  intro WW base args ds gs p hval hA hreach hL hS
  rw [Tryd.params6] at hA hval
  obtain ⟨v0, vs0, d0, ds0, p0, q0, hargs, rfl, rfl, h0, r0⟩ := trodAll_cons hA
  obtain ⟨v1, vs1, d1, ds1, p1, q1, rfl, rfl, rfl, h1, r1⟩ := trodAll_cons r0
  obtain ⟨rfl, rfl, rfl⟩ := trodAll_nil r1
  obtain rfl : args = #[v0, v1] := by cases args; simp_all
  obtain ⟨a0_0, a0_1, a0_2, rfl, g0_0, g0_1, g0_2, g0_3⟩ := op_seens (hval 0 _ v0 rfl rfl) h0
  obtain ⟨a1_0, rfl, g1_0⟩ := op_i64 (hval 1 _ v1 rfl rfl) h1
  exact ⟨rfl, cameraShifts_walk a0_0 a0_1 a0_2 a1_0 WW g0_0 g0_1 g0_2 g0_3 g1_0 (env_of_laid hL)⟩

theorem cameraShifts_holds : Rows.CameraShiftsSaid :=
  OpenClaim.holds_of_wide 6 Tryd.f6 rfl rfl rfl rfl rfl rfl rfl ⟨rfl, rfl, rfl, rfl, rfl⟩ rfl rfl rfl rfl rfl (by kernel_rfl) Tryd.func6 (by kernel_rfl)
    (of_decide_eq_true (by kernel_rfl)) (by unfold Func.isWrapper; first | (rw [if_pos (by decide +kernel)]; kernel_rfl) | (rw [if_neg (by decide +kernel)]; exact ⟨rfl, rfl⟩))
    (fun os started H enc _ => cameraShifts_lifted os started H enc)

theorem cameraShifts_card : Rows.CameraShiftsCardSaid :=
  Claim7.holds_tied_plain_at .later [] [.data, .data, .data, .data, .data] true Rows.cameraShiftsCard.stood.harness Rows.cameraShiftsCard.stood.looks
    cameraShifts_holds (fun _ h => by cases h) (by kernel_rfl) (fun _ h => by cases h) cameraShifts_row_tie rfl ⟨rfl, rfl⟩ (by kernel_rfl) rfl
    (fun f fn hf hfn => by
      obtain rfl : f = 6 := Option.some.inj ((show Tryd.prog.funcNamed "scorebook/scorebooklaw31.CameraShifts" = some 6 by kernel_rfl).symm.trans hf) |>.symm
      obtain rfl : fn = Tryd.f6 := (Option.some.inj (Tryd.func6.symm.trans hfn)).symm
      exact ⟨by kernel_rfl, fun j t ht => by
        rw [Tryd.params6] at ht
        have hm : t ∈ [22, 2] := by simpa using Array.mem_of_getElem? ht
        have hall : ([22, 2].all fun u => !Tryd.prog.wantsStandIn u) = true := by kernel_rfl
        exact (show Tryd.prog.wantsStandIn t = false by simpa using List.all_eq_true.1 hall t hm)⟩)
    (by kernel_rfl)
#print axioms cameraShifts_card

end Go.Proofs.YtjnaficgcellkaaDoor
