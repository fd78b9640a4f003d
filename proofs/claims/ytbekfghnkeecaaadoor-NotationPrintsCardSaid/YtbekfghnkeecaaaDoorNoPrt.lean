/- Layer 7's Print and Check give what the reference gives (NotationPrints), for every delivery. Conditions: the library's variables that the row lists are as the program's text lays them. -/
import Derived.Test.YtbekfghnkeecaaaDoorLiftN
import Derived.Test.YtbekfghnkeecaaaDoorNoR
set_option linter.unusedSimpArgs false
set_option linter.unusedVariables false
namespace Go.Proofs.YtbekfghnkeecaaaDoor
open Go.ChangeShapes Go.WideShapes Go.ChangeAt Go.RowKit Go.Joins

set_option maxRecDepth 20000 in
set_option maxHeartbeats 4000000 in
theorem notationPrints_walk (d : Dl) (w : World) (hw : Wf d) :
    Calls Tryd.prog 3 #[DV d] w fun e w' => e = .returned (.bool true) ∧ Below w.heap.size w w' := by
  have HA := Lib.hid awake_any
  have HP := Lib.hid (print_any d hw)
  have HR := Lib.hid (rprint_any d hw)
  have HC := Lib.hid (check_any d)
  have HQ := Lib.hid (rcheck_any d)
  have hrow := Lib.hid (box_row d w)
  clear hw
  generalize prL d = P at *
  generalize chk d = C at *
  obtain ⟨t, s, r, sh, b, x, h, v, f, g, u, z⟩ := d
  have kP : ((str P).toList == (str P).toList) = true := by simp
  have kC : (C == C) = true := by simp
  go_enter Tryd.func3, Tryd.ntmps3
  go_wp2_with fail
  refine (HA.out _).mono ?_
  rintro e w1 ⟨rfl, hb1⟩
  have hr1 := hrow.out.below hb1 (by go_size)
  have hB1 : Below w.heap.size w w1 := below_step (Below.alloc (Below.refl _ w) (Nat.le_refl _) _) (by go_size) hb1
  clear hb1 hrow
  have a0 : w1.cell? ⟨w.heap.size, 0, none⟩ = some (.int .u8 t) := hr1.cell 0
  have a1 : w1.cell? ⟨w.heap.size, 1, none⟩ = some (.int .u8 s) := hr1.cell 1
  have a2 : w1.cell? ⟨w.heap.size, 2, none⟩ = some (.int .i64 r) := hr1.cell 2
  have a3 : w1.cell? ⟨w.heap.size, 3, none⟩ = some (.int .i64 sh) := hr1.cell 3
  have a4 : w1.cell? ⟨w.heap.size, 4, none⟩ = some (.int .i64 b) := hr1.cell 4
  have a5 : w1.cell? ⟨w.heap.size, 5, none⟩ = some (.bool x) := hr1.cell 5
  have a6 : w1.cell? ⟨w.heap.size, 6, none⟩ = some (.int .u8 h) := hr1.cell 6
  have a7 : w1.cell? ⟨w.heap.size, 7, none⟩ = some (.int .i64 v) := hr1.cell 7
  have a8 : w1.cell? ⟨w.heap.size, 8, none⟩ = some (.int .i64 f) := hr1.cell 8
  have a9 : w1.cell? ⟨w.heap.size, 9, none⟩ = some (.int .i64 g) := hr1.cell 9
  have a10 : w1.cell? ⟨w.heap.size, 10, none⟩ = some (.bool u) := hr1.cell 10
  have a11 : w1.cell? ⟨w.heap.size, 11, none⟩ = some (.int .i64 z) := hr1.cell 11
  go_wp2_with fail
  refine (HP.out _).mono ?_
  rintro e w2 ⟨rfl, hb2⟩
  have hr2 := hr1.below hb2 hr1.lt
  have hB2 := below_step hB1 hB1.size hb2
  clear hb2 hB1 hr1 a0 a1 a2 a3 a4 a5 a6 a7 a8 a9 a10 a11
  have a0 : w2.cell? ⟨w.heap.size, 0, none⟩ = some (.int .u8 t) := hr2.cell 0
  have a1 : w2.cell? ⟨w.heap.size, 1, none⟩ = some (.int .u8 s) := hr2.cell 1
  have a2 : w2.cell? ⟨w.heap.size, 2, none⟩ = some (.int .i64 r) := hr2.cell 2
  have a3 : w2.cell? ⟨w.heap.size, 3, none⟩ = some (.int .i64 sh) := hr2.cell 3
  have a4 : w2.cell? ⟨w.heap.size, 4, none⟩ = some (.int .i64 b) := hr2.cell 4
  have a5 : w2.cell? ⟨w.heap.size, 5, none⟩ = some (.bool x) := hr2.cell 5
  have a6 : w2.cell? ⟨w.heap.size, 6, none⟩ = some (.int .u8 h) := hr2.cell 6
  have a7 : w2.cell? ⟨w.heap.size, 7, none⟩ = some (.int .i64 v) := hr2.cell 7
  have a8 : w2.cell? ⟨w.heap.size, 8, none⟩ = some (.int .i64 f) := hr2.cell 8
  have a9 : w2.cell? ⟨w.heap.size, 9, none⟩ = some (.int .i64 g) := hr2.cell 9
  have a10 : w2.cell? ⟨w.heap.size, 10, none⟩ = some (.bool u) := hr2.cell 10
  have a11 : w2.cell? ⟨w.heap.size, 11, none⟩ = some (.int .i64 z) := hr2.cell 11
  go_wp2_with fail
  refine (HR.out _).mono ?_
  rintro e w3 ⟨rfl, hb3⟩
  have hr3 := hr2.below hb3 hr2.lt
  have hB3 := below_step hB2 hB2.size hb3
  clear hb3 hB2 hr2 a0 a1 a2 a3 a4 a5 a6 a7 a8 a9 a10 a11
  have a0 : w3.cell? ⟨w.heap.size, 0, none⟩ = some (.int .u8 t) := hr3.cell 0
  have a1 : w3.cell? ⟨w.heap.size, 1, none⟩ = some (.int .u8 s) := hr3.cell 1
  have a2 : w3.cell? ⟨w.heap.size, 2, none⟩ = some (.int .i64 r) := hr3.cell 2
  have a3 : w3.cell? ⟨w.heap.size, 3, none⟩ = some (.int .i64 sh) := hr3.cell 3
  have a4 : w3.cell? ⟨w.heap.size, 4, none⟩ = some (.int .i64 b) := hr3.cell 4
  have a5 : w3.cell? ⟨w.heap.size, 5, none⟩ = some (.bool x) := hr3.cell 5
  have a6 : w3.cell? ⟨w.heap.size, 6, none⟩ = some (.int .u8 h) := hr3.cell 6
  have a7 : w3.cell? ⟨w.heap.size, 7, none⟩ = some (.int .i64 v) := hr3.cell 7
  have a8 : w3.cell? ⟨w.heap.size, 8, none⟩ = some (.int .i64 f) := hr3.cell 8
  have a9 : w3.cell? ⟨w.heap.size, 9, none⟩ = some (.int .i64 g) := hr3.cell 9
  have a10 : w3.cell? ⟨w.heap.size, 10, none⟩ = some (.bool u) := hr3.cell 10
  have a11 : w3.cell? ⟨w.heap.size, 11, none⟩ = some (.int .i64 z) := hr3.cell 11
  have g0 := cell_regrown a0
  have g1 := cell_regrown a1
  have g2 := cell_regrown a2
  have g3 := cell_regrown a3
  have g4 := cell_regrown a4
  have g5 := cell_regrown a5
  have g6 := cell_regrown a6
  have g7 := cell_regrown a7
  have g8 := cell_regrown a8
  have g9 := cell_regrown a9
  have g10 := cell_regrown a10
  have g11 := cell_regrown a11
  have B1 := at_class (W := w3) HC.out
  have B2 := at_class (W := w3) HQ.out
  go_wp2_with fail
  refine wp_region_quiet_below (by kernel_rfl) (by kernel_rfl) ?_; (repeat (first | go_big_quiet_step (first | with_reducible exact B1 _ _ | with_reducible exact B2 _ _) | quiet_step (first | with_reducible exact B1 _ _ | with_reducible exact B2 _ _))); refine wpQuiet_nil ?_; intro _ hw'; obtain ⟨⟨dq, osq⟩, hw''⟩ := hw'; subst hw''
  have hb8 := below_regrown w3 dq osq
  clear B1 B2
  go_wp2
  go_ret
  exact ⟨rfl, below_step hB3 hB3.size hb8⟩

set_option maxRecDepth 100000 in
theorem notationPrints_lifted (os : Os) (started : os.Started) (H : Type) (enc : TypeId × Value → H) :
    ReturnsInHanded {} Tryd.checked os 3 .any (fun w args => (Rows.notationPrintsSpec.pre enc Tryd.prog Tryd.f3 [] false w args ∧ laidMetH Tryd.prog laidA w) ∧ sizedMet enc Tryd.prog Tryd.f3 (OpenSpec.ofChange Rows.notationPrintsSpec) false w args)
      (Rows.notationPrintsSpec.post enc Tryd.prog Tryd.f3 false true false false) := by
  refine law_lift (C := Tryd.checked) (X := fun w _ => laidMetH Tryd.prog laidA w) (tb := 4) (fun _ _ _ hh h => h.of_heap hh) own started (by kernel_rfl) Tryd.func3 laidOut
    (by rw [Tryd.params3]; intro t ht; simp at ht; (try subst ht) <;> (try (rcases ht with rfl | rfl)) <;> exact ⟨by kernel_rfl, of_decide_eq_true (by kernel_rfl)⟩) rfl (by kernel_rfl) Tryd.underlying4
    (ChangeSpec.witness_shaped (enc := enc) (C := Tryd.checked) (os := os) (X := fun w _ => laidMetH Tryd.prog laidA w) false (World.doorLaid Tryd.prog 400 os) #[.agg #[.int .u8 0, .int .u8 0, .int .i64 0, .int .i64 0, .int .i64 0, .bool false, .int .u8 0, .int .i64 0, .int .i64 0, .int .i64 0, .bool false, .int .i64 0]] 8 rfl (World.shaped_of_RefB (by kernel_rfl) (by kernel_rfl)) (by kernel_rfl) (by kernel_rfl) (by kernel_rfl) (laidA_met os _)) ?_
  intro WW base args ds gs p hval hA hreach hL hS
  rw [Tryd.params3] at hA hval
  obtain ⟨v0, vs0, d0, ds0, p0, q0, hargs, rfl, rfl, h0, r0⟩ := trodAll_cons hA
  obtain ⟨rfl, rfl, rfl⟩ := trodAll_nil r0
  obtain rfl : args = #[v0] := by cases args; simp_all
  obtain ⟨a0, rfl, g0⟩ := open_del (hval 0 _ v0 rfl rfl) h0
  exact ⟨rfl, notationPrints_walk a0 WW g0⟩

theorem notationPrints_holds : Rows.NotationPrintsSaid :=
  OpenClaim.holds_of_wide 3 Tryd.f3 rfl rfl rfl rfl rfl rfl rfl ⟨rfl, rfl, rfl, rfl, rfl⟩ rfl rfl rfl rfl rfl (by kernel_rfl) Tryd.func3 (by kernel_rfl)
    (of_decide_eq_true (by kernel_rfl)) (by unfold Func.isWrapper; first | (rw [if_pos (by decide +kernel)]; kernel_rfl) | (rw [if_neg (by decide +kernel)]; exact ⟨rfl, rfl⟩))
    (fun os started H enc _ => notationPrints_lifted os started H enc)

theorem notationPrints_card : Rows.NotationPrintsCardSaid :=
  Claim7.holds_tied_plain_at .later [] [.data, .data, .data] true Rows.notationPrintsCard.stood.harness Rows.notationPrintsCard.stood.looks
    notationPrints_holds (fun _ h => by cases h) (by kernel_rfl) (fun _ h => by cases h) notationPrints_row_tie rfl ⟨rfl, rfl⟩ (by kernel_rfl) rfl
    (fun f fn hf hfn => by
      obtain rfl : f = 3 := Option.some.inj ((show Tryd.prog.funcNamed "scorebook/scorebooklaw07.NotationPrints" = some 3 by kernel_rfl).symm.trans hf) |>.symm
      obtain rfl : fn = Tryd.f3 := (Option.some.inj (Tryd.func3.symm.trans hfn)).symm
      exact ⟨by kernel_rfl, fun j t ht => by
        rw [Tryd.params3] at ht
        have hm : t ∈ [26] := by simpa using Array.mem_of_getElem? ht
        have hall : ([26].all fun u => !Tryd.prog.wantsStandIn u) = true := by kernel_rfl
        exact (show Tryd.prog.wantsStandIn t = false by simpa using List.all_eq_true.1 hall t hm)⟩)
    (by kernel_rfl)
#print axioms notationPrints_card

end Go.Proofs.YtbekfghnkeecaaaDoor
