/- All seven laws of the drawn path (FlightRaises, FlightFits, FlightBest, FlightPlaces, FlightDraws, FlightDrawn, FlightMirrors) return true for every input, and old memory is as it was. Condition: the two tables of limits of package camera are as the program's text lays them. -/
import Derived.Test.YtokifmeelgbkiaaDoorFlOpn
import Derived.Test.YtokifmeelgbkiaaDoorFlc
set_option linter.unusedSimpArgs false
set_option linter.unusedVariables false
set_option maxRecDepth 100000
namespace Go.Proofs.YtokifmeelgbkiaaDoor
open Go.ChangeShapes Go.WideShapes Go.ChangeAt Go.RowKit Go.Joins

theorem flightRaises_walk (t z : Int) (w : World) (h1 : (-9223372036854775808 ≤ t ∧ t ≤ 9223372036854775807)) (h2 : (-9223372036854775808 ≤ z ∧ z ≤ 9223372036854775807)) (hE : ExtOK wE w) : Calls Tryd.prog 3 #[.int .i64 t, .int .i64 z] w fun e w' => e = .returned (.bool true) ∧ Below w.heap.size w w' := of_rdE (lfr_sp t z) hE (fun _ _ h => by cases h)

set_option maxRecDepth 100000 in
theorem flightRaises_lifted (os : Os) (started : os.Started) (H : Type) (enc : TypeId × Value → H) :
    ReturnsInHanded {} Tryd.checked os 3 .any (fun w args => (Rows.flightRaisesSpec.pre enc Tryd.prog Tryd.f3 [] false w args ∧ laidMetH Tryd.prog laidA w) ∧ sizedMet enc Tryd.prog Tryd.f3 (OpenSpec.ofChange Rows.flightRaisesSpec) false w args)
      (Rows.flightRaisesSpec.post enc Tryd.prog Tryd.f3 false true false false) := by
  refine law_lift (C := Tryd.checked) (X := fun w _ => laidMetH Tryd.prog laidA w) (tb := 4) (fun _ _ _ hh h => h.of_heap hh) own started (by kernel_rfl) Tryd.func3 laidOut
    (by rw [Tryd.params3]; intro t ht; simp at ht; (try subst ht) <;> (try (rcases ht with rfl | rfl)) <;> exact ⟨by kernel_rfl, of_decide_eq_true (by kernel_rfl)⟩) rfl (by kernel_rfl) Tryd.underlying4
    (ChangeSpec.witness_shaped (enc := enc) (C := Tryd.checked) (os := os) (X := fun w _ => laidMetH Tryd.prog laidA w) false (World.doorLaid Tryd.prog 400 os) #[.int .i64 0, .int .i64 0] 8 rfl (World.shaped_of_RefB (by kernel_rfl) (by kernel_rfl)) (by kernel_rfl) (by kernel_rfl) (by kernel_rfl) (laidA_met os _)) ?_
  intro WW base args ds gs p hval hA hreach hL hS
  rw [Tryd.params3] at hA hval
  obtain ⟨v0, vs0, d0, ds0, p0, q0, hargs, rfl, rfl, h0, r0⟩ := trodAll_cons hA
  obtain ⟨v1, vs1, d1, ds1, p1, q1, rfl, rfl, rfl, h1, r1⟩ := trodAll_cons r0
  obtain ⟨rfl, rfl, rfl⟩ := trodAll_nil r1
  obtain rfl : args = #[v0, v1] := by cases args; simp_all
  obtain ⟨a0_0, rfl, g0_0⟩ := op_i64 (hval 0 _ v0 rfl rfl) h0
  obtain ⟨a1_0, rfl, g1_0⟩ := op_i64 (hval 1 _ v1 rfl rfl) h1
  exact ⟨rfl, flightRaises_walk a0_0 a1_0 WW g0_0 g1_0 (env_of_laid hL)⟩

theorem flightRaises_holds : Rows.FlightRaisesSaid :=
  OpenClaim.holds_of_wide 3 Tryd.f3 rfl rfl rfl rfl rfl rfl rfl ⟨rfl, rfl, rfl, rfl, rfl⟩ rfl rfl rfl rfl rfl (by kernel_rfl) Tryd.func3 (by kernel_rfl)
    (of_decide_eq_true (by kernel_rfl)) (by unfold Func.isWrapper; first | (rw [if_pos (by decide +kernel)]; kernel_rfl) | (rw [if_neg (by decide +kernel)]; exact ⟨rfl, rfl⟩))
    (fun os started H enc _ => flightRaises_lifted os started H enc)

theorem flightRaises_card : Rows.FlightRaisesCardSaid :=
  Claim7.holds_tied_plain_at .later [] [.data, .data] true Rows.flightRaisesCard.stood.harness Rows.flightRaisesCard.stood.looks
    flightRaises_holds (fun _ h => by cases h) (by kernel_rfl) (fun _ h => by cases h) flightRaises_row_tie rfl ⟨rfl, rfl⟩ (by kernel_rfl) rfl
    (fun f fn hf hfn => by
      obtain rfl : f = 3 := Option.some.inj ((show Tryd.prog.funcNamed "scorebook/scorebooklaw32.FlightRaises" = some 3 by kernel_rfl).symm.trans hf) |>.symm
      obtain rfl : fn = Tryd.f3 := (Option.some.inj (Tryd.func3.symm.trans hfn)).symm
      exact ⟨by kernel_rfl, fun j t ht => by
        rw [Tryd.params3] at ht
        have hm : t ∈ [2, 2] := by simpa using Array.mem_of_getElem? ht
        have hall : ([2, 2].all fun u => !Tryd.prog.wantsStandIn u) = true := by kernel_rfl
        exact (show Tryd.prog.wantsStandIn t = false by simpa using List.all_eq_true.1 hall t hm)⟩)
    (by kernel_rfl)
#print axioms flightRaises_card

theorem flightFits_walk (a : Option Addr) (l : List Sn) (c : Nat) (w : World) (b1 : AOK a l.length) (b2 : l.length ≤ c ∧ c ≤ maxLen) (b3 : Rd w a (cSn l)) (b4 : ∀ e ∈ l, -9223372036854775808 ≤ e.y ∧ e.y ≤ 9223372036854775807) (hE : ExtOK wE w) : Calls Tryd.prog 4 #[.slice a l.length c] w fun e w' => e = .returned (.bool true) ∧ Below w.heap.size w w' := of_rdE (lff_sp a c l b1 (len_m b2) b2.1) hE (rd1 b3)

set_option maxRecDepth 100000 in
theorem flightFits_lifted (os : Os) (started : os.Started) (H : Type) (enc : TypeId × Value → H) :
    ReturnsInHanded {} Tryd.checked os 4 .any (fun w args => (Rows.flightFitsSpec.pre enc Tryd.prog Tryd.f4 [] false w args ∧ laidMetH Tryd.prog laidA w) ∧ sizedMet enc Tryd.prog Tryd.f4 (OpenSpec.ofChange Rows.flightFitsSpec) false w args)
      (Rows.flightFitsSpec.post enc Tryd.prog Tryd.f4 false true false false) := by
  refine law_lift (C := Tryd.checked) (X := fun w _ => laidMetH Tryd.prog laidA w) (tb := 4) (fun _ _ _ hh h => h.of_heap hh) own started (by kernel_rfl) Tryd.func4 laidOut
    (by rw [Tryd.params4]; intro t ht; simp at ht; (try subst ht) <;> (try (rcases ht with rfl | rfl)) <;> exact ⟨by kernel_rfl, of_decide_eq_true (by kernel_rfl)⟩) rfl (by kernel_rfl) Tryd.underlying4
    (ChangeSpec.witness_shaped (enc := enc) (C := Tryd.checked) (os := os) (X := fun w _ => laidMetH Tryd.prog laidA w) false (World.doorLaid Tryd.prog 400 os) #[.slice none 0 0] 8 rfl (World.shaped_of_RefB (by kernel_rfl) (by kernel_rfl)) (by kernel_rfl) (by kernel_rfl) (by kernel_rfl) (laidA_met os _)) ?_
  intro WW base args ds gs p hval hA hreach hL hS
  rw [Tryd.params4] at hA hval
  obtain ⟨v0, vs0, d0, ds0, p0, q0, hargs, rfl, rfl, h0, r0⟩ := trodAll_cons hA
  obtain ⟨rfl, rfl, rfl⟩ := trodAll_nil r0
  obtain rfl : args = #[v0] := by cases args; simp_all
  obtain ⟨a0_0, a0_1, a0_2, rfl, g0_0, g0_1, g0_2, g0_3⟩ := op_seens (hval 0 _ v0 rfl rfl) h0
  exact ⟨rfl, flightFits_walk a0_0 a0_1 a0_2 WW g0_0 g0_1 g0_2 g0_3 (env_of_laid hL)⟩

theorem flightFits_holds : Rows.FlightFitsSaid :=
  OpenClaim.holds_of_wide 4 Tryd.f4 rfl rfl rfl rfl rfl rfl rfl ⟨rfl, rfl, rfl, rfl, rfl⟩ rfl rfl rfl rfl rfl (by kernel_rfl) Tryd.func4 (by kernel_rfl)
    (of_decide_eq_true (by kernel_rfl)) (by unfold Func.isWrapper; first | (rw [if_pos (by decide +kernel)]; kernel_rfl) | (rw [if_neg (by decide +kernel)]; exact ⟨rfl, rfl⟩))
    (fun os started H enc _ => flightFits_lifted os started H enc)

theorem flightFits_card : Rows.FlightFitsCardSaid :=
  Claim7.holds_tied_plain_at .later [] [.data, .data] true Rows.flightFitsCard.stood.harness Rows.flightFitsCard.stood.looks
    flightFits_holds (fun _ h => by cases h) (by kernel_rfl) (fun _ h => by cases h) flightFits_row_tie rfl ⟨rfl, rfl⟩ (by kernel_rfl) rfl
    (fun f fn hf hfn => by
      obtain rfl : f = 4 := Option.some.inj ((show Tryd.prog.funcNamed "scorebook/scorebooklaw32.FlightFits" = some 4 by kernel_rfl).symm.trans hf) |>.symm
      obtain rfl : fn = Tryd.f4 := (Option.some.inj (Tryd.func4.symm.trans hfn)).symm
      exact ⟨by kernel_rfl, fun j t ht => by
        rw [Tryd.params4] at ht
        have hm : t ∈ [25] := by simpa using Array.mem_of_getElem? ht
        have hall : ([25].all fun u => !Tryd.prog.wantsStandIn u) = true := by kernel_rfl
        exact (show Tryd.prog.wantsStandIn t = false by simpa using List.all_eq_true.1 hall t hm)⟩)
    (by kernel_rfl)
#print axioms flightFits_card

theorem flightBest_walk (a : Option Addr) (l : List Sn) (c : Nat) (w : World) (b1 : AOK a l.length) (b2 : l.length ≤ c ∧ c ≤ maxLen) (b3 : Rd w a (cSn l)) (b4 : ∀ e ∈ l, -9223372036854775808 ≤ e.y ∧ e.y ≤ 9223372036854775807) (hE : ExtOK wE w) : Calls Tryd.prog 5 #[.slice a l.length c] w fun e w' => e = .returned (.bool true) ∧ Below w.heap.size w w' := of_rdE (lfb_sp a c l b1 (len_m b2) b2.1) hE (rd1 b3)

set_option maxRecDepth 100000 in
theorem flightBest_lifted (os : Os) (started : os.Started) (H : Type) (enc : TypeId × Value → H) :
    ReturnsInHanded {} Tryd.checked os 5 .any (fun w args => (Rows.flightBestSpec.pre enc Tryd.prog Tryd.f5 [] false w args ∧ laidMetH Tryd.prog laidA w) ∧ sizedMet enc Tryd.prog Tryd.f5 (OpenSpec.ofChange Rows.flightBestSpec) false w args)
      (Rows.flightBestSpec.post enc Tryd.prog Tryd.f5 false true false false) := by
  refine law_lift (C := Tryd.checked) (X := fun w _ => laidMetH Tryd.prog laidA w) (tb := 4) (fun _ _ _ hh h => h.of_heap hh) own started (by kernel_rfl) Tryd.func5 laidOut
    (by rw [Tryd.params5]; intro t ht; simp at ht; (try subst ht) <;> (try (rcases ht with rfl | rfl)) <;> exact ⟨by kernel_rfl, of_decide_eq_true (by kernel_rfl)⟩) rfl (by kernel_rfl) Tryd.underlying4
    (ChangeSpec.witness_shaped (enc := enc) (C := Tryd.checked) (os := os) (X := fun w _ => laidMetH Tryd.prog laidA w) false (World.doorLaid Tryd.prog 400 os) #[.slice none 0 0] 8 rfl (World.shaped_of_RefB (by kernel_rfl) (by kernel_rfl)) (by kernel_rfl) (by kernel_rfl) (by kernel_rfl) (laidA_met os _)) ?_
  intro WW base args ds gs p hval hA hreach hL hS
  rw [Tryd.params5] at hA hval
  obtain ⟨v0, vs0, d0, ds0, p0, q0, hargs, rfl, rfl, h0, r0⟩ := trodAll_cons hA
  obtain ⟨rfl, rfl, rfl⟩ := trodAll_nil r0
  obtain rfl : args = #[v0] := by cases args; simp_all
  obtain ⟨a0_0, a0_1, a0_2, rfl, g0_0, g0_1, g0_2, g0_3⟩ := op_seens (hval 0 _ v0 rfl rfl) h0
  exact ⟨rfl, flightBest_walk a0_0 a0_1 a0_2 WW g0_0 g0_1 g0_2 g0_3 (env_of_laid hL)⟩

theorem flightBest_holds : Rows.FlightBestSaid :=
  OpenClaim.holds_of_wide 5 Tryd.f5 rfl rfl rfl rfl rfl rfl rfl ⟨rfl, rfl, rfl, rfl, rfl⟩ rfl rfl rfl rfl rfl (by kernel_rfl) Tryd.func5 (by kernel_rfl)
    (of_decide_eq_true (by kernel_rfl)) (by unfold Func.isWrapper; first | (rw [if_pos (by decide +kernel)]; kernel_rfl) | (rw [if_neg (by decide +kernel)]; exact ⟨rfl, rfl⟩))
    (fun os started H enc _ => flightBest_lifted os started H enc)

theorem flightBest_card : Rows.FlightBestCardSaid :=
  Claim7.holds_tied_plain_at .later [] [.data, .data] true Rows.flightBestCard.stood.harness Rows.flightBestCard.stood.looks
    flightBest_holds (fun _ h => by cases h) (by kernel_rfl) (fun _ h => by cases h) flightBest_row_tie rfl ⟨rfl, rfl⟩ (by kernel_rfl) rfl
    (fun f fn hf hfn => by
      obtain rfl : f = 5 := Option.some.inj ((show Tryd.prog.funcNamed "scorebook/scorebooklaw32.FlightBest" = some 5 by kernel_rfl).symm.trans hf) |>.symm
      obtain rfl : fn = Tryd.f5 := (Option.some.inj (Tryd.func5.symm.trans hfn)).symm
      exact ⟨by kernel_rfl, fun j t ht => by
        rw [Tryd.params5] at ht
        have hm : t ∈ [25] := by simpa using Array.mem_of_getElem? ht
        have hall : ([25].all fun u => !Tryd.prog.wantsStandIn u) = true := by kernel_rfl
        exact (show Tryd.prog.wantsStandIn t = false by simpa using List.all_eq_true.1 hall t hm)⟩)
    (by kernel_rfl)
#print axioms flightBest_card

theorem flightPlaces_walk (x1 y1 d1 x2 y2 d2 x3 y3 d3 t : Int) (w : World) (h1 : (-9223372036854775808 ≤ t ∧ t ≤ 9223372036854775807)) (hE : ExtOK wE w) : Calls Tryd.prog 6 #[.agg #[.int .i64 x1, .int .i64 y1, .int .i64 d1, .int .i64 x2, .int .i64 y2, .int .i64 d2, .int .i64 x3, .int .i64 y3, .int .i64 d3], .int .i64 t] w fun e w' => e = .returned (.bool true) ∧ Below w.heap.size w w' := of_rdE (lfp_sp x1 y1 d1 x2 y2 d2 x3 y3 d3 t) hE (fun _ _ h => by cases h)

set_option maxRecDepth 100000 in
theorem flightPlaces_lifted (os : Os) (started : os.Started) (H : Type) (enc : TypeId × Value → H) :
    ReturnsInHanded {} Tryd.checked os 6 .any (fun w args => (Rows.flightPlacesSpec.pre enc Tryd.prog Tryd.f6 [] false w args ∧ laidMetH Tryd.prog laidA w) ∧ sizedMet enc Tryd.prog Tryd.f6 (OpenSpec.ofChange Rows.flightPlacesSpec) false w args)
      (Rows.flightPlacesSpec.post enc Tryd.prog Tryd.f6 false true false false) := by
  refine law_lift (C := Tryd.checked) (X := fun w _ => laidMetH Tryd.prog laidA w) (tb := 4) (fun _ _ _ hh h => h.of_heap hh) own started (by kernel_rfl) Tryd.func6 laidOut
    (by rw [Tryd.params6]; intro t ht; simp at ht; (try subst ht) <;> (try (rcases ht with rfl | rfl)) <;> exact ⟨by kernel_rfl, of_decide_eq_true (by kernel_rfl)⟩) rfl (by kernel_rfl) Tryd.underlying4
    (ChangeSpec.witness_shaped (enc := enc) (C := Tryd.checked) (os := os) (X := fun w _ => laidMetH Tryd.prog laidA w) false (World.doorLaid Tryd.prog 400 os) #[.agg #[.int .i64 0, .int .i64 0, .int .i64 0, .int .i64 0, .int .i64 0, .int .i64 0, .int .i64 0, .int .i64 0, .int .i64 0], .int .i64 0] 8 rfl (World.shaped_of_RefB (by kernel_rfl) (by kernel_rfl)) (by kernel_rfl) (by kernel_rfl) (by kernel_rfl) (laidA_met os _)) ?_
  intro WW base args ds gs p hval hA hreach hL hS
  rw [Tryd.params6] at hA hval
  obtain ⟨v0, vs0, d0, ds0, p0, q0, hargs, rfl, rfl, h0, r0⟩ := trodAll_cons hA
  obtain ⟨v1, vs1, d1, ds1, p1, q1, rfl, rfl, rfl, h1, r1⟩ := trodAll_cons r0
  obtain ⟨rfl, rfl, rfl⟩ := trodAll_nil r1
  obtain rfl : args = #[v0, v1] := by cases args; simp_all
  obtain ⟨a0_0, a0_1, a0_2, a0_3, a0_4, a0_5, a0_6, a0_7, a0_8, rfl⟩ := op_fli (hval 0 _ v0 rfl rfl) h0
  obtain ⟨a1_0, rfl, g1_0⟩ := op_i64 (hval 1 _ v1 rfl rfl) h1
  exact ⟨rfl, flightPlaces_walk a0_0 a0_1 a0_2 a0_3 a0_4 a0_5 a0_6 a0_7 a0_8 a1_0 WW g1_0 (env_of_laid hL)⟩

theorem flightPlaces_holds : Rows.FlightPlacesSaid :=
  OpenClaim.holds_of_wide 6 Tryd.f6 rfl rfl rfl rfl rfl rfl rfl ⟨rfl, rfl, rfl, rfl, rfl⟩ rfl rfl rfl rfl rfl (by kernel_rfl) Tryd.func6 (by kernel_rfl)
    (of_decide_eq_true (by kernel_rfl)) (by unfold Func.isWrapper; first | (rw [if_pos (by decide +kernel)]; kernel_rfl) | (rw [if_neg (by decide +kernel)]; exact ⟨rfl, rfl⟩))
    (fun os started H enc _ => flightPlaces_lifted os started H enc)

theorem flightPlaces_card : Rows.FlightPlacesCardSaid :=
  Claim7.holds_tied_plain_at .later [] [.data, .data] true Rows.flightPlacesCard.stood.harness Rows.flightPlacesCard.stood.looks
    flightPlaces_holds (fun _ h => by cases h) (by kernel_rfl) (fun _ h => by cases h) flightPlaces_row_tie rfl ⟨rfl, rfl⟩ (by kernel_rfl) rfl
    (fun f fn hf hfn => by
      obtain rfl : f = 6 := Option.some.inj ((show Tryd.prog.funcNamed "scorebook/scorebooklaw32.FlightPlaces" = some 6 by kernel_rfl).symm.trans hf) |>.symm
      obtain rfl : fn = Tryd.f6 := (Option.some.inj (Tryd.func6.symm.trans hfn)).symm
      exact ⟨by kernel_rfl, fun j t ht => by
        rw [Tryd.params6] at ht
        have hm : t ∈ [29, 2] := by simpa using Array.mem_of_getElem? ht
        have hall : ([29, 2].all fun u => !Tryd.prog.wantsStandIn u) = true := by kernel_rfl
        exact (show Tryd.prog.wantsStandIn t = false by simpa using List.all_eq_true.1 hall t hm)⟩)
    (by kernel_rfl)
#print axioms flightPlaces_card

theorem flightDraws_walk (x1 y1 d1 x2 y2 d2 x3 y3 d3 p q s : Int) (w : World) (h1 : (-9223372036854775808 ≤ p ∧ p ≤ 9223372036854775807)) (h2 : (-9223372036854775808 ≤ q ∧ q ≤ 9223372036854775807)) (h3 : (-9223372036854775808 ≤ s ∧ s ≤ 9223372036854775807)) (hE : ExtOK wE w) : Calls Tryd.prog 7 #[.agg #[.int .i64 x1, .int .i64 y1, .int .i64 d1, .int .i64 x2, .int .i64 y2, .int .i64 d2, .int .i64 x3, .int .i64 y3, .int .i64 d3], .agg #[.int .i64 p, .int .i64 q, .int .i64 s]] w fun e w' => e = .returned (.bool true) ∧ Below w.heap.size w w' := by
  by_cases he : drE x1 y1 d1 x2 y2 d2 x3 y3 d3 p q s = 0
  · exact of_rdE (lfd0_sp x1 y1 d1 x2 y2 d2 x3 y3 d3 p q s he) hE (fun _ _ h => by cases h)
  · exact of_rdE (lfd1_sp x1 y1 d1 x2 y2 d2 x3 y3 d3 p q s he) hE (fun _ _ h => by cases h)

set_option maxRecDepth 100000 in
theorem flightDraws_lifted (os : Os) (started : os.Started) (H : Type) (enc : TypeId × Value → H) :
    ReturnsInHanded {} Tryd.checked os 7 .any (fun w args => (Rows.flightDrawsSpec.pre enc Tryd.prog Tryd.f7 [] false w args ∧ laidMetH Tryd.prog laidA w) ∧ sizedMet enc Tryd.prog Tryd.f7 (OpenSpec.ofChange Rows.flightDrawsSpec) false w args)
      (Rows.flightDrawsSpec.post enc Tryd.prog Tryd.f7 false true false false) := by
  refine law_lift (C := Tryd.checked) (X := fun w _ => laidMetH Tryd.prog laidA w) (tb := 4) (fun _ _ _ hh h => h.of_heap hh) own started (by kernel_rfl) Tryd.func7 laidOut
    (by rw [Tryd.params7]; intro t ht; simp at ht; (try subst ht) <;> (try (rcases ht with rfl | rfl)) <;> exact ⟨by kernel_rfl, of_decide_eq_true (by kernel_rfl)⟩) rfl (by kernel_rfl) Tryd.underlying4
    (ChangeSpec.witness_shaped (enc := enc) (C := Tryd.checked) (os := os) (X := fun w _ => laidMetH Tryd.prog laidA w) false (World.doorLaid Tryd.prog 400 os) #[.agg #[.int .i64 0, .int .i64 0, .int .i64 0, .int .i64 0, .int .i64 0, .int .i64 0, .int .i64 0, .int .i64 0, .int .i64 0], .agg #[.int .i64 0, .int .i64 0, .int .i64 0]] 8 rfl (World.shaped_of_RefB (by kernel_rfl) (by kernel_rfl)) (by kernel_rfl) (by kernel_rfl) (by kernel_rfl) (laidA_met os _)) ?_
  intro WW base args ds gs p hval hA hreach hL hS
  rw [Tryd.params7] at hA hval
  obtain ⟨v0, vs0, d0, ds0, p0, q0, hargs, rfl, rfl, h0, r0⟩ := trodAll_cons hA
  obtain ⟨v1, vs1, d1, ds1, p1, q1, rfl, rfl, rfl, h1, r1⟩ := trodAll_cons r0
  obtain ⟨rfl, rfl, rfl⟩ := trodAll_nil r1
  obtain rfl : args = #[v0, v1] := by cases args; simp_all
  obtain ⟨a0_0, a0_1, a0_2, a0_3, a0_4, a0_5, a0_6, a0_7, a0_8, rfl⟩ := op_fli (hval 0 _ v0 rfl rfl) h0
  obtain ⟨a1_0, a1_1, a1_2, rfl, g1_0, g1_1, g1_2⟩ := op_i3 (hval 1 _ v1 rfl rfl) h1
  exact ⟨rfl, flightDraws_walk a0_0 a0_1 a0_2 a0_3 a0_4 a0_5 a0_6 a0_7 a0_8 a1_0 a1_1 a1_2 WW g1_0 g1_1 g1_2 (env_of_laid hL)⟩

theorem flightDraws_holds : Rows.FlightDrawsSaid :=
  OpenClaim.holds_of_wide 7 Tryd.f7 rfl rfl rfl rfl rfl rfl rfl ⟨rfl, rfl, rfl, rfl, rfl⟩ rfl rfl rfl rfl rfl (by kernel_rfl) Tryd.func7 (by kernel_rfl)
    (of_decide_eq_true (by kernel_rfl)) (by unfold Func.isWrapper; first | (rw [if_pos (by decide +kernel)]; kernel_rfl) | (rw [if_neg (by decide +kernel)]; exact ⟨rfl, rfl⟩))
    (fun os started H enc _ => flightDraws_lifted os started H enc)

theorem flightDraws_card : Rows.FlightDrawsCardSaid :=
  Claim7.holds_tied_plain_at .later [] [.data, .data] true Rows.flightDrawsCard.stood.harness Rows.flightDrawsCard.stood.looks
    flightDraws_holds (fun _ h => by cases h) (by kernel_rfl) (fun _ h => by cases h) flightDraws_row_tie rfl ⟨rfl, rfl⟩ (by kernel_rfl) rfl
    (fun f fn hf hfn => by
      obtain rfl : f = 7 := Option.some.inj ((show Tryd.prog.funcNamed "scorebook/scorebooklaw32.FlightDraws" = some 7 by kernel_rfl).symm.trans hf) |>.symm
      obtain rfl : fn = Tryd.f7 := (Option.some.inj (Tryd.func7.symm.trans hfn)).symm
      exact ⟨by kernel_rfl, fun j t ht => by
        rw [Tryd.params7] at ht
        have hm : t ∈ [29, 44] := by simpa using Array.mem_of_getElem? ht
        have hall : ([29, 44].all fun u => !Tryd.prog.wantsStandIn u) = true := by kernel_rfl
        exact (show Tryd.prog.wantsStandIn t = false by simpa using List.all_eq_true.1 hall t hm)⟩)
    (by kernel_rfl)
#print axioms flightDraws_card

theorem flightDrawn_walk (x1 y1 d1 x2 y2 d2 x3 y3 d3 p q s : Int) (w : World) (h1 : (-9223372036854775808 ≤ p ∧ p ≤ 9223372036854775807)) (h2 : (-9223372036854775808 ≤ q ∧ q ≤ 9223372036854775807)) (h3 : (-9223372036854775808 ≤ s ∧ s ≤ 9223372036854775807)) (hE : ExtOK wE w) : Calls Tryd.prog 8 #[.agg #[.int .i64 x1, .int .i64 y1, .int .i64 d1, .int .i64 x2, .int .i64 y2, .int .i64 d2, .int .i64 x3, .int .i64 y3, .int .i64 d3], .agg #[.int .i64 p, .int .i64 q, .int .i64 s]] w fun e w' => e = .returned (.bool true) ∧ Below w.heap.size w w' := by
  by_cases he : drE x1 y1 d1 x2 y2 d2 x3 y3 d3 p q s = 0
  · exact of_rdE (lfn0_sp x1 y1 d1 x2 y2 d2 x3 y3 d3 p q s he) hE (fun _ _ h => by cases h)
  · exact of_rdE (lfn1_sp x1 y1 d1 x2 y2 d2 x3 y3 d3 p q s he) hE (fun _ _ h => by cases h)

set_option maxRecDepth 100000 in
theorem flightDrawn_lifted (os : Os) (started : os.Started) (H : Type) (enc : TypeId × Value → H) :
    ReturnsInHanded {} Tryd.checked os 8 .any (fun w args => (Rows.flightDrawnSpec.pre enc Tryd.prog Tryd.f8 [] false w args ∧ laidMetH Tryd.prog laidA w) ∧ sizedMet enc Tryd.prog Tryd.f8 (OpenSpec.ofChange Rows.flightDrawnSpec) false w args)
      (Rows.flightDrawnSpec.post enc Tryd.prog Tryd.f8 false true false false) := by
  refine law_lift (C := Tryd.checked) (X := fun w _ => laidMetH Tryd.prog laidA w) (tb := 4) (fun _ _ _ hh h => h.of_heap hh) own started (by kernel_rfl) Tryd.func8 laidOut
    (by rw [Tryd.params8]; intro t ht; simp at ht; (try subst ht) <;> (try (rcases ht with rfl | rfl)) <;> exact ⟨by kernel_rfl, of_decide_eq_true (by kernel_rfl)⟩) rfl (by kernel_rfl) Tryd.underlying4
    (ChangeSpec.witness_shaped (enc := enc) (C := Tryd.checked) (os := os) (X := fun w _ => laidMetH Tryd.prog laidA w) false (World.doorLaid Tryd.prog 400 os) #[.agg #[.int .i64 0, .int .i64 0, .int .i64 0, .int .i64 0, .int .i64 0, .int .i64 0, .int .i64 0, .int .i64 0, .int .i64 0], .agg #[.int .i64 0, .int .i64 0, .int .i64 0]] 8 rfl (World.shaped_of_RefB (by kernel_rfl) (by kernel_rfl)) (by kernel_rfl) (by kernel_rfl) (by kernel_rfl) (laidA_met os _)) ?_
  intro WW base args ds gs p hval hA hreach hL hS
  rw [Tryd.params8] at hA hval
  obtain ⟨v0, vs0, d0, ds0, p0, q0, hargs, rfl, rfl, h0, r0⟩ := trodAll_cons hA
  obtain ⟨v1, vs1, d1, ds1, p1, q1, rfl, rfl, rfl, h1, r1⟩ := trodAll_cons r0
  obtain ⟨rfl, rfl, rfl⟩ := trodAll_nil r1
  obtain rfl : args = #[v0, v1] := by cases args; simp_all
  obtain ⟨a0_0, a0_1, a0_2, a0_3, a0_4, a0_5, a0_6, a0_7, a0_8, rfl⟩ := op_fli (hval 0 _ v0 rfl rfl) h0
  obtain ⟨a1_0, a1_1, a1_2, rfl, g1_0, g1_1, g1_2⟩ := op_i3 (hval 1 _ v1 rfl rfl) h1
  exact ⟨rfl, flightDrawn_walk a0_0 a0_1 a0_2 a0_3 a0_4 a0_5 a0_6 a0_7 a0_8 a1_0 a1_1 a1_2 WW g1_0 g1_1 g1_2 (env_of_laid hL)⟩

theorem flightDrawn_holds : Rows.FlightDrawnSaid :=
  OpenClaim.holds_of_wide 8 Tryd.f8 rfl rfl rfl rfl rfl rfl rfl ⟨rfl, rfl, rfl, rfl, rfl⟩ rfl rfl rfl rfl rfl (by kernel_rfl) Tryd.func8 (by kernel_rfl)
    (of_decide_eq_true (by kernel_rfl)) (by unfold Func.isWrapper; first | (rw [if_pos (by decide +kernel)]; kernel_rfl) | (rw [if_neg (by decide +kernel)]; exact ⟨rfl, rfl⟩))
    (fun os started H enc _ => flightDrawn_lifted os started H enc)

theorem flightDrawn_card : Rows.FlightDrawnCardSaid :=
  Claim7.holds_tied_plain_at .later [] [.data, .data] true Rows.flightDrawnCard.stood.harness Rows.flightDrawnCard.stood.looks
    flightDrawn_holds (fun _ h => by cases h) (by kernel_rfl) (fun _ h => by cases h) flightDrawn_row_tie rfl ⟨rfl, rfl⟩ (by kernel_rfl) rfl
    (fun f fn hf hfn => by
      obtain rfl : f = 8 := Option.some.inj ((show Tryd.prog.funcNamed "scorebook/scorebooklaw32.FlightDrawn" = some 8 by kernel_rfl).symm.trans hf) |>.symm
      obtain rfl : fn = Tryd.f8 := (Option.some.inj (Tryd.func8.symm.trans hfn)).symm
      exact ⟨by kernel_rfl, fun j t ht => by
        rw [Tryd.params8] at ht
        have hm : t ∈ [29, 44] := by simpa using Array.mem_of_getElem? ht
        have hall : ([29, 44].all fun u => !Tryd.prog.wantsStandIn u) = true := by kernel_rfl
        exact (show Tryd.prog.wantsStandIn t = false by simpa using List.all_eq_true.1 hall t hm)⟩)
    (by kernel_rfl)
#print axioms flightDrawn_card

theorem flightMirrors_walk (a : Option Addr) (l : List Sn) (c : Nat) (w : World) (b1 : AOK a l.length) (b2 : l.length ≤ c ∧ c ≤ maxLen) (b3 : Rd w a (cSn l)) (b4 : ∀ e ∈ l, -9223372036854775808 ≤ e.y ∧ e.y ≤ 9223372036854775807) (hE : ExtOK wE w) : Calls Tryd.prog 9 #[.slice a l.length c] w fun e w' => e = .returned (.bool true) ∧ Below w.heap.size w w' := of_rdE (lfm_sp a c l b1 (len_m b2) b2.1 b4) hE (rd1 b3)

set_option maxRecDepth 100000 in
theorem flightMirrors_lifted (os : Os) (started : os.Started) (H : Type) (enc : TypeId × Value → H) :
    ReturnsInHanded {} Tryd.checked os 9 .any (fun w args => (Rows.flightMirrorsSpec.pre enc Tryd.prog Tryd.f9 [] false w args ∧ laidMetH Tryd.prog laidA w) ∧ sizedMet enc Tryd.prog Tryd.f9 (OpenSpec.ofChange Rows.flightMirrorsSpec) false w args)
      (Rows.flightMirrorsSpec.post enc Tryd.prog Tryd.f9 false true false false) := by
  refine law_lift (C := Tryd.checked) (X := fun w _ => laidMetH Tryd.prog laidA w) (tb := 4) (fun _ _ _ hh h => h.of_heap hh) own started (by kernel_rfl) Tryd.func9 laidOut
    (by rw [Tryd.params9]; intro t ht; simp at ht; (try subst ht) <;> (try (rcases ht with rfl | rfl)) <;> exact ⟨by kernel_rfl, of_decide_eq_true (by kernel_rfl)⟩) rfl (by kernel_rfl) Tryd.underlying4
    (ChangeSpec.witness_shaped (enc := enc) (C := Tryd.checked) (os := os) (X := fun w _ => laidMetH Tryd.prog laidA w) false (World.doorLaid Tryd.prog 400 os) #[.slice none 0 0] 8 rfl (World.shaped_of_RefB (by kernel_rfl) (by kernel_rfl)) (by kernel_rfl) (by kernel_rfl) (by kernel_rfl) (laidA_met os _)) ?_
  intro WW base args ds gs p hval hA hreach hL hS
  rw [Tryd.params9] at hA hval
  obtain ⟨v0, vs0, d0, ds0, p0, q0, hargs, rfl, rfl, h0, r0⟩ := trodAll_cons hA
  obtain ⟨rfl, rfl, rfl⟩ := trodAll_nil r0
  obtain rfl : args = #[v0] := by cases args; simp_all
  obtain ⟨a0_0, a0_1, a0_2, rfl, g0_0, g0_1, g0_2, g0_3⟩ := op_seens (hval 0 _ v0 rfl rfl) h0
  exact ⟨rfl, flightMirrors_walk a0_0 a0_1 a0_2 WW g0_0 g0_1 g0_2 g0_3 (env_of_laid hL)⟩

theorem flightMirrors_holds : Rows.FlightMirrorsSaid :=
  OpenClaim.holds_of_wide 9 Tryd.f9 rfl rfl rfl rfl rfl rfl rfl ⟨rfl, rfl, rfl, rfl, rfl⟩ rfl rfl rfl rfl rfl (by kernel_rfl) Tryd.func9 (by kernel_rfl)
    (of_decide_eq_true (by kernel_rfl)) (by unfold Func.isWrapper; first | (rw [if_pos (by decide +kernel)]; kernel_rfl) | (rw [if_neg (by decide +kernel)]; exact ⟨rfl, rfl⟩))
    (fun os started H enc _ => flightMirrors_lifted os started H enc)

theorem flightMirrors_card : Rows.FlightMirrorsCardSaid :=
  Claim7.holds_tied_plain_at .later [] [.data, .data] true Rows.flightMirrorsCard.stood.harness Rows.flightMirrorsCard.stood.looks
    flightMirrors_holds (fun _ h => by cases h) (by kernel_rfl) (fun _ h => by cases h) flightMirrors_row_tie rfl ⟨rfl, rfl⟩ (by kernel_rfl) rfl
    (fun f fn hf hfn => by
      obtain rfl : f = 9 := Option.some.inj ((show Tryd.prog.funcNamed "scorebook/scorebooklaw32.FlightMirrors" = some 9 by kernel_rfl).symm.trans hf) |>.symm
      obtain rfl : fn = Tryd.f9 := (Option.some.inj (Tryd.func9.symm.trans hfn)).symm
      exact ⟨by kernel_rfl, fun j t ht => by
        rw [Tryd.params9] at ht
        have hm : t ∈ [25] := by simpa using Array.mem_of_getElem? ht
        have hall : ([25].all fun u => !Tryd.prog.wantsStandIn u) = true := by kernel_rfl
        exact (show Tryd.prog.wantsStandIn t = false by simpa using List.all_eq_true.1 hall t hm)⟩)
    (by kernel_rfl)
#print axioms flightMirrors_card

end Go.Proofs.YtokifmeelgbkiaaDoor
