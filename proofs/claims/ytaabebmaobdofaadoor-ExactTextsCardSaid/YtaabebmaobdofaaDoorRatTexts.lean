/- Text of package exact gives the text of the reference, and Parse the ratio back: ExactTexts returns true for every input, and old memory is as it was. Condition: the listed variables of the library are as the program's text lays them (the card ties them). -/
import Derived.Test.YtaabebmaobdofaaDoorRatK
import Derived.Test.YtaabebmaobdofaaDoorLiftE
import Derived.Test.YtaabebmaobdofaaDoorParE
set_option linter.unusedSimpArgs false
set_option linter.unusedVariables false
namespace Go.Proofs.YtaabebmaobdofaaDoor
open Go.ChangeShapes Go.WideShapes Go.ChangeAt Go.RowKit Go.Joins

set_option maxHeartbeats 4000000 in
theorem exactTexts_walk (n d : Int) (w : World) (hn : I64 n) (hd : I64 d) (henv : Env w) :
    Calls Tryd.prog 10 #[R2 n d] w fun e w' => e = .returned (.bool true) ∧ Below w.heap.size w w' := by
  have hA := Lib.hid awake_any
  have HE := Lib.hid henv
  have HT : Hid (∀ w', Pow w' → Calls Tryd.prog 43 #[R2 n d] w' fun e w'' => e = .returned (S (txV n d)) ∧ Below w'.heap.size w' w'') := Lib.hid (fun w' h => ptext_any n d w' hn hd h)
  have HR : Hid (∀ w', Calls Tryd.prog 44 #[R2 n d] w' fun e w'' => e = .returned (S (txV n d)) ∧ Below w'.heap.size w' w'') := Lib.hid (fun w' => rtext_any n d w' hn hd)
  cases hv : validB n d
  · have e : txV n d = [] := by unfold txV; rw [hv]; rfl
    have HP : Hid (∀ w', Env w' → Calls Tryd.prog 45 #[S []] w' fun e w'' => e = .returned (.tuple #[R2 0 0, .int .i64 4]) ∧ Below w'.heap.size w' w'') := Lib.hid (fun w' h => pparse_no [] w' (by simp) (fun n d _ h => txR_ne n d h.symm) h)
    rw [e] at HT HR
    have k0 : (str []).toList.isEmpty = true := by rw [str_toList]; rfl
    have k1 : ((str []).toList == []) = true := by rw [str_toList]; rfl
    clear hv e hn hd henv
    unfold S at *
    generalize str [] = T at *
    go_enter Tryd.func10, Tryd.ntmps10
    go_wp2_with (first | (go_at_call 12; ((with_reducible refine (hA.out _).mono ?_); rintro e w1 ⟨rfl, hb1⟩); have hz1 := hb1.size; (try simp only [World.size_alloc, World.size_setCell, World.size_drew, size_drewN'] at hz1); have : w.heap.size < w1.heap.size := (by omega); have := hb1.cell (p := ⟨w.heap.size, 0, none⟩) (by go_size); simp [go_sem, *] at this; have := hb1.frozen (p := ⟨w.heap.size, 0, none⟩) (by go_size); simp [go_sem, *] at this; have := hb1.cell (p := ⟨w.heap.size, 1, none⟩) (by go_size); simp [go_sem, *] at this; have := hb1.frozen (p := ⟨w.heap.size, 1, none⟩) (by go_size); simp [go_sem, *] at this) | (go_at_call 43; (with_reducible refine (HT.out _ ?_).mono ?_); (focus (exact env_pow HE.out (by (repeat' (first | (with_reducible exact Below.refl _ _) | (with_reducible refine Below.setCell ?_ ?_ _) | (with_reducible refine Below.alloc ?_ ?_ _) | (with_reducible refine Below.drew ?_) | (with_reducible refine belowN ?_ _) | (with_reducible refine below_step ?_ ?_ (by with_reducible assumption)) | go_size))))); rintro e w2 ⟨rfl, hb2⟩; have hz2 := hb2.size; (try simp only [World.size_alloc, World.size_setCell, World.size_drew, size_drewN'] at hz2); have : w.heap.size < w2.heap.size := (by omega); have := hb2.cell (p := ⟨w.heap.size, 0, none⟩) (by go_size); simp [go_sem, *] at this; have := hb2.frozen (p := ⟨w.heap.size, 0, none⟩) (by go_size); simp [go_sem, *] at this; have := hb2.cell (p := ⟨w.heap.size, 1, none⟩) (by go_size); simp [go_sem, *] at this; have := hb2.frozen (p := ⟨w.heap.size, 1, none⟩) (by go_size); simp [go_sem, *] at this) | (go_at_call 44; ((with_reducible refine (HR.out _).mono ?_); rintro e w3 ⟨rfl, hb3⟩); have hz3 := hb3.size; (try simp only [World.size_alloc, World.size_setCell, World.size_drew, size_drewN'] at hz3); have : w.heap.size < w3.heap.size := (by omega); have := hb3.cell (p := ⟨w.heap.size, 0, none⟩) (by go_size); simp [go_sem, *] at this; have := hb3.frozen (p := ⟨w.heap.size, 0, none⟩) (by go_size); simp [go_sem, *] at this; have := hb3.cell (p := ⟨w.heap.size, 1, none⟩) (by go_size); simp [go_sem, *] at this; have := hb3.frozen (p := ⟨w.heap.size, 1, none⟩) (by go_size); simp [go_sem, *] at this) | (go_at_call 45; (with_reducible refine (HP.out _ ?_).mono ?_); (focus (exact HE.out.stays (by (repeat' (first | (with_reducible exact Below.refl _ _) | (with_reducible refine Below.setCell ?_ ?_ _) | (with_reducible refine Below.alloc ?_ ?_ _) | (with_reducible refine Below.drew ?_) | (with_reducible refine belowN ?_ _) | (with_reducible refine below_step ?_ ?_ (by with_reducible assumption)) | go_size))))); rintro e w4 ⟨rfl, hb4⟩; have hz4 := hb4.size; (try simp only [World.size_alloc, World.size_setCell, World.size_drew, size_drewN'] at hz4); have : w.heap.size < w4.heap.size := (by omega); have := hb4.cell (p := ⟨w.heap.size, 0, none⟩) (by go_size); simp [go_sem, *] at this; have := hb4.frozen (p := ⟨w.heap.size, 0, none⟩) (by go_size); simp [go_sem, *] at this; have := hb4.cell (p := ⟨w.heap.size, 1, none⟩) (by go_size); simp [go_sem, *] at this; have := hb4.frozen (p := ⟨w.heap.size, 1, none⟩) (by go_size); simp [go_sem, *] at this))
    go_ret
    exact ⟨by simp [*], by (repeat' (first | (with_reducible exact Below.refl _ _) | (with_reducible refine Below.setCell ?_ ?_ _) | (with_reducible refine Below.alloc ?_ ?_ _) | (with_reducible refine Below.drew ?_) | (with_reducible refine belowN ?_ _) | (with_reducible refine below_step ?_ ?_ (by with_reducible assumption)) | go_size))⟩
  · have e : txV n d = txR n d := by unfold txV; rw [hv]; rfl
    have HP : Hid (∀ w', Env w' → Calls Tryd.prog 45 #[S (txR n d)] w' fun e w'' => e = .returned (.tuple #[R2 n d, .int .i64 0]) ∧ Below w'.heap.size w' w'') := Lib.hid (fun w' h => pparse_ok n d w' hv h)
    rw [e] at HT HR
    have k0 : (str (txR n d)).toList.isEmpty = false := by rw [str_toList]; simpa using txR_ne n d
    have k1 : ((str (txR n d)).toList == []) = false := by rw [str_toList]; simpa using txR_ne n d
    clear hv e hn hd henv
    generalize txR n d = T at *
    go_enter Tryd.func10, Tryd.ntmps10
    go_wp2_with (first | (go_at_call 12; ((with_reducible refine (hA.out _).mono ?_); rintro e w1 ⟨rfl, hb1⟩); have hz1 := hb1.size; (try simp only [World.size_alloc, World.size_setCell, World.size_drew, size_drewN'] at hz1); have : w.heap.size < w1.heap.size := (by omega); have := hb1.cell (p := ⟨w.heap.size, 0, none⟩) (by go_size); simp [go_sem, *] at this; have := hb1.frozen (p := ⟨w.heap.size, 0, none⟩) (by go_size); simp [go_sem, *] at this; have := hb1.cell (p := ⟨w.heap.size, 1, none⟩) (by go_size); simp [go_sem, *] at this; have := hb1.frozen (p := ⟨w.heap.size, 1, none⟩) (by go_size); simp [go_sem, *] at this) | (go_at_call 43; (with_reducible refine (HT.out _ ?_).mono ?_); (focus (exact env_pow HE.out (by (repeat' (first | (with_reducible exact Below.refl _ _) | (with_reducible refine Below.setCell ?_ ?_ _) | (with_reducible refine Below.alloc ?_ ?_ _) | (with_reducible refine Below.drew ?_) | (with_reducible refine belowN ?_ _) | (with_reducible refine below_step ?_ ?_ (by with_reducible assumption)) | go_size))))); rintro e w2 ⟨rfl, hb2⟩; have hz2 := hb2.size; (try simp only [World.size_alloc, World.size_setCell, World.size_drew, size_drewN'] at hz2); have : w.heap.size < w2.heap.size := (by omega); have := hb2.cell (p := ⟨w.heap.size, 0, none⟩) (by go_size); simp [go_sem, *] at this; have := hb2.frozen (p := ⟨w.heap.size, 0, none⟩) (by go_size); simp [go_sem, *] at this; have := hb2.cell (p := ⟨w.heap.size, 1, none⟩) (by go_size); simp [go_sem, *] at this; have := hb2.frozen (p := ⟨w.heap.size, 1, none⟩) (by go_size); simp [go_sem, *] at this) | (go_at_call 44; ((with_reducible refine (HR.out _).mono ?_); rintro e w3 ⟨rfl, hb3⟩); have hz3 := hb3.size; (try simp only [World.size_alloc, World.size_setCell, World.size_drew, size_drewN'] at hz3); have : w.heap.size < w3.heap.size := (by omega); have := hb3.cell (p := ⟨w.heap.size, 0, none⟩) (by go_size); simp [go_sem, *] at this; have := hb3.frozen (p := ⟨w.heap.size, 0, none⟩) (by go_size); simp [go_sem, *] at this; have := hb3.cell (p := ⟨w.heap.size, 1, none⟩) (by go_size); simp [go_sem, *] at this; have := hb3.frozen (p := ⟨w.heap.size, 1, none⟩) (by go_size); simp [go_sem, *] at this) | (go_at_call 45; (with_reducible refine (HP.out _ ?_).mono ?_); (focus (exact HE.out.stays (by (repeat' (first | (with_reducible exact Below.refl _ _) | (with_reducible refine Below.setCell ?_ ?_ _) | (with_reducible refine Below.alloc ?_ ?_ _) | (with_reducible refine Below.drew ?_) | (with_reducible refine belowN ?_ _) | (with_reducible refine below_step ?_ ?_ (by with_reducible assumption)) | go_size))))); rintro e w4 ⟨rfl, hb4⟩; have hz4 := hb4.size; (try simp only [World.size_alloc, World.size_setCell, World.size_drew, size_drewN'] at hz4); have : w.heap.size < w4.heap.size := (by omega); have := hb4.cell (p := ⟨w.heap.size, 0, none⟩) (by go_size); simp [go_sem, *] at this; have := hb4.frozen (p := ⟨w.heap.size, 0, none⟩) (by go_size); simp [go_sem, *] at this; have := hb4.cell (p := ⟨w.heap.size, 1, none⟩) (by go_size); simp [go_sem, *] at this; have := hb4.frozen (p := ⟨w.heap.size, 1, none⟩) (by go_size); simp [go_sem, *] at this))
    go_ret
    exact ⟨by simp [*], by (repeat' (first | (with_reducible exact Below.refl _ _) | (with_reducible refine Below.setCell ?_ ?_ _) | (with_reducible refine Below.alloc ?_ ?_ _) | (with_reducible refine Below.drew ?_) | (with_reducible refine belowN ?_ _) | (with_reducible refine below_step ?_ ?_ (by with_reducible assumption)) | go_size))⟩


set_option maxRecDepth 100000 in
theorem exactTexts_lifted (os : Os) (started : os.Started) (H : Type) (enc : TypeId × Value → H) :
    ReturnsInHanded {} Tryd.checked os 10 .any (fun w args => (Rows.exactTextsSpec.pre enc Tryd.prog Tryd.f10 [] false w args ∧ laidMetH Tryd.prog laidA w) ∧ sizedMet enc Tryd.prog Tryd.f10 (OpenSpec.ofChange Rows.exactTextsSpec) false w args)
      (Rows.exactTextsSpec.post enc Tryd.prog Tryd.f10 false true false false) := by
  refine law_lift (C := Tryd.checked) (X := fun w _ => laidMetH Tryd.prog laidA w) (tb := 4) (fun _ _ _ hh h => h.of_heap hh) own started (by kernel_rfl) Tryd.func10 laidOut
    (by rw [Tryd.params10]; intro t ht; simp at ht; (try subst ht) <;> (try (rcases ht with rfl | rfl)) <;> exact ⟨by kernel_rfl, of_decide_eq_true (by kernel_rfl)⟩) rfl (by kernel_rfl) Tryd.underlying4
    (ChangeSpec.witness_shaped (enc := enc) (C := Tryd.checked) (os := os) (X := fun w _ => laidMetH Tryd.prog laidA w) false (World.doorLaid Tryd.prog 400 os) #[.agg #[.int .i64 0, .int .i64 0]] 8 rfl (World.shaped_of_RefB (by kernel_rfl) (by kernel_rfl)) (by kernel_rfl) (by kernel_rfl) (by kernel_rfl) (laidA_met os _)) ?_
  intro WW base args ds gs p hval hA hreach hL hS
  rw [Tryd.params10] at hA hval
  obtain ⟨v0, vs0, d0, ds0, p0, q0, hargs, rfl, rfl, h0, r0⟩ := trodAll_cons hA
  obtain ⟨rfl, rfl, rfl⟩ := trodAll_nil r0
  obtain rfl : args = #[v0] := by cases args; simp_all
  obtain ⟨a0, b0, rfl, g0, e0⟩ := open_ratio (hval 0 _ v0 rfl rfl) h0
  exact ⟨rfl, exactTexts_walk a0 b0 WW g0 e0 (env_of_laid hL hS)⟩

theorem exactTexts_holds : Rows.ExactTextsSaid :=
  OpenClaim.holds_of_wide 10 Tryd.f10 rfl rfl rfl rfl rfl rfl rfl ⟨rfl, rfl, rfl, rfl, rfl⟩ rfl rfl rfl rfl rfl (by kernel_rfl) Tryd.func10 (by kernel_rfl)
    (of_decide_eq_true (by kernel_rfl)) (by unfold Func.isWrapper; first | (rw [if_pos (by decide +kernel)]; kernel_rfl) | (rw [if_neg (by decide +kernel)]; exact ⟨rfl, rfl⟩))
    (fun os started H enc _ => exactTexts_lifted os started H enc)

theorem exactTexts_card : Rows.ExactTextsCardSaid :=
  Claim7.holds_tied_plain_at .later [] [.data, .data, .data, .sentinel, .sentinel] true Rows.exactTextsCard.stood.harness Rows.exactTextsCard.stood.looks
    exactTexts_holds (fun _ h => by cases h) (by kernel_rfl) (fun _ h => by cases h) exactTexts_row_tie rfl ⟨rfl, rfl⟩ (by kernel_rfl) rfl
    (fun f fn hf hfn => by
      obtain rfl : f = 10 := Option.some.inj ((show Tryd.prog.funcNamed "scorebook/scorebooklaw01.ExactTexts" = some 10 by kernel_rfl).symm.trans hf) |>.symm
      obtain rfl : fn = Tryd.f10 := (Option.some.inj (Tryd.func10.symm.trans hfn)).symm
      exact ⟨by kernel_rfl, fun j t ht => by
        rw [Tryd.params10] at ht
        have hm : t ∈ [24] := by simpa using Array.mem_of_getElem? ht
        have hall : ([24].all fun u => !Tryd.prog.wantsStandIn u) = true := by kernel_rfl
        exact (show Tryd.prog.wantsStandIn t = false by simpa using List.all_eq_true.1 hall t hm)⟩)
    (by kernel_rfl)
#print axioms exactTexts_card

end Go.Proofs.YtaabebmaobdofaaDoor
