/- A number of balls is found again from its overs and from its text: OversBack returns true for every input, and old memory is as it was. Condition: the listed variables of the library are as the program's text lays them (the card ties them). -/
import Derived.Test.YtnpnippgfkehaaaDoorOvK
import Derived.Test.YtnpnippgfkehaaaDoorNumB
import Derived.Test.YtnpnippgfkehaaaDoorLift
set_option linter.unusedSimpArgs false
set_option linter.unusedVariables false
namespace Go.Proofs.YtnpnippgfkehaaaDoor
open Go.ChangeShapes Go.WideShapes Go.ChangeAt Go.RowKit

theorem back_in {b p : Int} (hc : cntB b = true) (hp : perB p = true) :
    ofQ b p * p + ofR b p = b ∧ ofR b p < p ∧ prE (txL b p) p = 0 ∧ prV (txL b p) p = b := by
  obtain ⟨p1, p2⟩ := perB_1 hp
  obtain ⟨b1, b2⟩ := cntB_1 hc
  obtain ⟨q0, q1⟩ := ofQ_bd b p
  obtain ⟨r0, r1⟩ := ofR_bd b p
  have hv : (cntB b && perB p) = true := by rw [hc, hp]; rfl
  have e1 : ofQ b p = b / p := by unfold ofQ; rw [if_pos hv]
  have e2 : ofR b p = b % p := by unfold ofR; rw [if_pos hv]
  have h1 := Int.mul_ediv_add_emod b p
  have h2 := Int.emod_lt_of_pos b (show 0 < p by omega)
  have hs : ofQ b p * p + ofR b p = b := by rw [e1, e2, Int.mul_comm]; exact h1
  have hr : ofR b p < p := by rw [e2]; exact h2
  have ht : txL b p = Lib.itoa (ofQ b p) ++ 46 :: Lib.itoa (ofR b p) := by unfold txL; rw [if_pos hv]
  have hcut := cut_at 46 (Lib.itoa (ofQ b p)) (Lib.itoa (ofR b p)) (itoa_no _ 46 rfl (by decide))
  have hA : prA (txL b p) = Lib.itoa (ofQ b p) := by unfold prA; rw [ht, hcut]
  have hB : prB (txL b p) = Lib.itoa (ofR b p) := by unfold prB; rw [ht, hcut]
  have i1 : I64 (ofQ b p) := by unfold I64; omega
  have i2 : I64 (ofR b p) := by unfold I64; omega
  have hS : prS (txL b p) p = b := by unfold prS; rw [hA, hB, numV_itoa i1 q0 q1, numV_itoa i2 r0 (by omega)]; exact hs
  have hE : prE (txL b p) p = 0 := by
    unfold prE
    rw [if_pos hp, if_pos]
    rw [hA, hB, hS]
    exact ⟨numE_itoa i1 q0 q1, numE_itoa i2 r0 (by omega), b2⟩
  exact ⟨hs, hr, hE, by unfold prV; rw [if_pos hE]; exact hS⟩
theorem txL_len (b p : Int) : (txL b p).length ≤ 100 := by
  unfold txL
  split
  · obtain ⟨q0, q1⟩ := ofQ_bd b p
    obtain ⟨r0, r1⟩ := ofR_bd b p
    have h1 := Lib.itoa_length_le (ofQ b p) (by omega) (by omega)
    have h2 := Lib.itoa_length_le (ofR b p) (by omega) (by omega)
    simp; omega
  · simp

set_option maxHeartbeats 4000000 in
theorem oversBack_walk (b p : Int) (w : World) (hb : I64 b) (hp : I64 p) (henv : Env w) :
    Calls Tryd.prog 5 #[.int .i64 b, .int .i64 p] w fun e w' => e = .returned (.bool true) ∧ Below w.heap.size w w' := by
  have HE := Lib.hid henv
  have HA := Lib.hid awake_any
  have HT : Hid (∀ w', Env w' → Calls Tryd.prog 13 #[.int .i64 b, .int .i64 p] w' fun e w'' => e = .returned (.tuple #[S (txL b p), .int .i64 (txE b p)]) ∧ Below w'.heap.size w' w'') := Lib.hid (fun w' h => text_any b p w' h)
  clear henv
  cases hv : (cntB b && perB p)
  · have e1 : txE b p = 2 := by unfold txE; rw [hv]; rfl
    have e2 : txL b p = [] := by unfold txL; rw [hv]; rfl
    rw [e1, e2] at HT
    have k0 : (str []).toList.isEmpty = true := by rw [str_toList]; rfl
    clear e1 e2 hv
    go_enter Tryd.func5, Tryd.ntmps5
    go_wp2_with (first | (go_at_call 10; (with_reducible refine (HA.out _ ?_).mono ?_); (focus (exact HE.out.stays (by (repeat' (first | (with_reducible exact Below.refl _ _) | (with_reducible refine Below.setCell ?_ ?_ _) | (with_reducible refine Below.alloc ?_ ?_ _) | (with_reducible refine Below.drew ?_) | (with_reducible refine belowN ?_ _) | (with_reducible refine below_step ?_ ?_ (by with_reducible assumption)) | go_size))))); rintro e w1 ⟨rfl, hb1⟩; have hz1 := hb1.size; (try simp only [World.size_alloc, World.size_setCell, World.size_drew, size_drewN'] at hz1)) | (go_at_call 13; (with_reducible refine (HT.out _ ?_).mono ?_); (focus (exact HE.out.stays (by (repeat' (first | (with_reducible exact Below.refl _ _) | (with_reducible refine Below.setCell ?_ ?_ _) | (with_reducible refine Below.alloc ?_ ?_ _) | (with_reducible refine Below.drew ?_) | (with_reducible refine belowN ?_ _) | (with_reducible refine below_step ?_ ?_ (by with_reducible assumption)) | go_size))))); rintro e w2 ⟨rfl, hb2⟩; have hz2 := hb2.size; (try simp only [World.size_alloc, World.size_setCell, World.size_drew, size_drewN'] at hz2)))
    go_ret
    exact ⟨by simp [k0], by (repeat' (first | (with_reducible exact Below.refl _ _) | (with_reducible refine Below.setCell ?_ ?_ _) | (with_reducible refine Below.alloc ?_ ?_ _) | (with_reducible refine Below.drew ?_) | (with_reducible refine belowN ?_ _) | (with_reducible refine below_step ?_ ?_ (by with_reducible assumption)) | go_size))⟩
  · have e1 : txE b p = 0 := by unfold txE; rw [hv]; rfl
    rw [e1] at HT
    simp only [Bool.and_eq_true] at hv
    obtain ⟨h1, h2⟩ := hv
    obtain ⟨s1, s2, s3, s4⟩ := back_in h1 h2
    obtain ⟨q0, q1⟩ := ofQ_bd b p
    obtain ⟨r0, r1⟩ := ofR_bd b p
    have hlen := txL_len b p
    have HO : Hid (∀ w, Calls Tryd.prog 11 #[.int .i64 b, .int .i64 p] w fun e w' => e = .returned (.tuple #[.int .i64 (ofQ b p), .int .i64 (ofR b p)]) ∧ ∃ k, w' = w.drewN k) := Lib.hid (of_any b p)
    have HP : Hid (∀ w', Env w' → Calls Tryd.prog 15 #[S (txL b p), .int .i64 p] w' fun e w'' => e = .returned (.tuple #[.int .i64 b, .int .i64 0]) ∧ Below w'.heap.size w' w'') := Lib.hid (fun w' h => by
      have h := parse_any (txL b p) p w' (by omega) h
      rw [s3, s4] at h; exact h)
    have hbal : (ofQ b p ≤ 100000 ∧ balE (ofQ b p) (ofR b p) p = 0 ∧ balV (ofQ b p) (ofR b p) p = b) ∨ (¬ ofQ b p ≤ 100000 ∧ ofQ b p > 100000 ∧ balE (ofQ b p) (ofR b p) p = 2 ∧ balV (ofQ b p) (ofR b p) p = 0 ∧ (0 == b) = false) := by
      by_cases h : ofQ b p ≤ 100000
      · left
        have hB : balB (ofQ b p) (ofR b p) p = true := by simp [balB, h2]; omega
        exact ⟨h, by unfold balE; rw [hB]; rfl, by unfold balV; rw [if_pos hB]; exact s1⟩
      · right
        have hB : balB (ofQ b p) (ofR b p) p = false := by simp [balB, h2]; omega
        have hz : ¬ b = 0 := by
          intro e
          apply h
          have : ofQ b p = 0 := by rw [e]; unfold ofQ; split <;> simp
          omega
        exact ⟨h, by omega, by unfold balE; rw [hB]; rfl, by unfold balV; rw [hB]; rfl, by simp; omega⟩
    have HL : Hid (∀ w, Calls Tryd.prog 17 #[.int .i64 (ofQ b p), .int .i64 (ofR b p), .int .i64 p] w fun e w' => e = .returned (.tuple #[.int .i64 (balV (ofQ b p) (ofR b p) p), .int .i64 (balE (ofQ b p) (ofR b p) p)]) ∧ w = w') := Lib.hid (fun w => balls_any _ _ p w (by unfold I64; omega) (by unfold I64; omega))
    clear h1 h2 s1 s3 s4 e1 hlen
    generalize txL b p = tx at *
    generalize ofQ b p = o at *
    generalize ofR b p = n at *
    rcases hbal with ⟨g1, g2, g3⟩ | ⟨g0, g1, g2, g3, kb⟩
    · rw [g2, g3] at HL
      clear g2 g3
      go_enter Tryd.func5, Tryd.ntmps5
      go_wp2_with (first | (go_at_call 10; (with_reducible refine (HA.out _ ?_).mono ?_); (focus (exact HE.out.stays (by (repeat' (first | (with_reducible exact Below.refl _ _) | (with_reducible refine Below.setCell ?_ ?_ _) | (with_reducible refine Below.alloc ?_ ?_ _) | (with_reducible refine Below.drew ?_) | (with_reducible refine belowN ?_ _) | (with_reducible refine below_step ?_ ?_ (by with_reducible assumption)) | go_size))))); rintro e w1 ⟨rfl, hb1⟩; have hz1 := hb1.size; (try simp only [World.size_alloc, World.size_setCell, World.size_drew, size_drewN'] at hz1)) | (go_at_call 13; (with_reducible refine (HT.out _ ?_).mono ?_); (focus (exact HE.out.stays (by (repeat' (first | (with_reducible exact Below.refl _ _) | (with_reducible refine Below.setCell ?_ ?_ _) | (with_reducible refine Below.alloc ?_ ?_ _) | (with_reducible refine Below.drew ?_) | (with_reducible refine belowN ?_ _) | (with_reducible refine below_step ?_ ?_ (by with_reducible assumption)) | go_size))))); rintro e w2 ⟨rfl, hb2⟩; have hz2 := hb2.size; (try simp only [World.size_alloc, World.size_setCell, World.size_drew, size_drewN'] at hz2)) | (go_at_call 11; ((with_reducible refine (HO.out _).mono ?_); rintro e w' ⟨rfl, k1, rfl⟩)) | (go_at_call 17; ((with_reducible refine (HL.out _).mono ?_); rintro e w' ⟨rfl, rfl⟩)) | (go_at_call 15; (with_reducible refine (HP.out _ ?_).mono ?_); (focus (exact HE.out.stays (by (repeat' (first | (with_reducible exact Below.refl _ _) | (with_reducible refine Below.setCell ?_ ?_ _) | (with_reducible refine Below.alloc ?_ ?_ _) | (with_reducible refine Below.drew ?_) | (with_reducible refine belowN ?_ _) | (with_reducible refine below_step ?_ ?_ (by with_reducible assumption)) | go_size))))); rintro e w3 ⟨rfl, hb3⟩; have hz3 := hb3.size; (try simp only [World.size_alloc, World.size_setCell, World.size_drew, size_drewN'] at hz3)))
      go_ret
      exact ⟨by simp, by (repeat' (first | (with_reducible exact Below.refl _ _) | (with_reducible refine Below.setCell ?_ ?_ _) | (with_reducible refine Below.alloc ?_ ?_ _) | (with_reducible refine Below.drew ?_) | (with_reducible refine belowN ?_ _) | (with_reducible refine below_step ?_ ?_ (by with_reducible assumption)) | go_size))⟩
    · rw [g2, g3] at HL
      clear g2 g3
      go_enter Tryd.func5, Tryd.ntmps5
      go_wp2_with (first | (go_at_call 10; (with_reducible refine (HA.out _ ?_).mono ?_); (focus (exact HE.out.stays (by (repeat' (first | (with_reducible exact Below.refl _ _) | (with_reducible refine Below.setCell ?_ ?_ _) | (with_reducible refine Below.alloc ?_ ?_ _) | (with_reducible refine Below.drew ?_) | (with_reducible refine belowN ?_ _) | (with_reducible refine below_step ?_ ?_ (by with_reducible assumption)) | go_size))))); rintro e w1 ⟨rfl, hb1⟩; have hz1 := hb1.size; (try simp only [World.size_alloc, World.size_setCell, World.size_drew, size_drewN'] at hz1)) | (go_at_call 13; (with_reducible refine (HT.out _ ?_).mono ?_); (focus (exact HE.out.stays (by (repeat' (first | (with_reducible exact Below.refl _ _) | (with_reducible refine Below.setCell ?_ ?_ _) | (with_reducible refine Below.alloc ?_ ?_ _) | (with_reducible refine Below.drew ?_) | (with_reducible refine belowN ?_ _) | (with_reducible refine below_step ?_ ?_ (by with_reducible assumption)) | go_size))))); rintro e w2 ⟨rfl, hb2⟩; have hz2 := hb2.size; (try simp only [World.size_alloc, World.size_setCell, World.size_drew, size_drewN'] at hz2)) | (go_at_call 11; ((with_reducible refine (HO.out _).mono ?_); rintro e w' ⟨rfl, k1, rfl⟩)) | (go_at_call 17; ((with_reducible refine (HL.out _).mono ?_); rintro e w' ⟨rfl, rfl⟩)) | (go_at_call 15; (with_reducible refine (HP.out _ ?_).mono ?_); (focus (exact HE.out.stays (by (repeat' (first | (with_reducible exact Below.refl _ _) | (with_reducible refine Below.setCell ?_ ?_ _) | (with_reducible refine Below.alloc ?_ ?_ _) | (with_reducible refine Below.drew ?_) | (with_reducible refine belowN ?_ _) | (with_reducible refine below_step ?_ ?_ (by with_reducible assumption)) | go_size))))); rintro e w3 ⟨rfl, hb3⟩; have hz3 := hb3.size; (try simp only [World.size_alloc, World.size_setCell, World.size_drew, size_drewN'] at hz3)))
      go_ret
      exact ⟨by simp, by (repeat' (first | (with_reducible exact Below.refl _ _) | (with_reducible refine Below.setCell ?_ ?_ _) | (with_reducible refine Below.alloc ?_ ?_ _) | (with_reducible refine Below.drew ?_) | (with_reducible refine belowN ?_ _) | (with_reducible refine below_step ?_ ?_ (by with_reducible assumption)) | go_size))⟩


set_option maxRecDepth 100000 in
theorem oversBack_lifted (os : Os) (started : os.Started) (H : Type) (enc : TypeId × Value → H) :
    ReturnsInHanded {} Tryd.checked os 5 .any (fun w args => (Rows.oversBackSpec.pre enc Tryd.prog Tryd.f5 [] false w args ∧ laidMetH Tryd.prog laidA w) ∧ sizedMet enc Tryd.prog Tryd.f5 (OpenSpec.ofChange Rows.oversBackSpec) false w args)
      (Rows.oversBackSpec.post enc Tryd.prog Tryd.f5 false true false false) := by
  refine law_lift (C := Tryd.checked) (X := fun w _ => laidMetH Tryd.prog laidA w) (tb := 4) (fun _ _ _ hh h => h.of_heap hh) own started (by kernel_rfl) Tryd.func5 laidOut
    (by rw [Tryd.params5]; intro t ht; simp at ht; (try subst ht) <;> (try (rcases ht with rfl | rfl)) <;> exact ⟨by kernel_rfl, of_decide_eq_true (by kernel_rfl)⟩) rfl (by kernel_rfl) Tryd.underlying4
    (ChangeSpec.witness_shaped (enc := enc) (C := Tryd.checked) (os := os) (X := fun w _ => laidMetH Tryd.prog laidA w) false (World.doorLaid Tryd.prog 400 os) #[.int .i64 0, .int .i64 0] 8 rfl (World.shaped_of_RefB (by kernel_rfl) (by kernel_rfl)) (by kernel_rfl) (by kernel_rfl) (by kernel_rfl) (laidA_met os _)) ?_
  intro WW base args ds gs p hval hA hreach hL hS
  rw [Tryd.params5] at hA hval
  obtain ⟨v0, vs0, d0, ds0, p0, q0, hargs, rfl, rfl, h0, r0⟩ := trodAll_cons hA
  obtain ⟨v1, vs1, d1, ds1, p1, q1, rfl, rfl, rfl, h1, r1⟩ := trodAll_cons r0
  obtain ⟨rfl, rfl, rfl⟩ := trodAll_nil r1
  obtain rfl : args = #[v0, v1] := by cases args; simp_all
  obtain ⟨a0, rfl, g0⟩ := open_int64 (hval 0 _ v0 rfl rfl) h0
  obtain ⟨a1, rfl, g1⟩ := open_int64 (hval 1 _ v1 rfl rfl) h1
  exact ⟨rfl, oversBack_walk a0 a1 WW g0 g1 (env_of_laid hL hS)⟩

theorem oversBack_holds : Rows.OversBackSaid :=
  OpenClaim.holds_of_wide 5 Tryd.f5 rfl rfl rfl rfl rfl rfl rfl ⟨rfl, rfl, rfl, rfl, rfl⟩ rfl rfl rfl rfl rfl (by kernel_rfl) Tryd.func5 (by kernel_rfl)
    (of_decide_eq_true (by kernel_rfl)) (by unfold Func.isWrapper; first | (rw [if_pos (by decide +kernel)]; kernel_rfl) | (rw [if_neg (by decide +kernel)]; exact ⟨rfl, rfl⟩))
    (fun os started H enc _ => oversBack_lifted os started H enc)

theorem oversBack_card : Rows.OversBackCardSaid :=
  Claim7.holds_tied_plain_at .later [] [.data, .data, .data, .sentinel, .sentinel] true Rows.oversBackCard.stood.harness Rows.oversBackCard.stood.looks
    oversBack_holds (fun _ h => by cases h) (by kernel_rfl) (fun _ h => by cases h) oversBack_row_tie rfl ⟨rfl, rfl⟩ (by kernel_rfl) rfl
    (fun f fn hf hfn => by
      obtain rfl : f = 5 := Option.some.inj ((show Tryd.prog.funcNamed "scorebook/scorebooklaw04.OversBack" = some 5 by kernel_rfl).symm.trans hf) |>.symm
      obtain rfl : fn = Tryd.f5 := (Option.some.inj (Tryd.func5.symm.trans hfn)).symm
      exact ⟨by kernel_rfl, fun j t ht => by
        rw [Tryd.params5] at ht
        have hm : t ∈ [3, 3] := by simpa using Array.mem_of_getElem? ht
        have hall : ([3, 3].all fun u => !Tryd.prog.wantsStandIn u) = true := by kernel_rfl
        exact (show Tryd.prog.wantsStandIn t = false by simpa using List.all_eq_true.1 hall t hm)⟩)
    (by kernel_rfl)
#print axioms oversBack_card

end Go.Proofs.YtnpnippgfkehaaaDoor
