/- With the needed runs per over the runs are reached, with one less they are not: OversNeeds returns true for every input, and old memory is as it was. Condition: the listed variables of the library are as the program's text lays them (the card ties them). -/
import Derived.Test.YtnpnippgfkehaaaDoorOvK
import Derived.Test.YtnpnippgfkehaaaDoorLift
set_option linter.unusedSimpArgs false
set_option linter.unusedVariables false
namespace Go.Proofs.YtnpnippgfkehaaaDoor
open Go.ChangeShapes Go.WideShapes Go.ChangeAt Go.RowKit

theorem needs_in (x b : Int) (hx : 0 ≤ x) (hx2 : x ≤ 8000000) (hb : 1 ≤ b) (hb2 : b ≤ 1000000) :
    0 ≤ (x + b - 1) / b ∧ (x + b - 1) / b ≤ 9000000 ∧ x ≤ (x + b - 1) / b * b ∧ (x + b - 1) / b * b ≤ 9000000 ∧ ((x + b - 1) / b - 1) * b < x ∧ -1000000 ≤ ((x + b - 1) / b - 1) * b := by
  have h1 := Int.mul_ediv_add_emod (x + b - 1) b
  have h2 := Int.emod_nonneg (x + b - 1) (show b ≠ 0 by omega)
  have h3 := Int.emod_lt_of_pos (x + b - 1) (show 0 < b by omega)
  have h4 := Int.ediv_nonneg (show 0 ≤ x + b - 1 by omega) (show 0 ≤ b by omega)
  have h5 := Int.ediv_le_self b (show 0 ≤ x + b - 1 by omega)
  rw [Int.mul_comm] at h1
  generalize (x + b - 1) / b = n at *
  have h6 : (n - 1) * b = n * b - b := by rw [Int.sub_mul, Int.one_mul]
  rw [h6]
  generalize n * b = y at *
  omega

set_option maxHeartbeats 4000000 in
theorem oversNeeds_walk (r b p : Int) (w : World) (hr : I64 r) (hb : I64 b) (hp : I64 p) (henv : Env w) :
    Calls Tryd.prog 9 #[.int .i64 r, .int .i64 b, .int .i64 p] w fun e w' => e = .returned (.bool true) ∧ Below w.heap.size w w' := by
  have HE := Lib.hid henv
  have HA := Lib.hid awake_any
  have HN : Hid (∀ w, Calls Tryd.prog 21 #[.int .i64 r, .int .i64 b, .int .i64 p] w fun e w' => e = .returned (.tuple #[.int .i64 (ndV r b p), .int .i64 (ndE r b p)]) ∧ w = w') := Lib.hid (needed_any r b p)
  clear henv
  cases hv : (rateB r b && perB p)
  · have e1 : ndV r b p = 0 := by unfold ndV; rw [hv]; rfl
    have e2 : ndE r b p = 2 := by unfold ndE; rw [hv]; rfl
    rw [e1, e2] at HN
    clear e1 e2 hv
    go_enter Tryd.func9, Tryd.ntmps9
    go_wp2_with (first | (go_at_call 10; (with_reducible refine (HA.out _ ?_).mono ?_); (focus (exact HE.out.stays (by (repeat' (first | (with_reducible exact Below.refl _ _) | (with_reducible refine Below.setCell ?_ ?_ _) | (with_reducible refine Below.alloc ?_ ?_ _) | (with_reducible refine Below.drew ?_) | (with_reducible refine belowN ?_ _) | (with_reducible refine below_step ?_ ?_ (by with_reducible assumption)) | go_size))))); rintro e w1 ⟨rfl, hb1⟩; have hz1 := hb1.size; (try simp only [World.size_alloc, World.size_setCell, World.size_drew, size_drewN'] at hz1)) | (go_at_call 21; ((with_reducible refine (HN.out _).mono ?_); rintro e w' ⟨rfl, rfl⟩)))
    go_ret
    exact ⟨rfl, by (repeat' (first | (with_reducible exact Below.refl _ _) | (with_reducible refine Below.setCell ?_ ?_ _) | (with_reducible refine Below.alloc ?_ ?_ _) | (with_reducible refine Below.drew ?_) | (with_reducible refine belowN ?_ _) | (with_reducible refine below_step ?_ ?_ (by with_reducible assumption)) | go_size))⟩
  · have e1 : ndV r b p = (r * p + b - 1) / b := by unfold ndV; rw [hv]; rfl
    have e2 : ndE r b p = 0 := by unfold ndE; rw [hv]; rfl
    rw [e1, e2] at HN
    simp only [Bool.and_eq_true] at hv
    obtain ⟨r1, r2, b1, b2⟩ := rateB_1 hv.1
    obtain ⟨p1, p2⟩ := perB_1 hv.2
    obtain ⟨m1, m2⟩ := mul_bd (a := r) (b := p) r1 r2 (by omega) p2
    obtain ⟨k1, k2, k3, k4, k5, k6⟩ := needs_in (r * p) b m1 (by omega) b1 b2
    clear e1 e2 hv
    generalize (r * p + b - 1) / b = n at *
    have t1 : n * b ≥ r * p := k3
    by_cases hz : n = 0
    · have kz : (n == 0) = true := by simp [hz]
      clear hz
      go_enter Tryd.func9, Tryd.ntmps9
      go_wp2_with (first | (go_at_call 10; (with_reducible refine (HA.out _ ?_).mono ?_); (focus (exact HE.out.stays (by (repeat' (first | (with_reducible exact Below.refl _ _) | (with_reducible refine Below.setCell ?_ ?_ _) | (with_reducible refine Below.alloc ?_ ?_ _) | (with_reducible refine Below.drew ?_) | (with_reducible refine belowN ?_ _) | (with_reducible refine below_step ?_ ?_ (by with_reducible assumption)) | go_size))))); rintro e w1 ⟨rfl, hb1⟩; have hz1 := hb1.size; (try simp only [World.size_alloc, World.size_setCell, World.size_drew, size_drewN'] at hz1)) | (go_at_call 21; ((with_reducible refine (HN.out _).mono ?_); rintro e w' ⟨rfl, rfl⟩)))
      go_ret
      exact ⟨rfl, by (repeat' (first | (with_reducible exact Below.refl _ _) | (with_reducible refine Below.setCell ?_ ?_ _) | (with_reducible refine Below.alloc ?_ ?_ _) | (with_reducible refine Below.drew ?_) | (with_reducible refine belowN ?_ _) | (with_reducible refine below_step ?_ ?_ (by with_reducible assumption)) | go_size))⟩
    · have kz : (n == 0) = false := by simpa using hz
      clear hz
      go_enter Tryd.func9, Tryd.ntmps9
      go_wp2_with (first | (go_at_call 10; (with_reducible refine (HA.out _ ?_).mono ?_); (focus (exact HE.out.stays (by (repeat' (first | (with_reducible exact Below.refl _ _) | (with_reducible refine Below.setCell ?_ ?_ _) | (with_reducible refine Below.alloc ?_ ?_ _) | (with_reducible refine Below.drew ?_) | (with_reducible refine belowN ?_ _) | (with_reducible refine below_step ?_ ?_ (by with_reducible assumption)) | go_size))))); rintro e w1 ⟨rfl, hb1⟩; have hz1 := hb1.size; (try simp only [World.size_alloc, World.size_setCell, World.size_drew, size_drewN'] at hz1)) | (go_at_call 21; ((with_reducible refine (HN.out _).mono ?_); rintro e w' ⟨rfl, rfl⟩)))
      go_ret
      exact ⟨rfl, by (repeat' (first | (with_reducible exact Below.refl _ _) | (with_reducible refine Below.setCell ?_ ?_ _) | (with_reducible refine Below.alloc ?_ ?_ _) | (with_reducible refine Below.drew ?_) | (with_reducible refine belowN ?_ _) | (with_reducible refine below_step ?_ ?_ (by with_reducible assumption)) | go_size))⟩


set_option maxRecDepth 100000 in
theorem oversNeeds_lifted (os : Os) (started : os.Started) (H : Type) (enc : TypeId × Value → H) :
    ReturnsInHanded {} Tryd.checked os 9 .any (fun w args => (Rows.oversNeedsSpec.pre enc Tryd.prog Tryd.f9 [] false w args ∧ laidMetH Tryd.prog laidA w) ∧ sizedMet enc Tryd.prog Tryd.f9 (OpenSpec.ofChange Rows.oversNeedsSpec) false w args)
      (Rows.oversNeedsSpec.post enc Tryd.prog Tryd.f9 false true false false) := by
  refine law_lift (C := Tryd.checked) (X := fun w _ => laidMetH Tryd.prog laidA w) (tb := 4) (fun _ _ _ hh h => h.of_heap hh) own started (by kernel_rfl) Tryd.func9 laidOut
    (by rw [Tryd.params9]; intro t ht; simp at ht; (try subst ht) <;> (try (rcases ht with rfl | rfl)) <;> exact ⟨by kernel_rfl, of_decide_eq_true (by kernel_rfl)⟩) rfl (by kernel_rfl) Tryd.underlying4
    (ChangeSpec.witness_shaped (enc := enc) (C := Tryd.checked) (os := os) (X := fun w _ => laidMetH Tryd.prog laidA w) false (World.doorLaid Tryd.prog 400 os) #[.int .i64 0, .int .i64 0, .int .i64 0] 8 rfl (World.shaped_of_RefB (by kernel_rfl) (by kernel_rfl)) (by kernel_rfl) (by kernel_rfl) (by kernel_rfl) (laidA_met os _)) ?_
  intro WW base args ds gs p hval hA hreach hL hS
  rw [Tryd.params9] at hA hval
  obtain ⟨v0, vs0, d0, ds0, p0, q0, hargs, rfl, rfl, h0, r0⟩ := trodAll_cons hA
  obtain ⟨v1, vs1, d1, ds1, p1, q1, rfl, rfl, rfl, h1, r1⟩ := trodAll_cons r0
  obtain ⟨v2, vs2, d2, ds2, p2, q2, rfl, rfl, rfl, h2, r2⟩ := trodAll_cons r1
  obtain ⟨rfl, rfl, rfl⟩ := trodAll_nil r2
  obtain rfl : args = #[v0, v1, v2] := by cases args; simp_all
  obtain ⟨a0, rfl, g0⟩ := open_int64 (hval 0 _ v0 rfl rfl) h0
  obtain ⟨a1, rfl, g1⟩ := open_int64 (hval 1 _ v1 rfl rfl) h1
  obtain ⟨a2, rfl, g2⟩ := open_int64 (hval 2 _ v2 rfl rfl) h2
  exact ⟨rfl, oversNeeds_walk a0 a1 a2 WW g0 g1 g2 (env_of_laid hL hS)⟩

theorem oversNeeds_holds : Rows.OversNeedsSaid :=
  OpenClaim.holds_of_wide 9 Tryd.f9 rfl rfl rfl rfl rfl rfl rfl ⟨rfl, rfl, rfl, rfl, rfl⟩ rfl rfl rfl rfl rfl (by kernel_rfl) Tryd.func9 (by kernel_rfl)
    (of_decide_eq_true (by kernel_rfl)) (by unfold Func.isWrapper; first | (rw [if_pos (by decide +kernel)]; kernel_rfl) | (rw [if_neg (by decide +kernel)]; exact ⟨rfl, rfl⟩))
    (fun os started H enc _ => oversNeeds_lifted os started H enc)

theorem oversNeeds_card : Rows.OversNeedsCardSaid :=
  Claim7.holds_tied_plain_at .later [] [.data, .data, .data, .sentinel, .sentinel] true Rows.oversNeedsCard.stood.harness Rows.oversNeedsCard.stood.looks
    oversNeeds_holds (fun _ h => by cases h) (by kernel_rfl) (fun _ h => by cases h) oversNeeds_row_tie rfl ⟨rfl, rfl⟩ (by kernel_rfl) rfl
    (fun f fn hf hfn => by
      obtain rfl : f = 9 := Option.some.inj ((show Tryd.prog.funcNamed "scorebook/scorebooklaw04.OversNeeds" = some 9 by kernel_rfl).symm.trans hf) |>.symm
      obtain rfl : fn = Tryd.f9 := (Option.some.inj (Tryd.func9.symm.trans hfn)).symm
      exact ⟨by kernel_rfl, fun j t ht => by
        rw [Tryd.params9] at ht
        have hm : t ∈ [3, 3, 3] := by simpa using Array.mem_of_getElem? ht
        have hall : ([3, 3, 3].all fun u => !Tryd.prog.wantsStandIn u) = true := by kernel_rfl
        exact (show Tryd.prog.wantsStandIn t = false by simpa using List.all_eq_true.1 hall t hm)⟩)
    (by kernel_rfl)
#print axioms oversNeeds_card

end Go.Proofs.YtnpnippgfkehaaaDoor
