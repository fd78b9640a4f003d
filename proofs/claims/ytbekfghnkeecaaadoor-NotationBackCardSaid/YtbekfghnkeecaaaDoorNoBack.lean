/- What layer 7's Print writes Parse reads back, and what Parse reads Print writes (NotationBack), for every delivery and every string. Conditions: the library's variables that the row lists are as the program's text lays them. -/
import Derived.Test.YtbekfghnkeecaaaDoorLiftN
set_option linter.unusedSimpArgs false
set_option linter.unusedVariables false
namespace Go.Proofs.YtbekfghnkeecaaaDoor
open Go.ChangeShapes Go.WideShapes Go.ChangeAt Go.RowKit Go.Joins

theorem ps_sym (d : Dl) (hw : Wf d) (h : chk d = 0) : psD (sym d) = d ∧ psE (sym d) = 0 := by
  have e := read_back goodP d hw h
  have h0 : psOk (sym d) := by unfold psOk; rw [show rdP (sym d) = d from e]; exact ⟨h, rfl⟩
  unfold psD psE
  rw [if_pos h0, if_pos h0]
  exact ⟨e, rfl⟩
set_option maxRecDepth 20000 in
set_option maxHeartbeats 4000000 in
theorem notationBack_walk (d : Dl) (s : ByteArray) (w : World) (hw : Wf d) (hs : s.size ≤ maxLen) :
    Calls Tryd.prog 5 #[DV d, .string s] w fun e w' => e = .returned (.bool true) ∧ Below w.heap.size w w' := by
  obtain ⟨l, rfl⟩ : ∃ l, s = str l := ⟨_, (str_of s).symm⟩
  have z := str_size l
  rw [z] at hs
  unfold maxLen at hs
  obtain ⟨m, hm⟩ : ∃ m, m = l.take 40 := ⟨_, rfl⟩
  have hx : Hid ((str l).extract 0 (min (l.length : Int) 40).toNat = str m) := Lib.hid (by rw [str_ext, hm, Nat.sub_zero, List.drop_zero]; congr 1; rw [List.take_eq_take_iff]; omega)
  have hm40 : m.length ≤ 40 := by rw [hm]; simp; omega
  have HA := Lib.hid awake_any
  have HP := Lib.hid (print_any d hw)
  have HC := Lib.hid (check_any d)
  have HS : Hid (chk d = 0 → ∀ w, Calls Tryd.prog 14 #[S (prL d)] w fun e w' => e = .returned (.tuple #[DV d, .int .i64 0]) ∧ Below w.heap.size w w') := Lib.hid (fun h w => by
    have e : prL d = sym d := by unfold prL; rw [if_pos h]
    rw [e]
    have h2 := parse_any (sym d) w (by have := sym_len d; omega)
    rw [(ps_sym d hw h).1, (ps_sym d hw h).2] at h2
    exact h2)
  have HM := Lib.hid (fun w => parse_any m w (by omega))
  have hps : (psE m = 4 ∧ psD m = zeroD) ∨ (psE m = 0 ∧ ∀ w, Calls Tryd.prog 10 #[DV (psD m)] w fun e w' => e = .returned (.tuple #[S m, .int .i64 0]) ∧ Below w.heap.size w w') := by
    by_cases h : psOk m
    · right
      have e1 : psD m = rdP m := by unfold psD; rw [if_pos h]
      refine ⟨by unfold psE; rw [if_pos h], fun w => ?_⟩
      rw [e1]
      have h2 := print_any (rdP m) (wf_rdP m) w
      have e2 : prL (rdP m) = m := by unfold prL; rw [if_pos h.1]; exact h.2
      rw [e2, h.1] at h2
      exact h2
    · left; exact ⟨by unfold psE; rw [if_neg h], by unfold psD; rw [if_neg h]⟩
  have HQ := Lib.hid hps
  have hrow := Lib.hid (box_row d w)
  clear hps hm hw
  generalize psD m = D at *
  generalize psE m = E at *
  generalize prL d = P at *
  generalize chk d = C at *
  obtain ⟨t, s, r, sh, b, x, h, v, f, g, u, z0⟩ := d
  obtain ⟨t2, s2, r2, sh2, b2, x2, h2, v2, f2, g2, u2, z2⟩ := D
  have kC : (C != C) = false := by simp
  go_enter Tryd.func5, Tryd.ntmps5
  go_wp2_with fail
  refine (HA.out _).mono ?_
  rintro e w1 ⟨rfl, hb1⟩
  have hr1 := hrow.out.below hb1 (by go_size)
  have hB1 : Below w.heap.size w w1 := below_step (Below.alloc (Below.refl _ w) (Nat.le_refl _) _) (by go_size) hb1
  clear hb1
  have a0 : w1.cell? ⟨w.heap.size, 0, none⟩ = some (.int .u8 t) := hr1.cell 0
  have a1 : w1.cell? ⟨w.heap.size, 1, none⟩ = some (.int .u8 s) := hr1.cell 1
  have a2 : w1.cell? ⟨w.heap.size, 2, none⟩ = some (.int .i64 r) := hr1.cell 2
  have a3 : w1.cell? ⟨w.heap.size, 3, none⟩ = some (.int .i64 sh) := hr1.cell 3
  have a4 : w1.cell? ⟨w.heap.size, 4, none⟩ = some (.int .i64 b) := hr1.cell 4
  have a5 : w1.cell? ⟨w.heap.size, 5, none⟩ = some (.bool x) := hr1.cell 5
  have a6 : w1.cell? ⟨w.heap.size, 6, none⟩ = some (.int .u8 h) := hr1.cell 6
  have a7 : w1.cell? ⟨w.heap.size, 7, none⟩ = some (.int .i64 v) := hr1.cell 7
  have a8 : w1.cell? ⟨w.heap.size, 8, none⟩ = some (.int .i64 f) := hr1.cell 8
  have a9 : w1.cell? ⟨w.heap.size, 9, none⟩ = some (.int .i64 g) := hr1.cell 9
  have a10 : w1.cell? ⟨w.heap.size, 10, none⟩ = some (.bool u) := hr1.cell 10
  have a11 : w1.cell? ⟨w.heap.size, 11, none⟩ = some (.int .i64 z0) := hr1.cell 11
  go_wp2_with fail
  refine (HP.out _).mono ?_
  rintro e w2 ⟨rfl, hb2⟩
  have hr2 := hr1.below hb2 hr1.lt
  have hB2 := below_step hB1 hB1.size hb2
  clear hb2 a0 a1 a2 a3 a4 a5 a6 a7 a8 a9 a10 a11
  have a0 : w2.cell? ⟨w.heap.size, 0, none⟩ = some (.int .u8 t) := hr2.cell 0
  have a1 : w2.cell? ⟨w.heap.size, 1, none⟩ = some (.int .u8 s) := hr2.cell 1
  have a2 : w2.cell? ⟨w.heap.size, 2, none⟩ = some (.int .i64 r) := hr2.cell 2
  have a3 : w2.cell? ⟨w.heap.size, 3, none⟩ = some (.int .i64 sh) := hr2.cell 3
  have a4 : w2.cell? ⟨w.heap.size, 4, none⟩ = some (.int .i64 b) := hr2.cell 4
  have a5 : w2.cell? ⟨w.heap.size, 5, none⟩ = some (.bool x) := hr2.cell 5
  have a6 : w2.cell? ⟨w.heap.size, 6, none⟩ = some (.int .u8 h) := hr2.cell 6
  have a7 : w2.cell? ⟨w.heap.size, 7, none⟩ = some (.int .i64 v) := hr2.cell 7
  have a8 : w2.cell? ⟨w.heap.size, 8, none⟩ = some (.int .i64 f) := hr2.cell 8
  have a9 : w2.cell? ⟨w.heap.size, 9, none⟩ = some (.int .i64 g) := hr2.cell 9
  have a10 : w2.cell? ⟨w.heap.size, 10, none⟩ = some (.bool u) := hr2.cell 10
  have a11 : w2.cell? ⟨w.heap.size, 11, none⟩ = some (.int .i64 z0) := hr2.cell 11
  go_wp2_with fail
  refine (HC.out _).mono ?_
  rintro e w3 ⟨rfl, hb3⟩
  have hr3 := hr2.below hb3 hr2.lt
  have hB3 := below_step hB2 hB2.size hb3
  clear hb3 hB1 hB2 hr1 hr2 a0 a1 a2 a3 a4 a5 a6 a7 a8 a9 a10 a11
  have a0 : w3.cell? ⟨w.heap.size, 0, none⟩ = some (.int .u8 t) := hr3.cell 0
  have a1 : w3.cell? ⟨w.heap.size, 1, none⟩ = some (.int .u8 s) := hr3.cell 1
  have a2 : w3.cell? ⟨w.heap.size, 2, none⟩ = some (.int .i64 r) := hr3.cell 2
  have a3 : w3.cell? ⟨w.heap.size, 3, none⟩ = some (.int .i64 sh) := hr3.cell 3
  have a4 : w3.cell? ⟨w.heap.size, 4, none⟩ = some (.int .i64 b) := hr3.cell 4
  have a5 : w3.cell? ⟨w.heap.size, 5, none⟩ = some (.bool x) := hr3.cell 5
  have a6 : w3.cell? ⟨w.heap.size, 6, none⟩ = some (.int .u8 h) := hr3.cell 6
  have a7 : w3.cell? ⟨w.heap.size, 7, none⟩ = some (.int .i64 v) := hr3.cell 7
  have a8 : w3.cell? ⟨w.heap.size, 8, none⟩ = some (.int .i64 f) := hr3.cell 8
  have a9 : w3.cell? ⟨w.heap.size, 9, none⟩ = some (.int .i64 g) := hr3.cell 9
  have a10 : w3.cell? ⟨w.heap.size, 10, none⟩ = some (.bool u) := hr3.cell 10
  have a11 : w3.cell? ⟨w.heap.size, 11, none⟩ = some (.int .i64 z0) := hr3.cell 11
  go_upto_if 25 with fail
  go_cut [6] (fun v6 wx => Below w.heap.size w wx)
  case first =>
    by_cases hC : C = 0
    · subst hC
      have HS2 := Lib.hid (HS.out rfl)
      clear HS a0 a1 a2 a3 a4 a5 a6 a7 a8 a9 a10 a11
      go_wp2_with fail
      refine (HS2.out _).mono ?_
      rintro e w4 ⟨rfl, hb4⟩
      have hr4 := hr3.below hb4 hr3.lt
      have hl4 := hr4.lt
      have hB4 := below_step hB3 hB3.size hb4
      clear hb4
      have a0 : w4.cell? ⟨w.heap.size, 0, none⟩ = some (.int .u8 t) := hr4.cell 0
      have a1 : w4.cell? ⟨w.heap.size, 1, none⟩ = some (.int .u8 s) := hr4.cell 1
      have a2 : w4.cell? ⟨w.heap.size, 2, none⟩ = some (.int .i64 r) := hr4.cell 2
      have a3 : w4.cell? ⟨w.heap.size, 3, none⟩ = some (.int .i64 sh) := hr4.cell 3
      have a4 : w4.cell? ⟨w.heap.size, 4, none⟩ = some (.int .i64 b) := hr4.cell 4
      have a5 : w4.cell? ⟨w.heap.size, 5, none⟩ = some (.bool x) := hr4.cell 5
      have a6 : w4.cell? ⟨w.heap.size, 6, none⟩ = some (.int .u8 h) := hr4.cell 6
      have a7 : w4.cell? ⟨w.heap.size, 7, none⟩ = some (.int .i64 v) := hr4.cell 7
      have a8 : w4.cell? ⟨w.heap.size, 8, none⟩ = some (.int .i64 f) := hr4.cell 8
      have a9 : w4.cell? ⟨w.heap.size, 9, none⟩ = some (.int .i64 g) := hr4.cell 9
      have a10 : w4.cell? ⟨w.heap.size, 10, none⟩ = some (.bool u) := hr4.cell 10
      have a11 : w4.cell? ⟨w.heap.size, 11, none⟩ = some (.int .i64 z0) := hr4.cell 11
      go_wp2
      go_meet
      case rel => exact Below.alloc hB4 (by omega) _
    · have kC0 : (C == 0) = false := by simpa using hC
      go_wp2
      go_meet
      case rel => exact hB3
  case rest =>
  clear HS hB3 hr3 a0 a1 a2 a3 a4 a5 a6 a7 a8 a9 a10 a11 HP HC hrow kC
  have hBc := hcut
  clear hcut
  go_wp2_with fail
  rw [hx.out]
  refine (HM.out _).mono ?_
  rintro e w5 ⟨rfl, hb5⟩
  have hB5 := below_step hBc hBc.size hb5
  have hz5 := hB5.size
  clear hb5 hBc
  rcases HQ.out with ⟨rfl, hD⟩ | ⟨rfl, HPm⟩
  · unfold zeroD at hD
    injection hD with e0 e1 e2 e3 e4 e5 e6 e7 e8 e9 e10 e11
    subst e0 e1 e2 e3 e4 e5 e6 e7 e8 e9 e10 e11
    clear HQ HM
    go_wp2
    go_ret
    exact ⟨rfl, Below.alloc hB5 (by omega) _⟩
  · have HPm2 := Lib.hid HPm
    clear HQ HM HPm
    go_wp2_with fail
    refine (HPm2.out _).mono ?_
    rintro e w6 ⟨rfl, hb6⟩
    have hB6 := below_step (Below.alloc hB5 (by omega) _) (by simp; omega) hb6
    clear hb6
    go_wp2
    go_ret
    exact ⟨by simp, hB6⟩

set_option maxRecDepth 100000 in
theorem notationBack_lifted (os : Os) (started : os.Started) (H : Type) (enc : TypeId × Value → H) :
    ReturnsInHanded {} Tryd.checked os 5 .any (fun w args => (Rows.notationBackSpec.pre enc Tryd.prog Tryd.f5 [] false w args ∧ laidMetH Tryd.prog laidA w) ∧ sizedMet enc Tryd.prog Tryd.f5 (OpenSpec.ofChange Rows.notationBackSpec) false w args)
      (Rows.notationBackSpec.post enc Tryd.prog Tryd.f5 false true false false) := by
  refine law_lift (C := Tryd.checked) (X := fun w _ => laidMetH Tryd.prog laidA w) (tb := 4) (fun _ _ _ hh h => h.of_heap hh) own started (by kernel_rfl) Tryd.func5 laidOut
    (by rw [Tryd.params5]; intro t ht; simp at ht; (try subst ht) <;> (try (rcases ht with rfl | rfl)) <;> exact ⟨by kernel_rfl, of_decide_eq_true (by kernel_rfl)⟩) rfl (by kernel_rfl) Tryd.underlying4
    (ChangeSpec.witness_shaped (enc := enc) (C := Tryd.checked) (os := os) (X := fun w _ => laidMetH Tryd.prog laidA w) false (World.doorLaid Tryd.prog 400 os) #[.agg #[.int .u8 0, .int .u8 0, .int .i64 0, .int .i64 0, .int .i64 0, .bool false, .int .u8 0, .int .i64 0, .int .i64 0, .int .i64 0, .bool false, .int .i64 0], .string ⟨#[]⟩] 8 rfl (World.shaped_of_RefB (by kernel_rfl) (by kernel_rfl)) (by kernel_rfl) (by kernel_rfl) (by kernel_rfl) (laidA_met os _)) ?_
  intro WW base args ds gs p hval hA hreach hL hS
  rw [Tryd.params5] at hA hval
  obtain ⟨v0, vs0, d0, ds0, p0, q0, hargs, rfl, rfl, h0, r0⟩ := trodAll_cons hA
  obtain ⟨v1, vs1, d1, ds1, p1, q1, rfl, rfl, rfl, h1, r1⟩ := trodAll_cons r0
  obtain ⟨rfl, rfl, rfl⟩ := trodAll_nil r1
  obtain rfl : args = #[v0, v1] := by cases args; simp_all
  obtain ⟨a0, rfl, g0⟩ := open_del (hval 0 _ v0 rfl rfl) h0
  obtain ⟨a1, rfl, g1⟩ := open_str (hval 1 _ v1 rfl rfl) h1
  exact ⟨rfl, notationBack_walk a0 a1 WW g0 g1⟩

theorem notationBack_holds : Rows.NotationBackSaid :=
  OpenClaim.holds_of_wide 5 Tryd.f5 rfl rfl rfl rfl rfl rfl rfl ⟨rfl, rfl, rfl, rfl, rfl⟩ rfl rfl rfl rfl rfl (by kernel_rfl) Tryd.func5 (by kernel_rfl)
    (of_decide_eq_true (by kernel_rfl)) (by unfold Func.isWrapper; first | (rw [if_pos (by decide +kernel)]; kernel_rfl) | (rw [if_neg (by decide +kernel)]; exact ⟨rfl, rfl⟩))
    (fun os started H enc _ => notationBack_lifted os started H enc)

theorem notationBack_card : Rows.NotationBackCardSaid :=
  Claim7.holds_tied_plain_at .later [] [.data, .data, .data] true Rows.notationBackCard.stood.harness Rows.notationBackCard.stood.looks
    notationBack_holds (fun _ h => by cases h) (by kernel_rfl) (fun _ h => by cases h) notationBack_row_tie rfl ⟨rfl, rfl⟩ (by kernel_rfl) rfl
    (fun f fn hf hfn => by
      obtain rfl : f = 5 := Option.some.inj ((show Tryd.prog.funcNamed "scorebook/scorebooklaw07.NotationBack" = some 5 by kernel_rfl).symm.trans hf) |>.symm
      obtain rfl : fn = Tryd.f5 := (Option.some.inj (Tryd.func5.symm.trans hfn)).symm
      exact ⟨by kernel_rfl, fun j t ht => by
        rw [Tryd.params5] at ht
        have hm : t ∈ [26, 9] := by simpa using Array.mem_of_getElem? ht
        have hall : ([26, 9].all fun u => !Tryd.prog.wantsStandIn u) = true := by kernel_rfl
        exact (show Tryd.prog.wantsStandIn t = false by simpa using List.all_eq_true.1 hall t hm)⟩)
    (by kernel_rfl)
#print axioms notationBack_card

end Go.Proofs.YtbekfghnkeecaaaDoor
