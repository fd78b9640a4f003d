/- Layer 7's Parse gives what the reference gives (NotationParses), for every string. Conditions: the library's variables that the row lists are as the program's text lays them. -/
import Derived.Test.YtbekfghnkeecaaaDoorLiftN
import Derived.Test.YtbekfghnkeecaaaDoorNoX
set_option linter.unusedSimpArgs false
set_option linter.unusedVariables false
namespace Go.Proofs.YtbekfghnkeecaaaDoor
open Go.ChangeShapes Go.WideShapes Go.ChangeAt Go.RowKit Go.Joins

set_option maxRecDepth 20000 in
set_option maxHeartbeats 4000000 in
theorem notationParses_walk (s : ByteArray) (w : World) (hs : s.size ≤ maxLen) :
    Calls Tryd.prog 4 #[.string s] w fun e w' => e = .returned (.bool true) ∧ Below w.heap.size w w' := by
  obtain ⟨l, rfl⟩ : ∃ l, s = str l := ⟨_, (str_of s).symm⟩
  have z := str_size l
  rw [z] at hs
  unfold maxLen at hs
  obtain ⟨m, hm⟩ : ∃ m, m = l.take 40 := ⟨_, rfl⟩
  have hx : Hid ((str l).extract 0 (min (l.length : Int) 40).toNat = str m) := Lib.hid (by rw [str_ext, hm, Nat.sub_zero, List.drop_zero]; congr 1; rw [List.take_eq_take_iff]; omega)
  have hm40 : m.length ≤ 40 := by rw [hm]; simp; omega
  have HA := Lib.hid awake_any
  have HM := Lib.hid (fun w => parse_any m w (by omega))
  have HR : Hid (∀ w, Calls Tryd.prog 15 #[S m] w fun e w' => e = .returned (.tuple #[DV (psD m), .int .i64 (psE m)]) ∧ Below w.heap.size w w') := Lib.hid (fun w => by
    have h := rparse_any m w (by omega)
    rw [(ps_eq m).1, (ps_eq m).2] at h
    exact h)
  clear hm
  generalize psD m = D at *
  generalize psE m = E at *
  obtain ⟨t, s, r, sh, b, x, h, v, f, g, u, z0⟩ := D
  have kE : (E == E) = true := by simp
  go_enter Tryd.func4, Tryd.ntmps4
  go_wp2_with fail
  refine (HA.out _).mono ?_
  rintro e w1 ⟨rfl, hb1⟩
  have hz1 := hb1.size
  go_wp2_with fail
  rw [hx.out]
  refine (HM.out _).mono ?_
  rintro e w2 ⟨rfl, hb2⟩
  have hB2 := below_step hb1 hz1 hb2
  have hz2 := hB2.size
  have hr2 := box_row ⟨t, s, r, sh, b, x, h, v, f, g, u, z0⟩ w2
  clear hb1 hb2
  go_wp2_with fail
  refine (HR.out _).mono ?_
  rintro e w3 ⟨rfl, hb3⟩
  have hr3 := hr2.below hb3 hr2.lt
  have hl3 := hr3.lt
  have hB3 : Below w.heap.size w w3 := below_step (Below.alloc hB2 hz2 _) (by simp; omega) hb3
  have hz3 := hB3.size
  have a0 : w3.cell? ⟨w2.heap.size, 0, none⟩ = some (.int .u8 t) := hr3.cell 0
  have a1 : w3.cell? ⟨w2.heap.size, 1, none⟩ = some (.int .u8 s) := hr3.cell 1
  have a2 : w3.cell? ⟨w2.heap.size, 2, none⟩ = some (.int .i64 r) := hr3.cell 2
  have a3 : w3.cell? ⟨w2.heap.size, 3, none⟩ = some (.int .i64 sh) := hr3.cell 3
  have a4 : w3.cell? ⟨w2.heap.size, 4, none⟩ = some (.int .i64 b) := hr3.cell 4
  have a5 : w3.cell? ⟨w2.heap.size, 5, none⟩ = some (.bool x) := hr3.cell 5
  have a6 : w3.cell? ⟨w2.heap.size, 6, none⟩ = some (.int .u8 h) := hr3.cell 6
  have a7 : w3.cell? ⟨w2.heap.size, 7, none⟩ = some (.int .i64 v) := hr3.cell 7
  have a8 : w3.cell? ⟨w2.heap.size, 8, none⟩ = some (.int .i64 f) := hr3.cell 8
  have a9 : w3.cell? ⟨w2.heap.size, 9, none⟩ = some (.int .i64 g) := hr3.cell 9
  have a10 : w3.cell? ⟨w2.heap.size, 10, none⟩ = some (.bool u) := hr3.cell 10
  have a11 : w3.cell? ⟨w2.heap.size, 11, none⟩ = some (.int .i64 z0) := hr3.cell 11
  clear hr2 hr3 hb3
  go_wp2
  go_ret
  exact ⟨by simp, Below.alloc hB3 hz3 _⟩

set_option maxRecDepth 100000 in
theorem notationParses_lifted (os : Os) (started : os.Started) (H : Type) (enc : TypeId × Value → H) :
    ReturnsInHanded {} Tryd.checked os 4 .any (fun w args => (Rows.notationParsesSpec.pre enc Tryd.prog Tryd.f4 [] false w args ∧ laidMetH Tryd.prog laidA w) ∧ sizedMet enc Tryd.prog Tryd.f4 (OpenSpec.ofChange Rows.notationParsesSpec) false w args)
      (Rows.notationParsesSpec.post enc Tryd.prog Tryd.f4 false true false false) := by
  refine law_lift (C := Tryd.checked) (X := fun w _ => laidMetH Tryd.prog laidA w) (tb := 4) (fun _ _ _ hh h => h.of_heap hh) own started (by kernel_rfl) Tryd.func4 laidOut
    (by rw [Tryd.params4]; intro t ht; simp at ht; (try subst ht) <;> (try (rcases ht with rfl | rfl)) <;> exact ⟨by kernel_rfl, of_decide_eq_true (by kernel_rfl)⟩) rfl (by kernel_rfl) Tryd.underlying4
    (ChangeSpec.witness_shaped (enc := enc) (C := Tryd.checked) (os := os) (X := fun w _ => laidMetH Tryd.prog laidA w) false (World.doorLaid Tryd.prog 400 os) #[.string ⟨#[]⟩] 8 rfl (World.shaped_of_RefB (by kernel_rfl) (by kernel_rfl)) (by kernel_rfl) (by kernel_rfl) (by kernel_rfl) (laidA_met os _)) ?_
  intro WW base args ds gs p hval hA hreach hL hS
  rw [Tryd.params4] at hA hval
  obtain ⟨v0, vs0, d0, ds0, p0, q0, hargs, rfl, rfl, h0, r0⟩ := trodAll_cons hA
  obtain ⟨rfl, rfl, rfl⟩ := trodAll_nil r0
  obtain rfl : args = #[v0] := by cases args; simp_all
  obtain ⟨a0, rfl, g0⟩ := open_str (hval 0 _ v0 rfl rfl) h0
  exact ⟨rfl, notationParses_walk a0 WW g0⟩

theorem notationParses_holds : Rows.NotationParsesSaid :=
  OpenClaim.holds_of_wide 4 Tryd.f4 rfl rfl rfl rfl rfl rfl rfl ⟨rfl, rfl, rfl, rfl, rfl⟩ rfl rfl rfl rfl rfl (by kernel_rfl) Tryd.func4 (by kernel_rfl)
    (of_decide_eq_true (by kernel_rfl)) (by unfold Func.isWrapper; first | (rw [if_pos (by decide +kernel)]; kernel_rfl) | (rw [if_neg (by decide +kernel)]; exact ⟨rfl, rfl⟩))
    (fun os started H enc _ => notationParses_lifted os started H enc)

theorem notationParses_card : Rows.NotationParsesCardSaid :=
  Claim7.holds_tied_plain_at .later [] [.data, .data, .data] true Rows.notationParsesCard.stood.harness Rows.notationParsesCard.stood.looks
    notationParses_holds (fun _ h => by cases h) (by kernel_rfl) (fun _ h => by cases h) notationParses_row_tie rfl ⟨rfl, rfl⟩ (by kernel_rfl) rfl
    (fun f fn hf hfn => by
      obtain rfl : f = 4 := Option.some.inj ((show Tryd.prog.funcNamed "scorebook/scorebooklaw07.NotationParses" = some 4 by kernel_rfl).symm.trans hf) |>.symm
      obtain rfl : fn = Tryd.f4 := (Option.some.inj (Tryd.func4.symm.trans hfn)).symm
      exact ⟨by kernel_rfl, fun j t ht => by
        rw [Tryd.params4] at ht
        have hm : t ∈ [9] := by simpa using Array.mem_of_getElem? ht
        have hall : ([9].all fun u => !Tryd.prog.wantsStandIn u) = true := by kernel_rfl
        exact (show Tryd.prog.wantsStandIn t = false by simpa using List.all_eq_true.1 hall t hm)⟩)
    (by kernel_rfl)
#print axioms notationParses_card

end Go.Proofs.YtbekfghnkeecaaaDoor
