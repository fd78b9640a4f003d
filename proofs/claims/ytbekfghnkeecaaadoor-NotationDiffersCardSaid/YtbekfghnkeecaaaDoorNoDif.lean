/- Two deliveries that layer 7's Print accepts have the same symbol only if they are equal (NotationDiffers), for every two deliveries. Conditions: the library's variables that the row lists are as the program's text lays them. -/
import Derived.Test.YtbekfghnkeecaaaDoorLiftN
set_option linter.unusedSimpArgs false
set_option linter.unusedVariables false
namespace Go.Proofs.YtbekfghnkeecaaaDoor
open Go.ChangeShapes Go.WideShapes Go.ChangeAt Go.RowKit Go.Joins

theorem sym_inj (a b : Dl) (ha : Wf a) (hb : Wf b) (h1 : chk a = 0) (h2 : chk b = 0) (h : sym a = sym b) : a = b := by
  have e1 := read_back goodP a ha h1
  have e2 := read_back goodP b hb h2
  rw [← e1, ← e2, h]
set_option maxRecDepth 20000 in
set_option maxHeartbeats 4000000 in
theorem notationDiffers_walk (a c : Dl) (w : World) (ha : Wf a) (hb : Wf c) :
    Calls Tryd.prog 6 #[DV a, DV c] w fun e w' => e = .returned (.bool true) ∧ Below w.heap.size w w' := by
  have HA := Lib.hid awake_any
  have HP := Lib.hid (print_any a ha)
  have HQ := Lib.hid (print_any c hb)
  have hc : (chk a != 0) = true ∨ ((chk a != 0) = false ∧ (chk c != 0) = true) ∨ ((chk a != 0) = false ∧ (chk c != 0) = false ∧ ((((str (prL a)).toList == (str (prL c)).toList) = true ∧ a = c) ∨ (((str (prL a)).toList == (str (prL c)).toList) = false ∧ a ≠ c))) := by
    by_cases h1 : chk a = 0
    · by_cases h2 : chk c = 0
      · right; right
        refine ⟨by simpa using h1, by simpa using h2, ?_⟩
        have p1 : prL a = sym a := by unfold prL; rw [if_pos h1]
        have p2 : prL c = sym c := by unfold prL; rw [if_pos h2]
        rw [str_toList, str_toList, p1, p2]
        by_cases h3 : a = c
        · left; exact ⟨by rw [h3]; simp, h3⟩
        · right; exact ⟨by simpa using fun h => h3 (sym_inj a c ha hb h1 h2 h), h3⟩
      · right; left; exact ⟨by simpa using h1, by simpa using h2⟩
    · left; simpa using h1
  have hrow := Lib.hid (box_row a w)
  generalize prL a = P at *
  generalize prL c = Q at *
  generalize chk a = C at *
  generalize chk c = E at *
  clear ha hb
  have HC := Lib.hid hc
  clear hc
  obtain ⟨t, s, r, sh, b, x, h, v, f, g, u, z⟩ := a
  obtain ⟨t2, s2, r2, sh2, b2, x2, h2, v2, f2, g2, u2, z2⟩ := c
  have hrowa := Lib.hid (hrow.out.alloc (.cells #[.int .u8 t2, .int .u8 s2, .int .i64 r2, .int .i64 sh2, .int .i64 b2, .bool x2, .int .u8 h2, .int .i64 v2, .int .i64 f2, .int .i64 g2, .bool u2, .int .i64 z2] DT))
  have hrowb : Hid (Row ((w.alloc (.cells #[.int .u8 t, .int .u8 s, .int .i64 r, .int .i64 sh, .int .i64 b, .bool x, .int .u8 h, .int .i64 v, .int .i64 f, .int .i64 g, .bool u, .int .i64 z] DT)).alloc (.cells #[.int .u8 t2, .int .u8 s2, .int .i64 r2, .int .i64 sh2, .int .i64 b2, .bool x2, .int .u8 h2, .int .i64 v2, .int .i64 f2, .int .i64 g2, .bool u2, .int .i64 z2] DT)) (w.heap.size + 1) DT (DC ⟨t2, s2, r2, sh2, b2, x2, h2, v2, f2, g2, u2, z2⟩)) := Lib.hid (by have h := box_row ⟨t2, s2, r2, sh2, b2, x2, h2, v2, f2, g2, u2, z2⟩ (w.alloc (.cells #[.int .u8 t, .int .u8 s, .int .i64 r, .int .i64 sh, .int .i64 b, .bool x, .int .u8 h, .int .i64 v, .int .i64 f, .int .i64 g, .bool u, .int .i64 z] DT)); rw [World.size_alloc] at h; exact h)
  clear hrow
  go_enter Tryd.func6, Tryd.ntmps6
  go_wp2_with fail
  refine (HA.out _).mono ?_
  rintro e w1 ⟨rfl, hb1⟩
  have ra := hrowa.out.below hb1 (by go_size)
  have rb := hrowb.out.below hb1 (by go_size)
  have hB1 : Below w.heap.size w w1 := below_step (Below.alloc (Below.alloc (Below.refl _ w) (Nat.le_refl _) _) (by simp) _) (by go_size) hb1
  clear hb1 hrowa hrowb
  have a0 : w1.cell? ⟨w.heap.size, 0, none⟩ = some (.int .u8 t) := ra.cell 0
  have a1 : w1.cell? ⟨w.heap.size, 1, none⟩ = some (.int .u8 s) := ra.cell 1
  have a2 : w1.cell? ⟨w.heap.size, 2, none⟩ = some (.int .i64 r) := ra.cell 2
  have a3 : w1.cell? ⟨w.heap.size, 3, none⟩ = some (.int .i64 sh) := ra.cell 3
  have a4 : w1.cell? ⟨w.heap.size, 4, none⟩ = some (.int .i64 b) := ra.cell 4
  have a5 : w1.cell? ⟨w.heap.size, 5, none⟩ = some (.bool x) := ra.cell 5
  have a6 : w1.cell? ⟨w.heap.size, 6, none⟩ = some (.int .u8 h) := ra.cell 6
  have a7 : w1.cell? ⟨w.heap.size, 7, none⟩ = some (.int .i64 v) := ra.cell 7
  have a8 : w1.cell? ⟨w.heap.size, 8, none⟩ = some (.int .i64 f) := ra.cell 8
  have a9 : w1.cell? ⟨w.heap.size, 9, none⟩ = some (.int .i64 g) := ra.cell 9
  have a10 : w1.cell? ⟨w.heap.size, 10, none⟩ = some (.bool u) := ra.cell 10
  have a11 : w1.cell? ⟨w.heap.size, 11, none⟩ = some (.int .i64 z) := ra.cell 11
  go_wp2_with fail
  refine (HP.out _).mono ?_
  rintro e w2 ⟨rfl, hb2⟩
  have ra2 := ra.below hb2 ra.lt
  have rb2 := rb.below hb2 rb.lt
  have hB2 := below_step hB1 hB1.size hb2
  clear hb2 hB1 ra rb a0 a1 a2 a3 a4 a5 a6 a7 a8 a9 a10 a11
  have c0 : w2.cell? ⟨w.heap.size + 1, 0, none⟩ = some (.int .u8 t2) := rb2.cell 0
  have c1 : w2.cell? ⟨w.heap.size + 1, 1, none⟩ = some (.int .u8 s2) := rb2.cell 1
  have c2 : w2.cell? ⟨w.heap.size + 1, 2, none⟩ = some (.int .i64 r2) := rb2.cell 2
  have c3 : w2.cell? ⟨w.heap.size + 1, 3, none⟩ = some (.int .i64 sh2) := rb2.cell 3
  have c4 : w2.cell? ⟨w.heap.size + 1, 4, none⟩ = some (.int .i64 b2) := rb2.cell 4
  have c5 : w2.cell? ⟨w.heap.size + 1, 5, none⟩ = some (.bool x2) := rb2.cell 5
  have c6 : w2.cell? ⟨w.heap.size + 1, 6, none⟩ = some (.int .u8 h2) := rb2.cell 6
  have c7 : w2.cell? ⟨w.heap.size + 1, 7, none⟩ = some (.int .i64 v2) := rb2.cell 7
  have c8 : w2.cell? ⟨w.heap.size + 1, 8, none⟩ = some (.int .i64 f2) := rb2.cell 8
  have c9 : w2.cell? ⟨w.heap.size + 1, 9, none⟩ = some (.int .i64 g2) := rb2.cell 9
  have c10 : w2.cell? ⟨w.heap.size + 1, 10, none⟩ = some (.bool u2) := rb2.cell 10
  have c11 : w2.cell? ⟨w.heap.size + 1, 11, none⟩ = some (.int .i64 z2) := rb2.cell 11
  go_wp2_with fail
  refine (HQ.out _).mono ?_
  rintro e w3 ⟨rfl, hb3⟩
  have ra3 := ra2.below hb3 ra2.lt
  have rb3 := rb2.below hb3 rb2.lt
  have hB3 := below_step hB2 hB2.size hb3
  clear hb3 hB2 ra2 rb2 c0 c1 c2 c3 c4 c5 c6 c7 c8 c9 c10 c11
  have a0 : w3.cell? ⟨w.heap.size, 0, none⟩ = some (.int .u8 t) := ra3.cell 0
  have a1 : w3.cell? ⟨w.heap.size, 1, none⟩ = some (.int .u8 s) := ra3.cell 1
  have a2 : w3.cell? ⟨w.heap.size, 2, none⟩ = some (.int .i64 r) := ra3.cell 2
  have a3 : w3.cell? ⟨w.heap.size, 3, none⟩ = some (.int .i64 sh) := ra3.cell 3
  have a4 : w3.cell? ⟨w.heap.size, 4, none⟩ = some (.int .i64 b) := ra3.cell 4
  have a5 : w3.cell? ⟨w.heap.size, 5, none⟩ = some (.bool x) := ra3.cell 5
  have a6 : w3.cell? ⟨w.heap.size, 6, none⟩ = some (.int .u8 h) := ra3.cell 6
  have a7 : w3.cell? ⟨w.heap.size, 7, none⟩ = some (.int .i64 v) := ra3.cell 7
  have a8 : w3.cell? ⟨w.heap.size, 8, none⟩ = some (.int .i64 f) := ra3.cell 8
  have a9 : w3.cell? ⟨w.heap.size, 9, none⟩ = some (.int .i64 g) := ra3.cell 9
  have a10 : w3.cell? ⟨w.heap.size, 10, none⟩ = some (.bool u) := ra3.cell 10
  have a11 : w3.cell? ⟨w.heap.size, 11, none⟩ = some (.int .i64 z) := ra3.cell 11
  have c0 : w3.cell? ⟨w.heap.size + 1, 0, none⟩ = some (.int .u8 t2) := rb3.cell 0
  have c1 : w3.cell? ⟨w.heap.size + 1, 1, none⟩ = some (.int .u8 s2) := rb3.cell 1
  have c2 : w3.cell? ⟨w.heap.size + 1, 2, none⟩ = some (.int .i64 r2) := rb3.cell 2
  have c3 : w3.cell? ⟨w.heap.size + 1, 3, none⟩ = some (.int .i64 sh2) := rb3.cell 3
  have c4 : w3.cell? ⟨w.heap.size + 1, 4, none⟩ = some (.int .i64 b2) := rb3.cell 4
  have c5 : w3.cell? ⟨w.heap.size + 1, 5, none⟩ = some (.bool x2) := rb3.cell 5
  have c6 : w3.cell? ⟨w.heap.size + 1, 6, none⟩ = some (.int .u8 h2) := rb3.cell 6
  have c7 : w3.cell? ⟨w.heap.size + 1, 7, none⟩ = some (.int .i64 v2) := rb3.cell 7
  have c8 : w3.cell? ⟨w.heap.size + 1, 8, none⟩ = some (.int .i64 f2) := rb3.cell 8
  have c9 : w3.cell? ⟨w.heap.size + 1, 9, none⟩ = some (.int .i64 g2) := rb3.cell 9
  have c10 : w3.cell? ⟨w.heap.size + 1, 10, none⟩ = some (.bool u2) := rb3.cell 10
  have c11 : w3.cell? ⟨w.heap.size + 1, 11, none⟩ = some (.int .i64 z2) := rb3.cell 11
  rcases HC.out with h1 | ⟨h1, h2⟩ | ⟨h1, h2, ⟨h3, h4⟩ | ⟨h3, h4⟩⟩
  · go_wp2
    go_ret
    exact ⟨rfl, hB3⟩
  · go_wp2
    go_ret
    exact ⟨rfl, hB3⟩
  · injection h4 with e0 e1 e2 e3 e4 e5 e6 e7 e8 e9 e10 e11
    subst e0 e1 e2 e3 e4 e5 e6 e7 e8 e9 e10 e11
    go_wp2
    go_ret
    exact ⟨by simp, hB3⟩
  · have H4 := Lib.hid h4
    clear h4
    go_wp2
    all_goals
      first
        | (go_ret; with_reducible exact ⟨rfl, hB3⟩)
        | (go_ret; exact ⟨rfl, hB3⟩)
        | (exfalso; exact H4.out (by congr))

set_option maxRecDepth 100000 in
theorem notationDiffers_lifted (os : Os) (started : os.Started) (H : Type) (enc : TypeId × Value → H) :
    ReturnsInHanded {} Tryd.checked os 6 .any (fun w args => (Rows.notationDiffersSpec.pre enc Tryd.prog Tryd.f6 [] false w args ∧ laidMetH Tryd.prog laidA w) ∧ sizedMet enc Tryd.prog Tryd.f6 (OpenSpec.ofChange Rows.notationDiffersSpec) false w args)
      (Rows.notationDiffersSpec.post enc Tryd.prog Tryd.f6 false true false false) := by
  refine law_lift (C := Tryd.checked) (X := fun w _ => laidMetH Tryd.prog laidA w) (tb := 4) (fun _ _ _ hh h => h.of_heap hh) own started (by kernel_rfl) Tryd.func6 laidOut
    (by rw [Tryd.params6]; intro t ht; simp at ht; (try subst ht) <;> (try (rcases ht with rfl | rfl)) <;> exact ⟨by kernel_rfl, of_decide_eq_true (by kernel_rfl)⟩) rfl (by kernel_rfl) Tryd.underlying4
    (ChangeSpec.witness_shaped (enc := enc) (C := Tryd.checked) (os := os) (X := fun w _ => laidMetH Tryd.prog laidA w) false (World.doorLaid Tryd.prog 400 os) #[.agg #[.int .u8 0, .int .u8 0, .int .i64 0, .int .i64 0, .int .i64 0, .bool false, .int .u8 0, .int .i64 0, .int .i64 0, .int .i64 0, .bool false, .int .i64 0], .agg #[.int .u8 0, .int .u8 0, .int .i64 0, .int .i64 0, .int .i64 0, .bool false, .int .u8 0, .int .i64 0, .int .i64 0, .int .i64 0, .bool false, .int .i64 0]] 8 rfl (World.shaped_of_RefB (by kernel_rfl) (by kernel_rfl)) (by kernel_rfl) (by kernel_rfl) (by kernel_rfl) (laidA_met os _)) ?_
  intro WW base args ds gs p hval hA hreach hL hS
  rw [Tryd.params6] at hA hval
  obtain ⟨v0, vs0, d0, ds0, p0, q0, hargs, rfl, rfl, h0, r0⟩ := trodAll_cons hA
  obtain ⟨v1, vs1, d1, ds1, p1, q1, rfl, rfl, rfl, h1, r1⟩ := trodAll_cons r0
  obtain ⟨rfl, rfl, rfl⟩ := trodAll_nil r1
  obtain rfl : args = #[v0, v1] := by cases args; simp_all
  obtain ⟨a0, rfl, g0⟩ := open_del (hval 0 _ v0 rfl rfl) h0
  obtain ⟨a1, rfl, g1⟩ := open_del (hval 1 _ v1 rfl rfl) h1
  exact ⟨rfl, notationDiffers_walk a0 a1 WW g0 g1⟩

theorem notationDiffers_holds : Rows.NotationDiffersSaid :=
  OpenClaim.holds_of_wide 6 Tryd.f6 rfl rfl rfl rfl rfl rfl rfl ⟨rfl, rfl, rfl, rfl, rfl⟩ rfl rfl rfl rfl rfl (by kernel_rfl) Tryd.func6 (by kernel_rfl)
    (of_decide_eq_true (by kernel_rfl)) (by unfold Func.isWrapper; first | (rw [if_pos (by decide +kernel)]; kernel_rfl) | (rw [if_neg (by decide +kernel)]; exact ⟨rfl, rfl⟩))
    (fun os started H enc _ => notationDiffers_lifted os started H enc)

theorem notationDiffers_card : Rows.NotationDiffersCardSaid :=
  Claim7.holds_tied_plain_at .later [] [.data, .data, .data] true Rows.notationDiffersCard.stood.harness Rows.notationDiffersCard.stood.looks
    notationDiffers_holds (fun _ h => by cases h) (by kernel_rfl) (fun _ h => by cases h) notationDiffers_row_tie rfl ⟨rfl, rfl⟩ (by kernel_rfl) rfl
    (fun f fn hf hfn => by
      obtain rfl : f = 6 := Option.some.inj ((show Tryd.prog.funcNamed "scorebook/scorebooklaw07.NotationDiffers" = some 6 by kernel_rfl).symm.trans hf) |>.symm
      obtain rfl : fn = Tryd.f6 := (Option.some.inj (Tryd.func6.symm.trans hfn)).symm
      exact ⟨by kernel_rfl, fun j t ht => by
        rw [Tryd.params6] at ht
        have hm : t ∈ [26, 26] := by simpa using Array.mem_of_getElem? ht
        have hall : ([26, 26].all fun u => !Tryd.prog.wantsStandIn u) = true := by kernel_rfl
        exact (show Tryd.prog.wantsStandIn t = false by simpa using List.all_eq_true.1 hall t hm)⟩)
    (by kernel_rfl)
#print axioms notationDiffers_card

end Go.Proofs.YtbekfghnkeecaaaDoor
