/- The chapter's examples, which every statement of layer 7 asks first: they hold. -/
import Derived.Test.YtkgdlimekkdekaaDoorNoH
set_option linter.unusedSimpArgs false
set_option linter.unusedVariables false
namespace Go.Proofs.YtkgdlimekkdekaaDoor
open Go.RowKit

theorem k_print (w : World) : Calls Tryd.prog 14 #[.agg #[.int .u8 1, .int .u8 1, .int .i64 1, .int .i64 0, .int .i64 0, .bool true, .int .u8 6, .int .i64 2, .int .i64 4, .int .i64 7, .bool true, .int .i64 0]] w fun e w' => e = .returned (.tuple #[.string ⟨#[49, 120, 47, 82, 50, 40, 52, 44, 55, 115, 41]⟩, .int .i64 0]) ∧ Below w.heap.size w w' := by
  have h := print_any ⟨1, 1, 1, 0, 0, true, 6, 2, 4, 7, true, 0⟩ (by unfold Wf; decide) w
  have e1 : prL ⟨1, 1, 1, 0, 0, true, 6, 2, 4, 7, true, 0⟩ = [49, 120, 47, 82, 50, 40, 52, 44, 55, 115, 41] := by decide
  have e2 : chk ⟨1, 1, 1, 0, 0, true, 6, 2, 4, 7, true, 0⟩ = 0 := by decide
  rw [e1, e2] at h
  exact h
theorem k_parse (w : World) : Calls Tryd.prog 17 #[.string ⟨#[70, 64, 50]⟩] w fun e w' => e = .returned (.tuple #[.agg #[.int .u8 1, .int .u8 1, .int .i64 0, .int .i64 0, .int .i64 4, .bool false, .int .u8 0, .int .i64 0, .int .i64 0, .int .i64 0, .bool false, .int .i64 2], .int .i64 0]) ∧ Below w.heap.size w w' := by
  have h := parse_any [70, 64, 50] w (by decide)
  have e0 : psOk [70, 64, 50] := by unfold psOk; exact ⟨by decide, by decide⟩
  have e1 : psD [70, 64, 50] = ⟨1, 1, 0, 0, 4, false, 0, 0, 0, 0, false, 2⟩ := by unfold psD; rw [if_pos e0]; rfl
  have e2 : psE [70, 64, 50] = 0 := by unfold psE; rw [if_pos e0]
  rw [e1, e2] at h
  exact h
theorem k_over (w : World) (g : Nat) (h : Row w g DT [.int .u8 1, .int .u8 0, .int .i64 0, .int .i64 0, .int .i64 0, .bool false, .int .u8 0, .int .i64 0, .int .i64 0, .int .i64 0, .bool false, .int .i64 0, .int .u8 2, .int .u8 0, .int .i64 0, .int .i64 0, .int .i64 0, .bool false, .int .u8 0, .int .i64 0, .int .i64 0, .int .i64 0, .bool false, .int .i64 0]) : Calls Tryd.prog 8 #[.slice (some ⟨g, 0, none⟩) 2 2] w fun e w' => e = .returned (.tuple #[.string ⟨#[46, 32, 119]⟩, .int .i64 0]) ∧ Below w.heap.size w w' := by
  have hr : RdD w (.slice (some ⟨g, 0, none⟩) 2 2) [⟨1, 0, 0, 0, 0, false, 0, 0, 0, 0, false, 0⟩, ⟨2, 0, 0, 0, 0, false, 0, 0, 0, 0, false, 0⟩] := by
    refine Or.inr ⟨by simp, g, 0, 2, rfl, h.lt, Nat.le_refl _, by decide, fun i d hd j u hu => ?_⟩
    have hj : j < 12 := (List.getElem?_eq_some_iff.1 hu).1
    rw [h.cell]
    match i, hd with
    | 0, hd =>
      simp at hd; subst hd
      rw [← hu]
      have : j = 0 ∨ j = 1 ∨ j = 2 ∨ j = 3 ∨ j = 4 ∨ j = 5 ∨ j = 6 ∨ j = 7 ∨ j = 8 ∨ j = 9 ∨ j = 10 ∨ j = 11 := by omega
      rcases this with rfl | rfl | rfl | rfl | rfl | rfl | rfl | rfl | rfl | rfl | rfl | rfl <;> rfl
    | 1, hd =>
      simp at hd; subst hd
      rw [← hu]
      have : j = 0 ∨ j = 1 ∨ j = 2 ∨ j = 3 ∨ j = 4 ∨ j = 5 ∨ j = 6 ∨ j = 7 ∨ j = 8 ∨ j = 9 ∨ j = 10 ∨ j = 11 := by omega
      rcases this with rfl | rfl | rfl | rfl | rfl | rfl | rfl | rfl | rfl | rfl | rfl | rfl <;> rfl
    | n + 2, hd => simp at hd
  have h2 := over_any [⟨1, 0, 0, 0, 0, false, 0, 0, 0, 0, false, 0⟩, ⟨2, 0, 0, 0, 0, false, 0, 0, 0, 0, false, 0⟩] (.slice (some ⟨g, 0, none⟩) 2 2) w (by decide) (by intro d hd; simp at hd; rcases hd with rfl | rfl <;> (unfold Wf; decide)) hr
  have e1 : ovL [⟨1, 0, 0, 0, 0, false, 0, 0, 0, 0, false, 0⟩, ⟨2, 0, 0, 0, 0, false, 0, 0, 0, 0, false, 0⟩] = [46, 32, 119] := by
    have e0 : ovE [⟨1, 0, 0, 0, 0, false, 0, 0, 0, 0, false, 0⟩, ⟨2, 0, 0, 0, 0, false, 0, 0, 0, 0, false, 0⟩] = 0 := by decide
    unfold ovL; rw [if_pos e0]; decide
  have e2 : ovE [⟨1, 0, 0, 0, 0, false, 0, 0, 0, 0, false, 0⟩, ⟨2, 0, 0, 0, 0, false, 0, 0, 0, 0, false, 0⟩] = 0 := by decide
  rw [e1, e2] at h2
  exact h2
set_option maxRecDepth 20000 in
set_option maxHeartbeats 4000000 in
theorem awake_any (w : World) : Calls Tryd.prog 6 #[] w fun e w' => e = .returned (.bool true) ∧ Below w.heap.size w w' := by
  have H1 := Lib.hid k_print
  have H2 := Lib.hid k_parse
  have H3 := Lib.hid k_over
  go_enter Tryd.func6, Tryd.ntmps6
  go_wp2_with fail
  refine (H1.out _).mono ?_
  rintro e w1 ⟨rfl, hb1⟩
  go_wp2_with fail
  refine (H2.out _).mono ?_
  rintro e w2 ⟨rfl, hb2⟩
  have hd := box_row ⟨1, 1, 0, 0, 4, false, 0, 0, 0, 0, false, 2⟩ w2
  have hn := Row.new (w2.alloc (.cells #[.int .u8 1, .int .u8 1, .int .i64 0, .int .i64 0, .int .i64 4, .bool false, .int .u8 0, .int .i64 0, .int .i64 0, .int .i64 0, .bool false, .int .i64 2] DT)) DT [.int .u8 1, .int .u8 0, .int .i64 0, .int .i64 0, .int .i64 0, .bool false, .int .u8 0, .int .i64 0, .int .i64 0, .int .i64 0, .bool false, .int .i64 0, .int .u8 2, .int .u8 0, .int .i64 0, .int .i64 0, .int .i64 0, .bool false, .int .u8 0, .int .i64 0, .int .i64 0, .int .i64 0, .bool false, .int .i64 0]
  rw [World.size_alloc] at hn
  have hbx : Below w.heap.size w ((w2.alloc (.cells #[.int .u8 1, .int .u8 1, .int .i64 0, .int .i64 0, .int .i64 4, .bool false, .int .u8 0, .int .i64 0, .int .i64 0, .int .i64 0, .bool false, .int .i64 2] DT)).alloc (.cells #[.int .u8 1, .int .u8 0, .int .i64 0, .int .i64 0, .int .i64 0, .bool false, .int .u8 0, .int .i64 0, .int .i64 0, .int .i64 0, .bool false, .int .i64 0, .int .u8 2, .int .u8 0, .int .i64 0, .int .i64 0, .int .i64 0, .bool false, .int .u8 0, .int .i64 0, .int .i64 0, .int .i64 0, .bool false, .int .i64 0] DT)) := Below.alloc (Below.alloc (below_step hb1 hb1.size hb2) (by have := hb1.size; have := hb2.size; omega) _) (by have := hb1.size; have := hb2.size; simp; omega) _
  have hd2 := hd.alloc (.cells #[.int .u8 1, .int .u8 0, .int .i64 0, .int .i64 0, .int .i64 0, .bool false, .int .u8 0, .int .i64 0, .int .i64 0, .int .i64 0, .bool false, .int .i64 0, .int .u8 2, .int .u8 0, .int .i64 0, .int .i64 0, .int .i64 0, .bool false, .int .u8 0, .int .i64 0, .int .i64 0, .int .i64 0, .bool false, .int .i64 0] DT)
  go_wp2_with fail
  refine (H3.out _ _ hn).mono ?_
  rintro e w3 ⟨rfl, hb3⟩
  have hd3 := hd2.below hb3 hd2.lt
  have c0 : w3.cell? ⟨w2.heap.size, 0, none⟩ = some (.int .u8 1) := hd3.cell 0
  have c1 : w3.cell? ⟨w2.heap.size, 1, none⟩ = some (.int .u8 1) := hd3.cell 1
  have c2 : w3.cell? ⟨w2.heap.size, 2, none⟩ = some (.int .i64 0) := hd3.cell 2
  have c3 : w3.cell? ⟨w2.heap.size, 3, none⟩ = some (.int .i64 0) := hd3.cell 3
  have c4 : w3.cell? ⟨w2.heap.size, 4, none⟩ = some (.int .i64 4) := hd3.cell 4
  have c5 : w3.cell? ⟨w2.heap.size, 5, none⟩ = some (.bool false) := hd3.cell 5
  have c6 : w3.cell? ⟨w2.heap.size, 6, none⟩ = some (.int .u8 0) := hd3.cell 6
  have c7 : w3.cell? ⟨w2.heap.size, 7, none⟩ = some (.int .i64 0) := hd3.cell 7
  have c8 : w3.cell? ⟨w2.heap.size, 8, none⟩ = some (.int .i64 0) := hd3.cell 8
  have c9 : w3.cell? ⟨w2.heap.size, 9, none⟩ = some (.int .i64 0) := hd3.cell 9
  have c10 : w3.cell? ⟨w2.heap.size, 10, none⟩ = some (.bool false) := hd3.cell 10
  have c11 : w3.cell? ⟨w2.heap.size, 11, none⟩ = some (.int .i64 2) := hd3.cell 11
  have hbf := below_step hbx hbx.size hb3
  clear hn hd hd2 hbx hb1 hb2 hb3
  go_wp2
  go_ret
  exact ⟨rfl, hbf⟩
end Go.Proofs.YtkgdlimekkdekaaDoor
