/- Contracts of the reference's guess and Parse of layer 7. -/
import Derived.Test.YtkgdlimekkdekaaDoorNoT
import Derived.Test.YtkgdlimekkdekaaDoorNoR
set_option linter.unusedSimpArgs false
set_option linter.unusedVariables false
namespace Go.Proofs.YtkgdlimekkdekaaDoor
open Go.RowKit

theorem stT_c (l : List UInt8) : (sg l = 119 ∧ stT l = (l.tail, 2)) ∨ (sg l ≠ 119 ∧ sg l = 110 ∧ stT l = (l.tail, 3)) ∨ (sg l ≠ 119 ∧ sg l ≠ 110 ∧ stT l = (l, 1)) := by
  unfold stT
  by_cases h1 : sg l = 119
  · left; rw [if_pos h1]; exact ⟨h1, rfl⟩
  · by_cases h2 : sg l = 110
    · right; left; rw [if_neg h1, if_pos h2]; exact ⟨h1, h2, rfl⟩
    · right; right; rw [if_neg h1, if_neg h2]; exact ⟨h1, h2, rfl⟩
theorem stS_c (t : Int) (l : List UInt8) : (sg l = 46 ∧ stS t l = (l.tail, 0)) ∨ (sg l ≠ 46 ∧ sg l = 98 ∧ stS t l = (l.tail, 2)) ∨ (sg l ≠ 46 ∧ sg l ≠ 98 ∧ sg l = 108 ∧ stS t l = (l.tail, 3)) ∨ (sg l ≠ 46 ∧ sg l ≠ 98 ∧ sg l ≠ 108 ∧ sg l = 111 ∧ stS t l = (l.tail, 1)) ∨ (sg l ≠ 46 ∧ sg l ≠ 98 ∧ sg l ≠ 108 ∧ sg l ≠ 111 ∧ stS t l = (l, plS t)) := by
  unfold stS
  by_cases h1 : sg l = 46
  · left; rw [if_pos h1]; exact ⟨h1, rfl⟩
  by_cases h2 : sg l = 98
  · right; left; rw [if_neg h1, if_neg (by omega), if_pos h2]; exact ⟨h1, h2, rfl⟩
  by_cases h3 : sg l = 108
  · right; right; left; rw [if_neg h1, if_neg (by omega), if_neg h2, if_pos h3]; exact ⟨h1, h2, h3, rfl⟩
  by_cases h4 : sg l = 111
  · right; right; right; left; rw [if_neg h1, if_pos h4]; exact ⟨h1, h2, h3, h4, rfl⟩
  · right; right; right; right; rw [if_neg h1, if_neg h4, if_neg h2, if_neg h3]; exact ⟨h1, h2, h3, h4, rfl⟩
theorem stB_c (l : List UInt8) : (sg l = 70 ∧ stB l = (l.tail, 4)) ∨ (sg l ≠ 70 ∧ sg l = 83 ∧ stB l = (l.tail, 6)) ∨ (sg l ≠ 70 ∧ sg l ≠ 83 ∧ stB l = (l, 0)) := by
  unfold stB
  by_cases h1 : sg l = 70
  · left; rw [if_pos h1]; exact ⟨h1, rfl⟩
  · by_cases h2 : sg l = 83
    · right; left; rw [if_neg h1, if_pos h2]; exact ⟨h1, h2, rfl⟩
    · right; right; rw [if_neg h1, if_neg h2]; exact ⟨h1, h2, rfl⟩
theorem nR_len (c : Nat) (l : List UInt8) : (stN nmR c l).1.length ≤ l.length := by
  unfold stN; split
  · have := nmR_len l.tail; simp at this; omega
  · exact Nat.le_refl _
theorem tl_len {l m : List UInt8} (h : m = l.tail ∨ m = l) : m.length ≤ l.length := by rcases h with rfl | rfl <;> simp
theorem fR_len (h v : Int) (l : List UInt8) : (stF nmR h v l).1.length ≤ l.length := by
  unfold stF; split
  · have a1 := stX_len 41 (stX 115 (stN nmR 44 (nmR l.tail).1).1).1
    have a2 := stX_len 115 (stN nmR 44 (nmR l.tail).1).1
    have a3 := nR_len 44 (nmR l.tail).1
    have a4 := nmR_len l.tail
    simp only [List.length_tail] at a4
    dsimp only
    omega
  · exact Nat.le_refl _
theorem wR_len (l : List UInt8) : (stW nmR wcR l).1.length ≤ l.length := by
  unfold stW; split
  · unfold stO
    have a1 := fR_len (wcR l.tail).2 (nmR (wcR l.tail).1).2 (nmR (wcR l.tail).1).1
    have a2 := nmR_len (wcR l.tail).1
    have a3 : (wcR l.tail).1.length ≤ l.tail.length := by rw [(wcR_ix l.tail).1]; simp
    simp only [List.length_tail] at a3
    omega
  · exact Nat.le_refl _
set_option maxRecDepth 20000 in
set_option maxHeartbeats 8000000 in
theorem guess_any (l : List UInt8) (w : World) (hl : l.length ≤ 4611686018427387904) :
    Calls Tryd.prog 50 #[S l] w fun e w' => e = .returned (DV (rdR l)) ∧ Below w.heap.size w w' := by
  obtain ⟨l1, e1⟩ : ∃ l1, l1 = (stT l).1 := ⟨_, rfl⟩
  obtain ⟨t, et⟩ : ∃ t, t = (stT l).2 := ⟨_, rfl⟩
  obtain ⟨l2, e2⟩ : ∃ l2, l2 = (stS t l1).1 := ⟨_, rfl⟩
  obtain ⟨s, es⟩ : ∃ s, s = (stS t l1).2 := ⟨_, rfl⟩
  obtain ⟨l3, e3⟩ : ∃ l3, l3 = (nmR l2).1 := ⟨_, rfl⟩
  obtain ⟨r, er⟩ : ∃ r, r = (nmR l2).2 := ⟨_, rfl⟩
  obtain ⟨l4, e4⟩ : ∃ l4, l4 = (stB l3).1 := ⟨_, rfl⟩
  obtain ⟨b, eb⟩ : ∃ b, b = (stB l3).2 := ⟨_, rfl⟩
  obtain ⟨l5, e5⟩ : ∃ l5, l5 = (stN nmR 45 l4).1 := ⟨_, rfl⟩
  obtain ⟨sh, esh⟩ : ∃ sh, sh = (stN nmR 45 l4).2 := ⟨_, rfl⟩
  obtain ⟨l6, e6⟩ : ∃ l6, l6 = (stX 120 l5).1 := ⟨_, rfl⟩
  obtain ⟨x, ex⟩ : ∃ x, x = (stX 120 l5).2 := ⟨_, rfl⟩
  obtain ⟨l7, e7⟩ : ∃ l7, l7 = (stW nmR wcR l6).1 := ⟨_, rfl⟩
  obtain ⟨k, ek⟩ : ∃ k, k = (stW nmR wcR l6).2 := ⟨_, rfl⟩
  obtain ⟨z, ez⟩ : ∃ z, z = (stN nmR 64 l7).2 := ⟨_, rfl⟩
  have hD : Hid (rdR l = ⟨t, s, r, sh, b, x, k.h, k.v, k.f, k.g, k.u, z⟩) := Lib.hid (by
    rw [ez, ek, ex, esh, eb, er, es, et, e7, e6, e5, e4, e3, e2, e1, et]; rfl)
  have hT := stT_c l
  have n1 : l1.length ≤ 4611686018427387904 := by
    rw [e1]; rcases hT with ⟨_, e⟩ | ⟨_, _, e⟩ | ⟨_, _, e⟩ <;> (rw [e]; simp; try omega)
  have hS := stS_c t l1
  have n2 : l2.length ≤ 4611686018427387904 := by
    rw [e2]; rcases hS with ⟨_, e⟩ | ⟨_, _, e⟩ | ⟨_, _, _, e⟩ | ⟨_, _, _, _, e⟩ | ⟨_, _, _, _, e⟩ <;> (rw [e]; simp; try omega)
  have n3 : l3.length ≤ 4611686018427387904 := by rw [e3]; have := nmR_len l2; omega
  have hBd := stB_c l3
  have n4 : l4.length ≤ 4611686018427387904 := by
    rw [e4]; rcases hBd with ⟨_, e⟩ | ⟨_, _, e⟩ | ⟨_, _, e⟩ <;> (rw [e]; simp; try omega)
  have n5 : l5.length ≤ 4611686018427387904 := by rw [e5]; have := nR_len 45 l4; omega
  have n6 : l6.length ≤ 4611686018427387904 := by rw [e6]; have := stX_len 120 l5; omega
  have n7 : l7.length ≤ 4611686018427387904 := by rw [e7]; have := wR_len l6; omega
  have HT : Hid ((sg l = 119 ∧ l1 = l.tail ∧ t = 2) ∨ (sg l ≠ 119 ∧ sg l = 110 ∧ l1 = l.tail ∧ t = 3) ∨ (sg l ≠ 119 ∧ sg l ≠ 110 ∧ l1 = l ∧ t = 1)) := Lib.hid (by
    rw [e1, et]; rcases hT with ⟨a, e⟩ | ⟨a, b, e⟩ | ⟨a, b, e⟩ <;> rw [e]
    · left; exact ⟨a, rfl, rfl⟩
    · right; left; exact ⟨a, b, rfl, rfl⟩
    · right; right; exact ⟨a, b, rfl, rfl⟩)
  have HSS : Hid ((sg l1 = 46 ∧ l2 = l1.tail ∧ s = 0) ∨ (sg l1 ≠ 46 ∧ sg l1 = 98 ∧ l2 = l1.tail ∧ s = 2) ∨ (sg l1 ≠ 46 ∧ sg l1 ≠ 98 ∧ sg l1 = 108 ∧ l2 = l1.tail ∧ s = 3) ∨ (sg l1 ≠ 46 ∧ sg l1 ≠ 98 ∧ sg l1 ≠ 108 ∧ sg l1 = 111 ∧ l2 = l1.tail ∧ s = 1) ∨ (sg l1 ≠ 46 ∧ sg l1 ≠ 98 ∧ sg l1 ≠ 108 ∧ sg l1 ≠ 111 ∧ l2 = l1 ∧ s = plS t)) := Lib.hid (by
    rw [e2, es]; rcases hS with ⟨a, e⟩ | ⟨a, b, e⟩ | ⟨a, b, c, e⟩ | ⟨a, b, c, d, e⟩ | ⟨a, b, c, d, e⟩ <;> rw [e]
    · left; exact ⟨a, rfl, rfl⟩
    · right; left; exact ⟨a, b, rfl, rfl⟩
    · right; right; left; exact ⟨a, b, c, rfl, rfl⟩
    · right; right; right; left; exact ⟨a, b, c, d, rfl, rfl⟩
    · right; right; right; right; exact ⟨a, b, c, d, rfl, rfl⟩)
  have HBD : Hid ((sg l3 = 70 ∧ l4 = l3.tail ∧ b = 4) ∨ (sg l3 ≠ 70 ∧ sg l3 = 83 ∧ l4 = l3.tail ∧ b = 6) ∨ (sg l3 ≠ 70 ∧ sg l3 ≠ 83 ∧ l4 = l3 ∧ b = 0)) := Lib.hid (by
    rw [e4, eb]; rcases hBd with ⟨a, e⟩ | ⟨a, b, e⟩ | ⟨a, b, e⟩ <;> rw [e]
    · left; exact ⟨a, rfl, rfl⟩
    · right; left; exact ⟨a, b, rfl, rfl⟩
    · right; right; exact ⟨a, b, rfl, rfl⟩)
  have HN3 : Hid (∀ w, Calls Tryd.prog 77 #[S l2] w fun e w' => e = .returned (.tuple #[.int .i64 r, S l3]) ∧ Below w.heap.size w w') := Lib.hid (fun w => by rw [er, e3]; exact rnumber_any l2 w n2)
  have H5 : Hid ((sg l4 = 45 ∧ (∀ w, Calls Tryd.prog 77 #[S l4.tail] w fun e w' => e = .returned (.tuple #[.int .i64 sh, S l5]) ∧ Below w.heap.size w w')) ∨ (sg l4 ≠ 45 ∧ l5 = l4 ∧ sh = 0)) := Lib.hid (by
    rw [e5, esh]; unfold stN; by_cases h : sg l4 = 45
    · left; rw [if_pos h]; exact ⟨h, fun w => rnumber_any l4.tail w (by simp; omega)⟩
    · right; rw [if_neg h]; exact ⟨h, rfl, rfl⟩)
  have H6 : Hid ((sg l5 = 120 ∧ l6 = l5.tail ∧ x = true) ∨ (sg l5 ≠ 120 ∧ l6 = l5 ∧ x = false)) := Lib.hid (by
    rw [e6, ex]; unfold stX; by_cases h : sg l5 = 120
    · left; rw [if_pos h]; exact ⟨h, rfl, rfl⟩
    · right; rw [if_neg h]; exact ⟨h, rfl, rfl⟩)
  have H7 : Hid ((sg l6 = 47 ∧ (∀ (t s r sh b z : Int) (x : Bool) (w : World), Calls Tryd.prog 78 #[.agg #[.int .u8 t, .int .u8 s, .int .i64 r, .int .i64 sh, .int .i64 b, .bool x, .int .u8 0, .int .i64 0, .int .i64 0, .int .i64 0, .bool false, .int .i64 z], S l6.tail] w fun e w' => e = .returned (.tuple #[.agg #[.int .u8 t, .int .u8 s, .int .i64 r, .int .i64 sh, .int .i64 b, .bool x, .int .u8 k.h, .int .i64 k.v, .int .i64 k.f, .int .i64 k.g, .bool k.u, .int .i64 z], S l7]) ∧ Below w.heap.size w w')) ∨ (sg l6 ≠ 47 ∧ l7 = l6 ∧ k = ⟨0, 0, 0, 0, false⟩)) := Lib.hid (by
    rw [e7, ek]; unfold stW; by_cases h : sg l6 = 47
    · left; rw [if_pos h]; exact ⟨h, fun t s r sh b z x w => out_any t s r sh b z x l6.tail w (by simp; omega)⟩
    · right; rw [if_neg h]; exact ⟨h, rfl, rfl⟩)
  have H8 : Hid ((sg l7 = 64 ∧ (∀ w, ∃ l8, Calls Tryd.prog 77 #[S l7.tail] w fun e w' => e = .returned (.tuple #[.int .i64 z, S l8]) ∧ Below w.heap.size w w')) ∨ (sg l7 ≠ 64 ∧ z = 0)) := Lib.hid (by
    rw [ez]; unfold stN; by_cases h : sg l7 = 64
    · left; rw [if_pos h]; exact ⟨h, fun w => ⟨_, rnumber_any l7.tail w (by simp; omega)⟩⟩
    · right; rw [if_neg h]; exact ⟨h, rfl⟩)
  have H119 : Hid (∀ (m : List UInt8) (w : World), Calls Tryd.prog 76 #[S m, .int .u8 119] w fun e w' => e = .returned (.bool (sg m == 119)) ∧ w = w') := Lib.hid (fun m w => has_any 119 m w (by decide))
  have H110 : Hid (∀ (m : List UInt8) (w : World), Calls Tryd.prog 76 #[S m, .int .u8 110] w fun e w' => e = .returned (.bool (sg m == 110)) ∧ w = w') := Lib.hid (fun m w => has_any 110 m w (by decide))
  have H46 : Hid (∀ (m : List UInt8) (w : World), Calls Tryd.prog 76 #[S m, .int .u8 46] w fun e w' => e = .returned (.bool (sg m == 46)) ∧ w = w') := Lib.hid (fun m w => has_any 46 m w (by decide))
  have H98 : Hid (∀ (m : List UInt8) (w : World), Calls Tryd.prog 76 #[S m, .int .u8 98] w fun e w' => e = .returned (.bool (sg m == 98)) ∧ w = w') := Lib.hid (fun m w => has_any 98 m w (by decide))
  have H108 : Hid (∀ (m : List UInt8) (w : World), Calls Tryd.prog 76 #[S m, .int .u8 108] w fun e w' => e = .returned (.bool (sg m == 108)) ∧ w = w') := Lib.hid (fun m w => has_any 108 m w (by decide))
  have H111 : Hid (∀ (m : List UInt8) (w : World), Calls Tryd.prog 76 #[S m, .int .u8 111] w fun e w' => e = .returned (.bool (sg m == 111)) ∧ w = w') := Lib.hid (fun m w => has_any 111 m w (by decide))
  have H70 : Hid (∀ (m : List UInt8) (w : World), Calls Tryd.prog 76 #[S m, .int .u8 70] w fun e w' => e = .returned (.bool (sg m == 70)) ∧ w = w') := Lib.hid (fun m w => has_any 70 m w (by decide))
  have H83 : Hid (∀ (m : List UInt8) (w : World), Calls Tryd.prog 76 #[S m, .int .u8 83] w fun e w' => e = .returned (.bool (sg m == 83)) ∧ w = w') := Lib.hid (fun m w => has_any 83 m w (by decide))
  have H45 : Hid (∀ (m : List UInt8) (w : World), Calls Tryd.prog 76 #[S m, .int .u8 45] w fun e w' => e = .returned (.bool (sg m == 45)) ∧ w = w') := Lib.hid (fun m w => has_any 45 m w (by decide))
  have H120 : Hid (∀ (m : List UInt8) (w : World), Calls Tryd.prog 76 #[S m, .int .u8 120] w fun e w' => e = .returned (.bool (sg m == 120)) ∧ w = w') := Lib.hid (fun m w => has_any 120 m w (by decide))
  have H47 : Hid (∀ (m : List UInt8) (w : World), Calls Tryd.prog 76 #[S m, .int .u8 47] w fun e w' => e = .returned (.bool (sg m == 47)) ∧ w = w') := Lib.hid (fun m w => has_any 47 m w (by decide))
  have H64 : Hid (∀ (m : List UInt8) (w : World), Calls Tryd.prog 76 #[S m, .int .u8 64] w fun e w' => e = .returned (.bool (sg m == 64)) ∧ w = w') := Lib.hid (fun m w => has_any 64 m w (by decide))
  rw [hD.out]
  clear hT hS hBd e1 e2 e3 e4 e5 e6 e7 et es er eb esh ex ek ez hD
  have q0 := str_size l
  have q1 := str_size l1
  have q3 := str_size l3
  have q4 := str_size l4
  have q5 := str_size l5
  have q6 := str_size l6
  have q7 := str_size l7
  go_enter Tryd.func50, Tryd.ntmps50
  go_upto_block 0 with fail
  have hst : Hid (Row ((w.alloc (.cells #[.int .u8 0, .int .u8 0, .int .i64 0, .int .i64 0, .int .i64 0, .bool false, .int .u8 0, .int .i64 0, .int .i64 0, .int .i64 0, .bool false, .int .i64 0] DT)).alloc (.cells #[.int .u8 1, .int .u8 1, .int .i64 0, .int .i64 0, .int .i64 0, .bool false, .int .u8 0, .int .i64 0, .int .i64 0, .int .i64 0, .bool false, .int .i64 0] DT)) (w.heap.size + 1) DT (DC ⟨1, 1, 0, 0, 0, false, 0, 0, 0, 0, false, 0⟩)) ∧ Hid (Row ((w.alloc (.cells #[.int .u8 0, .int .u8 0, .int .i64 0, .int .i64 0, .int .i64 0, .bool false, .int .u8 0, .int .i64 0, .int .i64 0, .int .i64 0, .bool false, .int .i64 0] DT)).alloc (.cells #[.int .u8 1, .int .u8 1, .int .i64 0, .int .i64 0, .int .i64 0, .bool false, .int .u8 0, .int .i64 0, .int .i64 0, .int .i64 0, .bool false, .int .i64 0] DT)) (w.heap.size) DT (DC zeroD)) ∧ Hid (Below w.heap.size w ((w.alloc (.cells #[.int .u8 0, .int .u8 0, .int .i64 0, .int .i64 0, .int .i64 0, .bool false, .int .u8 0, .int .i64 0, .int .i64 0, .int .i64 0, .bool false, .int .i64 0] DT)).alloc (.cells #[.int .u8 1, .int .u8 1, .int .i64 0, .int .i64 0, .int .i64 0, .bool false, .int .u8 0, .int .i64 0, .int .i64 0, .int .i64 0, .bool false, .int .i64 0] DT))) := by
    refine ⟨Lib.hid ?_, Lib.hid ((box_row zeroD w).alloc _), Lib.hid (by (repeat' (first | (with_reducible exact Below.refl _ _) | (with_reducible refine Below.setCell ?_ ?_ _) | (with_reducible refine Below.alloc ?_ ?_ _) | (with_reducible refine Below.drew ?_) | (with_reducible refine belowN ?_ _) | (with_reducible refine below_step ?_ ?_ (by with_reducible assumption)) | go_size)))⟩
    have h := box_row ⟨1, 1, 0, 0, 0, false, 0, 0, 0, 0, false, 0⟩ (w.alloc (.cells #[.int .u8 0, .int .u8 0, .int .i64 0, .int .i64 0, .int .i64 0, .bool false, .int .u8 0, .int .i64 0, .int .i64 0, .int .i64 0, .bool false, .int .i64 0] DT))
    rw [World.size_alloc] at h; exact h
  obtain ⟨hr, hz, hB⟩ := hst
  generalize ((w.alloc (.cells #[.int .u8 0, .int .u8 0, .int .i64 0, .int .i64 0, .int .i64 0, .bool false, .int .u8 0, .int .i64 0, .int .i64 0, .int .i64 0, .bool false, .int .i64 0] DT)).alloc (.cells #[.int .u8 1, .int .u8 1, .int .i64 0, .int .i64 0, .int .i64 0, .bool false, .int .u8 0, .int .i64 0, .int .i64 0, .int .i64 0, .bool false, .int .i64 0] DT)) = W0 at *
  go_cut [0] (fun v0 wx => v0 = S l1 ∧ Hid (Row wx (w.heap.size + 1) DT (DC ⟨t, (plS t), 0, 0, 0, false, 0, 0, 0, 0, false, 0⟩)) ∧ Hid (Row wx (w.heap.size) DT (DC zeroD)) ∧ Hid (Below w.heap.size w wx))
  case first =>
    as_aux_lemma =>
    rcases HT.out with ⟨hq, rfl, rfl⟩ | ⟨hp, hq, rfl, rfl⟩ | ⟨hp, hq, rfl, rfl⟩
    · have k119 : (sg l == 119) = true := by simpa using hq
      have h1 : 1 ≤ l.length := by cases l with | nil => simp [sg] at hq | cons _ _ => simp
      have hx : Hid ((str l).extract 1 l.length = str l.tail) := Lib.hid (by rw [str_ext, List.drop_one, List.take_of_length_le (by simp)])
      have c0 : W0.cell? ⟨w.heap.size + 1, 0, none⟩ = some (.int .u8 1) := hr.out.cell 0
      have f0 := hr.out.free 0
      have c1 : W0.cell? ⟨w.heap.size + 1, 1, none⟩ = some (.int .u8 1) := hr.out.cell 1
      have f1 := hr.out.free 1
      clear hq
      go_wp2_with fail
      refine (H119.out _ _).mono ?_
      rintro e w' ⟨rfl, rfl⟩
      go_wp2_with fail
      go_region
      all_goals
        go_wp2_with fail
        go_meet
        case rel =>
          refine ⟨by rw [hx.out], ?_, ?_, ?_⟩
          · first | exact Lib.hid ((hr.out.put 0 (.int .u8 2)).put 1 (.int .u8 0)) | exact Lib.hid ((hr.out.put 1 (.int .u8 0)).put 0 (.int .u8 2))
          · first | exact Lib.hid ((hz.out.far (p := ⟨w.heap.size + 1, 0, none⟩) (by show w.heap.size ≠ w.heap.size + 1; omega) (.int .u8 2)).far (p := ⟨w.heap.size + 1, 1, none⟩) (by show w.heap.size ≠ w.heap.size + 1; omega) (.int .u8 0)) | exact Lib.hid ((hz.out.far (p := ⟨w.heap.size + 1, 1, none⟩) (by show w.heap.size ≠ w.heap.size + 1; omega) (.int .u8 0)).far (p := ⟨w.heap.size + 1, 0, none⟩) (by show w.heap.size ≠ w.heap.size + 1; omega) (.int .u8 2))
          · exact Lib.hid (by repeat' (first | (with_reducible exact hB.out) | (with_reducible refine Below.drew ?_) | (with_reducible refine Below.setCell ?_ ?_ _) | (show w.heap.size ≤ w.heap.size + 1; omega)))
    · have k119 : (sg l == 119) = false := by simpa using hp
      have k110 : (sg l == 110) = true := by simpa using hq
      have h1 : 1 ≤ l.length := by cases l with | nil => simp [sg] at hq | cons _ _ => simp
      have hx : Hid ((str l).extract 1 l.length = str l.tail) := Lib.hid (by rw [str_ext, List.drop_one, List.take_of_length_le (by simp)])
      have c0 : W0.cell? ⟨w.heap.size + 1, 0, none⟩ = some (.int .u8 1) := hr.out.cell 0
      have f0 := hr.out.free 0
      clear hp hq
      go_wp2_with fail
      refine (H119.out _ _).mono ?_
      rintro e w' ⟨rfl, rfl⟩
      go_wp2_with fail
      refine (H110.out _ _).mono ?_
      rintro e w' ⟨rfl, rfl⟩
      go_wp2_with fail
      go_region
      all_goals
        go_wp2_with fail
        go_meet
        case rel =>
          refine ⟨by rw [hx.out], ?_, ?_, ?_⟩
          · first | exact Lib.hid (hr.out.put 0 (.int .u8 3))
          · first | exact Lib.hid (hz.out.far (p := ⟨w.heap.size + 1, 0, none⟩) (by show w.heap.size ≠ w.heap.size + 1; omega) (.int .u8 3))
          · exact Lib.hid (by repeat' (first | (with_reducible exact hB.out) | (with_reducible refine Below.drew ?_) | (with_reducible refine Below.setCell ?_ ?_ _) | (show w.heap.size ≤ w.heap.size + 1; omega)))
    · have k119 : (sg l1 == 119) = false := by simpa using hp
      have k110 : (sg l1 == 110) = false := by simpa using hq
      clear hp hq
      go_wp2_with fail
      refine (H119.out _ _).mono ?_
      rintro e w' ⟨rfl, rfl⟩
      go_wp2_with fail
      refine (H110.out _ _).mono ?_
      rintro e w' ⟨rfl, rfl⟩
      go_wp2_with fail
      go_meet
      case rel =>
        refine ⟨rfl, ?_, ?_, ?_⟩
        · first | exact hr
        · first | exact hz
        · exact Lib.hid (by repeat' (first | (with_reducible exact hB.out) | (with_reducible refine Below.drew ?_) | (with_reducible refine Below.setCell ?_ ?_ _) | (show w.heap.size ≤ w.heap.size + 1; omega)))
  case rest =>
  obtain ⟨rfl, hr, hz, hB⟩ := hcut
  clear HT q0 H119 H110
  go_upto_block 1 with fail
  go_cut [0] (fun v0 wx => v0 = S l2 ∧ Hid (Row wx (w.heap.size + 1) DT (DC ⟨t, s, 0, 0, 0, false, 0, 0, 0, 0, false, 0⟩)) ∧ Hid (Row wx (w.heap.size) DT (DC zeroD)) ∧ Hid (Below w.heap.size w wx))
  case first =>
    as_aux_lemma =>
    rcases HSS.out with ⟨ha, rfl, rfl⟩ | ⟨ha, hb, rfl, rfl⟩ | ⟨ha, hb, hc, rfl, rfl⟩ | ⟨ha, hb, hc, hd, rfl, rfl⟩ | ⟨ha, hb, hc, hd, rfl, rfl⟩
    · have k46 : (sg l1 == 46) = true := by simpa using ha
      have h1 : 1 ≤ l1.length := by cases l1 with | nil => simp [sg] at ha | cons _ _ => simp
      have hx : Hid ((str l1).extract 1 l1.length = str l1.tail) := Lib.hid (by rw [str_ext, List.drop_one, List.take_of_length_le (by simp)])
      have c1 : wc.cell? ⟨w.heap.size + 1, 1, none⟩ = some (.int .u8 (plS t)) := hr.out.cell 1
      have f1 := hr.out.free 1
      clear ha
      go_wp2_with fail
      refine (H46.out _ _).mono ?_
      rintro e w' ⟨rfl, rfl⟩
      go_wp2_with fail
      go_region
      all_goals
        go_wp2_with fail
        go_meet
        case rel =>
          refine ⟨by rw [hx.out], ?_, ?_, ?_⟩
          · first | exact Lib.hid (hr.out.put 1 (.int .u8 0))
          · first | exact Lib.hid (hz.out.far (p := ⟨w.heap.size + 1, 1, none⟩) (by show w.heap.size ≠ w.heap.size + 1; omega) (.int .u8 0))
          · exact Lib.hid (by repeat' (first | (with_reducible exact hB.out) | (with_reducible refine Below.drew ?_) | (with_reducible refine Below.setCell ?_ ?_ _) | (show w.heap.size ≤ w.heap.size + 1; omega)))
    · have k46 : (sg l1 == 46) = false := by simpa using ha
      have k98 : (sg l1 == 98) = true := by simpa using hb
      have h1 : 1 ≤ l1.length := by cases l1 with | nil => simp [sg] at hb | cons _ _ => simp
      have hx : Hid ((str l1).extract 1 l1.length = str l1.tail) := Lib.hid (by rw [str_ext, List.drop_one, List.take_of_length_le (by simp)])
      have c1 : wc.cell? ⟨w.heap.size + 1, 1, none⟩ = some (.int .u8 (plS t)) := hr.out.cell 1
      have f1 := hr.out.free 1
      clear ha hb
      go_wp2_with fail
      refine (H46.out _ _).mono ?_
      rintro e w' ⟨rfl, rfl⟩
      go_wp2_with fail
      refine (H98.out _ _).mono ?_
      rintro e w' ⟨rfl, rfl⟩
      go_wp2_with fail
      go_region
      all_goals
        go_wp2_with fail
        go_meet
        case rel =>
          refine ⟨by rw [hx.out], ?_, ?_, ?_⟩
          · first | exact Lib.hid (hr.out.put 1 (.int .u8 2))
          · first | exact Lib.hid (hz.out.far (p := ⟨w.heap.size + 1, 1, none⟩) (by show w.heap.size ≠ w.heap.size + 1; omega) (.int .u8 2))
          · exact Lib.hid (by repeat' (first | (with_reducible exact hB.out) | (with_reducible refine Below.drew ?_) | (with_reducible refine Below.setCell ?_ ?_ _) | (show w.heap.size ≤ w.heap.size + 1; omega)))
    · have k46 : (sg l1 == 46) = false := by simpa using ha
      have k98 : (sg l1 == 98) = false := by simpa using hb
      have k108 : (sg l1 == 108) = true := by simpa using hc
      have h1 : 1 ≤ l1.length := by cases l1 with | nil => simp [sg] at hc | cons _ _ => simp
      have hx : Hid ((str l1).extract 1 l1.length = str l1.tail) := Lib.hid (by rw [str_ext, List.drop_one, List.take_of_length_le (by simp)])
      have c1 : wc.cell? ⟨w.heap.size + 1, 1, none⟩ = some (.int .u8 (plS t)) := hr.out.cell 1
      have f1 := hr.out.free 1
      clear ha hb hc
      go_wp2_with fail
      refine (H46.out _ _).mono ?_
      rintro e w' ⟨rfl, rfl⟩
      go_wp2_with fail
      refine (H98.out _ _).mono ?_
      rintro e w' ⟨rfl, rfl⟩
      go_wp2_with fail
      refine (H108.out _ _).mono ?_
      rintro e w' ⟨rfl, rfl⟩
      go_wp2_with fail
      go_region
      all_goals
        go_wp2_with fail
        go_meet
        case rel =>
          refine ⟨by rw [hx.out], ?_, ?_, ?_⟩
          · first | exact Lib.hid (hr.out.put 1 (.int .u8 3))
          · first | exact Lib.hid (hz.out.far (p := ⟨w.heap.size + 1, 1, none⟩) (by show w.heap.size ≠ w.heap.size + 1; omega) (.int .u8 3))
          · exact Lib.hid (by repeat' (first | (with_reducible exact hB.out) | (with_reducible refine Below.drew ?_) | (with_reducible refine Below.setCell ?_ ?_ _) | (show w.heap.size ≤ w.heap.size + 1; omega)))
    · have k46 : (sg l1 == 46) = false := by simpa using ha
      have k98 : (sg l1 == 98) = false := by simpa using hb
      have k108 : (sg l1 == 108) = false := by simpa using hc
      have k111 : (sg l1 == 111) = true := by simpa using hd
      have h1 : 1 ≤ l1.length := by cases l1 with | nil => simp [sg] at hd | cons _ _ => simp
      have hx : Hid ((str l1).extract 1 l1.length = str l1.tail) := Lib.hid (by rw [str_ext, List.drop_one, List.take_of_length_le (by simp)])
      have c1 : wc.cell? ⟨w.heap.size + 1, 1, none⟩ = some (.int .u8 (plS t)) := hr.out.cell 1
      have f1 := hr.out.free 1
      clear ha hb hc hd
      go_wp2_with fail
      refine (H46.out _ _).mono ?_
      rintro e w' ⟨rfl, rfl⟩
      go_wp2_with fail
      refine (H98.out _ _).mono ?_
      rintro e w' ⟨rfl, rfl⟩
      go_wp2_with fail
      refine (H108.out _ _).mono ?_
      rintro e w' ⟨rfl, rfl⟩
      go_wp2_with fail
      refine (H111.out _ _).mono ?_
      rintro e w' ⟨rfl, rfl⟩
      go_wp2_with fail
      go_region
      all_goals
        go_wp2_with fail
        go_meet
        case rel =>
          refine ⟨by rw [hx.out], ?_, ?_, ?_⟩
          · first | exact Lib.hid (hr.out.put 1 (.int .u8 1))
          · first | exact Lib.hid (hz.out.far (p := ⟨w.heap.size + 1, 1, none⟩) (by show w.heap.size ≠ w.heap.size + 1; omega) (.int .u8 1))
          · exact Lib.hid (by repeat' (first | (with_reducible exact hB.out) | (with_reducible refine Below.drew ?_) | (with_reducible refine Below.setCell ?_ ?_ _) | (show w.heap.size ≤ w.heap.size + 1; omega)))
    · have k46 : (sg l2 == 46) = false := by simpa using ha
      have k98 : (sg l2 == 98) = false := by simpa using hb
      have k108 : (sg l2 == 108) = false := by simpa using hc
      have k111 : (sg l2 == 111) = false := by simpa using hd
      clear ha hb hc hd
      go_wp2_with fail
      refine (H46.out _ _).mono ?_
      rintro e w' ⟨rfl, rfl⟩
      go_wp2_with fail
      refine (H98.out _ _).mono ?_
      rintro e w' ⟨rfl, rfl⟩
      go_wp2_with fail
      refine (H108.out _ _).mono ?_
      rintro e w' ⟨rfl, rfl⟩
      go_wp2_with fail
      refine (H111.out _ _).mono ?_
      rintro e w' ⟨rfl, rfl⟩
      go_wp2_with fail
      go_meet
      case rel =>
        refine ⟨rfl, ?_, ?_, ?_⟩
        · first | exact hr
        · first | exact hz
        · exact Lib.hid (by repeat' (first | (with_reducible exact hB.out) | (with_reducible refine Below.drew ?_) | (with_reducible refine Below.setCell ?_ ?_ _) | (show w.heap.size ≤ w.heap.size + 1; omega)))
  case rest =>
  obtain ⟨rfl, hr, hz, hB⟩ := hcut
  clear HSS q1 H46 H98 H108 H111
  go_wp2_with fail
  refine (HN3.out _).mono ?_
  rintro e w3 ⟨rfl, hb3⟩
  have hr := Lib.hid (hr.out.below hb3 hr.out.lt)
  have hz := Lib.hid (hz.out.below hb3 hz.out.lt)
  have hB := Lib.hid (below_step hB.out hB.out.size hb3)
  have c2 : w3.cell? ⟨w.heap.size + 1, 2, none⟩ = some (.int .i64 0) := hr.out.cell 2
  have f2 := hr.out.free 2
  go_upto_block 2 with fail
  have hst : Hid (Row (w3.setCell ⟨w.heap.size + 1, 2, none⟩ (.int .i64 r)) (w.heap.size + 1) DT (DC ⟨t, s, r, 0, 0, false, 0, 0, 0, 0, false, 0⟩)) ∧ Hid (Row (w3.setCell ⟨w.heap.size + 1, 2, none⟩ (.int .i64 r)) (w.heap.size) DT (DC zeroD)) ∧ Hid (Below w.heap.size w (w3.setCell ⟨w.heap.size + 1, 2, none⟩ (.int .i64 r))) := ⟨Lib.hid (hr.out.put 2 (.int .i64 r)), Lib.hid (hz.out.far (p := ⟨w.heap.size + 1, 2, none⟩) (by show w.heap.size ≠ w.heap.size + 1; omega) (.int .i64 r)), Lib.hid (Below.setCell (p := ⟨w.heap.size + 1, 2, none⟩) hB.out (by show w.heap.size ≤ w.heap.size + 1; omega) _)⟩
  obtain ⟨hr, hz, hB⟩ := hst
  clear c2 f2 HN3 hb3
  generalize (w3.setCell ⟨w.heap.size + 1, 2, none⟩ (.int .i64 r)) = W3 at *
  go_cut [0] (fun v0 wx => v0 = S l4 ∧ Hid (Row wx (w.heap.size + 1) DT (DC ⟨t, s, r, 0, b, false, 0, 0, 0, 0, false, 0⟩)) ∧ Hid (Row wx (w.heap.size) DT (DC zeroD)) ∧ Hid (Below w.heap.size w wx))
  case first =>
    as_aux_lemma =>
    rcases HBD.out with ⟨hq, rfl, rfl⟩ | ⟨hp, hq, rfl, rfl⟩ | ⟨hp, hq, rfl, rfl⟩
    · have k70 : (sg l3 == 70) = true := by simpa using hq
      have h1 : 1 ≤ l3.length := by cases l3 with | nil => simp [sg] at hq | cons _ _ => simp
      have hx : Hid ((str l3).extract 1 l3.length = str l3.tail) := Lib.hid (by rw [str_ext, List.drop_one, List.take_of_length_le (by simp)])
      have c4 : W3.cell? ⟨w.heap.size + 1, 4, none⟩ = some (.int .i64 0) := hr.out.cell 4
      have f4 := hr.out.free 4
      clear hq
      go_wp2_with fail
      refine (H70.out _ _).mono ?_
      rintro e w' ⟨rfl, rfl⟩
      go_wp2_with fail
      go_region
      all_goals
        go_wp2_with fail
        go_meet
        case rel =>
          refine ⟨by rw [hx.out], ?_, ?_, ?_⟩
          · first | exact Lib.hid (hr.out.put 4 (.int .i64 4))
          · first | exact Lib.hid (hz.out.far (p := ⟨w.heap.size + 1, 4, none⟩) (by show w.heap.size ≠ w.heap.size + 1; omega) (.int .i64 4))
          · exact Lib.hid (by repeat' (first | (with_reducible exact hB.out) | (with_reducible refine Below.drew ?_) | (with_reducible refine Below.setCell ?_ ?_ _) | (show w.heap.size ≤ w.heap.size + 1; omega)))
    · have k70 : (sg l3 == 70) = false := by simpa using hp
      have k83 : (sg l3 == 83) = true := by simpa using hq
      have h1 : 1 ≤ l3.length := by cases l3 with | nil => simp [sg] at hq | cons _ _ => simp
      have hx : Hid ((str l3).extract 1 l3.length = str l3.tail) := Lib.hid (by rw [str_ext, List.drop_one, List.take_of_length_le (by simp)])
      have c4 : W3.cell? ⟨w.heap.size + 1, 4, none⟩ = some (.int .i64 0) := hr.out.cell 4
      have f4 := hr.out.free 4
      clear hp hq
      go_wp2_with fail
      refine (H70.out _ _).mono ?_
      rintro e w' ⟨rfl, rfl⟩
      go_wp2_with fail
      refine (H83.out _ _).mono ?_
      rintro e w' ⟨rfl, rfl⟩
      go_wp2_with fail
      go_region
      all_goals
        go_wp2_with fail
        go_meet
        case rel =>
          refine ⟨by rw [hx.out], ?_, ?_, ?_⟩
          · first | exact Lib.hid (hr.out.put 4 (.int .i64 6))
          · first | exact Lib.hid (hz.out.far (p := ⟨w.heap.size + 1, 4, none⟩) (by show w.heap.size ≠ w.heap.size + 1; omega) (.int .i64 6))
          · exact Lib.hid (by repeat' (first | (with_reducible exact hB.out) | (with_reducible refine Below.drew ?_) | (with_reducible refine Below.setCell ?_ ?_ _) | (show w.heap.size ≤ w.heap.size + 1; omega)))
    · have k70 : (sg l4 == 70) = false := by simpa using hp
      have k83 : (sg l4 == 83) = false := by simpa using hq
      clear hp hq
      go_wp2_with fail
      refine (H70.out _ _).mono ?_
      rintro e w' ⟨rfl, rfl⟩
      go_wp2_with fail
      refine (H83.out _ _).mono ?_
      rintro e w' ⟨rfl, rfl⟩
      go_wp2_with fail
      go_meet
      case rel =>
        refine ⟨rfl, ?_, ?_, ?_⟩
        · first | exact hr
        · first | exact hz
        · exact Lib.hid (by repeat' (first | (with_reducible exact hB.out) | (with_reducible refine Below.drew ?_) | (with_reducible refine Below.setCell ?_ ?_ _) | (show w.heap.size ≤ w.heap.size + 1; omega)))
  case rest =>
  obtain ⟨rfl, hr, hz, hB⟩ := hcut
  clear HBD q3 H70 H83
  go_wp2_with fail
  refine (H45.out _ _).mono ?_
  rintro e w' ⟨rfl, rfl⟩
  go_upto_if 61 with fail
  go_cut [0] (fun v0 wx => v0 = S l5 ∧ Hid (Row wx (w.heap.size + 1) DT (DC ⟨t, s, r, sh, b, false, 0, 0, 0, 0, false, 0⟩)) ∧ Hid (Row wx (w.heap.size) DT (DC zeroD)) ∧ Hid (Below w.heap.size w wx))
  case first =>
    as_aux_lemma =>
    rcases H5.out with ⟨hq, HN⟩ | ⟨hq, rfl, rfl⟩
    · have k45 : (sg l4 == 45) = true := by simpa using hq
      have h1 : 1 ≤ l4.length := by cases l4 with | nil => simp [sg] at hq | cons _ _ => simp
      have hx : Hid ((str l4).extract 1 l4.length = str l4.tail) := Lib.hid (by rw [str_ext, List.drop_one, List.take_of_length_le (by simp)])
      have HN5 := Lib.hid HN
      clear hq HN H5
      go_wp2_with fail
      rw [hx.out]
      refine (HN5.out _).mono ?_
      rintro e w5 ⟨rfl, hb5⟩
      have hr := Lib.hid (hr.out.below hb5 hr.out.lt)
      have hz := Lib.hid (hz.out.below hb5 hz.out.lt)
      have hB := Lib.hid (below_step hB.out hB.out.size hb5)
      clear hb5
      have c3 : w5.cell? ⟨w.heap.size + 1, 3, none⟩ = some (.int .i64 0) := hr.out.cell 3
      have f3 := hr.out.free 3
      go_wp2
      go_meet
      case rel =>
        refine ⟨rfl, ?_, ?_, ?_⟩
        · first | exact Lib.hid (hr.out.put 3 (.int .i64 sh))
        · first | exact Lib.hid (hz.out.far (p := ⟨w.heap.size + 1, 3, none⟩) (by show w.heap.size ≠ w.heap.size + 1; omega) (.int .i64 sh))
        · exact Lib.hid (by repeat' (first | (with_reducible exact hB.out) | (with_reducible refine Below.drew ?_) | (with_reducible refine Below.setCell ?_ ?_ _) | (show w.heap.size ≤ w.heap.size + 1; omega)))
    · have k45 : (sg l5 == 45) = false := by simpa using hq
      clear hq H5
      go_wp2
      go_meet
      case rel =>
        refine ⟨rfl, ?_, ?_, ?_⟩
        · first | exact hr
        · first | exact hz
        · exact Lib.hid (by repeat' (first | (with_reducible exact hB.out) | (with_reducible refine Below.drew ?_) | (with_reducible refine Below.setCell ?_ ?_ _) | (show w.heap.size ≤ w.heap.size + 1; omega)))
  case rest =>
  obtain ⟨rfl, hr, hz, hB⟩ := hcut
  clear H5 q4 H45
  go_wp2_with fail
  refine (H120.out _ _).mono ?_
  rintro e w' ⟨rfl, rfl⟩
  go_upto_if 70 with fail
  go_cut [0] (fun v0 wx => v0 = S l6 ∧ Hid (Row wx (w.heap.size + 1) DT (DC ⟨t, s, r, sh, b, x, 0, 0, 0, 0, false, 0⟩)) ∧ Hid (Row wx (w.heap.size) DT (DC zeroD)) ∧ Hid (Below w.heap.size w wx))
  case first =>
    as_aux_lemma =>
    rcases H6.out with ⟨hq, rfl, rfl⟩ | ⟨hq, rfl, rfl⟩
    · have k120 : (sg l5 == 120) = true := by simpa using hq
      have h1 : 1 ≤ l5.length := by cases l5 with | nil => simp [sg] at hq | cons _ _ => simp
      have hx : Hid ((str l5).extract 1 l5.length = str l5.tail) := Lib.hid (by rw [str_ext, List.drop_one, List.take_of_length_le (by simp)])
      have c5 : wc.cell? ⟨w.heap.size + 1, 5, none⟩ = some (.bool false) := hr.out.cell 5
      have f5 := hr.out.free 5
      clear hq H6 H7 n6
      go_wp2_with fail
      go_region
      all_goals
        go_wp2_with fail
        go_meet
        case rel =>
          refine ⟨by rw [hx.out], ?_, ?_, ?_⟩
          · first | exact Lib.hid (hr.out.put 5 (.bool true))
          · first | exact Lib.hid (hz.out.far (p := ⟨w.heap.size + 1, 5, none⟩) (by show w.heap.size ≠ w.heap.size + 1; omega) (.bool true))
          · exact Lib.hid (by repeat' (first | (with_reducible exact hB.out) | (with_reducible refine Below.drew ?_) | (with_reducible refine Below.setCell ?_ ?_ _) | (show w.heap.size ≤ w.heap.size + 1; omega)))
    · have k120 : (sg l6 == 120) = false := by simpa using hq
      clear hq H6 H7 n5
      go_wp2
      go_meet
      case rel =>
        refine ⟨rfl, ?_, ?_, ?_⟩
        · first | exact hr
        · first | exact hz
        · exact Lib.hid (by repeat' (first | (with_reducible exact hB.out) | (with_reducible refine Below.drew ?_) | (with_reducible refine Below.setCell ?_ ?_ _) | (show w.heap.size ≤ w.heap.size + 1; omega)))
  case rest =>
  obtain ⟨rfl, hr, hz, hB⟩ := hcut
  clear H6 q5 H120
  go_wp2_with fail
  refine (H47.out _ _).mono ?_
  rintro e w' ⟨rfl, rfl⟩
  go_upto_if 75 with fail
  go_cut [0] (fun v0 wx => v0 = S l7 ∧ Hid (Row wx (w.heap.size + 1) DT (DC ⟨t, s, r, sh, b, x, k.h, k.v, k.f, k.g, k.u, 0⟩)) ∧ Hid (Row wx (w.heap.size) DT (DC zeroD)) ∧ Hid (Below w.heap.size w wx))
  case first =>
    rename_i J0 K0 hJ0 hK0
    have hJ1 := Lib.hid hJ0
    rcases H7.out with ⟨hq, HX⟩ | ⟨hq, rfl, rfl⟩
    · have k47 : (sg l6 == 47) = true := by simpa using hq
      have h1 : 1 ≤ l6.length := by cases l6 with | nil => simp [sg] at hq | cons _ _ => simp
      have hx : Hid ((str l6).extract 1 l6.length = str l6.tail) := Lib.hid (by rw [str_ext, List.drop_one, List.take_of_length_le (by simp)])
      have HX2 := Lib.hid HX
      clear hq HX H7 H8 H64 H47 n7 q7 hl
      have c0 : wc.cell? ⟨w.heap.size + 1, 0, none⟩ = some (.int .u8 t) := hr.out.cell 0
      have f0 := hr.out.free 0
      have c1 : wc.cell? ⟨w.heap.size + 1, 1, none⟩ = some (.int .u8 s) := hr.out.cell 1
      have f1 := hr.out.free 1
      have c2 : wc.cell? ⟨w.heap.size + 1, 2, none⟩ = some (.int .i64 r) := hr.out.cell 2
      have f2 := hr.out.free 2
      have c3 : wc.cell? ⟨w.heap.size + 1, 3, none⟩ = some (.int .i64 sh) := hr.out.cell 3
      have f3 := hr.out.free 3
      have c4 : wc.cell? ⟨w.heap.size + 1, 4, none⟩ = some (.int .i64 b) := hr.out.cell 4
      have f4 := hr.out.free 4
      have c5 : wc.cell? ⟨w.heap.size + 1, 5, none⟩ = some (.bool x) := hr.out.cell 5
      have f5 := hr.out.free 5
      have c6 : wc.cell? ⟨w.heap.size + 1, 6, none⟩ = some (.int .u8 0) := hr.out.cell 6
      have f6 := hr.out.free 6
      have c7 : wc.cell? ⟨w.heap.size + 1, 7, none⟩ = some (.int .i64 0) := hr.out.cell 7
      have f7 := hr.out.free 7
      have c8 : wc.cell? ⟨w.heap.size + 1, 8, none⟩ = some (.int .i64 0) := hr.out.cell 8
      have f8 := hr.out.free 8
      have c9 : wc.cell? ⟨w.heap.size + 1, 9, none⟩ = some (.int .i64 0) := hr.out.cell 9
      have f9 := hr.out.free 9
      have c10 : wc.cell? ⟨w.heap.size + 1, 10, none⟩ = some (.bool false) := hr.out.cell 10
      have f10 := hr.out.free 10
      have c11 : wc.cell? ⟨w.heap.size + 1, 11, none⟩ = some (.int .i64 0) := hr.out.cell 11
      have f11 := hr.out.free 11
      have h1i : (1 : Int) ≤ (l6.length : Int) := by omega
      go_wp2_with fail
      go_region_with (go_at_call 78; (try rw [hx.out]); (refine (HX2.out t s r sh b 0 x _).mono ?_); rintro e w7 ⟨rfl, hb7⟩; (have hr7 := (Row.drew hr.out).below hb7 (Row.drew hr.out).lt); clear c0 c1 c2 c3 c4 c5 c6 c7 c8 c9 c10 c11 f0 f1 f2 f3 f4 f5 f6 f7 f8 f9 f10 f11; (have y0 : w7.cell? ⟨w.heap.size + 1, 0, none⟩ = some (.int .u8 t) := hr7.cell 0); (have g0 := hr7.free 0); (have y1 : w7.cell? ⟨w.heap.size + 1, 1, none⟩ = some (.int .u8 s) := hr7.cell 1); (have g1 := hr7.free 1); (have y2 : w7.cell? ⟨w.heap.size + 1, 2, none⟩ = some (.int .i64 r) := hr7.cell 2); (have g2 := hr7.free 2); (have y3 : w7.cell? ⟨w.heap.size + 1, 3, none⟩ = some (.int .i64 sh) := hr7.cell 3); (have g3 := hr7.free 3); (have y4 : w7.cell? ⟨w.heap.size + 1, 4, none⟩ = some (.int .i64 b) := hr7.cell 4); (have g4 := hr7.free 4); (have y5 : w7.cell? ⟨w.heap.size + 1, 5, none⟩ = some (.bool x) := hr7.cell 5); (have g5 := hr7.free 5); (have y6 : w7.cell? ⟨w.heap.size + 1, 6, none⟩ = some (.int .u8 0) := hr7.cell 6); (have g6 := hr7.free 6); (have y7 : w7.cell? ⟨w.heap.size + 1, 7, none⟩ = some (.int .i64 0) := hr7.cell 7); (have g7 := hr7.free 7); (have y8 : w7.cell? ⟨w.heap.size + 1, 8, none⟩ = some (.int .i64 0) := hr7.cell 8); (have g8 := hr7.free 8); (have y9 : w7.cell? ⟨w.heap.size + 1, 9, none⟩ = some (.int .i64 0) := hr7.cell 9); (have g9 := hr7.free 9); (have y10 : w7.cell? ⟨w.heap.size + 1, 10, none⟩ = some (.bool false) := hr7.cell 10); (have g10 := hr7.free 10); (have y11 : w7.cell? ⟨w.heap.size + 1, 11, none⟩ = some (.int .i64 0) := hr7.cell 11); (have g11 := hr7.free 11))
      all_goals
        simp only [List.getElem_toArray, List.getElem_cons_succ, List.getElem_cons_zero, Act.put, List.setIfInBounds_toArray, List.set_cons_zero, List.set_cons_succ]
        have hr := Lib.hid hr7
        have hz := Lib.hid (Row.below (Row.drew hz.out) hb7 (Row.drew hz.out).lt)
        have hB := Lib.hid (below_step (Below.drew hB.out) (Below.drew hB.out).size hb7)
        refine hK0 _ _ (Met.intro ?_)
        refine hJ1.out _ _ ?_
        (repeat apply Exists.intro)
        refine ⟨?rel, rfl⟩
        case rel =>
          refine ⟨rfl, ?_, ?_, ?_⟩
          · first | exact Lib.hid ((((((((((((hr.out.put 0 (.int .u8 t)).put 1 (.int .u8 s)).put 2 (.int .i64 r)).put 3 (.int .i64 sh)).put 4 (.int .i64 b)).put 5 (.bool x)).put 6 (.int .u8 k.h)).put 7 (.int .i64 k.v)).put 8 (.int .i64 k.f)).put 9 (.int .i64 k.g)).put 10 (.bool k.u)).put 11 (.int .i64 0))
          · first | exact Lib.hid ((((((((((((hz.out.far (p := ⟨w.heap.size + 1, 0, none⟩) (by show w.heap.size ≠ w.heap.size + 1; omega) (.int .u8 t)).far (p := ⟨w.heap.size + 1, 1, none⟩) (by show w.heap.size ≠ w.heap.size + 1; omega) (.int .u8 s)).far (p := ⟨w.heap.size + 1, 2, none⟩) (by show w.heap.size ≠ w.heap.size + 1; omega) (.int .i64 r)).far (p := ⟨w.heap.size + 1, 3, none⟩) (by show w.heap.size ≠ w.heap.size + 1; omega) (.int .i64 sh)).far (p := ⟨w.heap.size + 1, 4, none⟩) (by show w.heap.size ≠ w.heap.size + 1; omega) (.int .i64 b)).far (p := ⟨w.heap.size + 1, 5, none⟩) (by show w.heap.size ≠ w.heap.size + 1; omega) (.bool x)).far (p := ⟨w.heap.size + 1, 6, none⟩) (by show w.heap.size ≠ w.heap.size + 1; omega) (.int .u8 k.h)).far (p := ⟨w.heap.size + 1, 7, none⟩) (by show w.heap.size ≠ w.heap.size + 1; omega) (.int .i64 k.v)).far (p := ⟨w.heap.size + 1, 8, none⟩) (by show w.heap.size ≠ w.heap.size + 1; omega) (.int .i64 k.f)).far (p := ⟨w.heap.size + 1, 9, none⟩) (by show w.heap.size ≠ w.heap.size + 1; omega) (.int .i64 k.g)).far (p := ⟨w.heap.size + 1, 10, none⟩) (by show w.heap.size ≠ w.heap.size + 1; omega) (.bool k.u)).far (p := ⟨w.heap.size + 1, 11, none⟩) (by show w.heap.size ≠ w.heap.size + 1; omega) (.int .i64 0))
          · exact Lib.hid (by repeat' (first | (with_reducible exact hB.out) | (with_reducible refine Below.drew ?_) | (with_reducible refine Below.setCell ?_ ?_ _) | (show w.heap.size ≤ w.heap.size + 1; omega)))
    · have k47 : (sg l7 == 47) = false := by simpa using hq
      clear hq H7 n6
      go_wp2
      go_meet
      case rel =>
        refine ⟨rfl, ?_, ?_, ?_⟩
        · first | exact hr
        · first | exact hz
        · exact Lib.hid (by repeat' (first | (with_reducible exact hB.out) | (with_reducible refine Below.drew ?_) | (with_reducible refine Below.setCell ?_ ?_ _) | (show w.heap.size ≤ w.heap.size + 1; omega)))
  case rest =>
  obtain ⟨rfl, hr, hz, hB⟩ := hcut
  clear H7 q6 H47
  go_wp2_with fail
  refine (H64.out _ _).mono ?_
  rintro e w' ⟨rfl, rfl⟩
  go_upto_if 84 with fail
  go_cut [] (fun wx => Hid (Row wx (w.heap.size + 1) DT (DC ⟨t, s, r, sh, b, x, k.h, k.v, k.f, k.g, k.u, z⟩)) ∧ Hid (Row wx (w.heap.size) DT (DC zeroD)) ∧ Hid (Below w.heap.size w wx))
  case first =>
    as_aux_lemma =>
    rcases H8.out with ⟨hq, HN⟩ | ⟨hq, rfl⟩
    · have k64 : (sg l7 == 64) = true := by simpa using hq
      have h1 : 1 ≤ l7.length := by cases l7 with | nil => simp [sg] at hq | cons _ _ => simp
      have hx : Hid ((str l7).extract 1 l7.length = str l7.tail) := Lib.hid (by rw [str_ext, List.drop_one, List.take_of_length_le (by simp)])
      have HN8 := Lib.hid HN
      clear hq HN H8
      go_wp2_with fail
      rw [hx.out]
      obtain ⟨l8, HN9⟩ := HN8.out wc
      refine HN9.mono ?_
      rintro e w5 ⟨rfl, hb5⟩
      have hr := Lib.hid (hr.out.below hb5 hr.out.lt)
      have hz := Lib.hid (hz.out.below hb5 hz.out.lt)
      have hB := Lib.hid (below_step hB.out hB.out.size hb5)
      clear hb5 HN9
      have c11 : w5.cell? ⟨w.heap.size + 1, 11, none⟩ = some (.int .i64 0) := hr.out.cell 11
      have f11 := hr.out.free 11
      go_wp2
      go_meet
      case rel =>
        refine ⟨?_, ?_, ?_⟩
        · first | exact Lib.hid (hr.out.put 11 (.int .i64 z))
        · first | exact Lib.hid (hz.out.far (p := ⟨w.heap.size + 1, 11, none⟩) (by show w.heap.size ≠ w.heap.size + 1; omega) (.int .i64 z))
        · exact Lib.hid (by repeat' (first | (with_reducible exact hB.out) | (with_reducible refine Below.drew ?_) | (with_reducible refine Below.setCell ?_ ?_ _) | (show w.heap.size ≤ w.heap.size + 1; omega)))
    · have k64 : (sg l7 == 64) = false := by simpa using hq
      clear hq H8
      go_wp2
      go_meet
      case rel =>
        refine ⟨?_, ?_, ?_⟩
        · first | exact hr
        · first | exact hz
        · exact Lib.hid (by repeat' (first | (with_reducible exact hB.out) | (with_reducible refine Below.drew ?_) | (with_reducible refine Below.setCell ?_ ?_ _) | (show w.heap.size ≤ w.heap.size + 1; omega)))
  case rest =>
  obtain ⟨hr, hz, hB⟩ := hcut
  clear H8 q7 H64
  clear hl n1 n2 n3 n4 n5 n6 n7
  have c0 : wc.cell? ⟨w.heap.size + 1, 0, none⟩ = some (.int .u8 t) := hr.out.cell 0
  have c1 : wc.cell? ⟨w.heap.size + 1, 1, none⟩ = some (.int .u8 s) := hr.out.cell 1
  have c2 : wc.cell? ⟨w.heap.size + 1, 2, none⟩ = some (.int .i64 r) := hr.out.cell 2
  have c3 : wc.cell? ⟨w.heap.size + 1, 3, none⟩ = some (.int .i64 sh) := hr.out.cell 3
  have c4 : wc.cell? ⟨w.heap.size + 1, 4, none⟩ = some (.int .i64 b) := hr.out.cell 4
  have c5 : wc.cell? ⟨w.heap.size + 1, 5, none⟩ = some (.bool x) := hr.out.cell 5
  have c6 : wc.cell? ⟨w.heap.size + 1, 6, none⟩ = some (.int .u8 k.h) := hr.out.cell 6
  have c7 : wc.cell? ⟨w.heap.size + 1, 7, none⟩ = some (.int .i64 k.v) := hr.out.cell 7
  have c8 : wc.cell? ⟨w.heap.size + 1, 8, none⟩ = some (.int .i64 k.f) := hr.out.cell 8
  have c9 : wc.cell? ⟨w.heap.size + 1, 9, none⟩ = some (.int .i64 k.g) := hr.out.cell 9
  have c10 : wc.cell? ⟨w.heap.size + 1, 10, none⟩ = some (.bool k.u) := hr.out.cell 10
  have c11 : wc.cell? ⟨w.heap.size + 1, 11, none⟩ = some (.int .i64 z) := hr.out.cell 11
  have d0 : wc.cell? ⟨w.heap.size, 0, none⟩ = some (.int .u8 0) := hz.out.cell 0
  have f0 := hz.out.free 0
  have d1 : wc.cell? ⟨w.heap.size, 1, none⟩ = some (.int .u8 0) := hz.out.cell 1
  have f1 := hz.out.free 1
  have d2 : wc.cell? ⟨w.heap.size, 2, none⟩ = some (.int .i64 0) := hz.out.cell 2
  have f2 := hz.out.free 2
  have d3 : wc.cell? ⟨w.heap.size, 3, none⟩ = some (.int .i64 0) := hz.out.cell 3
  have f3 := hz.out.free 3
  have d4 : wc.cell? ⟨w.heap.size, 4, none⟩ = some (.int .i64 0) := hz.out.cell 4
  have f4 := hz.out.free 4
  have d5 : wc.cell? ⟨w.heap.size, 5, none⟩ = some (.bool false) := hz.out.cell 5
  have f5 := hz.out.free 5
  have d6 : wc.cell? ⟨w.heap.size, 6, none⟩ = some (.int .u8 0) := hz.out.cell 6
  have f6 := hz.out.free 6
  have d7 : wc.cell? ⟨w.heap.size, 7, none⟩ = some (.int .i64 0) := hz.out.cell 7
  have f7 := hz.out.free 7
  have d8 : wc.cell? ⟨w.heap.size, 8, none⟩ = some (.int .i64 0) := hz.out.cell 8
  have f8 := hz.out.free 8
  have d9 : wc.cell? ⟨w.heap.size, 9, none⟩ = some (.int .i64 0) := hz.out.cell 9
  have f9 := hz.out.free 9
  have d10 : wc.cell? ⟨w.heap.size, 10, none⟩ = some (.bool false) := hz.out.cell 10
  have f10 := hz.out.free 10
  have d11 : wc.cell? ⟨w.heap.size, 11, none⟩ = some (.int .i64 0) := hz.out.cell 11
  have f11 := hz.out.free 11
  obtain ⟨WF, hWF⟩ : ∃ WF, WF = ((((((((((((wc.setCell ⟨w.heap.size, 0, none⟩ (.int .u8 t)).setCell ⟨w.heap.size, 1, none⟩ (.int .u8 s)).setCell ⟨w.heap.size, 2, none⟩ (.int .i64 r)).setCell ⟨w.heap.size, 3, none⟩ (.int .i64 sh)).setCell ⟨w.heap.size, 4, none⟩ (.int .i64 b)).setCell ⟨w.heap.size, 5, none⟩ (.bool x)).setCell ⟨w.heap.size, 6, none⟩ (.int .u8 k.h)).setCell ⟨w.heap.size, 7, none⟩ (.int .i64 k.v)).setCell ⟨w.heap.size, 8, none⟩ (.int .i64 k.f)).setCell ⟨w.heap.size, 9, none⟩ (.int .i64 k.g)).setCell ⟨w.heap.size, 10, none⟩ (.bool k.u)).setCell ⟨w.heap.size, 11, none⟩ (.int .i64 z)) := ⟨_, rfl⟩
  have wrow : Row WF (w.heap.size) DT (DC ⟨t, s, r, sh, b, x, k.h, k.v, k.f, k.g, k.u, z⟩) := by rw [hWF]; exact ((((((((((((hz.out.put 0 (.int .u8 t)).put 1 (.int .u8 s)).put 2 (.int .i64 r)).put 3 (.int .i64 sh)).put 4 (.int .i64 b)).put 5 (.bool x)).put 6 (.int .u8 k.h)).put 7 (.int .i64 k.v)).put 8 (.int .i64 k.f)).put 9 (.int .i64 k.g)).put 10 (.bool k.u)).put 11 (.int .i64 z))
  have hbW : Below w.heap.size w WF := by
    rw [hWF]
    repeat' (first | (with_reducible exact hB.out) | (with_reducible refine Below.setCell ?_ ?_ _) | (show w.heap.size ≤ w.heap.size; omega))
  have hW2 := Lib.hid hWF
  clear hWF
  go_wp2
  rw [← hW2.out]
  clear hW2
  have q0 : WF.cell? ⟨w.heap.size, 0, none⟩ = some (.int .u8 t) := wrow.cell 0
  have q1 : WF.cell? ⟨w.heap.size, 1, none⟩ = some (.int .u8 s) := wrow.cell 1
  have q2 : WF.cell? ⟨w.heap.size, 2, none⟩ = some (.int .i64 r) := wrow.cell 2
  have q3 : WF.cell? ⟨w.heap.size, 3, none⟩ = some (.int .i64 sh) := wrow.cell 3
  have q4 : WF.cell? ⟨w.heap.size, 4, none⟩ = some (.int .i64 b) := wrow.cell 4
  have q5 : WF.cell? ⟨w.heap.size, 5, none⟩ = some (.bool x) := wrow.cell 5
  have q6 : WF.cell? ⟨w.heap.size, 6, none⟩ = some (.int .u8 k.h) := wrow.cell 6
  have q7 : WF.cell? ⟨w.heap.size, 7, none⟩ = some (.int .i64 k.v) := wrow.cell 7
  have q8 : WF.cell? ⟨w.heap.size, 8, none⟩ = some (.int .i64 k.f) := wrow.cell 8
  have q9 : WF.cell? ⟨w.heap.size, 9, none⟩ = some (.int .i64 k.g) := wrow.cell 9
  have q10 : WF.cell? ⟨w.heap.size, 10, none⟩ = some (.bool k.u) := wrow.cell 10
  have q11 : WF.cell? ⟨w.heap.size, 11, none⟩ = some (.int .i64 z) := wrow.cell 11
  refine bodyPost_ret (v := DV ⟨t, s, r, sh, b, x, k.h, k.v, k.f, k.g, k.u, z⟩) (by simp [results, Tryd.results50, go_sem, q0, q1, q2, q3, q4, q5, q6, q7, q8, q9, q10, q11]) rfl ?_
  exact ⟨rfl, hbW⟩
end Go.Proofs.YtkgdlimekkdekaaDoor
