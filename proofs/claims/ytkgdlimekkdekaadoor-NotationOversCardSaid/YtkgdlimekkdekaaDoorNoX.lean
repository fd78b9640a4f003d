/- Contract of the reference's Parse of layer 7, and that it gives what the program's gives. -/
import Derived.Test.YtkgdlimekkdekaaDoorNoV
set_option linter.unusedSimpArgs false
set_option linter.unusedVariables false
namespace Go.Proofs.YtkgdlimekkdekaaDoor
open Go.RowKit

def rsOk (l : List UInt8) : Prop := chk (rdR l) = 0 ∧ sym (rdR l) = l
instance (l : List UInt8) : Decidable (rsOk l) := by unfold rsOk; infer_instance
def rsD (l : List UInt8) : Dl := if rsOk l then rdR l else zeroD
def rsE (l : List UInt8) : Int := if rsOk l then 0 else 4
theorem wcR3 (l : List UInt8) : 0 ≤ (wcR l).2 := by
  rw [(wcR_ix l).2.1]; unfold hAt; split <;> omega
theorem wf_rdR (l : List UInt8) : Wf (rdR l) := ⟨by have := (ixT3 l).1; show 0 ≤ (stT l).2; omega, (ixS3 _ _).1, stW3 _ _ wcR3 _⟩
theorem ps_rs (l : List UInt8) : psOk l ↔ rsOk l := by
  constructor
  · intro h
    have e := read_back goodR (rdP l) (wf_rdP l) h.1
    rw [h.2] at e
    have e2 : rdR l = rdP l := e
    unfold rsOk; rw [e2]; exact h
  · intro h
    have e := read_back goodP (rdR l) (wf_rdR l) h.1
    rw [h.2] at e
    have e2 : rdP l = rdR l := e
    unfold psOk; rw [e2]; exact h
theorem ps_eq (l : List UInt8) : rsD l = psD l ∧ rsE l = psE l := by
  by_cases h : rsOk l
  · have hp := (ps_rs l).2 h
    have e := read_back goodP (rdR l) (wf_rdR l) h.1
    rw [h.2] at e
    have e2 : rdP l = rdR l := e
    unfold rsD psD rsE psE
    rw [if_pos h, if_pos hp, if_pos h, if_pos hp, e2]
    exact ⟨rfl, rfl⟩
  · have hp : ¬ psOk l := fun h2 => h ((ps_rs l).1 h2)
    unfold rsD psD rsE psE
    rw [if_neg h, if_neg hp, if_neg h, if_neg hp]
    exact ⟨rfl, rfl⟩
set_option maxHeartbeats 4000000 in
theorem rparse_any (l : List UInt8) (w : World) (hl : l.length ≤ 4611686018427387904) :
    Calls Tryd.prog 24 #[S l] w fun e w' => e = .returned (.tuple #[DV (rsD l), .int .i64 (rsE l)]) ∧ Below w.heap.size w w' := by
  have HR := Lib.hid (fun w => guess_any l w hl)
  have HP := Lib.hid (rprint_any (rdR l) (wf_rdR l))
  have zrow := Lib.hid (box_row zeroD w)
  have hc : ((chk (rdR l) != 0) = true ∧ rsD l = zeroD ∧ rsE l = 4) ∨ ((chk (rdR l) != 0) = false ∧ ((str (prL (rdR l))).toList == (str l).toList) = false ∧ rsD l = zeroD ∧ rsE l = 4) ∨
      ((chk (rdR l) != 0) = false ∧ ((str (prL (rdR l))).toList == (str l).toList) = true ∧ rsD l = rdR l ∧ rsE l = 0) := by
    rw [str_toList, str_toList]
    by_cases h1 : chk (rdR l) = 0
    · have hp : prL (rdR l) = sym (rdR l) := by unfold prL; rw [if_pos h1]
      rw [hp]
      by_cases h2 : sym (rdR l) = l
      · right; right; exact ⟨by simpa using h1, by simpa using h2, by unfold rsD; rw [if_pos ⟨h1, h2⟩], by unfold rsE; rw [if_pos ⟨h1, h2⟩]⟩
      · right; left; exact ⟨by simpa using h1, by simpa using h2, by unfold rsD; rw [if_neg (fun h => h2 h.2)], by unfold rsE; rw [if_neg (fun h => h2 h.2)]⟩
    · left; exact ⟨by simpa using h1, by unfold rsD; rw [if_neg (fun h => h1 h.1)], by unfold rsE; rw [if_neg (fun h => h1 h.1)]⟩
  generalize rsD l = PD at *
  generalize rsE l = PE at *
  generalize prL (rdR l) = P at *
  generalize chk (rdR l) = C at *
  generalize rdR l = D at *
  obtain ⟨t, s, r, sh, b, x, h, v, f, g, u, z⟩ := D
  rcases hc with hc | hc | hc
  · obtain ⟨h1, rfl, rfl⟩ := hc
    go_enter Tryd.func24, Tryd.ntmps24
    go_wp2_with fail
    refine (HR.out _).mono ?_
    rintro e w1 ⟨rfl, hb1⟩
    have hz1 := hb1.size; (try simp only [World.size_alloc, World.size_setCell, World.size_drew, size_drewN'] at hz1)
    have hd1 := box_row ⟨t, s, r, sh, b, x, h, v, f, g, u, z⟩ w1
    have zr1 := (zrow.out.below hb1 (by go_size)).alloc (.cells #[.int .u8 t, .int .u8 s, .int .i64 r, .int .i64 sh, .int .i64 b, .bool x, .int .u8 h, .int .i64 v, .int .i64 f, .int .i64 g, .bool u, .int .i64 z] DT)
    go_wp2_with fail
    refine (HP.out _).mono ?_
    rintro e w2 ⟨rfl, hb2⟩
    have hd2 := hd1.below hb2 (by go_size)
    have zr2 := zr1.below hb2 (Row.lt zr1)
    have hb0 : Below w.heap.size w w2 := below_step (Below.alloc (below_step (Below.alloc (Below.refl _ w) (Nat.le_refl _) _) (by go_size) hb1) (by omega) _) (by go_size) hb2
    clear hd1 zr1
    have d0 : w2.cell? ⟨w.heap.size, 0, none⟩ = some (.int .u8 0) := zr2.cell 0
    have f0 := zr2.free 0
    have d1 : w2.cell? ⟨w.heap.size, 1, none⟩ = some (.int .u8 0) := zr2.cell 1
    have f1 := zr2.free 1
    have d2 : w2.cell? ⟨w.heap.size, 2, none⟩ = some (.int .i64 0) := zr2.cell 2
    have f2 := zr2.free 2
    have d3 : w2.cell? ⟨w.heap.size, 3, none⟩ = some (.int .i64 0) := zr2.cell 3
    have f3 := zr2.free 3
    have d4 : w2.cell? ⟨w.heap.size, 4, none⟩ = some (.int .i64 0) := zr2.cell 4
    have f4 := zr2.free 4
    have d5 : w2.cell? ⟨w.heap.size, 5, none⟩ = some (.bool false) := zr2.cell 5
    have f5 := zr2.free 5
    have d6 : w2.cell? ⟨w.heap.size, 6, none⟩ = some (.int .u8 0) := zr2.cell 6
    have f6 := zr2.free 6
    have d7 : w2.cell? ⟨w.heap.size, 7, none⟩ = some (.int .i64 0) := zr2.cell 7
    have f7 := zr2.free 7
    have d8 : w2.cell? ⟨w.heap.size, 8, none⟩ = some (.int .i64 0) := zr2.cell 8
    have f8 := zr2.free 8
    have d9 : w2.cell? ⟨w.heap.size, 9, none⟩ = some (.int .i64 0) := zr2.cell 9
    have f9 := zr2.free 9
    have d10 : w2.cell? ⟨w.heap.size, 10, none⟩ = some (.bool false) := zr2.cell 10
    have f10 := zr2.free 10
    have d11 : w2.cell? ⟨w.heap.size, 11, none⟩ = some (.int .i64 0) := zr2.cell 11
    have f11 := zr2.free 11
    obtain ⟨W, hW⟩ : ∃ W, W = ((((((((((((w2.setCell ⟨w.heap.size, 0, none⟩ (.int .u8 0)).setCell ⟨w.heap.size, 1, none⟩ (.int .u8 0)).setCell ⟨w.heap.size, 2, none⟩ (.int .i64 0)).setCell ⟨w.heap.size, 3, none⟩ (.int .i64 0)).setCell ⟨w.heap.size, 4, none⟩ (.int .i64 0)).setCell ⟨w.heap.size, 5, none⟩ (.bool false)).setCell ⟨w.heap.size, 6, none⟩ (.int .u8 0)).setCell ⟨w.heap.size, 7, none⟩ (.int .i64 0)).setCell ⟨w.heap.size, 8, none⟩ (.int .i64 0)).setCell ⟨w.heap.size, 9, none⟩ (.int .i64 0)).setCell ⟨w.heap.size, 10, none⟩ (.bool false)).setCell ⟨w.heap.size, 11, none⟩ (.int .i64 0)) := ⟨_, rfl⟩
    have wrow : Row W (w.heap.size) DT (DC zeroD) := by rw [hW]; exact ((((((((((((zr2.put 0 (.int .u8 0)).put 1 (.int .u8 0)).put 2 (.int .i64 0)).put 3 (.int .i64 0)).put 4 (.int .i64 0)).put 5 (.bool false)).put 6 (.int .u8 0)).put 7 (.int .i64 0)).put 8 (.int .i64 0)).put 9 (.int .i64 0)).put 10 (.bool false)).put 11 (.int .i64 0))
    have hbW : Below w.heap.size w W := by
      rw [hW]
      repeat' (first | (with_reducible exact hb0) | (with_reducible refine Below.setCell ?_ ?_ _) | exact Nat.le_refl _)
    go_wp2
    rw [← hW]
    clear hW
    have q0 : W.cell? ⟨w.heap.size, 0, none⟩ = some (.int .u8 0) := wrow.cell 0
    have q1 : W.cell? ⟨w.heap.size, 1, none⟩ = some (.int .u8 0) := wrow.cell 1
    have q2 : W.cell? ⟨w.heap.size, 2, none⟩ = some (.int .i64 0) := wrow.cell 2
    have q3 : W.cell? ⟨w.heap.size, 3, none⟩ = some (.int .i64 0) := wrow.cell 3
    have q4 : W.cell? ⟨w.heap.size, 4, none⟩ = some (.int .i64 0) := wrow.cell 4
    have q5 : W.cell? ⟨w.heap.size, 5, none⟩ = some (.bool false) := wrow.cell 5
    have q6 : W.cell? ⟨w.heap.size, 6, none⟩ = some (.int .u8 0) := wrow.cell 6
    have q7 : W.cell? ⟨w.heap.size, 7, none⟩ = some (.int .i64 0) := wrow.cell 7
    have q8 : W.cell? ⟨w.heap.size, 8, none⟩ = some (.int .i64 0) := wrow.cell 8
    have q9 : W.cell? ⟨w.heap.size, 9, none⟩ = some (.int .i64 0) := wrow.cell 9
    have q10 : W.cell? ⟨w.heap.size, 10, none⟩ = some (.bool false) := wrow.cell 10
    have q11 : W.cell? ⟨w.heap.size, 11, none⟩ = some (.int .i64 0) := wrow.cell 11
    refine bodyPost_ret (v := .tuple #[DV ⟨0, 0, 0, 0, 0, false, 0, 0, 0, 0, false, 0⟩, .int .i64 4]) (by simp [results, Tryd.results24, go_sem, q0, q1, q2, q3, q4, q5, q6, q7, q8, q9, q10, q11]) rfl ?_
    exact ⟨rfl, hbW⟩
  · obtain ⟨h1, h2, rfl, rfl⟩ := hc
    go_enter Tryd.func24, Tryd.ntmps24
    go_wp2_with fail
    refine (HR.out _).mono ?_
    rintro e w1 ⟨rfl, hb1⟩
    have hz1 := hb1.size; (try simp only [World.size_alloc, World.size_setCell, World.size_drew, size_drewN'] at hz1)
    have hd1 := box_row ⟨t, s, r, sh, b, x, h, v, f, g, u, z⟩ w1
    have zr1 := (zrow.out.below hb1 (by go_size)).alloc (.cells #[.int .u8 t, .int .u8 s, .int .i64 r, .int .i64 sh, .int .i64 b, .bool x, .int .u8 h, .int .i64 v, .int .i64 f, .int .i64 g, .bool u, .int .i64 z] DT)
    go_wp2_with fail
    refine (HP.out _).mono ?_
    rintro e w2 ⟨rfl, hb2⟩
    have hd2 := hd1.below hb2 (by go_size)
    have zr2 := zr1.below hb2 (Row.lt zr1)
    have hb0 : Below w.heap.size w w2 := below_step (Below.alloc (below_step (Below.alloc (Below.refl _ w) (Nat.le_refl _) _) (by go_size) hb1) (by omega) _) (by go_size) hb2
    clear hd1 zr1
    have d0 : w2.cell? ⟨w.heap.size, 0, none⟩ = some (.int .u8 0) := zr2.cell 0
    have f0 := zr2.free 0
    have d1 : w2.cell? ⟨w.heap.size, 1, none⟩ = some (.int .u8 0) := zr2.cell 1
    have f1 := zr2.free 1
    have d2 : w2.cell? ⟨w.heap.size, 2, none⟩ = some (.int .i64 0) := zr2.cell 2
    have f2 := zr2.free 2
    have d3 : w2.cell? ⟨w.heap.size, 3, none⟩ = some (.int .i64 0) := zr2.cell 3
    have f3 := zr2.free 3
    have d4 : w2.cell? ⟨w.heap.size, 4, none⟩ = some (.int .i64 0) := zr2.cell 4
    have f4 := zr2.free 4
    have d5 : w2.cell? ⟨w.heap.size, 5, none⟩ = some (.bool false) := zr2.cell 5
    have f5 := zr2.free 5
    have d6 : w2.cell? ⟨w.heap.size, 6, none⟩ = some (.int .u8 0) := zr2.cell 6
    have f6 := zr2.free 6
    have d7 : w2.cell? ⟨w.heap.size, 7, none⟩ = some (.int .i64 0) := zr2.cell 7
    have f7 := zr2.free 7
    have d8 : w2.cell? ⟨w.heap.size, 8, none⟩ = some (.int .i64 0) := zr2.cell 8
    have f8 := zr2.free 8
    have d9 : w2.cell? ⟨w.heap.size, 9, none⟩ = some (.int .i64 0) := zr2.cell 9
    have f9 := zr2.free 9
    have d10 : w2.cell? ⟨w.heap.size, 10, none⟩ = some (.bool false) := zr2.cell 10
    have f10 := zr2.free 10
    have d11 : w2.cell? ⟨w.heap.size, 11, none⟩ = some (.int .i64 0) := zr2.cell 11
    have f11 := zr2.free 11
    obtain ⟨W, hW⟩ : ∃ W, W = ((((((((((((w2.setCell ⟨w.heap.size, 0, none⟩ (.int .u8 0)).setCell ⟨w.heap.size, 1, none⟩ (.int .u8 0)).setCell ⟨w.heap.size, 2, none⟩ (.int .i64 0)).setCell ⟨w.heap.size, 3, none⟩ (.int .i64 0)).setCell ⟨w.heap.size, 4, none⟩ (.int .i64 0)).setCell ⟨w.heap.size, 5, none⟩ (.bool false)).setCell ⟨w.heap.size, 6, none⟩ (.int .u8 0)).setCell ⟨w.heap.size, 7, none⟩ (.int .i64 0)).setCell ⟨w.heap.size, 8, none⟩ (.int .i64 0)).setCell ⟨w.heap.size, 9, none⟩ (.int .i64 0)).setCell ⟨w.heap.size, 10, none⟩ (.bool false)).setCell ⟨w.heap.size, 11, none⟩ (.int .i64 0)) := ⟨_, rfl⟩
    have wrow : Row W (w.heap.size) DT (DC zeroD) := by rw [hW]; exact ((((((((((((zr2.put 0 (.int .u8 0)).put 1 (.int .u8 0)).put 2 (.int .i64 0)).put 3 (.int .i64 0)).put 4 (.int .i64 0)).put 5 (.bool false)).put 6 (.int .u8 0)).put 7 (.int .i64 0)).put 8 (.int .i64 0)).put 9 (.int .i64 0)).put 10 (.bool false)).put 11 (.int .i64 0))
    have hbW : Below w.heap.size w W := by
      rw [hW]
      repeat' (first | (with_reducible exact hb0) | (with_reducible refine Below.setCell ?_ ?_ _) | exact Nat.le_refl _)
    go_wp2
    rw [← hW]
    clear hW
    have q0 : W.cell? ⟨w.heap.size, 0, none⟩ = some (.int .u8 0) := wrow.cell 0
    have q1 : W.cell? ⟨w.heap.size, 1, none⟩ = some (.int .u8 0) := wrow.cell 1
    have q2 : W.cell? ⟨w.heap.size, 2, none⟩ = some (.int .i64 0) := wrow.cell 2
    have q3 : W.cell? ⟨w.heap.size, 3, none⟩ = some (.int .i64 0) := wrow.cell 3
    have q4 : W.cell? ⟨w.heap.size, 4, none⟩ = some (.int .i64 0) := wrow.cell 4
    have q5 : W.cell? ⟨w.heap.size, 5, none⟩ = some (.bool false) := wrow.cell 5
    have q6 : W.cell? ⟨w.heap.size, 6, none⟩ = some (.int .u8 0) := wrow.cell 6
    have q7 : W.cell? ⟨w.heap.size, 7, none⟩ = some (.int .i64 0) := wrow.cell 7
    have q8 : W.cell? ⟨w.heap.size, 8, none⟩ = some (.int .i64 0) := wrow.cell 8
    have q9 : W.cell? ⟨w.heap.size, 9, none⟩ = some (.int .i64 0) := wrow.cell 9
    have q10 : W.cell? ⟨w.heap.size, 10, none⟩ = some (.bool false) := wrow.cell 10
    have q11 : W.cell? ⟨w.heap.size, 11, none⟩ = some (.int .i64 0) := wrow.cell 11
    refine bodyPost_ret (v := .tuple #[DV ⟨0, 0, 0, 0, 0, false, 0, 0, 0, 0, false, 0⟩, .int .i64 4]) (by simp [results, Tryd.results24, go_sem, q0, q1, q2, q3, q4, q5, q6, q7, q8, q9, q10, q11]) rfl ?_
    exact ⟨rfl, hbW⟩
  · obtain ⟨h1, h2, rfl, rfl⟩ := hc
    go_enter Tryd.func24, Tryd.ntmps24
    go_wp2_with fail
    refine (HR.out _).mono ?_
    rintro e w1 ⟨rfl, hb1⟩
    have hz1 := hb1.size; (try simp only [World.size_alloc, World.size_setCell, World.size_drew, size_drewN'] at hz1)
    have hd1 := box_row ⟨t, s, r, sh, b, x, h, v, f, g, u, z⟩ w1
    have zr1 := (zrow.out.below hb1 (by go_size)).alloc (.cells #[.int .u8 t, .int .u8 s, .int .i64 r, .int .i64 sh, .int .i64 b, .bool x, .int .u8 h, .int .i64 v, .int .i64 f, .int .i64 g, .bool u, .int .i64 z] DT)
    go_wp2_with fail
    refine (HP.out _).mono ?_
    rintro e w2 ⟨rfl, hb2⟩
    have hd2 := hd1.below hb2 (by go_size)
    have zr2 := zr1.below hb2 (Row.lt zr1)
    have hb0 : Below w.heap.size w w2 := below_step (Below.alloc (below_step (Below.alloc (Below.refl _ w) (Nat.le_refl _) _) (by go_size) hb1) (by omega) _) (by go_size) hb2
    clear hd1 zr1
    have d0 : w2.cell? ⟨w.heap.size, 0, none⟩ = some (.int .u8 0) := zr2.cell 0
    have f0 := zr2.free 0
    have d1 : w2.cell? ⟨w.heap.size, 1, none⟩ = some (.int .u8 0) := zr2.cell 1
    have f1 := zr2.free 1
    have d2 : w2.cell? ⟨w.heap.size, 2, none⟩ = some (.int .i64 0) := zr2.cell 2
    have f2 := zr2.free 2
    have d3 : w2.cell? ⟨w.heap.size, 3, none⟩ = some (.int .i64 0) := zr2.cell 3
    have f3 := zr2.free 3
    have d4 : w2.cell? ⟨w.heap.size, 4, none⟩ = some (.int .i64 0) := zr2.cell 4
    have f4 := zr2.free 4
    have d5 : w2.cell? ⟨w.heap.size, 5, none⟩ = some (.bool false) := zr2.cell 5
    have f5 := zr2.free 5
    have d6 : w2.cell? ⟨w.heap.size, 6, none⟩ = some (.int .u8 0) := zr2.cell 6
    have f6 := zr2.free 6
    have d7 : w2.cell? ⟨w.heap.size, 7, none⟩ = some (.int .i64 0) := zr2.cell 7
    have f7 := zr2.free 7
    have d8 : w2.cell? ⟨w.heap.size, 8, none⟩ = some (.int .i64 0) := zr2.cell 8
    have f8 := zr2.free 8
    have d9 : w2.cell? ⟨w.heap.size, 9, none⟩ = some (.int .i64 0) := zr2.cell 9
    have f9 := zr2.free 9
    have d10 : w2.cell? ⟨w.heap.size, 10, none⟩ = some (.bool false) := zr2.cell 10
    have f10 := zr2.free 10
    have d11 : w2.cell? ⟨w.heap.size, 11, none⟩ = some (.int .i64 0) := zr2.cell 11
    have f11 := zr2.free 11
    have c0 : w2.cell? ⟨w1.heap.size, 0, none⟩ = some (.int .u8 t) := hd2.cell 0
    have c1 : w2.cell? ⟨w1.heap.size, 1, none⟩ = some (.int .u8 s) := hd2.cell 1
    have c2 : w2.cell? ⟨w1.heap.size, 2, none⟩ = some (.int .i64 r) := hd2.cell 2
    have c3 : w2.cell? ⟨w1.heap.size, 3, none⟩ = some (.int .i64 sh) := hd2.cell 3
    have c4 : w2.cell? ⟨w1.heap.size, 4, none⟩ = some (.int .i64 b) := hd2.cell 4
    have c5 : w2.cell? ⟨w1.heap.size, 5, none⟩ = some (.bool x) := hd2.cell 5
    have c6 : w2.cell? ⟨w1.heap.size, 6, none⟩ = some (.int .u8 h) := hd2.cell 6
    have c7 : w2.cell? ⟨w1.heap.size, 7, none⟩ = some (.int .i64 v) := hd2.cell 7
    have c8 : w2.cell? ⟨w1.heap.size, 8, none⟩ = some (.int .i64 f) := hd2.cell 8
    have c9 : w2.cell? ⟨w1.heap.size, 9, none⟩ = some (.int .i64 g) := hd2.cell 9
    have c10 : w2.cell? ⟨w1.heap.size, 10, none⟩ = some (.bool u) := hd2.cell 10
    have c11 : w2.cell? ⟨w1.heap.size, 11, none⟩ = some (.int .i64 z) := hd2.cell 11
    obtain ⟨W, hW⟩ : ∃ W, W = ((((((((((((w2.setCell ⟨w.heap.size, 0, none⟩ (.int .u8 t)).setCell ⟨w.heap.size, 1, none⟩ (.int .u8 s)).setCell ⟨w.heap.size, 2, none⟩ (.int .i64 r)).setCell ⟨w.heap.size, 3, none⟩ (.int .i64 sh)).setCell ⟨w.heap.size, 4, none⟩ (.int .i64 b)).setCell ⟨w.heap.size, 5, none⟩ (.bool x)).setCell ⟨w.heap.size, 6, none⟩ (.int .u8 h)).setCell ⟨w.heap.size, 7, none⟩ (.int .i64 v)).setCell ⟨w.heap.size, 8, none⟩ (.int .i64 f)).setCell ⟨w.heap.size, 9, none⟩ (.int .i64 g)).setCell ⟨w.heap.size, 10, none⟩ (.bool u)).setCell ⟨w.heap.size, 11, none⟩ (.int .i64 z)) := ⟨_, rfl⟩
    have wrow : Row W (w.heap.size) DT (DC ⟨t, s, r, sh, b, x, h, v, f, g, u, z⟩) := by rw [hW]; exact ((((((((((((zr2.put 0 (.int .u8 t)).put 1 (.int .u8 s)).put 2 (.int .i64 r)).put 3 (.int .i64 sh)).put 4 (.int .i64 b)).put 5 (.bool x)).put 6 (.int .u8 h)).put 7 (.int .i64 v)).put 8 (.int .i64 f)).put 9 (.int .i64 g)).put 10 (.bool u)).put 11 (.int .i64 z))
    have hbW : Below w.heap.size w W := by
      rw [hW]
      repeat' (first | (with_reducible exact hb0) | (with_reducible refine Below.setCell ?_ ?_ _) | exact Nat.le_refl _)
    go_wp2
    rw [← hW]
    clear hW
    have q0 : W.cell? ⟨w.heap.size, 0, none⟩ = some (.int .u8 t) := wrow.cell 0
    have q1 : W.cell? ⟨w.heap.size, 1, none⟩ = some (.int .u8 s) := wrow.cell 1
    have q2 : W.cell? ⟨w.heap.size, 2, none⟩ = some (.int .i64 r) := wrow.cell 2
    have q3 : W.cell? ⟨w.heap.size, 3, none⟩ = some (.int .i64 sh) := wrow.cell 3
    have q4 : W.cell? ⟨w.heap.size, 4, none⟩ = some (.int .i64 b) := wrow.cell 4
    have q5 : W.cell? ⟨w.heap.size, 5, none⟩ = some (.bool x) := wrow.cell 5
    have q6 : W.cell? ⟨w.heap.size, 6, none⟩ = some (.int .u8 h) := wrow.cell 6
    have q7 : W.cell? ⟨w.heap.size, 7, none⟩ = some (.int .i64 v) := wrow.cell 7
    have q8 : W.cell? ⟨w.heap.size, 8, none⟩ = some (.int .i64 f) := wrow.cell 8
    have q9 : W.cell? ⟨w.heap.size, 9, none⟩ = some (.int .i64 g) := wrow.cell 9
    have q10 : W.cell? ⟨w.heap.size, 10, none⟩ = some (.bool u) := wrow.cell 10
    have q11 : W.cell? ⟨w.heap.size, 11, none⟩ = some (.int .i64 z) := wrow.cell 11
    refine bodyPost_ret (v := .tuple #[DV ⟨t, s, r, sh, b, x, h, v, f, g, u, z⟩, .int .i64 0]) (by simp [results, Tryd.results24, go_sem, q0, q1, q2, q3, q4, q5, q6, q7, q8, q9, q10, q11]) rfl ?_
    exact ⟨rfl, hbW⟩
end Go.Proofs.YtkgdlimekkdekaaDoor
