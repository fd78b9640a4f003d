/- The contract of the reference's increase of an absolute value by 1. -/
import Derived.Test.YtnglagdididkbaaWideV
set_option linter.unusedSimpArgs false
set_option linter.unusedVariables false
namespace Go.Proofs.Ytnglagdididkbaa
open Go.RowKit

def IInv (y : Int) (i : Nat) (p : Nat → Int) : Prop := (∀ j, j < 4 → U32 (p j)) ∧ V4s p + pw i = y + 1
theorem digits {p : Nat → Int} {Y : Int} (h : ∀ j, j < 4 → U32 (p j)) (hv : V4s p = Y) : p 0 = l0 Y ∧ p 1 = l1 Y ∧ p 2 = l2 Y ∧ p 3 = l3 Y := by
  have e0 := h 0 (by omega); have e1 := h 1 (by omega); have e2 := h 2 (by omega); have e3 := h 3 (by omega)
  clear h
  unfold U32 at *
  unfold V4s at hv
  generalize p 0 = q0 at *; generalize p 1 = q1 at *; generalize p 2 = q2 at *; generalize p 3 = q3 at *
  unfold l0 l1 l2 l3
  exact ⟨by omega, by omega, by omega, by omega⟩
theorem V4s_set (p : Nat → Int) (i : Nat) (v : Int) (hi : i < 4) : V4s (upd p i v) = V4s p + (v - p i) * pw i := by
  rcases (show i = 0 ∨ i = 1 ∨ i = 2 ∨ i = 3 by omega) with rfl | rfl | rfl | rfl <;> simp [V4s, upd, pw] <;> omega
theorem iinv_hit {y : Int} {i : Nat} {p : Nat → Int} (h : IInv y i p) (hi : i < 4) (hs : p i + 1 ≤ 4294967295) :
    upd p i (p i + 1) 0 = l0 (y + 1) ∧ upd p i (p i + 1) 1 = l1 (y + 1) ∧ upd p i (p i + 1) 2 = l2 (y + 1) ∧ upd p i (p i + 1) 3 = l3 (y + 1) := by
  refine digits (fun j hj => ?_) ?_
  · have h1 := h.1 j hj
    have h2 := h.1 i hi
    unfold upd; split
    · unfold U32 at *; omega
    · exact h1
  · rw [V4s_set _ _ _ hi, ← h.2, show p i + 1 - p i = 1 by omega, Int.one_mul]
theorem iinv_next {y : Int} {i : Nat} {p : Nat → Int} (h : IInv y i p) (hi : i < 4) (hs : ¬ p i + 1 ≤ 4294967295) : IInv y (i + 1) (upd (upd p i (p i + 1)) i 0) := by
  have h2 := h.1 i hi
  unfold U32 at h2
  have e : p i = 4294967295 := by omega
  refine ⟨fun j hj => ?_, ?_⟩
  · have h1 := h.1 j hj
    unfold upd; split
    · unfold U32; omega
    · exact h1
  · rw [V4s_set _ _ _ hi, V4s_set _ _ _ hi, ← h.2]
    simp only [upd, if_true]
    rw [e]
    rcases (show i = 0 ∨ i = 1 ∨ i = 2 ∨ i = 3 by omega) with rfl | rfl | rfl | rfl <;> simp only [pw] <;> omega

set_option maxHeartbeats 4000000 in
theorem rincrease_any (y : Int) (w : World) (hy : 0 ≤ y ∧ y < 340282366920938463463374607431768211455) :
    Calls Try.prog 49 #[P4 y] w fun e w' => e = .returned (P4 (y + 1)) ∧ Below w.heap.size w w' := by
  obtain ⟨c, hc⟩ : ∃ c : Nat → Int, c = fun | 0 => l0 y | 1 => l1 y | 2 => l2 y | _ => l3 y := ⟨_, rfl⟩
  have c0 : l0 y = c 0 := by subst hc; rfl
  have c1 : l1 y = c 1 := by subst hc; rfl
  have c2 : l2 y = c 2 := by subst hc; rfl
  have c3 : l3 y = c 3 := by subst hc; rfl
  have HS : Hid (IInv y 0 c) := Lib.hid (by
    refine ⟨fun j hj => ?_, ?_⟩
    · rcases (show j = 0 ∨ j = 1 ∨ j = 2 ∨ j = 3 by omega) with rfl | rfl | rfl | rfl
      · rw [← c0]; unfold U32 l0; omega
      · rw [← c1]; unfold U32 l1; omega
      · rw [← c2]; unfold U32 l2; omega
      · rw [← c3]; unfold U32 l3; omega
    · unfold V4s; rw [← c0, ← c1, ← c2, ← c3]; simp only [pw]; unfold l0 l1 l2 l3; omega)
  have HY := Lib.hid hy
  have HP : Hid (P4 y = .agg #[.int .u64 (c 0), .int .u64 (c 1), .int .u64 (c 2), .int .u64 (c 3)]) := Lib.hid (by unfold P4; rw [c0, c1, c2, c3])
  rw [HP.out]
  clear c0 c1 c2 c3 hc hy HP
  go_enter Try.func49, Try.ntmps49
  go_wp2
  go_loopw [4] (fun s wr => ∃ (i : Nat) (p : Nat → Int), i ≤ 4 ∧ s = .int .i64 (i : Int) ∧ Hid (IInv y i p) ∧ Hid (Cel wr w.heap.size 4 p) ∧ Hid (Cel wr (w.heap.size + 1) 4 (fun _ => 0)) ∧ Hid (Below w.heap.size w wr)) (fun s _ => 4 - (intOf s).toNat)
  case atStart =>
    refine ⟨0, c, by omega, rfl, HS, Lib.hid ?_, Lib.hid ?_, Lib.hid (by (repeat' (first | (with_reducible exact Below.refl _ _) | (with_reducible refine Below.setCell ?_ ?_ _) | (with_reducible refine Below.alloc ?_ ?_ _) | (with_reducible refine Below.drew ?_) | (with_reducible refine belowN ?_ _) | (with_reducible refine below_step ?_ ?_ (by with_reducible assumption)) | go_size)))⟩
    · intro j hj; rcases (show j = 0 ∨ j = 1 ∨ j = 2 ∨ j = 3 by omega) with rfl | rfl | rfl | rfl <;> simp [go_sem]
    · intro j hj; rcases (show j = 0 ∨ j = 1 ∨ j = 2 ∨ j = 3 by omega) with rfl | rfl | rfl | rfl <;> simp [go_sem]
  case round =>
    obtain ⟨i, p, hi, rfl, hinv, hcp, hcr, hbw⟩ := hrel
    by_cases h4 : i = 4
    · exfalso
      subst h4
      obtain ⟨h1, h2⟩ := hinv.out
      have e0 := h1 0 (by omega); have e1 := h1 1 (by omega); have e2 := h1 2 (by omega); have e3 := h1 3 (by omega)
      have := HY.out
      unfold U32 at *
      unfold V4s at h2
      simp only [pw] at h2
      omega
    · have hi4 : i < 4 := by omega
      have hu := hinv.out.1 i hi4
      unfold U32 at hu
      have EW : IntKind.u64.wrap (p i + 1) = p i + 1 := by rw [IntKind.wrap_u64]; omega
      clear hu
      obtain ⟨k0, f0⟩ := hcp.out 0 (by omega)
      obtain ⟨k1, f1⟩ := hcp.out 1 (by omega)
      obtain ⟨k2, f2⟩ := hcp.out 2 (by omega)
      obtain ⟨k3, f3⟩ := hcp.out 3 (by omega)
      obtain ⟨r0, g0⟩ := hcr.out 0 (by omega)
      obtain ⟨r1, g1⟩ := hcr.out 1 (by omega)
      obtain ⟨r2, g2⟩ := hcr.out 2 (by omega)
      obtain ⟨r3, g3⟩ := hcr.out 3 (by omega)
      by_cases hs : p i + 1 ≤ 4294967295
      · have HE := Lib.hid (iinv_hit hinv.out hi4 hs)
        rcases (show i = 0 ∨ i = 1 ∨ i = 2 ∨ i = 3 by omega) with rfl | rfl | rfl | rfl
        · obtain ⟨d0, d1, d2, d3⟩ := HE.out
          simp [upd] at d0 d1 d2 d3
          have D := Lib.hid (And.intro d0 (And.intro d1 (And.intro d2 d3)))
          clear d0 d1 d2 d3
          go_wp2
          refine bodyPost_ret (v := .agg #[.int .u64 (p 0 + 1), .int .u64 (p 1), .int .u64 (p 2), .int .u64 (p 3)]) (by simp [results, Try.results49, go_sem, *]) rfl ?_
          exact ⟨by rw [D.out.1, D.out.2.1, D.out.2.2.1, D.out.2.2.2], by (have hbo := hbw.out; repeat' (first | with_reducible exact hbo | (with_reducible refine Below.setCell ?_ ?_ _) | (with_reducible refine Below.drew ?_) | (with_reducible refine belowN ?_ _) | (show w.heap.size ≤ w.heap.size + 1 + 1; omega) | go_size))⟩
        · obtain ⟨d0, d1, d2, d3⟩ := HE.out
          simp [upd] at d0 d1 d2 d3
          have D := Lib.hid (And.intro d0 (And.intro d1 (And.intro d2 d3)))
          clear d0 d1 d2 d3
          go_wp2
          refine bodyPost_ret (v := .agg #[.int .u64 (p 0), .int .u64 (p 1 + 1), .int .u64 (p 2), .int .u64 (p 3)]) (by simp [results, Try.results49, go_sem, *]) rfl ?_
          exact ⟨by rw [D.out.1, D.out.2.1, D.out.2.2.1, D.out.2.2.2], by (have hbo := hbw.out; repeat' (first | with_reducible exact hbo | (with_reducible refine Below.setCell ?_ ?_ _) | (with_reducible refine Below.drew ?_) | (with_reducible refine belowN ?_ _) | (show w.heap.size ≤ w.heap.size + 1 + 1; omega) | go_size))⟩
        · obtain ⟨d0, d1, d2, d3⟩ := HE.out
          simp [upd] at d0 d1 d2 d3
          have D := Lib.hid (And.intro d0 (And.intro d1 (And.intro d2 d3)))
          clear d0 d1 d2 d3
          go_wp2
          refine bodyPost_ret (v := .agg #[.int .u64 (p 0), .int .u64 (p 1), .int .u64 (p 2 + 1), .int .u64 (p 3)]) (by simp [results, Try.results49, go_sem, *]) rfl ?_
          exact ⟨by rw [D.out.1, D.out.2.1, D.out.2.2.1, D.out.2.2.2], by (have hbo := hbw.out; repeat' (first | with_reducible exact hbo | (with_reducible refine Below.setCell ?_ ?_ _) | (with_reducible refine Below.drew ?_) | (with_reducible refine belowN ?_ _) | (show w.heap.size ≤ w.heap.size + 1 + 1; omega) | go_size))⟩
        · obtain ⟨d0, d1, d2, d3⟩ := HE.out
          simp [upd] at d0 d1 d2 d3
          have D := Lib.hid (And.intro d0 (And.intro d1 (And.intro d2 d3)))
          clear d0 d1 d2 d3
          go_wp2
          refine bodyPost_ret (v := .agg #[.int .u64 (p 0), .int .u64 (p 1), .int .u64 (p 2), .int .u64 (p 3 + 1)]) (by simp [results, Try.results49, go_sem, *]) rfl ?_
          exact ⟨by rw [D.out.1, D.out.2.1, D.out.2.2.1, D.out.2.2.2], by (have hbo := hbw.out; repeat' (first | with_reducible exact hbo | (with_reducible refine Below.setCell ?_ ?_ _) | (with_reducible refine Below.drew ?_) | (with_reducible refine belowN ?_ _) | (show w.heap.size ≤ w.heap.size + 1 + 1; omega) | go_size))⟩
      · have HN := Lib.hid (iinv_next hinv.out hi4 hs)
        rcases (show i = 0 ∨ i = 1 ∨ i = 2 ∨ i = 3 by omega) with rfl | rfl | rfl | rfl
        · go_wp2; exact ⟨⟨1, _, by omega, rfl, HN, Lib.hid (cel_set (cel_set hcp.out 0 (by omega) _) 0 (by omega) _), Lib.hid (cel_other (cel_other hcr.out _ _ (by omega) _) _ _ (by omega) _), Lib.hid (Below.setCell (Below.setCell hbw.out (by show w.heap.size ≤ w.heap.size; omega) _) (by show w.heap.size ≤ w.heap.size; omega) _)⟩, by simp [intOf]⟩
        · go_wp2; exact ⟨⟨2, _, by omega, rfl, HN, Lib.hid (cel_set (cel_set hcp.out 1 (by omega) _) 1 (by omega) _), Lib.hid (cel_other (cel_other hcr.out _ _ (by omega) _) _ _ (by omega) _), Lib.hid (Below.setCell (Below.setCell hbw.out (by show w.heap.size ≤ w.heap.size; omega) _) (by show w.heap.size ≤ w.heap.size; omega) _)⟩, by simp [intOf]⟩
        · go_wp2; exact ⟨⟨3, _, by omega, rfl, HN, Lib.hid (cel_set (cel_set hcp.out 2 (by omega) _) 2 (by omega) _), Lib.hid (cel_other (cel_other hcr.out _ _ (by omega) _) _ _ (by omega) _), Lib.hid (Below.setCell (Below.setCell hbw.out (by show w.heap.size ≤ w.heap.size; omega) _) (by show w.heap.size ≤ w.heap.size; omega) _)⟩, by simp [intOf]⟩
        · go_wp2; exact ⟨⟨4, _, by omega, rfl, HN, Lib.hid (cel_set (cel_set hcp.out 3 (by omega) _) 3 (by omega) _), Lib.hid (cel_other (cel_other hcr.out _ _ (by omega) _) _ _ (by omega) _), Lib.hid (Below.setCell (Below.setCell hbw.out (by show w.heap.size ≤ w.heap.size; omega) _) (by show w.heap.size ≤ w.heap.size; omega) _)⟩, by simp [intOf]⟩
end Go.Proofs.Ytnglagdididkbaa
