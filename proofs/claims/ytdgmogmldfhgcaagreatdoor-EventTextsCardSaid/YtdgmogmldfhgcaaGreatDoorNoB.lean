/- Contracts of both Checks of layer 7. -/
import Derived.Test.YtdgmogmldfhgcaaGreatDoorNoA
set_option linter.unusedSimpArgs false
set_option linter.unusedVariables false
namespace Go.Proofs.YtdgmogmldfhgcaaGreatDoor
open Go.RowKit

abbrev DV (d : Dl) : Value := .agg #[.int .u8 d.t, .int .u8 d.s, .int .i64 d.r, .int .i64 d.sh, .int .i64 d.b, .bool d.x, .int .u8 d.h, .int .i64 d.v, .int .i64 d.f, .int .i64 d.g, .bool d.u, .int .i64 d.z]
def wi (n m : Int) : Bool := decide (0 ≤ n) && decide (n ≤ m)
theorem wi_iff (n m : Int) : wi n m = true ↔ 0 ≤ n ∧ n ≤ m := by unfold wi; simp
theorem within_any (n m : Int) (w : World) : Calls Tryz.prog 66 #[.int .i64 n, .int .i64 m] w fun e w' => e = .returned (.bool (wi n m)) ∧ w = w' := by
  by_cases h : 0 ≤ n
  · by_cases h2 : n ≤ m
    · have e : wi n m = true := (wi_iff n m).2 ⟨h, h2⟩
      rw [e]
      clear e
      go_enter Tryz.func66, Tryz.ntmps66
      go_wp2
      go_ret
      exact ⟨rfl, rfl⟩
    · have e : wi n m = false := by unfold wi; simp [h2]
      rw [e]
      clear e
      go_enter Tryz.func66, Tryz.ntmps66
      go_wp2
      go_ret
      exact ⟨rfl, rfl⟩
  · have e : wi n m = false := by unfold wi; simp [h]
    rw [e]
    clear e
    go_enter Tryz.func66, Tryz.ntmps66
    go_wp2
    go_ret
    exact ⟨rfl, rfl⟩
theorem rin_any (n m : Int) (w : World) : Calls Tryz.prog 67 #[.int .i64 n, .int .i64 0, .int .i64 m] w fun e w' => e = .returned (.bool (wi n m)) ∧ w = w' := by
  by_cases h : 0 ≤ n
  · by_cases h2 : n ≤ m
    · have e : wi n m = true := (wi_iff n m).2 ⟨h, h2⟩
      rw [e]
      clear e
      go_enter Tryz.func67, Tryz.ntmps67
      go_wp2
      go_ret
      exact ⟨rfl, rfl⟩
    · have e : wi n m = false := by unfold wi; simp [h2]
      rw [e]
      clear e
      go_enter Tryz.func67, Tryz.ntmps67
      go_wp2
      go_ret
      exact ⟨rfl, rfl⟩
  · have e : wi n m = false := by unfold wi; simp [h]
    rw [e]
    clear e
    go_enter Tryz.func67, Tryz.ntmps67
    go_wp2
    go_ret
    exact ⟨rfl, rfl⟩

/-- The first part that is out of its range, if any. -/
def BadB (b : Int) : Prop := (b != 0) = true ∧ (b != 4) = true ∧ (b != 6) = true
def FineB (b : Int) : Prop := (b != 0) = false ∨ ((b != 0) = true ∧ (b != 4) = false) ∨ ((b != 0) = true ∧ (b != 4) = true ∧ (b != 6) = false)
theorem b_cases (b : Int) : ((b ≠ 0 ∧ b ≠ 4 ∧ b ≠ 6) ∧ BadB b) ∨ ((b = 0 ∨ b = 4 ∨ b = 6) ∧ FineB b) := by
  unfold BadB FineB
  by_cases h0 : b = 0
  · subst h0; right; exact ⟨Or.inl rfl, Or.inl rfl⟩
  · by_cases h4 : b = 4
    · subst h4; right; exact ⟨Or.inr (Or.inl rfl), Or.inr (Or.inl ⟨rfl, rfl⟩)⟩
    · by_cases h6 : b = 6
      · subst h6; right; exact ⟨Or.inr (Or.inr rfl), Or.inr (Or.inr ⟨rfl, rfl, rfl⟩)⟩
      · left; exact ⟨⟨h0, h4, h6⟩, by simpa using h0, by simpa using h4, by simpa using h6⟩
structure OkA (d : Dl) : Prop where
  t1 : ¬ d.t < 1
  t3 : ¬ 3 < d.t
  s3 : ¬ 3 < d.s
  h10 : ¬ 10 < d.h
structure OkB (d : Dl) : Prop where
  r : wi d.r 7 = true
  sh : wi d.sh d.r = true
  b : FineB d.b
theorem chk_cases (d : Dl) :
    (d.t < 1 ∧ chk d = 3) ∨ (¬ d.t < 1 ∧ 3 < d.t ∧ chk d = 3) ∨ (¬ d.t < 1 ∧ ¬ 3 < d.t ∧ 3 < d.s ∧ chk d = 3) ∨ (¬ d.t < 1 ∧ ¬ 3 < d.t ∧ ¬ 3 < d.s ∧ 10 < d.h ∧ chk d = 3) ∨
    (OkA d ∧ wi d.r 7 = false ∧ chk d = 2) ∨ (OkA d ∧ wi d.r 7 = true ∧ wi d.sh d.r = false ∧ chk d = 2) ∨ (OkA d ∧ wi d.r 7 = true ∧ wi d.sh d.r = true ∧ BadB d.b ∧ chk d = 2) ∨
    (OkA d ∧ OkB d ∧ wi d.v 2 = false ∧ chk d = 2) ∨ (OkA d ∧ OkB d ∧ wi d.v 2 = true ∧ wi d.f 11 = false ∧ chk d = 2) ∨ (OkA d ∧ OkB d ∧ wi d.v 2 = true ∧ wi d.f 11 = true ∧ wi d.g 11 = false ∧ chk d = 2) ∨
    (OkA d ∧ OkB d ∧ wi d.v 2 = true ∧ wi d.f 11 = true ∧ wi d.g 11 = true ∧ wi d.z 8 = false ∧ chk d = 2) ∨ (OkA d ∧ OkB d ∧ wi d.v 2 = true ∧ wi d.f 11 = true ∧ wi d.g 11 = true ∧ wi d.z 8 = true ∧ chk d = 0) := by
  have bad3 : ¬ okT d → chk d = 3 := fun h => by unfold chk; rw [if_neg h]
  have bad2 : okT d → ¬ okR d → chk d = 2 := fun h h2 => by unfold chk; rw [if_pos h, if_neg h2]
  have fw : ∀ n m, wi n m = false → ¬ (0 ≤ n ∧ n ≤ m) := fun n m h h2 => by rw [(wi_iff n m).2 h2] at h; cases h
  by_cases t1 : d.t < 1
  · left; exact ⟨t1, bad3 (fun h => by have := h.1; omega)⟩
  by_cases t3 : 3 < d.t
  · right; left; exact ⟨t1, t3, bad3 (fun h => by have := h.2.1; omega)⟩
  by_cases s3 : 3 < d.s
  · right; right; left; exact ⟨t1, t3, s3, bad3 (fun h => by have := h.2.2.1; omega)⟩
  by_cases h10 : 10 < d.h
  · right; right; right; left; exact ⟨t1, t3, s3, h10, bad3 (fun h => by have := h.2.2.2; omega)⟩
  have hA : OkA d := ⟨t1, t3, s3, h10⟩
  have hT : okT d := ⟨by omega, by omega, by omega, by omega⟩
  right; right; right; right
  cases hr : wi d.r 7
  · left; exact ⟨hA, rfl, bad2 hT (fun h => fw _ _ hr h.1)⟩
  cases hs : wi d.sh d.r
  · right; left; exact ⟨hA, rfl, rfl, bad2 hT (fun h => fw _ _ hs h.2.1)⟩
  right; right
  rcases b_cases d.b with ⟨hb, hb2⟩ | ⟨hb, hb2⟩
  · left; exact ⟨hA, rfl, rfl, hb2, bad2 hT (fun h => by have := h.2.2.1; omega)⟩
  have hB : OkB d := ⟨hr, hs, hb2⟩
  right
  cases hv : wi d.v 2
  · left; exact ⟨hA, hB, rfl, bad2 hT (fun h => fw _ _ hv h.2.2.2.1)⟩
  cases hf : wi d.f 11
  · right; left; exact ⟨hA, hB, rfl, rfl, bad2 hT (fun h => fw _ _ hf h.2.2.2.2.1)⟩
  cases hg : wi d.g 11
  · right; right; left; exact ⟨hA, hB, rfl, rfl, rfl, bad2 hT (fun h => fw _ _ hg h.2.2.2.2.2.1)⟩
  cases hz : wi d.z 8
  · right; right; right; left; exact ⟨hA, hB, rfl, rfl, rfl, rfl, bad2 hT (fun h => fw _ _ hz h.2.2.2.2.2.2)⟩
  right; right; right; right
  refine ⟨hA, hB, rfl, rfl, rfl, rfl, ?_⟩
  unfold chk
  rw [if_pos hT, if_pos ⟨(wi_iff _ _).1 hr, (wi_iff _ _).1 hs, hb, (wi_iff _ _).1 hv, (wi_iff _ _).1 hf, (wi_iff _ _).1 hg, (wi_iff _ _).1 hz⟩]

set_option maxHeartbeats 4000000 in
theorem noChk_any (d : Dl) (w : World) : Calls Tryz.prog 34 #[DV d] w fun e w' => e = .returned (.int .i64 (chk d)) ∧ Below w.heap.size w w' := by
  have HW := Lib.hid within_any
  have hc := chk_cases d
  generalize chk d = C at *
  obtain ⟨t, s, r, sh, b, x, h, v, f, g, u, z⟩ := d
  dsimp only at hc
  rcases hc with ⟨h1, rfl⟩ | ⟨h1, h2, rfl⟩ | ⟨h1, h2, h3, rfl⟩ | ⟨h1, h2, h3, h4, rfl⟩ | ⟨⟨h1, h2, h3, h4⟩, h5, rfl⟩ | ⟨⟨h1, h2, h3, h4⟩, h5, h6, rfl⟩ | ⟨⟨h1, h2, h3, h4⟩, h5, h6, ⟨p1, p2, p3⟩, rfl⟩ |
    ⟨⟨h1, h2, h3, h4⟩, ⟨h5, h6, p1 | ⟨p1, p2⟩ | ⟨p1, p2, p3⟩⟩, h7, rfl⟩ | ⟨⟨h1, h2, h3, h4⟩, ⟨h5, h6, p1 | ⟨p1, p2⟩ | ⟨p1, p2, p3⟩⟩, h7, h8, rfl⟩ | ⟨⟨h1, h2, h3, h4⟩, ⟨h5, h6, p1 | ⟨p1, p2⟩ | ⟨p1, p2, p3⟩⟩, h7, h8, h9, rfl⟩ |
    ⟨⟨h1, h2, h3, h4⟩, ⟨h5, h6, p1 | ⟨p1, p2⟩ | ⟨p1, p2, p3⟩⟩, h7, h8, h9, h10, rfl⟩ | ⟨⟨h1, h2, h3, h4⟩, ⟨h5, h6, p1 | ⟨p1, p2⟩ | ⟨p1, p2, p3⟩⟩, h7, h8, h9, h10, rfl⟩
  all_goals
    (try dsimp only at *)
    go_enter Tryz.func34, Tryz.ntmps34
    go_wp2_with (go_at_call 66; (with_reducible refine (HW.out _ _ _).mono ?_); rintro e w' ⟨rfl, rfl⟩)
    go_ret
    exact ⟨rfl, by (repeat' (first | (with_reducible exact Below.refl _ _) | (with_reducible refine Below.setCell ?_ ?_ _) | (with_reducible refine Below.alloc ?_ ?_ _) | (with_reducible refine Below.drew ?_) | (with_reducible refine belowN ?_ _) | (with_reducible refine below_step ?_ ?_ (by with_reducible assumption)) | go_size))⟩
set_option maxHeartbeats 4000000 in
theorem rcheck_any (d : Dl) (w : World) : Calls Tryz.prog 38 #[DV d] w fun e w' => e = .returned (.int .i64 (chk d)) ∧ Below w.heap.size w w' := by
  have HW := Lib.hid rin_any
  have hc := chk_cases d
  generalize chk d = C at *
  obtain ⟨t, s, r, sh, b, x, h, v, f, g, u, z⟩ := d
  dsimp only at hc
  rcases hc with ⟨h1, rfl⟩ | ⟨h1, h2, rfl⟩ | ⟨h1, h2, h3, rfl⟩ | ⟨h1, h2, h3, h4, rfl⟩ | ⟨⟨h1, h2, h3, h4⟩, h5, rfl⟩ | ⟨⟨h1, h2, h3, h4⟩, h5, h6, rfl⟩ | ⟨⟨h1, h2, h3, h4⟩, h5, h6, ⟨p1, p2, p3⟩, rfl⟩ |
    ⟨⟨h1, h2, h3, h4⟩, ⟨h5, h6, p1 | ⟨p1, p2⟩ | ⟨p1, p2, p3⟩⟩, h7, rfl⟩ | ⟨⟨h1, h2, h3, h4⟩, ⟨h5, h6, p1 | ⟨p1, p2⟩ | ⟨p1, p2, p3⟩⟩, h7, h8, rfl⟩ | ⟨⟨h1, h2, h3, h4⟩, ⟨h5, h6, p1 | ⟨p1, p2⟩ | ⟨p1, p2, p3⟩⟩, h7, h8, h9, rfl⟩ |
    ⟨⟨h1, h2, h3, h4⟩, ⟨h5, h6, p1 | ⟨p1, p2⟩ | ⟨p1, p2, p3⟩⟩, h7, h8, h9, h10, rfl⟩ | ⟨⟨h1, h2, h3, h4⟩, ⟨h5, h6, p1 | ⟨p1, p2⟩ | ⟨p1, p2, p3⟩⟩, h7, h8, h9, h10, rfl⟩
  all_goals
    (try dsimp only at *)
    go_enter Tryz.func38, Tryz.ntmps38
    go_wp2_with (go_at_call 67; (with_reducible refine (HW.out _ _ _).mono ?_); rintro e w' ⟨rfl, rfl⟩)
    go_ret
    exact ⟨rfl, by (repeat' (first | (with_reducible exact Below.refl _ _) | (with_reducible refine Below.setCell ?_ ?_ _) | (with_reducible refine Below.alloc ?_ ?_ _) | (with_reducible refine Below.drew ?_) | (with_reducible refine belowN ?_ _) | (with_reducible refine below_step ?_ ?_ (by with_reducible assumption)) | go_size))⟩
end Go.Proofs.YtdgmogmldfhgcaaGreatDoor
