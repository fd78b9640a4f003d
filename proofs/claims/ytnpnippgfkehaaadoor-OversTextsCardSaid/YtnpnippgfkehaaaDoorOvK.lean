/- The chapter's examples, which every statement of layer 4 asks first: they hold, in a world whose library variables are as the program's text lays them. -/
import Derived.Test.YtnpnippgfkehaaaDoorOvC
set_option linter.unusedSimpArgs false
set_option linter.unusedVariables false
namespace Go.Proofs.YtnpnippgfkehaaaDoor
open Go.RowKit

theorem k_of (w : World) : Calls Tryd.prog 11 #[.int .i64 75, .int .i64 6] w fun e w' => e = .returned (.tuple #[.int .i64 12, .int .i64 3]) ∧ ∃ k, w' = w.drewN k := by
  have h := of_any 75 6 w
  have e1 : ofQ 75 6 = 12 := by decide
  have e2 : ofR 75 6 = 3 := by decide
  rw [e1, e2] at h
  exact h
theorem k_text (w : World) (h : Env w) : Calls Tryd.prog 13 #[.int .i64 75, .int .i64 6] w fun e w' => e = .returned (.tuple #[.string ⟨#[49, 50, 46, 51]⟩, .int .i64 0]) ∧ Below w.heap.size w w' := by
  have h := text_any 75 6 w h
  have e1 : txL 75 6 = [49, 50, 46, 51] := by
    have i1 : Lib.itoa 12 = [49, 50] := by rw [show (12 : Int) = ((12 : Nat) : Int) from rfl, Lib.itoa_nonneg, Lib.decDigits_two (by omega) (by omega)]; rfl
    have i2 : Lib.itoa 3 = [51] := by rw [show (3 : Int) = ((3 : Nat) : Int) from rfl, Lib.itoa_nonneg, Lib.decDigits_one (by omega)]; rfl
    have e1 : ofQ 75 6 = 12 := by decide
    have e2 : ofR 75 6 = 3 := by decide
    unfold txL
    rw [e1, e2, i1, i2]
    rfl
  have e2 : txE 75 6 = 0 := by decide
  rw [e1, e2] at h
  exact h
theorem k_parse1 (w : World) (h : Env w) : Calls Tryd.prog 15 #[.string ⟨#[49, 50, 46, 51]⟩, .int .i64 6] w fun e w' => e = .returned (.tuple #[.int .i64 75, .int .i64 0]) ∧ Below w.heap.size w w' := by
  have h := parse_any [49, 50, 46, 51] 6 w (by decide) h
  have e1 : prV [49, 50, 46, 51] 6 = 75 := by kernel_rfl
  have e2 : prE [49, 50, 46, 51] 6 = 0 := by kernel_rfl
  rw [e1, e2] at h
  exact h
theorem k_parse2 (w : World) (h : Env w) : Calls Tryd.prog 15 #[.string ⟨#[49, 50, 46, 54]⟩, .int .i64 6] w fun e w' => e = .returned (.tuple #[.int .i64 0, .int .i64 4]) ∧ Below w.heap.size w w' := by
  have h := parse_any [49, 50, 46, 54] 6 w (by decide) h
  have e1 : prV [49, 50, 46, 54] 6 = 0 := by kernel_rfl
  have e2 : prE [49, 50, 46, 54] 6 = 4 := by kernel_rfl
  rw [e1, e2] at h
  exact h
theorem k_rate (w : World) : Calls Tryd.prog 19 #[.int .i64 50, .int .i64 36, .int .i64 6] w fun e w' => e = .returned (.tuple #[R2 25 3, .int .i64 0]) ∧ Below w.heap.size w w' := by
  have h := rate_any 50 36 6 w
  have e1 : rtN 50 36 6 = 25 := by decide
  have e2 : rtD 50 36 6 = 3 := by decide
  have e3 : rtE 50 36 6 = 0 := by decide
  rw [e1, e2, e3] at h
  exact h
theorem k_comp (w : World) : Calls Tryd.prog 23 #[.int .i64 50, .int .i64 36, .int .i64 100, .int .i64 75] w fun e w' => e = .returned (.tuple #[.int .i64 1, .int .i64 0]) ∧ ∃ k, w' = w.drewN k := by
  have h := comp_any 50 36 100 75 w
  have e1 : coV 50 36 100 75 = 1 := by decide
  have e2 : coE 50 36 100 75 = 0 := by decide
  rw [e1, e2] at h
  exact h
set_option maxHeartbeats 2000000 in
theorem awake_any (w : World) (henv : Env w) : Calls Tryd.prog 10 #[] w fun e w' => e = .returned (.bool true) ∧ Below w.heap.size w w' := by
  have HE := Lib.hid henv
  have H2 := Lib.hid k_text
  have H3 := Lib.hid k_parse1
  have H4 := Lib.hid k_parse2
  clear henv
  go_enter Tryd.func10, Tryd.ntmps10
  go_wp2_with (first | (go_at_call 11; ((with_reducible refine (k_of _).mono ?_); rintro e w' ⟨rfl, k1, rfl⟩)) | (go_at_call 13; (with_reducible refine (H2.out _ ?_).mono ?_); (focus (exact HE.out.stays (by (repeat' (first | (with_reducible exact Below.refl _ _) | (with_reducible refine Below.setCell ?_ ?_ _) | (with_reducible refine Below.alloc ?_ ?_ _) | (with_reducible refine Below.drew ?_) | (with_reducible refine belowN ?_ _) | (with_reducible refine below_step ?_ ?_ (by with_reducible assumption)) | go_size))))); rintro e w1 ⟨rfl, hb1⟩; have hz1 := hb1.size; (try simp only [World.size_alloc, World.size_setCell, World.size_drew, size_drewN'] at hz1)) | (go_at_call 15; (with_reducible refine (H3.out _ ?_).mono ?_); (focus (exact HE.out.stays (by (repeat' (first | (with_reducible exact Below.refl _ _) | (with_reducible refine Below.setCell ?_ ?_ _) | (with_reducible refine Below.alloc ?_ ?_ _) | (with_reducible refine Below.drew ?_) | (with_reducible refine belowN ?_ _) | (with_reducible refine below_step ?_ ?_ (by with_reducible assumption)) | go_size))))); rintro e w2 ⟨rfl, hb2⟩; have hz2 := hb2.size; (try simp only [World.size_alloc, World.size_setCell, World.size_drew, size_drewN'] at hz2)) | (go_at_call 15; (with_reducible refine (H4.out _ ?_).mono ?_); (focus (exact HE.out.stays (by (repeat' (first | (with_reducible exact Below.refl _ _) | (with_reducible refine Below.setCell ?_ ?_ _) | (with_reducible refine Below.alloc ?_ ?_ _) | (with_reducible refine Below.drew ?_) | (with_reducible refine belowN ?_ _) | (with_reducible refine below_step ?_ ?_ (by with_reducible assumption)) | go_size))))); rintro e w3 ⟨rfl, hb3⟩; have hz3 := hb3.size; (try simp only [World.size_alloc, World.size_setCell, World.size_drew, size_drewN'] at hz3)) | (go_at_call 19; ((with_reducible refine (k_rate _).mono ?_); rintro e w4 ⟨rfl, hb4⟩); have hz4 := hb4.size; (try simp only [World.size_alloc, World.size_setCell, World.size_drew, size_drewN'] at hz4)) | (go_at_call 23; ((with_reducible refine (k_comp _).mono ?_); rintro e w' ⟨rfl, k2, rfl⟩)))
  go_ret
  exact ⟨rfl, by (repeat' (first | (with_reducible exact Below.refl _ _) | (with_reducible refine Below.setCell ?_ ?_ _) | (with_reducible refine Below.alloc ?_ ?_ _) | (with_reducible refine Below.drew ?_) | (with_reducible refine belowN ?_ _) | (with_reducible refine below_step ?_ ?_ (by with_reducible assumption)) | go_size))⟩
end Go.Proofs.YtnpnippgfkehaaaDoor
