/- The chapter's examples, which every statement of layer 3 asks first: they hold, in a world whose library variables are as the program's text lays them. -/
import Derived.Test.YtjibacfgcdbhlaaGreatDoorTxF
import Derived.Test.YtjibacfgcdbhlaaGreatDoorTxI
import Derived.Test.YtjibacfgcdbhlaaGreatDoorNumA
import Derived.Test.YtjibacfgcdbhlaaGreatDoorNumB
set_option linter.unusedSimpArgs false
set_option linter.unusedVariables false
namespace Go.Proofs.YtjibacfgcdbhlaaGreatDoor
open Go.RowKit

/-- The fields from a place on, by fuel: what the kernel can reckon. -/
def scnF : Nat → List UInt8 → Nat → Except Nat (List Fld)
  | 0, _, _ => .ok []
  | n + 1, l, i => if h : i < l.length then if l[i].toNat = 59 then .ok [] else if wht l[i] = true then scnF n l (i + 1) else if fldB l i = true then (match scnF n l (fldE l i) with | .ok xs => .ok (fldF l i :: xs) | .error e => .error e) else .error (fldE l i) else .ok []
theorem scnF_eq (l : List UInt8) : ∀ n i, l.length - i ≤ n → scn l i = scnF n l i := by
  intro n
  induction n with
  | zero => intro i h; rw [scn_end l i (by omega)]; rfl
  | succ n ih =>
    intro i h
    by_cases hi : i < l.length
    · rw [scnF, dif_pos hi]
      by_cases h59 : l[i].toNat = 59
      · rw [if_pos h59, scn_semi l i hi h59]
      · rw [if_neg h59]
        cases hw : wht l[i]
        · rw [if_neg (by simp)]
          cases hb : fldB l i
          · rw [if_neg (by simp), scn_bad l i hi h59 hw hb]
          · have hE := fldE_lt l i hi hb h59 hw
            rw [if_pos rfl, scn_field l i hi h59 hw hb, ih (fldE l i) (by omega)]
            cases scnF n l (fldE l i) <;> rfl
        · rw [if_pos rfl, scn_white l i hi hw, ih (i + 1) (by omega)]
    · rw [scn_end l i (by omega), scnF, dif_neg hi]
def kx : List UInt8 := [65, 32, 32, 34, 98, 32, 34, 34, 99, 34, 34, 34, 32, 59, 32, 120, 10, 10, 66, 59]
def kf1 : List Fld := [⟨[65], 1, false⟩, ⟨[98, 32, 34, 99, 34], 4, true⟩]
def kf2 : List Fld := [⟨[66], 1, false⟩]
theorem k_lin1 : linV [65, 32, 32, 34, 98, 32, 34, 34, 99, 34, 34, 34, 32, 59, 32, 120] = kf1 ∧ linC [65, 32, 32, 34, 98, 32, 34, 34, 99, 34, 34, 34, 32, 59, 32, 120] = 0 ∧ linE [65, 32, 32, 34, 98, 32, 34, 34, 99, 34, 34, 34, 32, 59, 32, 120] = 0 :=
  lin_ok _ (by decide) _ ((scnF_eq _ 16 0 (by decide)).trans (by kernel_rfl))
theorem k_lin2 : linV [] = [] ∧ linC [] = 0 ∧ linE [] = 0 := lin_ok _ (by decide) _ ((scnF_eq _ 0 0 (by decide)).trans (by kernel_rfl))
theorem k_lin3 : linV [66, 59] = kf2 ∧ linC [66, 59] = 0 ∧ linE [66, 59] = 0 := lin_ok _ (by decide) _ ((scnF_eq _ 2 0 (by decide)).trans (by kernel_rfl))
theorem k_lin4 : linV [65, 34] = [] ∧ linC [65, 34] = 2 ∧ linE [65, 34] = 4 := lin_bad _ (by decide) 1 ((scnF_eq _ 2 0 (by decide)).trans (by kernel_rfl))
theorem k_lin5 : linV [34, 65, 34, 66] = [] ∧ linC [34, 65, 34, 66] = 4 ∧ linE [34, 65, 34, 66] = 4 := lin_bad _ (by decide) 3 ((scnF_eq _ 4 0 (by decide)).trans (by kernel_rfl))
theorem k_spL1 : spL kx = [⟨1, kf1⟩, ⟨3, kf2⟩] ∧ spD kx = [] := by
  have e : pcs kx = [[65, 32, 32, 34, 98, 32, 34, 34, 99, 34, 34, 34, 32, 59, 32, 120], [], [66, 59]] := by kernel_rfl
  unfold spL spD
  rw [if_neg (by decide), if_neg (by decide), e]
  simp only [linesF, diasF, k_lin1.1, k_lin1.2.2, k_lin2.1, k_lin2.2.2, k_lin3.1, k_lin3.2.2]
  simp [kf1, kf2]
theorem k_spD2 : spD [65, 34] = [⟨1, 2, 4⟩] := by
  have e : pcs [65, 34] = [[65, 34]] := by kernel_rfl
  unfold spD
  rw [if_neg (by decide), e]
  simp only [diasF, k_lin4.2.1, k_lin4.2.2]
  simp
theorem k_spD3 : spD [34, 65, 34, 66] = [⟨1, 4, 4⟩] := by
  have e : pcs [34, 65, 34, 66] = [[34, 65, 34, 66]] := by kernel_rfl
  unfold spD
  rw [if_neg (by decide), e]
  simp only [diasF, k_lin5.2.1, k_lin5.2.2]
  simp
def K1 (w : World) (e : Ending) (w' : World) : Prop :=
  ∃ (g cap p c ca : Nat) (A : Option Addr), e = .returned (.tuple #[.slice (some ⟨g, 0, none⟩) 2 cap, .slice A 0 ca]) ∧ w'.cell? ⟨g, 1, none⟩ = some (.slice (some ⟨p, 0, none⟩) 2 c) ∧ w'.cell? ⟨g, 2, none⟩ = some (.int .i64 3) ∧
    w'.cell? ⟨p, 3, none⟩ = some (.string ⟨#[98, 32, 34, 99, 34]⟩) ∧ w'.cell? ⟨p, 4, none⟩ = some (.int .i64 4) ∧ w'.cell? ⟨p, 5, none⟩ = some (.bool true) ∧ g < w'.heap.size ∧ p < w'.heap.size ∧ Below w.heap.size w w'
def K2 (col : Int) (w : World) (e : Ending) (w' : World) : Prop :=
  ∃ (g cap : Nat) (vL : Value), e = .returned (.tuple #[vL, .slice (some ⟨g, 0, none⟩) 1 cap]) ∧ w'.cell? ⟨g, 0, none⟩ = some (.int .i64 1) ∧ w'.cell? ⟨g, 1, none⟩ = some (.int .i64 col) ∧ w'.cell? ⟨g, 2, none⟩ = some (.int .i64 4) ∧ g < w'.heap.size ∧ Below w.heap.size w w'
theorem k_split1 (w : World) (h : Env w) : Calls Tryz.prog 19 #[.string ⟨#[65, 32, 32, 34, 98, 32, 34, 34, 99, 34, 34, 34, 32, 59, 32, 120, 10, 10, 66, 59]⟩] w (K1 w) := by
  refine (split_any kx w (by decide) h).mono ?_
  rintro e w' ⟨vL, vD, rfl, hL, hD, hb⟩
  rw [k_spL1.1] at hL
  rw [k_spL1.2] at hD
  obtain ⟨vs, q1, q2, q3⟩ := hL
  have hL2 : OwnL w' w.heap.size vL [⟨1, kf1⟩, ⟨3, kf2⟩] := ⟨vs, q1, q2, q3⟩
  rcases own_form q2 with ⟨h0, _⟩ | ⟨g, cap, rfl, g1, g2, g3, g4⟩
  · simp at h0
  · obtain ⟨u, c0, c1, c2⟩ := ownL_at hL2 0 ⟨1, kf1⟩ rfl
    obtain ⟨u2, d0, d1, d2⟩ := ownL_at hL2 1 ⟨3, kf2⟩ rfl
    rcases own_form c2 with ⟨h0, _⟩ | ⟨p, c, rfl, p1, p2, p3, p4⟩
    · simp [kf1] at h0
    · obtain ⟨x0, x1, x2⟩ := ownF_at c2 1 ⟨[98, 32, 34, 99, 34], 4, true⟩ rfl
      rcases own_form hD with ⟨_, rfl⟩ | ⟨gd, cd, rfl, _, _, _, _⟩
      · exact ⟨g, cap, p, c, 0, none, rfl, c1, d0, x0, x1, x2, g2, p2, hb⟩
      · exact ⟨g, cap, p, c, cd, _, rfl, c1, d0, x0, x1, x2, g2, p2, hb⟩
theorem k_splitD (l : List UInt8) (col : Int) (w : World) (hl : l.length < 100) (hs : spD l = [⟨1, col, 4⟩]) (h : Env w) : Calls Tryz.prog 19 #[S l] w (K2 col w) := by
  refine (split_any l w (by omega) h).mono ?_
  rintro e w' ⟨vL, vD, rfl, hL, hD, hb⟩
  rw [hs] at hD
  rcases own_form hD with ⟨h0, _⟩ | ⟨g, cap, rfl, g1, g2, g3, g4⟩
  · simp at h0
  · obtain ⟨x0, x1, x2⟩ := ownD_at hD 0 ⟨1, col, 4⟩ rfl
    exact ⟨g, cap, vL, rfl, x0, x1, x2, g2, hb⟩
theorem k_num1 (w : World) (h : Env w) : Calls Tryz.prog 20 #[.string ⟨#[45, 48]⟩, .int .i64 (-1), .int .i64 1] w fun e w' => e = .returned (.tuple #[.int .i64 0, .int .i64 4]) ∧ Below w.heap.size w w' := by
  have h := number_any [45, 48] (-1) 1 w (by decide) (by unfold I64; omega) (by unfold I64; omega) h
  have e1 : numV [45, 48] (-1) 1 = 0 := by kernel_rfl
  have e2 : numE [45, 48] (-1) 1 = 4 := by kernel_rfl
  rw [e1, e2] at h
  exact h
theorem k_num2 (w : World) (h : Env w) : Calls Tryz.prog 20 #[.string ⟨#[55]⟩, .int .i64 0, .int .i64 5] w fun e w' => e = .returned (.tuple #[.int .i64 0, .int .i64 2]) ∧ Below w.heap.size w w' := by
  have h := number_any [55] 0 5 w (by decide) (by unfold I64; omega) (by unfold I64; omega) h
  have e1 : numV [55] 0 5 = 0 := by kernel_rfl
  have e2 : numE [55] 0 5 = 2 := by kernel_rfl
  rw [e1, e2] at h
  exact h
theorem k_quote (w : World) (h : Env w) : Calls Tryz.prog 22 #[.string ⟨#[97, 34]⟩] w fun e w' => e = .returned (.string ⟨#[34, 97, 34, 34, 34]⟩) ∧ Below w.heap.size w w' :=
  quote_any [97, 34] w (by decide) h
theorem k_dec (w : World) (h : Env w) : Calls Tryz.prog 41 #[.int .i64 (-7)] w fun e w' => e = .returned (.string ⟨#[45, 55]⟩) ∧ Below w.heap.size w w' := by
  have h := decimal_any (-7) w (by unfold I64; omega) h
  have e1 : Lib.itoa (-7) = [45, 55] := by
    rw [show (-7 : Int) = -((7 : Nat) : Int) from rfl, Lib.itoa_neg 7 (by omega), Lib.decDigits_one (by omega)]; rfl
  rw [e1] at h
  exact h
theorem k_cut (w : World) : Calls Tryz.prog 40 #[.string ⟨#[45, 55]⟩, .string ⟨#[45]⟩] w fun e w' => e = .returned (.tuple #[.string ⟨#[55]⟩, .bool true]) ∧ w = w' :=
  (Tryz.strings_CutPrefix ⟨#[45, 55]⟩ ⟨#[45]⟩ w).mono fun e w' ⟨h1, h2⟩ => ⟨h1.trans (by kernel_rfl), h2.symm⟩
theorem k_rep (w : World) : Calls Tryz.prog 42 #[.string ⟨#[48]⟩, .int .i64 2] w fun e w' => e = .returned (.string ⟨#[48, 48]⟩) ∧ Below w.heap.size w w' :=
  (Tryz.strings_Repeat ⟨#[48]⟩ 2 w (by omega) (by decide)).mono fun e w' ⟨h1, h2⟩ => ⟨h1.trans (by kernel_rfl), h2⟩
theorem k_pad (w : World) (h : Env w) : Calls Tryz.prog 21 #[.int .i64 (-7), .int .i64 3] w fun e w' => e = .returned (.string ⟨#[45, 48, 48, 55]⟩) ∧ Below w.heap.size w w' := by
  have HE := Lib.hid h
  have H1 := Lib.hid k_dec
  have H2 := Lib.hid k_cut
  have H3 : Hid (∀ w, Calls Tryz.prog 42 #[.string ⟨#[48]⟩, .int .i64 (min 3 20 - 1)] w fun e w' => e = .returned (.string ⟨#[48, 48]⟩) ∧ Below w.heap.size w w') := Lib.hid (fun w => k_rep w)
  clear h
  go_enter Tryz.func21, Tryz.ntmps21
  go_wp2_with (first | (go_at_call 41; (with_reducible refine (H1.out _ ?_).mono ?_); (focus (exact HE.out.stays (by (repeat' (first | (with_reducible exact Below.refl _ _) | (with_reducible refine Below.setCell ?_ ?_ _) | (with_reducible refine Below.alloc ?_ ?_ _) | (with_reducible refine Below.drew ?_) | (with_reducible refine belowN ?_ _) | (with_reducible refine below_step ?_ ?_ (by with_reducible assumption)) | go_size))))); rintro e w1 ⟨rfl, hb1⟩; have hz1 := hb1.size; (try simp only [World.size_alloc, World.size_setCell, World.size_drew, size_drewN'] at hz1)) | (go_at_call 40; ((with_reducible refine (H2.out _).mono ?_); rintro e w' ⟨rfl, rfl⟩)) | (go_at_call 42; ((with_reducible refine (H3.out _).mono ?_); rintro e w2 ⟨rfl, hb2⟩); have hz2 := hb2.size; (try simp only [World.size_alloc, World.size_setCell, World.size_drew, size_drewN'] at hz2)))
  go_ret
  exact ⟨rfl, by (repeat' (first | (with_reducible exact Below.refl _ _) | (with_reducible refine Below.setCell ?_ ?_ _) | (with_reducible refine Below.alloc ?_ ?_ _) | (with_reducible refine Below.drew ?_) | (with_reducible refine belowN ?_ _) | (with_reducible refine below_step ?_ ?_ (by with_reducible assumption)) | go_size))⟩
set_option maxRecDepth 100000 in
set_option maxHeartbeats 4000000 in
theorem awake_any (w : World) (henv : Env w) : Calls Tryz.prog 4 #[] w fun e w' => e = .returned (.bool true) ∧ Below w.heap.size w w' := by
  have HE := Lib.hid henv
  have H1 := Lib.hid k_split1
  have H2 : Hid (∀ w, Env w → Calls Tryz.prog 19 #[.string ⟨#[65, 34]⟩] w (K2 2 w)) := Lib.hid (fun w h => k_splitD [65, 34] 2 w (by decide) k_spD2 h)
  have H3 : Hid (∀ w, Env w → Calls Tryz.prog 19 #[.string ⟨#[34, 65, 34, 66]⟩] w (K2 4 w)) := Lib.hid (fun w h => k_splitD [34, 65, 34, 66] 4 w (by decide) k_spD3 h)
  have H4 := Lib.hid k_num1
  have H5 := Lib.hid k_num2
  have H6 := Lib.hid k_pad
  have H7 := Lib.hid k_quote
  clear henv
  go_enter Tryz.func4, Tryz.ntmps4
  go_wp2_with (first
    | (go_at_call 19; (with_reducible refine (H1.out _ ?_).mono ?_); (focus (exact HE.out.stays (by (repeat' (first | (with_reducible exact Below.refl _ _) | (with_reducible refine Below.setCell ?_ ?_ _) | (with_reducible refine Below.alloc ?_ ?_ _) | (with_reducible refine Below.drew ?_) | (with_reducible refine belowN ?_ _) | (with_reducible refine below_step ?_ ?_ (by with_reducible assumption)) | go_size))))); rintro e w1 ⟨g, cap, p, c, ca, A, rfl, c1, c2, c3, c4, c5, hg, hp, hb1⟩; have hz1 := hb1.size; (try simp only [World.size_alloc, World.size_setCell, World.size_drew, size_drewN'] at hz1))
    | (go_at_call 19; (with_reducible refine (H2.out _ ?_).mono ?_); (focus (exact HE.out.stays (by (repeat' (first | (with_reducible exact Below.refl _ _) | (with_reducible refine Below.setCell ?_ ?_ _) | (with_reducible refine Below.alloc ?_ ?_ _) | (with_reducible refine Below.drew ?_) | (with_reducible refine belowN ?_ _) | (with_reducible refine below_step ?_ ?_ (by with_reducible assumption)) | go_size))))); rintro e w2 ⟨g2, cap2, vL2, rfl, d1, d2, d3, hg2, hb2⟩; have hz2 := hb2.size; (try simp only [World.size_alloc, World.size_setCell, World.size_drew, size_drewN'] at hz2); have b1 := (hb2.cell (p := ⟨g, 1, none⟩) (by show g < _; omega)).trans c1; have b2 := (hb2.cell (p := ⟨g, 2, none⟩) (by show g < _; omega)).trans c2; have b3 := (hb2.cell (p := ⟨p, 3, none⟩) (by show p < _; omega)).trans c3; have b4 := (hb2.cell (p := ⟨p, 4, none⟩) (by show p < _; omega)).trans c4; have b5 := (hb2.cell (p := ⟨p, 5, none⟩) (by show p < _; omega)).trans c5)
    | (go_at_call 19; (with_reducible refine (H3.out _ ?_).mono ?_); (focus (exact HE.out.stays (by (repeat' (first | (with_reducible exact Below.refl _ _) | (with_reducible refine Below.setCell ?_ ?_ _) | (with_reducible refine Below.alloc ?_ ?_ _) | (with_reducible refine Below.drew ?_) | (with_reducible refine belowN ?_ _) | (with_reducible refine below_step ?_ ?_ (by with_reducible assumption)) | go_size))))); rintro e w3 ⟨g3, cap3, vL3, rfl, s1, s2, s3, hg3, hb3⟩; have hz3 := hb3.size; (try simp only [World.size_alloc, World.size_setCell, World.size_drew, size_drewN'] at hz3); have a1 := (hb3.cell (p := ⟨g, 1, none⟩) (by show g < _; omega)).trans b1; have a2 := (hb3.cell (p := ⟨g, 2, none⟩) (by show g < _; omega)).trans b2; have a3 := (hb3.cell (p := ⟨p, 3, none⟩) (by show p < _; omega)).trans b3; have a4 := (hb3.cell (p := ⟨p, 4, none⟩) (by show p < _; omega)).trans b4; have a5 := (hb3.cell (p := ⟨p, 5, none⟩) (by show p < _; omega)).trans b5; have x1 := (hb3.cell (p := ⟨g2, 0, none⟩) (by show g2 < _; omega)).trans d1; have x2 := (hb3.cell (p := ⟨g2, 1, none⟩) (by show g2 < _; omega)).trans d2; have x3 := (hb3.cell (p := ⟨g2, 2, none⟩) (by show g2 < _; omega)).trans d3)
    | (go_at_call 20; (with_reducible refine (H4.out _ ?_).mono ?_); (focus (exact HE.out.stays (by (repeat' (first | (with_reducible exact Below.refl _ _) | (with_reducible refine Below.setCell ?_ ?_ _) | (with_reducible refine Below.alloc ?_ ?_ _) | (with_reducible refine Below.drew ?_) | (with_reducible refine belowN ?_ _) | (with_reducible refine below_step ?_ ?_ (by with_reducible assumption)) | go_size))))); rintro e w4 ⟨rfl, hb4⟩; have hz4 := hb4.size; (try simp only [World.size_alloc, World.size_setCell, World.size_drew, size_drewN'] at hz4); have m1 := (hb4.cell (p := ⟨g, 1, none⟩) (by show g < _; omega)).trans a1; have m2 := (hb4.cell (p := ⟨g, 2, none⟩) (by show g < _; omega)).trans a2; have m3 := (hb4.cell (p := ⟨p, 3, none⟩) (by show p < _; omega)).trans a3; have m4 := (hb4.cell (p := ⟨p, 4, none⟩) (by show p < _; omega)).trans a4; have m5 := (hb4.cell (p := ⟨p, 5, none⟩) (by show p < _; omega)).trans a5; have y1 := (hb4.cell (p := ⟨g2, 0, none⟩) (by show g2 < _; omega)).trans x1; have y2 := (hb4.cell (p := ⟨g2, 1, none⟩) (by show g2 < _; omega)).trans x2; have y3 := (hb4.cell (p := ⟨g2, 2, none⟩) (by show g2 < _; omega)).trans x3; have r1 := (hb4.cell (p := ⟨g3, 0, none⟩) (by show g3 < _; omega)).trans s1; have r2 := (hb4.cell (p := ⟨g3, 1, none⟩) (by show g3 < _; omega)).trans s2; have r3 := (hb4.cell (p := ⟨g3, 2, none⟩) (by show g3 < _; omega)).trans s3)
    | (go_at_call 20; (with_reducible refine (H5.out _ ?_).mono ?_); (focus (exact HE.out.stays (by (repeat' (first | (with_reducible exact Below.refl _ _) | (with_reducible refine Below.setCell ?_ ?_ _) | (with_reducible refine Below.alloc ?_ ?_ _) | (with_reducible refine Below.drew ?_) | (with_reducible refine belowN ?_ _) | (with_reducible refine below_step ?_ ?_ (by with_reducible assumption)) | go_size))))); rintro e w5 ⟨rfl, hb5⟩; have hz5 := hb5.size; (try simp only [World.size_alloc, World.size_setCell, World.size_drew, size_drewN'] at hz5); have n1 := (hb5.cell (p := ⟨g, 1, none⟩) (by show g < _; omega)).trans m1; have n2 := (hb5.cell (p := ⟨g, 2, none⟩) (by show g < _; omega)).trans m2; have n3 := (hb5.cell (p := ⟨p, 3, none⟩) (by show p < _; omega)).trans m3; have n4 := (hb5.cell (p := ⟨p, 4, none⟩) (by show p < _; omega)).trans m4; have n5 := (hb5.cell (p := ⟨p, 5, none⟩) (by show p < _; omega)).trans m5; have z1 := (hb5.cell (p := ⟨g2, 0, none⟩) (by show g2 < _; omega)).trans y1; have z2 := (hb5.cell (p := ⟨g2, 1, none⟩) (by show g2 < _; omega)).trans y2; have z3 := (hb5.cell (p := ⟨g2, 2, none⟩) (by show g2 < _; omega)).trans y3; have t1 := (hb5.cell (p := ⟨g3, 0, none⟩) (by show g3 < _; omega)).trans r1; have t2 := (hb5.cell (p := ⟨g3, 1, none⟩) (by show g3 < _; omega)).trans r2; have t3 := (hb5.cell (p := ⟨g3, 2, none⟩) (by show g3 < _; omega)).trans r3)
    | (go_at_call 21; (with_reducible refine (H6.out _ ?_).mono ?_); (focus (exact HE.out.stays (by (repeat' (first | (with_reducible exact Below.refl _ _) | (with_reducible refine Below.setCell ?_ ?_ _) | (with_reducible refine Below.alloc ?_ ?_ _) | (with_reducible refine Below.drew ?_) | (with_reducible refine belowN ?_ _) | (with_reducible refine below_step ?_ ?_ (by with_reducible assumption)) | go_size))))); rintro e w6 ⟨rfl, hb6⟩; have hz6 := hb6.size; (try simp only [World.size_alloc, World.size_setCell, World.size_drew, size_drewN'] at hz6))
    | (go_at_call 22; (with_reducible refine (H7.out _ ?_).mono ?_); (focus (exact HE.out.stays (by (repeat' (first | (with_reducible exact Below.refl _ _) | (with_reducible refine Below.setCell ?_ ?_ _) | (with_reducible refine Below.alloc ?_ ?_ _) | (with_reducible refine Below.drew ?_) | (with_reducible refine belowN ?_ _) | (with_reducible refine below_step ?_ ?_ (by with_reducible assumption)) | go_size))))); rintro e w7 ⟨rfl, hb7⟩; have hz7 := hb7.size; (try simp only [World.size_alloc, World.size_setCell, World.size_drew, size_drewN'] at hz7)))
  go_ret
  exact ⟨rfl, by (repeat' (first | (with_reducible exact Below.refl _ _) | (with_reducible refine Below.setCell ?_ ?_ _) | (with_reducible refine Below.alloc ?_ ?_ _) | (with_reducible refine Below.drew ?_) | (with_reducible refine belowN ?_ _) | (with_reducible refine below_step ?_ ?_ (by with_reducible assumption)) | go_size))⟩
end Go.Proofs.YtjibacfgcdbhlaaGreatDoor
