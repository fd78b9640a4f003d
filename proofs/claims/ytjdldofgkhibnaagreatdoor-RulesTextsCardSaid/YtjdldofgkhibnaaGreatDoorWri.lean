/- The text of fields, lines; contracts of the program's written, and of Write on lines that can be read. -/
import Derived.Test.YtjdldofgkhibnaaGreatDoorBld
import Derived.Test.YtjdldofgkhibnaaGreatDoorTxA
import Derived.Test.YtjdldofgkhibnaaGreatDoorTxC
import Derived.Test.YtjdldofgkhibnaaGreatDoorTxI
import Derived.Test.YtjdldofgkhibnaaGreatDoorTxN
set_option linter.unusedSimpArgs false
set_option linter.unusedVariables false
namespace Go.Proofs.YtjdldofgkhibnaaGreatDoor
open Go.RowKit

/-- Whether a text is a word. -/
def wdB (t : List UInt8) : Bool := !t.isEmpty && decide (wnd t 0 = t.length)
def wrF (f : Fld) : List UInt8 := if f.quo = false ∧ wdB f.text = true then f.text else 34 :: (dbl f.text ++ [34])
def wrJ : List Fld → List UInt8
  | [] => []
  | f :: r => wrF f ++ r.flatMap fun g => 32 :: wrF g
theorem wrJ_app (a : List Fld) (f : Fld) : wrJ (a ++ [f]) = wrJ a ++ (if a = [] then [] else [32]) ++ wrF f := by
  cases a with
  | nil => simp [wrJ]
  | cons b r => simp [wrJ]
def wrL (x : Lin) : List UInt8 := wrJ x.flds ++ (if x.flds = [] then [] else [10])
def wrA (ls : List Lin) : List UInt8 := ls.flatMap wrL
theorem wrA_take (ls : List Lin) (k : Nat) (h : k < ls.length) : wrA (ls.take (k + 1)) = wrA (ls.take k) ++ wrL ls[k] := by
  unfold wrA
  rw [List.take_succ_eq_append_getElem h, List.flatMap_append]
  simp
theorem wrA_room (ls : List Lin) (k : Nat) (h : k < ls.length) : (wrA (ls.take k)).length + (wrL ls[k]).length ≤ (wrA ls).length := by
  rw [← List.length_append, ← wrA_take ls k h]
  conv => rhs; rw [← List.take_append_drop (k + 1) ls]
  unfold wrA
  rw [List.flatMap_append, List.length_append]; omega
theorem wrJ_room (fs : List Fld) (k : Nat) (h : k < fs.length) : (wrJ (fs.take k)).length + 1 + (wrF fs[k]).length ≤ (wrJ fs).length + 1 := by
  have h1 : ∀ a b : List Fld, (wrJ a).length ≤ (wrJ (a ++ b)).length := by
    intro a b
    cases a with
    | nil => simp [wrJ]
    | cons x r => simp [wrJ]
  have h2 := h1 (fs.take (k + 1)) (fs.drop (k + 1))
  rw [List.take_append_drop, List.take_succ_eq_append_getElem h, wrJ_app] at h2
  by_cases h0 : fs.take k = []
  · rw [h0] at h2 ⊢; simp [wrJ] at h2 ⊢; omega
  · rw [if_neg h0] at h2; simp at h2; omega
theorem written_any (f : Fld) (w : World) (hl : f.text.length < 4294967281) (h : Env w) :
    Calls Tryz.prog 38 #[FV f] w fun e w' => e = .returned (S (wrF f)) ∧ Below w.heap.size w w' := by
  obtain ⟨t, c, q⟩ := f
  simp only at hl
  have HE := Lib.hid h
  have HQ := Lib.hid (fun w h => quote_any t w hl h)
  have HW : Hid (∀ w, Calls Tryz.prog 56 #[S t, .int .i64 0] w fun e w' => e = .returned (.int .i64 (wnd t 0 : Int)) ∧ w' = w) := Lib.hid (fun w => (wend_any t 0 w (by omega) (Nat.zero_le _)).mono fun e w' ⟨h1, h2⟩ => ⟨h1, h2.symm⟩)
  have z := str_size t
  clear h
  cases q
  · by_cases h0 : t = []
    · subst h0
      have k0 : (str []).toList.isEmpty = true := by rw [str_toList]; rfl
      go_enter Tryz.func38, Tryz.ntmps38
      go_wp2
      go_quiet (fail)
      go_wp2_with (first | (go_at_call 57; (with_reducible refine (HQ.out _ ?_).mono ?_); (focus (exact HE.out.stays (by (repeat' (first | (with_reducible exact Below.refl _ _) | (with_reducible refine Below.setCell ?_ ?_ _) | (with_reducible refine Below.alloc ?_ ?_ _) | (with_reducible refine Below.drew ?_) | (with_reducible refine belowN ?_ _) | (with_reducible refine below_step ?_ ?_ (by with_reducible assumption)) | go_size))))); rintro e w1 ⟨rfl, hb1⟩; have hz1 := hb1.size; (try simp only [World.size_alloc, World.size_setCell, World.size_drew, size_drewN'] at hz1)))
      go_ret
      exact ⟨rfl, by (repeat' (first | (with_reducible exact Below.refl _ _) | (with_reducible refine Below.setCell ?_ ?_ _) | (with_reducible refine Below.alloc ?_ ?_ _) | (with_reducible refine Below.drew ?_) | (with_reducible refine belowN ?_ _) | (with_reducible refine below_step ?_ ?_ (by with_reducible assumption)) | go_size))⟩
    · have hp : 0 < t.length := by cases t with | nil => exact absurd rfl h0 | cons _ _ => simp
      have he : t.isEmpty = false := by cases t with | nil => exact absurd rfl h0 | cons _ _ => rfl
      have he2 : (str t).toList.isEmpty = false := by rw [str_toList]; exact he
      by_cases hw : wnd t 0 = t.length
      · have hF : Hid (wrF ⟨t, c, false⟩ = t) := Lib.hid (by unfold wrF wdB; rw [he]; simp [hw])
        have k1 : ((wnd t 0 : Int) == (t.length : Int)) = true := by rw [hw]; exact beq_self_eq_true _
        clear hw h0 hp
        generalize wnd t 0 = n at *
        go_enter Tryz.func38, Tryz.ntmps38
        go_wp2
        go_quiet ((go_at_call 56; exact Calls.quiet_of_same (HW.out _)))
        go_wp2
        go_ret
        rw [hF.out]
        exact ⟨rfl, by (repeat' (first | (with_reducible exact Below.refl _ _) | (with_reducible refine Below.setCell ?_ ?_ _) | (with_reducible refine Below.alloc ?_ ?_ _) | (with_reducible refine Below.drew ?_) | (with_reducible refine belowN ?_ _) | (with_reducible refine below_step ?_ ?_ (by with_reducible assumption)) | go_size))⟩
      · have hF : Hid (wrF ⟨t, c, false⟩ = 34 :: (dbl t ++ [34])) := Lib.hid (by unfold wrF wdB; simp [hw])
        have k1 : ((wnd t 0 : Int) == (t.length : Int)) = false := beq_eq_false_iff_ne.2 (by omega)
        clear hw h0 hp
        generalize wnd t 0 = n at *
        go_enter Tryz.func38, Tryz.ntmps38
        go_wp2
        go_quiet ((go_at_call 56; exact Calls.quiet_of_same (HW.out _)))
        go_wp2_with (first | (go_at_call 57; (with_reducible refine (HQ.out _ ?_).mono ?_); (focus (exact HE.out.stays (by (repeat' (first | (with_reducible exact Below.refl _ _) | (with_reducible refine Below.setCell ?_ ?_ _) | (with_reducible refine Below.alloc ?_ ?_ _) | (with_reducible refine Below.drew ?_) | (with_reducible refine belowN ?_ _) | (with_reducible refine below_step ?_ ?_ (by with_reducible assumption)) | go_size))))); rintro e w1 ⟨rfl, hb1⟩; have hz1 := hb1.size; (try simp only [World.size_alloc, World.size_setCell, World.size_drew, size_drewN'] at hz1)))
        go_ret
        rw [hF.out]
        exact ⟨rfl, by (repeat' (first | (with_reducible exact Below.refl _ _) | (with_reducible refine Below.setCell ?_ ?_ _) | (with_reducible refine Below.alloc ?_ ?_ _) | (with_reducible refine Below.drew ?_) | (with_reducible refine belowN ?_ _) | (with_reducible refine below_step ?_ ?_ (by with_reducible assumption)) | go_size))⟩
  · go_enter Tryz.func38, Tryz.ntmps38
    go_wp2
    go_quiet (fail)
    go_wp2_with (first | (go_at_call 57; (with_reducible refine (HQ.out _ ?_).mono ?_); (focus (exact HE.out.stays (by (repeat' (first | (with_reducible exact Below.refl _ _) | (with_reducible refine Below.setCell ?_ ?_ _) | (with_reducible refine Below.alloc ?_ ?_ _) | (with_reducible refine Below.drew ?_) | (with_reducible refine belowN ?_ _) | (with_reducible refine below_step ?_ ?_ (by with_reducible assumption)) | go_size))))); rintro e w1 ⟨rfl, hb1⟩; have hz1 := hb1.size; (try simp only [World.size_alloc, World.size_setCell, World.size_drew, size_drewN'] at hz1)))
    go_ret
    exact ⟨rfl, by (repeat' (first | (with_reducible exact Below.refl _ _) | (with_reducible refine Below.setCell ?_ ?_ _) | (with_reducible refine Below.alloc ?_ ?_ _) | (with_reducible refine Below.drew ?_) | (with_reducible refine belowN ?_ _) | (with_reducible refine below_step ?_ ?_ (by with_reducible assumption)) | go_size))⟩
/-- Fields, lines that can be read behind a slice. -/
def RdF (w : World) (v : Value) (fs : List Fld) : Prop :=
  (fs = [] ∧ ∃ A c, v = .slice A 0 c) ∨ (fs ≠ [] ∧ ∃ g o c, v = .slice (some ⟨g, o, none⟩) fs.length c ∧ g < w.heap.size ∧ True ∧ True ∧ ∀ k f, fs[k]? = some f →
    w.cell? ⟨g, o + k * 3, none⟩ = some (S f.text) ∧ w.cell? ⟨g, o + k * 3 + 1, none⟩ = some (.int .i64 f.col) ∧ w.cell? ⟨g, o + k * 3 + 2, none⟩ = some (.bool f.quo))
def RdL (w : World) (v : Value) (ls : List Lin) : Prop :=
  (ls = [] ∧ ∃ A c, v = .slice A 0 c) ∨ (ls ≠ [] ∧ ∃ g o c, v = .slice (some ⟨g, o, none⟩) ls.length c ∧ g < w.heap.size ∧ True ∧ True ∧ ∀ k x, ls[k]? = some x →
    ∃ u, w.cell? ⟨g, o + k * 2, none⟩ = some (.int .i64 x.num) ∧ w.cell? ⟨g, o + k * 2 + 1, none⟩ = some u ∧ RdF w u x.flds)
theorem RdF.below {w w' : World} {v : Value} {fs : List Fld} (h : RdF w v fs) (hb : Below w.heap.size w w') : RdF w' v fs := by
  rcases h with h | ⟨hn, g, o, c, h1, h2, h3, h4, h5⟩
  · exact Or.inl h
  · refine Or.inr ⟨hn, g, o, c, h1, by have := hb.size; omega, h3, h4, fun k f hf => ?_⟩
    obtain ⟨x0, x1, x2⟩ := h5 k f hf
    exact ⟨(hb.cell (p := ⟨g, o + k * 3, none⟩) h2).trans x0, (hb.cell (p := ⟨g, o + k * 3 + 1, none⟩) h2).trans x1, (hb.cell (p := ⟨g, o + k * 3 + 2, none⟩) h2).trans x2⟩
theorem RdL.below {w w' : World} {v : Value} {ls : List Lin} (h : RdL w v ls) (hb : Below w.heap.size w w') : RdL w' v ls := by
  rcases h with h | ⟨hn, g, o, c, h1, h2, h3, h4, h5⟩
  · exact Or.inl h
  · refine Or.inr ⟨hn, g, o, c, h1, by have := hb.size; omega, h3, h4, fun k x hx => ?_⟩
    obtain ⟨u, x0, x1, x2⟩ := h5 k x hx
    exact ⟨u, (hb.cell (p := ⟨g, o + k * 2, none⟩) h2).trans x0, (hb.cell (p := ⟨g, o + k * 2 + 1, none⟩) h2).trans x1, x2.below hb⟩
theorem OwnF.rd {w : World} {b : Nat} {v : Value} {fs : List Fld} (h : OwnF w b v fs) : RdF w v fs := by
  rcases own_form h with ⟨h0, rfl⟩ | ⟨g, c, rfl, _, g2, g3, g4⟩
  · exact Or.inl ⟨List.length_eq_zero_iff.1 h0, _, _, rfl⟩
  · by_cases hn : fs = []
    · subst hn; exact Or.inl ⟨rfl, _, _, rfl⟩
    · refine Or.inr ⟨hn, g, 0, c, rfl, g2, trivial, trivial, fun k f hf => ?_⟩
      have := ownF_at h k f hf
      simpa only [Nat.zero_add] using this
theorem OwnL.rd {w : World} {b : Nat} {v : Value} {ls : List Lin} (h : OwnL w b v ls) : RdL w v ls := by
  have h' := h
  obtain ⟨vs, q1, q2, q3⟩ := h'
  rcases own_form q2 with ⟨h0, rfl⟩ | ⟨g, c, rfl, _, g2, g3, g4⟩
  · exact Or.inl ⟨List.length_eq_zero_iff.1 h0, _, _, rfl⟩
  · by_cases hn : ls = []
    · subst hn; exact Or.inl ⟨rfl, _, _, rfl⟩
    · refine Or.inr ⟨hn, g, 0, c, rfl, g2, trivial, trivial, fun k x hx => ?_⟩
      obtain ⟨u, x0, x1, x2⟩ := ownL_at h k x hx
      exact ⟨u, by simpa only [Nat.zero_add] using x0, by simpa only [Nat.zero_add] using x1, x2.rd⟩
/-- What Write asks of the lines' sizes. -/
structure Fine (ls : List Lin) : Prop where
  n : ls.length ≤ 4611686018427387904
  all : (wrA ls).length ≤ 70368744177664
  flds : ∀ x ∈ ls, x.flds.length ≤ 4611686018427387904
  text : ∀ x ∈ ls, ∀ f ∈ x.flds, f.text.length < 4294967281
end Go.Proofs.YtjdldofgkhibnaaGreatDoor
