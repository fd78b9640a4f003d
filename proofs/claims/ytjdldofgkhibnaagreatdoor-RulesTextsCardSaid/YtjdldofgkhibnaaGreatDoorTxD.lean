/- Contract of package text's fieldAt. -/
import Derived.Test.YtjdldofgkhibnaaGreatDoorTxC
import Derived.Test.YtjdldofgkhibnaaGreatDoorMem
set_option linter.unusedSimpArgs false
set_option linter.unusedVariables false
namespace Go.Proofs.YtjdldofgkhibnaaGreatDoor
open Go.RowKit

def fldV (l : List UInt8) (i : Nat) : Fld := if fldB l i then fldF l i else ⟨[], 0, false⟩
theorem aft_cases (l : List UInt8) (e : Nat) (he : e ≤ l.length) :
    (e = l.length ∧ aft l e = true) ∨ (∃ h : e < l.length, wht l[e] = true ∧ aft l e = true) ∨ (∃ h : e < l.length, wht l[e] = false ∧ l[e].toNat = 59 ∧ aft l e = true) ∨ (∃ h : e < l.length, wht l[e] = false ∧ l[e].toNat ≠ 59 ∧ aft l e = false) := by
  by_cases h : e < l.length
  · right
    have ha := aft_at l e h
    cases hw : wht l[e]
    · by_cases h59 : l[e].toNat = 59
      · right; left; exact ⟨h, hw, h59, by rw [ha, hw]; simp [h59]⟩
      · right; right; exact ⟨h, hw, h59, by rw [ha, hw]; simp [h59]⟩
    · left; exact ⟨h, hw, by rw [ha, hw]; simp⟩
  · left; exact ⟨by omega, aft_end l e (by omega)⟩
/-- What the walk needs to know of the byte behind a field. -/
def AftOk (l : List UInt8) (e : Nat) (b : Bool) : Prop :=
  (e = l.length ∧ b = true) ∨ (∃ h : e < (str l).size, Hid (∀ w, Calls Tryz.prog 77 #[.int .u8 (((str l)[e]'h).toNat : Int)] w fun r w' => r = .returned (.bool true) ∧ w = w') ∧ b = true) ∨
  (∃ h : e < (str l).size, Hid (∀ w, Calls Tryz.prog 77 #[.int .u8 (((str l)[e]'h).toNat : Int)] w fun r w' => r = .returned (.bool false) ∧ w = w') ∧ ((((str l)[e]'h).toNat : Int) == 59) = true ∧ b = true) ∨
  (∃ h : e < (str l).size, Hid (∀ w, Calls Tryz.prog 77 #[.int .u8 (((str l)[e]'h).toNat : Int)] w fun r w' => r = .returned (.bool false) ∧ w = w') ∧ ((((str l)[e]'h).toNat : Int) == 59) = false ∧ b = false)
theorem aft_ok (l : List UInt8) (e : Nat) (he : e ≤ l.length) : AftOk l e (aft l e) := by
  have z := str_size l
  unfold AftOk
  rcases aft_cases l e he with ⟨h1, h2⟩ | ⟨h1, h2, h3⟩ | ⟨h1, h2, h3, h4⟩ | ⟨h1, h2, h3, h4⟩
  · exact Or.inl ⟨h1, h2⟩
  · refine Or.inr (Or.inl ⟨by omega, Lib.hid (fun w => ?_), h3⟩)
    have h := isWhite_any l[e] w
    rw [h2] at h; rw [str_get l e (by omega) h1]; exact h
  · refine Or.inr (Or.inr (Or.inl ⟨by omega, Lib.hid (fun w => ?_), ?_, h4⟩))
    · have h := isWhite_any l[e] w
      rw [h2] at h; rw [str_get l e (by omega) h1]; exact h
    · rw [str_get l e (by omega) h1]; exact beq_iff_eq.2 (by omega)
  · refine Or.inr (Or.inr (Or.inr ⟨by omega, Lib.hid (fun w => ?_), ?_, h4⟩))
    · have h := isWhite_any l[e] w
      rw [h2] at h; rw [str_get l e (by omega) h1]; exact h
    · rw [str_get l e (by omega) h1]; exact beq_eq_false_iff_ne.2 (by omega)

set_option maxHeartbeats 2000000 in
/-- A quoted field that is closed, with what follows it. -/
theorem fieldAt_quo (l : List UInt8) (i e : Nat) (t : List UInt8) (b : Bool) (w : World) (h : i < l.length) (hl : l.length < 4294967281) (henv : Env w) (h34 : l[i].toNat = 34) (hie : i ≤ e) (hel : e ≤ l.length) (ha : AftOk l e b)
    (hQ : ∀ w, Calls Tryz.prog 78 #[S l, .int .i64 (i : Int)] w fun r w' => r = .returned (.tuple #[.int .i64 (e : Int), .bool true]) ∧ w = w')
    (hU : ∀ w, Env w → Calls Tryz.prog 79 #[S ((l.drop i).take (e - i))] w fun r w' => r = .returned (S t) ∧ Below w.heap.size w w') :
    Calls Tryz.prog 62 #[S l, .int .i64 (i : Int)] w fun r w' => r = .returned (.tuple #[FV (if b then ⟨t, (i : Int) + 1, true⟩ else ⟨[], 0, false⟩), .int .i64 (e : Int), .bool b]) ∧ Below w.heap.size w w' := by
  have z := str_size l
  have HE := Lib.hid henv
  have HQ := Lib.hid hQ
  have HU := Lib.hid hU
  have hlt2 : i < (str l).size := by omega
  have hg := str_get l i hlt2 h
  have k1 : ((((str l)[i]'hlt2).toNat : Int) == 34) = true := by rw [hg]; exact beq_iff_eq.2 (by omega)
  have hx : (str l).extract i e = str ((l.drop i).take (e - i)) := str_ext l i e
  clear hg h34 henv hQ hU
  generalize (l.drop i).take (e - i) = x at *
  unfold AftOk at ha
  rcases ha with ⟨rfl, rfl⟩ | ⟨h1, HW, rfl⟩ | ⟨h1, HW, k2, rfl⟩ | ⟨h1, HW, k2, rfl⟩
  · go_enter Tryz.func62, Tryz.ntmps62
    go_wp2_with (first | (go_at_call 78; ((with_reducible refine (HQ.out _).mono ?_); rintro e w' ⟨rfl, rfl⟩)) | (go_at_call 79; (with_reducible refine (HU.out _ ?_).mono ?_); (focus (exact HE.out.stays (by (repeat' (first | (with_reducible exact Below.refl _ _) | (with_reducible refine Below.setCell ?_ ?_ _) | (with_reducible refine Below.alloc ?_ ?_ _) | (with_reducible refine Below.drew ?_) | (with_reducible refine belowN ?_ _) | (with_reducible refine below_step ?_ ?_ (by with_reducible assumption)) | go_size))))); rintro e w1 ⟨rfl, hb1⟩; have hz1 := hb1.size; (try simp only [World.size_alloc, World.size_setCell, World.size_drew, size_drewN'] at hz1); have : w.heap.size < w1.heap.size := (by omega); have := hb1.cell (p := ⟨w.heap.size, 0, none⟩) (by go_size); simp [go_sem, *] at this; have := hb1.frozen (p := ⟨w.heap.size, 0, none⟩) (by go_size); simp [go_sem, *] at this; have := hb1.cell (p := ⟨w.heap.size, 1, none⟩) (by go_size); simp [go_sem, *] at this; have := hb1.frozen (p := ⟨w.heap.size, 1, none⟩) (by go_size); simp [go_sem, *] at this; have := hb1.cell (p := ⟨w.heap.size, 2, none⟩) (by go_size); simp [go_sem, *] at this; have := hb1.frozen (p := ⟨w.heap.size, 2, none⟩) (by go_size); simp [go_sem, *] at this))
    have hr1 : Row w1 w.heap.size 68 [.string ⟨#[]⟩, .int .i64 0, .bool false] := (Row.new w _ [.string ⟨#[]⟩, .int .i64 0, .bool false]).below hb1 (by simp only [World.size_alloc]; omega)
    obtain ⟨t0, t1, t2⟩ := hr1.six (S t) (.int .i64 ((i : Int) + 1)) (.bool true) (S t) (.int .i64 ((i : Int) + 1)) (.bool true)
    clear hr1
    refine bodyPost_ret (v := .tuple #[.agg #[S t, .int .i64 ((i : Int) + 1), .bool true], .int .i64 (l.length : Int), .bool true]) (by simp [results, Tryz.results62, go_sem, *]) rfl ?_
    exact ⟨rfl, by (repeat' (first | (with_reducible exact Below.refl _ _) | (with_reducible refine Below.setCell ?_ ?_ _) | (with_reducible refine Below.alloc ?_ ?_ _) | (with_reducible refine Below.drew ?_) | (with_reducible refine belowN ?_ _) | (with_reducible refine below_step ?_ ?_ (by with_reducible assumption)) | go_size))⟩
  · go_enter Tryz.func62, Tryz.ntmps62
    go_wp2_with (first | (go_at_call 78; ((with_reducible refine (HQ.out _).mono ?_); rintro e w' ⟨rfl, rfl⟩)) | (go_at_call 79; (with_reducible refine (HU.out _ ?_).mono ?_); (focus (exact HE.out.stays (by (repeat' (first | (with_reducible exact Below.refl _ _) | (with_reducible refine Below.setCell ?_ ?_ _) | (with_reducible refine Below.alloc ?_ ?_ _) | (with_reducible refine Below.drew ?_) | (with_reducible refine belowN ?_ _) | (with_reducible refine below_step ?_ ?_ (by with_reducible assumption)) | go_size))))); rintro e w1 ⟨rfl, hb1⟩; have hz1 := hb1.size; (try simp only [World.size_alloc, World.size_setCell, World.size_drew, size_drewN'] at hz1); have : w.heap.size < w1.heap.size := (by omega); have := hb1.cell (p := ⟨w.heap.size, 0, none⟩) (by go_size); simp [go_sem, *] at this; have := hb1.frozen (p := ⟨w.heap.size, 0, none⟩) (by go_size); simp [go_sem, *] at this; have := hb1.cell (p := ⟨w.heap.size, 1, none⟩) (by go_size); simp [go_sem, *] at this; have := hb1.frozen (p := ⟨w.heap.size, 1, none⟩) (by go_size); simp [go_sem, *] at this; have := hb1.cell (p := ⟨w.heap.size, 2, none⟩) (by go_size); simp [go_sem, *] at this; have := hb1.frozen (p := ⟨w.heap.size, 2, none⟩) (by go_size); simp [go_sem, *] at this) | (go_at_call 77; ((with_reducible refine (HW.out _).mono ?_); rintro e w' ⟨rfl, rfl⟩)))
    have hr1 : Row w1 w.heap.size 68 [.string ⟨#[]⟩, .int .i64 0, .bool false] := (Row.new w _ [.string ⟨#[]⟩, .int .i64 0, .bool false]).below hb1 (by simp only [World.size_alloc]; omega)
    obtain ⟨t0, t1, t2⟩ := hr1.six (S t) (.int .i64 ((i : Int) + 1)) (.bool true) (S t) (.int .i64 ((i : Int) + 1)) (.bool true)
    clear hr1
    refine bodyPost_ret (v := .tuple #[.agg #[S t, .int .i64 ((i : Int) + 1), .bool true], .int .i64 (e : Int), .bool true]) (by simp [results, Tryz.results62, go_sem, *]) rfl ?_
    exact ⟨rfl, by (repeat' (first | (with_reducible exact Below.refl _ _) | (with_reducible refine Below.setCell ?_ ?_ _) | (with_reducible refine Below.alloc ?_ ?_ _) | (with_reducible refine Below.drew ?_) | (with_reducible refine belowN ?_ _) | (with_reducible refine below_step ?_ ?_ (by with_reducible assumption)) | go_size))⟩
  · have k3 : ((((str l)[e]'h1).toNat : Int) != 59) = false := by simp only [bne, k2]; rfl
    go_enter Tryz.func62, Tryz.ntmps62
    go_wp2_with (first | (go_at_call 78; ((with_reducible refine (HQ.out _).mono ?_); rintro e w' ⟨rfl, rfl⟩)) | (go_at_call 79; (with_reducible refine (HU.out _ ?_).mono ?_); (focus (exact HE.out.stays (by (repeat' (first | (with_reducible exact Below.refl _ _) | (with_reducible refine Below.setCell ?_ ?_ _) | (with_reducible refine Below.alloc ?_ ?_ _) | (with_reducible refine Below.drew ?_) | (with_reducible refine belowN ?_ _) | (with_reducible refine below_step ?_ ?_ (by with_reducible assumption)) | go_size))))); rintro e w1 ⟨rfl, hb1⟩; have hz1 := hb1.size; (try simp only [World.size_alloc, World.size_setCell, World.size_drew, size_drewN'] at hz1); have : w.heap.size < w1.heap.size := (by omega); have := hb1.cell (p := ⟨w.heap.size, 0, none⟩) (by go_size); simp [go_sem, *] at this; have := hb1.frozen (p := ⟨w.heap.size, 0, none⟩) (by go_size); simp [go_sem, *] at this; have := hb1.cell (p := ⟨w.heap.size, 1, none⟩) (by go_size); simp [go_sem, *] at this; have := hb1.frozen (p := ⟨w.heap.size, 1, none⟩) (by go_size); simp [go_sem, *] at this; have := hb1.cell (p := ⟨w.heap.size, 2, none⟩) (by go_size); simp [go_sem, *] at this; have := hb1.frozen (p := ⟨w.heap.size, 2, none⟩) (by go_size); simp [go_sem, *] at this) | (go_at_call 77; ((with_reducible refine (HW.out _).mono ?_); rintro e w' ⟨rfl, rfl⟩)))
    have hr1 : Row w1 w.heap.size 68 [.string ⟨#[]⟩, .int .i64 0, .bool false] := (Row.new w _ [.string ⟨#[]⟩, .int .i64 0, .bool false]).below hb1 (by simp only [World.size_alloc]; omega)
    obtain ⟨t0, t1, t2⟩ := hr1.six (S t) (.int .i64 ((i : Int) + 1)) (.bool true) (S t) (.int .i64 ((i : Int) + 1)) (.bool true)
    clear hr1
    refine bodyPost_ret (v := .tuple #[.agg #[S t, .int .i64 ((i : Int) + 1), .bool true], .int .i64 (e : Int), .bool true]) (by simp [results, Tryz.results62, go_sem, *]) rfl ?_
    exact ⟨rfl, by (repeat' (first | (with_reducible exact Below.refl _ _) | (with_reducible refine Below.setCell ?_ ?_ _) | (with_reducible refine Below.alloc ?_ ?_ _) | (with_reducible refine Below.drew ?_) | (with_reducible refine belowN ?_ _) | (with_reducible refine below_step ?_ ?_ (by with_reducible assumption)) | go_size))⟩
  · have k3 : ((((str l)[e]'h1).toNat : Int) != 59) = true := by simp only [bne, k2]; rfl
    go_enter Tryz.func62, Tryz.ntmps62
    go_wp2_with (first | (go_at_call 78; ((with_reducible refine (HQ.out _).mono ?_); rintro e w' ⟨rfl, rfl⟩)) | (go_at_call 79; (with_reducible refine (HU.out _ ?_).mono ?_); (focus (exact HE.out.stays (by (repeat' (first | (with_reducible exact Below.refl _ _) | (with_reducible refine Below.setCell ?_ ?_ _) | (with_reducible refine Below.alloc ?_ ?_ _) | (with_reducible refine Below.drew ?_) | (with_reducible refine belowN ?_ _) | (with_reducible refine below_step ?_ ?_ (by with_reducible assumption)) | go_size))))); rintro e w1 ⟨rfl, hb1⟩; have hz1 := hb1.size; (try simp only [World.size_alloc, World.size_setCell, World.size_drew, size_drewN'] at hz1); have : w.heap.size < w1.heap.size := (by omega); have := hb1.cell (p := ⟨w.heap.size, 0, none⟩) (by go_size); simp [go_sem, *] at this; have := hb1.frozen (p := ⟨w.heap.size, 0, none⟩) (by go_size); simp [go_sem, *] at this; have := hb1.cell (p := ⟨w.heap.size, 1, none⟩) (by go_size); simp [go_sem, *] at this; have := hb1.frozen (p := ⟨w.heap.size, 1, none⟩) (by go_size); simp [go_sem, *] at this; have := hb1.cell (p := ⟨w.heap.size, 2, none⟩) (by go_size); simp [go_sem, *] at this; have := hb1.frozen (p := ⟨w.heap.size, 2, none⟩) (by go_size); simp [go_sem, *] at this) | (go_at_call 77; ((with_reducible refine (HW.out _).mono ?_); rintro e w' ⟨rfl, rfl⟩)))
    have hr1 : Row w1 w.heap.size 68 [.string ⟨#[]⟩, .int .i64 0, .bool false] := (Row.new w _ [.string ⟨#[]⟩, .int .i64 0, .bool false]).below hb1 (by simp only [World.size_alloc]; omega)
    obtain ⟨t0, t1, t2⟩ := hr1.six (S t) (.int .i64 ((i : Int) + 1)) (.bool true) (.string ⟨#[]⟩) (.int .i64 0) (.bool false)
    clear hr1
    refine bodyPost_ret (v := .tuple #[.agg #[.string ⟨#[]⟩, .int .i64 0, .bool false], .int .i64 (e : Int), .bool false]) (by simp [results, Tryz.results62, go_sem, *]) rfl ?_
    exact ⟨rfl, by (repeat' (first | (with_reducible exact Below.refl _ _) | (with_reducible refine Below.setCell ?_ ?_ _) | (with_reducible refine Below.alloc ?_ ?_ _) | (with_reducible refine Below.drew ?_) | (with_reducible refine belowN ?_ _) | (with_reducible refine below_step ?_ ?_ (by with_reducible assumption)) | go_size))⟩
theorem fieldAt_open (l : List UInt8) (i e : Nat) (w : World) (h : i < l.length) (h34 : l[i].toNat = 34)
    (hQ : ∀ w, Calls Tryz.prog 78 #[S l, .int .i64 (i : Int)] w fun r w' => r = .returned (.tuple #[.int .i64 (e : Int), .bool false]) ∧ w = w') :
    Calls Tryz.prog 62 #[S l, .int .i64 (i : Int)] w fun r w' => r = .returned (.tuple #[.agg #[.string ⟨#[]⟩, .int .i64 0, .bool false], .int .i64 (e : Int), .bool false]) ∧ Below w.heap.size w w' := by
  have z := str_size l
  have HQ := Lib.hid hQ
  have hlt2 : i < (str l).size := by omega
  have hg := str_get l i hlt2 h
  have k1 : ((((str l)[i]'hlt2).toNat : Int) == 34) = true := by rw [hg]; exact beq_iff_eq.2 (by omega)
  clear hg h34 hQ
  go_enter Tryz.func62, Tryz.ntmps62
  go_wp2_with (go_at_call 78; ((with_reducible refine (HQ.out _).mono ?_); rintro e w' ⟨rfl, rfl⟩))
  refine bodyPost_ret (v := .tuple #[.agg #[.string ⟨#[]⟩, .int .i64 0, .bool false], .int .i64 (e : Int), .bool false]) (by simp [results, Tryz.results62, go_sem, *]) rfl ?_
  exact ⟨rfl, by (repeat' (first | (with_reducible exact Below.refl _ _) | (with_reducible refine Below.setCell ?_ ?_ _) | (with_reducible refine Below.alloc ?_ ?_ _) | (with_reducible refine Below.drew ?_) | (with_reducible refine belowN ?_ _) | (with_reducible refine below_step ?_ ?_ (by with_reducible assumption)) | go_size))⟩
theorem fieldAt_word (l : List UInt8) (i e : Nat) (b : Bool) (w : World) (h : i < l.length) (hl : l.length < 4294967281) (h34 : l[i].toNat ≠ 34) (hie : i ≤ e) (hel : e ≤ l.length) (ha : AftOk l e b)
    (hQ : ∀ w, Calls Tryz.prog 56 #[S l, .int .i64 (i : Int)] w fun r w' => r = .returned (.int .i64 (e : Int)) ∧ w = w') :
    Calls Tryz.prog 62 #[S l, .int .i64 (i : Int)] w fun r w' => r = .returned (.tuple #[FV (if b then ⟨(l.drop i).take (e - i), (i : Int) + 1, false⟩ else ⟨[], 0, false⟩), .int .i64 (e : Int), .bool b]) ∧ Below w.heap.size w w' := by
  have z := str_size l
  have HQ := Lib.hid hQ
  have hlt2 : i < (str l).size := by omega
  have hg := str_get l i hlt2 h
  have k1 : ((((str l)[i]'hlt2).toNat : Int) == 34) = false := by rw [hg]; exact beq_eq_false_iff_ne.2 (by omega)
  have hx : (str l).extract i e = str ((l.drop i).take (e - i)) := str_ext l i e
  clear hg h34 hQ
  generalize (l.drop i).take (e - i) = x at *
  unfold AftOk at ha
  rcases ha with ⟨rfl, rfl⟩ | ⟨h1, HW, rfl⟩ | ⟨h1, HW, k2, rfl⟩ | ⟨h1, HW, k2, rfl⟩
  · go_enter Tryz.func62, Tryz.ntmps62
    go_wp2_with (go_at_call 56; ((with_reducible refine (HQ.out _).mono ?_); rintro e w' ⟨rfl, rfl⟩))
    refine bodyPost_ret (v := .tuple #[.agg #[S x, .int .i64 ((i : Int) + 1), .bool false], .int .i64 (l.length : Int), .bool true]) (by simp [results, Tryz.results62, go_sem, *]) rfl ?_
    exact ⟨rfl, by (repeat' (first | (with_reducible exact Below.refl _ _) | (with_reducible refine Below.setCell ?_ ?_ _) | (with_reducible refine Below.alloc ?_ ?_ _) | (with_reducible refine Below.drew ?_) | (with_reducible refine belowN ?_ _) | (with_reducible refine below_step ?_ ?_ (by with_reducible assumption)) | go_size))⟩
  · go_enter Tryz.func62, Tryz.ntmps62
    go_wp2_with (first | (go_at_call 56; ((with_reducible refine (HQ.out _).mono ?_); rintro e w' ⟨rfl, rfl⟩)) | (go_at_call 77; ((with_reducible refine (HW.out _).mono ?_); rintro e w' ⟨rfl, rfl⟩)))
    refine bodyPost_ret (v := .tuple #[.agg #[S x, .int .i64 ((i : Int) + 1), .bool false], .int .i64 (e : Int), .bool true]) (by simp [results, Tryz.results62, go_sem, *]) rfl ?_
    exact ⟨rfl, by (repeat' (first | (with_reducible exact Below.refl _ _) | (with_reducible refine Below.setCell ?_ ?_ _) | (with_reducible refine Below.alloc ?_ ?_ _) | (with_reducible refine Below.drew ?_) | (with_reducible refine belowN ?_ _) | (with_reducible refine below_step ?_ ?_ (by with_reducible assumption)) | go_size))⟩
  · have k3 : ((((str l)[e]'h1).toNat : Int) != 59) = false := by simp only [bne, k2]; rfl
    go_enter Tryz.func62, Tryz.ntmps62
    go_wp2_with (first | (go_at_call 56; ((with_reducible refine (HQ.out _).mono ?_); rintro e w' ⟨rfl, rfl⟩)) | (go_at_call 77; ((with_reducible refine (HW.out _).mono ?_); rintro e w' ⟨rfl, rfl⟩)))
    refine bodyPost_ret (v := .tuple #[.agg #[S x, .int .i64 ((i : Int) + 1), .bool false], .int .i64 (e : Int), .bool true]) (by simp [results, Tryz.results62, go_sem, *]) rfl ?_
    exact ⟨rfl, by (repeat' (first | (with_reducible exact Below.refl _ _) | (with_reducible refine Below.setCell ?_ ?_ _) | (with_reducible refine Below.alloc ?_ ?_ _) | (with_reducible refine Below.drew ?_) | (with_reducible refine belowN ?_ _) | (with_reducible refine below_step ?_ ?_ (by with_reducible assumption)) | go_size))⟩
  · have k3 : ((((str l)[e]'h1).toNat : Int) != 59) = true := by simp only [bne, k2]; rfl
    go_enter Tryz.func62, Tryz.ntmps62
    go_wp2_with (first | (go_at_call 56; ((with_reducible refine (HQ.out _).mono ?_); rintro e w' ⟨rfl, rfl⟩)) | (go_at_call 77; ((with_reducible refine (HW.out _).mono ?_); rintro e w' ⟨rfl, rfl⟩)))
    refine bodyPost_ret (v := .tuple #[.agg #[.string ⟨#[]⟩, .int .i64 0, .bool false], .int .i64 (e : Int), .bool false]) (by simp [results, Tryz.results62, go_sem, *]) rfl ?_
    exact ⟨rfl, by (repeat' (first | (with_reducible exact Below.refl _ _) | (with_reducible refine Below.setCell ?_ ?_ _) | (with_reducible refine Below.alloc ?_ ?_ _) | (with_reducible refine Below.drew ?_) | (with_reducible refine belowN ?_ _) | (with_reducible refine below_step ?_ ?_ (by with_reducible assumption)) | go_size))⟩
theorem fieldAt_any (l : List UInt8) (i : Nat) (w : World) (h : i < l.length) (hl : l.length < 4294967281) (henv : Env w) :
    Calls Tryz.prog 62 #[S l, .int .i64 (i : Int)] w fun r w' => r = .returned (.tuple #[FV (fldV l i), .int .i64 (fldE l i : Int), .bool (fldB l i)]) ∧ Below w.heap.size w w' := by
  have hq := fldQ_at l i h
  by_cases h34 : l[i].toNat = 34
  · have hq2 : fldQ l i = true := hq.trans (decide_eq_true h34)
    have e1 : fldE l i = qE l (i + 1) := by unfold fldE; rw [if_pos hq2]
    have e2 : fldB l i = (qB l (i + 1) && aft l (qE l (i + 1))) := by unfold fldB; rw [if_pos hq2]
    have e3 : fldF l i = ⟨qT l (i + 1), (i : Int) + 1, true⟩ := by unfold fldF; rw [if_pos hq2]
    have hQ := fun w => qend_any l i w (by omega) (by omega)
    have hle := qE_le l (i + 1) (by omega)
    cases hb : qB l (i + 1)
    · rw [hb] at hQ
      have e4 : fldB l i = false := by rw [e2, hb]; rfl
      have e5 : fldV l i = ⟨[], 0, false⟩ := by unfold fldV; rw [e4]; rfl
      rw [e5, e4, e1]
      exact fieldAt_open l i _ w h h34 hQ
    · rw [hb] at hQ
      obtain ⟨u1, u2, u3⟩ := unq_qT l i h hb _ rfl
      have hU := fun w h => unq_any ((l.drop i).take (qE l (i + 1) - i)) w u1 (by omega) h
      rw [u3] at hU
      have e4 : fldB l i = aft l (qE l (i + 1)) := by rw [e2, hb]; rfl
      have e5 : fldV l i = if aft l (qE l (i + 1)) then ⟨qT l (i + 1), (i : Int) + 1, true⟩ else ⟨[], 0, false⟩ := by unfold fldV; rw [e4, e3]
      rw [e5, e4, e1]
      exact fieldAt_quo l i _ _ _ w h hl henv h34 (by omega) hle.2 (aft_ok l _ hle.2) hQ hU
  · have hq2 : fldQ l i = false := hq.trans (decide_eq_false h34)
    have e1 : fldE l i = wnd l i := by unfold fldE; rw [hq2]; rfl
    have e2 : fldB l i = aft l (wnd l i) := by unfold fldB; rw [hq2]; rfl
    have e3 : fldF l i = ⟨(l.drop i).take (wnd l i - i), (i : Int) + 1, false⟩ := by unfold fldF; rw [hq2]; rfl
    have hQ := fun w => wend_any l i w (by omega) (by omega)
    have hle := wnd_le l i (by omega)
    have e5 : fldV l i = if aft l (wnd l i) then ⟨(l.drop i).take (wnd l i - i), (i : Int) + 1, false⟩ else ⟨[], 0, false⟩ := by unfold fldV; rw [e2, e3]
    rw [e5, e2, e1]
    exact fieldAt_word l i _ _ w h hl h34 hle.1 hle.2 (aft_ok l _ hle.2) hQ
end Go.Proofs.YtjdldofgkhibnaaGreatDoor
