/- Contract of the reference's Parse of a ratio. -/
import Derived.Test.YtaabebmaobdofaaDoorParE
set_option linter.unusedSimpArgs false
set_option linter.unusedVariables false
namespace Go.Proofs.YtaabebmaobdofaaDoor
open Go.RowKit

set_option maxHeartbeats 2000000 in
theorem rparse_ok (n d : Int) (w : World) (hv : validB n d = true) :
    Calls Tryd.prog 46 #[S (txR n d)] w fun e w' => e = .returned (.tuple #[R2 n d, .int .i64 0]) ∧ Below w.heap.size w w' := by
  obtain ⟨d1, d2, n1, n2⟩ := valid_bd hv
  have hn : I64 n := by unfold I64; omega
  have hd : I64 d := by unfold I64; omega
  have hl := txR_len n d hn hd
  have l1 := Lib.itoa_length_le n hn.1 hn.2
  have l2 := Lib.itoa_length_le d hd.1 hd.2
  obtain ⟨a1, a2⟩ := read_itoa n n1 n2
  obtain ⟨b1, b2⟩ := read_itoa d (by omega) d2
  have HC : Hid (∀ w', Calls Tryd.prog 57 #[S (txR n d), .int .u8 47] w' fun e w'' => e = .returned (.tuple #[S (Lib.itoa n), S (Lib.itoa d), .bool true]) ∧ Below w'.heap.size w' w'') := Lib.hid (fun w' => rcut_at _ _ w' (by unfold txR at hl; omega) (itoa_no n 47 (by decide) (by decide)))
  have HR1 : Hid (∀ w', Calls Tryd.prog 58 #[S (Lib.itoa n)] w' fun e w'' => e = .returned (.tuple #[.int .i64 n, .bool true]) ∧ Below w'.heap.size w' w'') := Lib.hid (fun w' => by
    have h := read_any (Lib.itoa n) w' (by omega)
    rw [a1, a2] at h; exact h)
  have HR2 : Hid (∀ w', Calls Tryd.prog 58 #[S (Lib.itoa d)] w' fun e w'' => e = .returned (.tuple #[.int .i64 d, .bool true]) ∧ Below w'.heap.size w' w'') := Lib.hid (fun w' => by
    have h := read_any (Lib.itoa d) w' (by omega)
    rw [b1, b2] at h; exact h)
  have HT : Hid (∀ w', Calls Tryd.prog 44 #[R2 n d] w' fun e w'' => e = .returned (S (txR n d)) ∧ Below w'.heap.size w' w'') := Lib.hid (fun w' => by
    have := rtext_any n d w' hn hd
    have e : txV n d = txR n d := by unfold txV; rw [hv]; rfl
    rw [e] at this; exact this)
  clear hv hn hd hl l1 l2 d1 d2 n1 n2 a1 a2 b1 b2
  generalize txR n d = T at *
  generalize Lib.itoa n = L1 at *
  generalize Lib.itoa d = L2 at *
  go_enter Tryd.func46, Tryd.ntmps46
  go_wp2_with (first | (go_at_call 57; ((with_reducible refine (HC.out _).mono ?_); rintro e w1 ⟨rfl, hb1⟩; have hz1 := hb1.size; (try simp only [World.size_alloc, World.size_setCell, World.size_drew, size_drewN'] at hz1); have : w.heap.size < w1.heap.size := (by omega); have := hb1.cell (p := ⟨w.heap.size, 0, none⟩) (by go_size); simp [go_sem, *] at this; have := hb1.frozen (p := ⟨w.heap.size, 0, none⟩) (by go_size); simp [go_sem, *] at this; have := hb1.cell (p := ⟨w.heap.size, 1, none⟩) (by go_size); simp [go_sem, *] at this; have := hb1.frozen (p := ⟨w.heap.size, 1, none⟩) (by go_size); simp [go_sem, *] at this)) | (go_at_call 58; ((with_reducible refine (HR1.out _).mono ?_); rintro e w2 ⟨rfl, hb2⟩; have hz2 := hb2.size; (try simp only [World.size_alloc, World.size_setCell, World.size_drew, size_drewN'] at hz2); have : w.heap.size < w2.heap.size := (by omega); have := hb2.cell (p := ⟨w.heap.size, 0, none⟩) (by go_size); simp [go_sem, *] at this; have := hb2.frozen (p := ⟨w.heap.size, 0, none⟩) (by go_size); simp [go_sem, *] at this; have := hb2.cell (p := ⟨w.heap.size, 1, none⟩) (by go_size); simp [go_sem, *] at this; have := hb2.frozen (p := ⟨w.heap.size, 1, none⟩) (by go_size); simp [go_sem, *] at this)) | (go_at_call 58; ((with_reducible refine (HR2.out _).mono ?_); rintro e w3 ⟨rfl, hb3⟩; have hz3 := hb3.size; (try simp only [World.size_alloc, World.size_setCell, World.size_drew, size_drewN'] at hz3); have : w.heap.size < w3.heap.size := (by omega); have := hb3.cell (p := ⟨w.heap.size, 0, none⟩) (by go_size); simp [go_sem, *] at this; have := hb3.frozen (p := ⟨w.heap.size, 0, none⟩) (by go_size); simp [go_sem, *] at this; have := hb3.cell (p := ⟨w.heap.size, 1, none⟩) (by go_size); simp [go_sem, *] at this; have := hb3.frozen (p := ⟨w.heap.size, 1, none⟩) (by go_size); simp [go_sem, *] at this)) | (go_at_call 44; ((with_reducible refine (HT.out _).mono ?_); rintro e w4 ⟨rfl, hb4⟩; have hz4 := hb4.size; (try simp only [World.size_alloc, World.size_setCell, World.size_drew, size_drewN'] at hz4); have : w.heap.size < w4.heap.size := (by omega); have := hb4.cell (p := ⟨w.heap.size, 0, none⟩) (by go_size); simp [go_sem, *] at this; have := hb4.frozen (p := ⟨w.heap.size, 0, none⟩) (by go_size); simp [go_sem, *] at this; have := hb4.cell (p := ⟨w.heap.size, 1, none⟩) (by go_size); simp [go_sem, *] at this; have := hb4.frozen (p := ⟨w.heap.size, 1, none⟩) (by go_size); simp [go_sem, *] at this; have : w3.heap.size < w4.heap.size := (by omega); have := hb4.cell (p := ⟨w3.heap.size, 0, none⟩) (by go_size); simp [go_sem, *] at this; have := hb4.frozen (p := ⟨w3.heap.size, 0, none⟩) (by go_size); simp [go_sem, *] at this; have := hb4.cell (p := ⟨w3.heap.size, 1, none⟩) (by go_size); simp [go_sem, *] at this; have := hb4.frozen (p := ⟨w3.heap.size, 1, none⟩) (by go_size); simp [go_sem, *] at this)))
  refine bodyPost_ret (v := .tuple #[R2 n d, .int .i64 0]) (by simp [results, Tryd.results46, go_sem, *]) rfl ?_
  exact ⟨rfl, by (repeat' (first | (with_reducible exact Below.refl _ _) | (with_reducible refine Below.setCell ?_ ?_ _) | (with_reducible refine Below.alloc ?_ ?_ _) | (with_reducible refine Below.drew ?_) | (with_reducible refine belowN ?_ _) | (with_reducible refine below_step ?_ ?_ (by with_reducible assumption)) | go_size))⟩

set_option maxHeartbeats 4000000 in
theorem rparse_no (l : List UInt8) (w : World) (hl : l.length ≤ 1000) (hno : ∀ n d, validB n d = true → l ≠ txR n d) :
    Calls Tryd.prog 46 #[S l] w fun e w' => e = .returned (.tuple #[R2 0 0, .int .i64 4]) ∧ Below w.heap.size w w' := by
  rcases parted 47 l with ⟨A, B, e, hA⟩ | hA
  · have la : A.length ≤ 1000 := by rw [e] at hl; simp at hl; omega
    have lb : B.length ≤ 1000 := by rw [e] at hl; simp at hl; omega
    have HC : Hid (∀ w', Calls Tryd.prog 57 #[S l, .int .u8 47] w' fun e w'' => e = .returned (.tuple #[S A, S B, .bool true]) ∧ Below w'.heap.size w' w'') := Lib.hid (fun w' => by
      rw [e]; exact rcut_at A B w' (by rw [← e]; omega) hA)
    have HR1 : Hid (∀ w', Calls Tryd.prog 58 #[S A] w' fun e w'' => e = .returned (.tuple #[.int .i64 (readV A), .bool (readB A)]) ∧ Below w'.heap.size w' w'') := Lib.hid (fun w' => read_any A w' la)
    have HR2 : Hid (∀ w', Calls Tryd.prog 58 #[S B] w' fun e w'' => e = .returned (.tuple #[.int .i64 (readV B), .bool (readB B)]) ∧ Below w'.heap.size w' w'') := Lib.hid (fun w' => read_any B w' lb)
    have i1 := readV_i64 A
    have i2 := readV_i64 B
    cases h1 : readB A
    · rw [h1] at HR1
      clear hno hl e la lb hA h1 i1 i2
      generalize readV A = x at *
      generalize readV B = y at *
      generalize readB B = bb at *
      go_enter Tryd.func46, Tryd.ntmps46
      go_wp2_with (first | (go_at_call 57; ((with_reducible refine (HC.out _).mono ?_); rintro e w1 ⟨rfl, hb1⟩; have hz1 := hb1.size; (try simp only [World.size_alloc, World.size_setCell, World.size_drew, size_drewN'] at hz1); have : w.heap.size < w1.heap.size := (by omega); have := hb1.cell (p := ⟨w.heap.size, 0, none⟩) (by go_size); simp [go_sem, *] at this; have := hb1.frozen (p := ⟨w.heap.size, 0, none⟩) (by go_size); simp [go_sem, *] at this; have := hb1.cell (p := ⟨w.heap.size, 1, none⟩) (by go_size); simp [go_sem, *] at this; have := hb1.frozen (p := ⟨w.heap.size, 1, none⟩) (by go_size); simp [go_sem, *] at this)) | (go_at_call 58; ((with_reducible refine (HR1.out _).mono ?_); rintro e w2 ⟨rfl, hb2⟩; have hz2 := hb2.size; (try simp only [World.size_alloc, World.size_setCell, World.size_drew, size_drewN'] at hz2); have : w.heap.size < w2.heap.size := (by omega); have := hb2.cell (p := ⟨w.heap.size, 0, none⟩) (by go_size); simp [go_sem, *] at this; have := hb2.frozen (p := ⟨w.heap.size, 0, none⟩) (by go_size); simp [go_sem, *] at this; have := hb2.cell (p := ⟨w.heap.size, 1, none⟩) (by go_size); simp [go_sem, *] at this; have := hb2.frozen (p := ⟨w.heap.size, 1, none⟩) (by go_size); simp [go_sem, *] at this)) | (go_at_call 58; ((with_reducible refine (HR2.out _).mono ?_); rintro e w3 ⟨rfl, hb3⟩; have hz3 := hb3.size; (try simp only [World.size_alloc, World.size_setCell, World.size_drew, size_drewN'] at hz3); have : w.heap.size < w3.heap.size := (by omega); have := hb3.cell (p := ⟨w.heap.size, 0, none⟩) (by go_size); simp [go_sem, *] at this; have := hb3.frozen (p := ⟨w.heap.size, 0, none⟩) (by go_size); simp [go_sem, *] at this; have := hb3.cell (p := ⟨w.heap.size, 1, none⟩) (by go_size); simp [go_sem, *] at this; have := hb3.frozen (p := ⟨w.heap.size, 1, none⟩) (by go_size); simp [go_sem, *] at this)))
      refine bodyPost_ret (v := .tuple #[R2 0 0, .int .i64 4]) (by simp [results, Tryd.results46, go_sem, *]) rfl ?_
      exact ⟨rfl, by (repeat' (first | (with_reducible exact Below.refl _ _) | (with_reducible refine Below.setCell ?_ ?_ _) | (with_reducible refine Below.alloc ?_ ?_ _) | (with_reducible refine Below.drew ?_) | (with_reducible refine belowN ?_ _) | (with_reducible refine below_step ?_ ?_ (by with_reducible assumption)) | go_size))⟩
    · rw [h1] at HR1
      cases h2 : readB B
      · rw [h2] at HR2
        clear hno hl e la lb hA h1 h2 i1 i2
        generalize readV A = x at *
        generalize readV B = y at *
        go_enter Tryd.func46, Tryd.ntmps46
        go_wp2_with (first | (go_at_call 57; ((with_reducible refine (HC.out _).mono ?_); rintro e w1 ⟨rfl, hb1⟩; have hz1 := hb1.size; (try simp only [World.size_alloc, World.size_setCell, World.size_drew, size_drewN'] at hz1); have : w.heap.size < w1.heap.size := (by omega); have := hb1.cell (p := ⟨w.heap.size, 0, none⟩) (by go_size); simp [go_sem, *] at this; have := hb1.frozen (p := ⟨w.heap.size, 0, none⟩) (by go_size); simp [go_sem, *] at this; have := hb1.cell (p := ⟨w.heap.size, 1, none⟩) (by go_size); simp [go_sem, *] at this; have := hb1.frozen (p := ⟨w.heap.size, 1, none⟩) (by go_size); simp [go_sem, *] at this)) | (go_at_call 58; ((with_reducible refine (HR1.out _).mono ?_); rintro e w2 ⟨rfl, hb2⟩; have hz2 := hb2.size; (try simp only [World.size_alloc, World.size_setCell, World.size_drew, size_drewN'] at hz2); have : w.heap.size < w2.heap.size := (by omega); have := hb2.cell (p := ⟨w.heap.size, 0, none⟩) (by go_size); simp [go_sem, *] at this; have := hb2.frozen (p := ⟨w.heap.size, 0, none⟩) (by go_size); simp [go_sem, *] at this; have := hb2.cell (p := ⟨w.heap.size, 1, none⟩) (by go_size); simp [go_sem, *] at this; have := hb2.frozen (p := ⟨w.heap.size, 1, none⟩) (by go_size); simp [go_sem, *] at this)) | (go_at_call 58; ((with_reducible refine (HR2.out _).mono ?_); rintro e w3 ⟨rfl, hb3⟩; have hz3 := hb3.size; (try simp only [World.size_alloc, World.size_setCell, World.size_drew, size_drewN'] at hz3); have : w.heap.size < w3.heap.size := (by omega); have := hb3.cell (p := ⟨w.heap.size, 0, none⟩) (by go_size); simp [go_sem, *] at this; have := hb3.frozen (p := ⟨w.heap.size, 0, none⟩) (by go_size); simp [go_sem, *] at this; have := hb3.cell (p := ⟨w.heap.size, 1, none⟩) (by go_size); simp [go_sem, *] at this; have := hb3.frozen (p := ⟨w.heap.size, 1, none⟩) (by go_size); simp [go_sem, *] at this)))
        refine bodyPost_ret (v := .tuple #[R2 0 0, .int .i64 4]) (by simp [results, Tryd.results46, go_sem, *]) rfl ?_
        exact ⟨rfl, by (repeat' (first | (with_reducible exact Below.refl _ _) | (with_reducible refine Below.setCell ?_ ?_ _) | (with_reducible refine Below.alloc ?_ ?_ _) | (with_reducible refine Below.drew ?_) | (with_reducible refine belowN ?_ _) | (with_reducible refine below_step ?_ ?_ (by with_reducible assumption)) | go_size))⟩
      · rw [h2] at HR2
        have HT : Hid (∀ w', Calls Tryd.prog 44 #[R2 (readV A) (readV B)] w' fun e w'' => e = .returned (S []) ∧ Below w'.heap.size w' w'') := Lib.hid (fun w' => by
          have := rtext_any (readV A) (readV B) w' i1 i2
          have e : txV (readV A) (readV B) = [] := by
            unfold txV
            cases hv : validB (readV A) (readV B)
            · rfl
            · exfalso
              refine hno _ _ hv ?_
              unfold txR
              rw [← readB_eq h1, ← readB_eq h2]; exact e
          rw [e] at this; exact this)
        have hne : ((str []).toList == (str l).toList) = false := by rw [str_beq]; exact beq_eq_false_iff_ne.2 (fun h => by rw [e] at h; simp at h)
        clear hno hl e la lb hA h1 h2 i1 i2
        generalize readV A = x at *
        generalize readV B = y at *
        generalize hem : ([] : List UInt8) = E at *
        clear hem
        go_enter Tryd.func46, Tryd.ntmps46
        go_wp2_with (first | (go_at_call 57; ((with_reducible refine (HC.out _).mono ?_); rintro e w1 ⟨rfl, hb1⟩; have hz1 := hb1.size; (try simp only [World.size_alloc, World.size_setCell, World.size_drew, size_drewN'] at hz1); have : w.heap.size < w1.heap.size := (by omega); have := hb1.cell (p := ⟨w.heap.size, 0, none⟩) (by go_size); simp [go_sem, *] at this; have := hb1.frozen (p := ⟨w.heap.size, 0, none⟩) (by go_size); simp [go_sem, *] at this; have := hb1.cell (p := ⟨w.heap.size, 1, none⟩) (by go_size); simp [go_sem, *] at this; have := hb1.frozen (p := ⟨w.heap.size, 1, none⟩) (by go_size); simp [go_sem, *] at this)) | (go_at_call 58; ((with_reducible refine (HR1.out _).mono ?_); rintro e w2 ⟨rfl, hb2⟩; have hz2 := hb2.size; (try simp only [World.size_alloc, World.size_setCell, World.size_drew, size_drewN'] at hz2); have : w.heap.size < w2.heap.size := (by omega); have := hb2.cell (p := ⟨w.heap.size, 0, none⟩) (by go_size); simp [go_sem, *] at this; have := hb2.frozen (p := ⟨w.heap.size, 0, none⟩) (by go_size); simp [go_sem, *] at this; have := hb2.cell (p := ⟨w.heap.size, 1, none⟩) (by go_size); simp [go_sem, *] at this; have := hb2.frozen (p := ⟨w.heap.size, 1, none⟩) (by go_size); simp [go_sem, *] at this)) | (go_at_call 58; ((with_reducible refine (HR2.out _).mono ?_); rintro e w3 ⟨rfl, hb3⟩; have hz3 := hb3.size; (try simp only [World.size_alloc, World.size_setCell, World.size_drew, size_drewN'] at hz3); have : w.heap.size < w3.heap.size := (by omega); have := hb3.cell (p := ⟨w.heap.size, 0, none⟩) (by go_size); simp [go_sem, *] at this; have := hb3.frozen (p := ⟨w.heap.size, 0, none⟩) (by go_size); simp [go_sem, *] at this; have := hb3.cell (p := ⟨w.heap.size, 1, none⟩) (by go_size); simp [go_sem, *] at this; have := hb3.frozen (p := ⟨w.heap.size, 1, none⟩) (by go_size); simp [go_sem, *] at this)) | (go_at_call 44; ((with_reducible refine (HT.out _).mono ?_); rintro e w4 ⟨rfl, hb4⟩; have hz4 := hb4.size; (try simp only [World.size_alloc, World.size_setCell, World.size_drew, size_drewN'] at hz4); have : w.heap.size < w4.heap.size := (by omega); have := hb4.cell (p := ⟨w.heap.size, 0, none⟩) (by go_size); simp [go_sem, *] at this; have := hb4.frozen (p := ⟨w.heap.size, 0, none⟩) (by go_size); simp [go_sem, *] at this; have := hb4.cell (p := ⟨w.heap.size, 1, none⟩) (by go_size); simp [go_sem, *] at this; have := hb4.frozen (p := ⟨w.heap.size, 1, none⟩) (by go_size); simp [go_sem, *] at this; have : w3.heap.size < w4.heap.size := (by omega); have := hb4.cell (p := ⟨w3.heap.size, 0, none⟩) (by go_size); simp [go_sem, *] at this; have := hb4.frozen (p := ⟨w3.heap.size, 0, none⟩) (by go_size); simp [go_sem, *] at this; have := hb4.cell (p := ⟨w3.heap.size, 1, none⟩) (by go_size); simp [go_sem, *] at this; have := hb4.frozen (p := ⟨w3.heap.size, 1, none⟩) (by go_size); simp [go_sem, *] at this)))
        refine bodyPost_ret (v := .tuple #[R2 0 0, .int .i64 4]) (by simp [results, Tryd.results46, go_sem, *]) rfl ?_
        exact ⟨rfl, by (repeat' (first | (with_reducible exact Below.refl _ _) | (with_reducible refine Below.setCell ?_ ?_ _) | (with_reducible refine Below.alloc ?_ ?_ _) | (with_reducible refine Below.drew ?_) | (with_reducible refine belowN ?_ _) | (with_reducible refine below_step ?_ ?_ (by with_reducible assumption)) | go_size))⟩
  · have HC : Hid (∀ w', Calls Tryd.prog 57 #[S l, .int .u8 47] w' fun e w'' => e = .returned (.tuple #[S l, S [], .bool false]) ∧ Below w'.heap.size w' w'') := Lib.hid (fun w' => rcut_no l w' (by omega) hA)
    have HR1 : Hid (∀ w', Calls Tryd.prog 58 #[S l] w' fun e w'' => e = .returned (.tuple #[.int .i64 (readV l), .bool (readB l)]) ∧ Below w'.heap.size w' w'') := Lib.hid (fun w' => read_any l w' hl)
    have HR2 : Hid (∀ w', Calls Tryd.prog 58 #[S []] w' fun e w'' => e = .returned (.tuple #[.int .i64 (readV []), .bool (readB [])]) ∧ Below w'.heap.size w' w'') := Lib.hid (fun w' => read_any [] w' (by simp))
    clear hno hl hA
    generalize readV l = x at *
    generalize readV [] = y at *
    generalize readB l = bx at *
    generalize readB [] = bb at *
    generalize hem : ([] : List UInt8) = E at *
    clear hem
    go_enter Tryd.func46, Tryd.ntmps46
    go_wp2_with (first | (go_at_call 57; ((with_reducible refine (HC.out _).mono ?_); rintro e w1 ⟨rfl, hb1⟩; have hz1 := hb1.size; (try simp only [World.size_alloc, World.size_setCell, World.size_drew, size_drewN'] at hz1); have : w.heap.size < w1.heap.size := (by omega); have := hb1.cell (p := ⟨w.heap.size, 0, none⟩) (by go_size); simp [go_sem, *] at this; have := hb1.frozen (p := ⟨w.heap.size, 0, none⟩) (by go_size); simp [go_sem, *] at this; have := hb1.cell (p := ⟨w.heap.size, 1, none⟩) (by go_size); simp [go_sem, *] at this; have := hb1.frozen (p := ⟨w.heap.size, 1, none⟩) (by go_size); simp [go_sem, *] at this)) | (go_at_call 58; ((with_reducible refine (HR1.out _).mono ?_); rintro e w2 ⟨rfl, hb2⟩; have hz2 := hb2.size; (try simp only [World.size_alloc, World.size_setCell, World.size_drew, size_drewN'] at hz2); have : w.heap.size < w2.heap.size := (by omega); have := hb2.cell (p := ⟨w.heap.size, 0, none⟩) (by go_size); simp [go_sem, *] at this; have := hb2.frozen (p := ⟨w.heap.size, 0, none⟩) (by go_size); simp [go_sem, *] at this; have := hb2.cell (p := ⟨w.heap.size, 1, none⟩) (by go_size); simp [go_sem, *] at this; have := hb2.frozen (p := ⟨w.heap.size, 1, none⟩) (by go_size); simp [go_sem, *] at this)) | (go_at_call 58; ((with_reducible refine (HR2.out _).mono ?_); rintro e w3 ⟨rfl, hb3⟩; have hz3 := hb3.size; (try simp only [World.size_alloc, World.size_setCell, World.size_drew, size_drewN'] at hz3); have : w.heap.size < w3.heap.size := (by omega); have := hb3.cell (p := ⟨w.heap.size, 0, none⟩) (by go_size); simp [go_sem, *] at this; have := hb3.frozen (p := ⟨w.heap.size, 0, none⟩) (by go_size); simp [go_sem, *] at this; have := hb3.cell (p := ⟨w.heap.size, 1, none⟩) (by go_size); simp [go_sem, *] at this; have := hb3.frozen (p := ⟨w.heap.size, 1, none⟩) (by go_size); simp [go_sem, *] at this)))
    refine bodyPost_ret (v := .tuple #[R2 0 0, .int .i64 4]) (by simp [results, Tryd.results46, go_sem, *]) rfl ?_
    exact ⟨rfl, by (repeat' (first | (with_reducible exact Below.refl _ _) | (with_reducible refine Below.setCell ?_ ?_ _) | (with_reducible refine Below.alloc ?_ ?_ _) | (with_reducible refine Below.drew ?_) | (with_reducible refine belowN ?_ _) | (with_reducible refine below_step ?_ ?_ (by with_reducible assumption)) | go_size))⟩
end Go.Proofs.YtaabebmaobdofaaDoor
