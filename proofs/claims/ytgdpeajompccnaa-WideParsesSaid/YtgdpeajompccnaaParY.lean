/- The program's Parse of a string that is no wide number's text. -/
import Derived.Test.YtgdpeajompccnaaParX
set_option linter.unusedSimpArgs false
set_option linter.unusedVariables false
namespace Go.Proofs.Ytgdpeajompccnaa
open Go.RowKit

theorem pdB_nil : pdB [] = true := by decide
theorem pdV_range (D : List UInt8) (h : pdB D = true) : 0 ≤ pdV D ∧ pdV D < 340282366920938463463374607431768211456 := by
  unfold pdV
  rw [if_pos h]
  unfold pdB at h
  rw [Bool.and_eq_true] at h
  have := of_decide_eq_true h.2
  unfold two128 at this
  omega

set_option maxHeartbeats 4000000 in
theorem wparse_no (l : List UInt8) (w : World) (hl : l.length ≤ 1000) (hn : ∀ a, fits a → Lib.itoa a ≠ l) :
    Calls Try.prog 33 #[S l] w fun e w' => e = .returned (.tuple #[W 0, .int .i64 4]) ∧ Below w.heap.size w w' := by
  have zl := str_size l
  have hW0 : W 0 = .agg #[.int .i64 0, .int .u64 0] := by unfold W; rfl
  rw [hW0]
  by_cases h40 : 40 < l.length
  · have z2 : (40 : Int) < ((str l).size : Int) := by omega
    clear hn hl hW0
    go_enter Try.func33, Try.ntmps33
    go_wp2
    refine bodyPost_ret (v := .tuple #[.agg #[.int .i64 0, .int .u64 0], .int .i64 4]) (by simp [results, Try.results33, go_sem, *]) rfl ?_
    exact ⟨rfl, by (repeat' (first | (with_reducible exact Below.refl _ _) | (with_reducible refine Below.setCell ?_ ?_ _) | (with_reducible refine Below.alloc ?_ ?_ _) | (with_reducible refine Below.drew ?_) | (with_reducible refine belowN ?_ _) | (with_reducible refine below_step ?_ ?_ (by with_reducible assumption)) | go_size))⟩
  · obtain ⟨D, neg, hDl, hsh⟩ : ∃ (D : List UInt8) (neg : Bool), D.length ≤ 40 ∧ ((l = 45 :: D ∧ neg = true) ∨ (l = D ∧ neg = false ∧ (l = [] ∨ ∃ h : 0 < l.length, l[0] ≠ 45))) := by
      cases l with
      | nil => exact ⟨[], false, by simp, Or.inr ⟨rfl, rfl, Or.inl rfl⟩⟩
      | cons c r =>
        by_cases hc : c = 45
        · subst hc; exact ⟨r, true, by simp at h40; omega, Or.inl ⟨rfl, rfl⟩⟩
        · exact ⟨c :: r, false, by omega, Or.inr ⟨rfl, rfl, Or.inr ⟨by simp, hc⟩⟩⟩
    have HTx : Hid (∀ a, fits a → ∃ T : List UInt8, ((str T).toList == (str l).toList) = false ∧ ∀ w, Calls Try.prog 32 #[W a] w fun e w' => e = .returned (S T) ∧ Below w.heap.size w w') := Lib.hid (fun a ha =>
      ⟨Lib.itoa a, by rw [str_beq]; exact beq_eq_false_iff_ne.2 (hn a ha), fun w => ptext_any a w ha⟩)
    have hP : ∀ w, Calls Try.prog 53 #[S D] w fun e w' => e = .returned (.tuple #[M (pdV D), .bool (pdB D)]) ∧ Below w.heap.size w w' := fun w => pdigits_any D w (by omega)
    have zD := str_size D
    cases hb : pdB D
    · rw [hb] at hP
      have HP := Lib.hid hP
      clear hP hn hb hW0
      generalize pdV D = m at *
      rcases hsh with ⟨rfl, rfl⟩ | ⟨rfl, rfl, rfl | ⟨h0, h45⟩⟩
      · have zl2 : (str (45 :: D)).size = D.length + 1 := by rw [zl]; rfl
        have hD39 : D.length ≤ 39 := by simp at h40; omega
        have hlt0 : 0 < (str (45 :: D)).size := by omega
        have h45 : ((((str (45 :: D))[0]'hlt0).toNat : Int)) = 45 := by rw [str_get _ 0 hlt0 (by simp)]; rfl
        have hx1 : (str (45 :: D)).extract 1 (D.length + 1) = str D := ext_tail D 45 _ rfl
        have hem : ((str (45 :: D)).toList == []) = false := by rw [str_toList]; simp
        clear zl
        go_enter Try.func33, Try.ntmps33
        go_wp2_with (go_at_call 53; ((with_reducible refine (HP.out _).mono ?_); rintro e w1 ⟨rfl, hb1⟩); have hz1 := hb1.size; (try simp only [World.size_alloc, World.size_setCell, World.size_drew, size_drewN'] at hz1); have : w.heap.size < w1.heap.size := (by omega); have := hb1.cell (p := ⟨w.heap.size, 0, none⟩) (by go_size); simp [go_sem, *] at this; have := hb1.frozen (p := ⟨w.heap.size, 0, none⟩) (by go_size); simp [go_sem, *] at this; have := hb1.cell (p := ⟨w.heap.size, 1, none⟩) (by go_size); simp [go_sem, *] at this; have := hb1.frozen (p := ⟨w.heap.size, 1, none⟩) (by go_size); simp [go_sem, *] at this)
        refine bodyPost_ret (v := .tuple #[.agg #[.int .i64 0, .int .u64 0], .int .i64 4]) (by simp [results, Try.results33, go_sem, *]) rfl ?_
        exact ⟨rfl, by (repeat' (first | (with_reducible exact Below.refl _ _) | (with_reducible refine Below.setCell ?_ ?_ _) | (with_reducible refine Below.alloc ?_ ?_ _) | (with_reducible refine Below.drew ?_) | (with_reducible refine belowN ?_ _) | (with_reducible refine below_step ?_ ?_ (by with_reducible assumption)) | go_size))⟩
      · have hem : ((str []).toList == []) = true := by rw [str_toList]; rfl
        go_enter Try.func33, Try.ntmps33
        go_wp2_with (go_at_call 53; ((with_reducible refine (HP.out _).mono ?_); rintro e w1 ⟨rfl, hb1⟩); have hz1 := hb1.size; (try simp only [World.size_alloc, World.size_setCell, World.size_drew, size_drewN'] at hz1); have : w.heap.size < w1.heap.size := (by omega); have := hb1.cell (p := ⟨w.heap.size, 0, none⟩) (by go_size); simp [go_sem, *] at this; have := hb1.frozen (p := ⟨w.heap.size, 0, none⟩) (by go_size); simp [go_sem, *] at this; have := hb1.cell (p := ⟨w.heap.size, 1, none⟩) (by go_size); simp [go_sem, *] at this; have := hb1.frozen (p := ⟨w.heap.size, 1, none⟩) (by go_size); simp [go_sem, *] at this)
        refine bodyPost_ret (v := .tuple #[.agg #[.int .i64 0, .int .u64 0], .int .i64 4]) (by simp [results, Try.results33, go_sem, *]) rfl ?_
        exact ⟨rfl, by (repeat' (first | (with_reducible exact Below.refl _ _) | (with_reducible refine Below.setCell ?_ ?_ _) | (with_reducible refine Below.alloc ?_ ?_ _) | (with_reducible refine Below.drew ?_) | (with_reducible refine belowN ?_ _) | (with_reducible refine below_step ?_ ?_ (by with_reducible assumption)) | go_size))⟩
      · have hlt0 : 0 < (str l).size := by omega
        have h45 : ((((str l)[0]'hlt0).toNat : Int) == 45) = false := by
          rw [str_get _ 0 hlt0 h0]
          exact beq_eq_false_iff_ne.2 (fun h => h45 (UInt8.toNat_inj.1 (by show _ = 45; omega)))
        have hem : ((str l).toList == []) = false := by rw [str_toList]; cases l with | nil => simp at h0 | cons c r => simp
        go_enter Try.func33, Try.ntmps33
        go_wp2_with (go_at_call 53; ((with_reducible refine (HP.out _).mono ?_); rintro e w1 ⟨rfl, hb1⟩); have hz1 := hb1.size; (try simp only [World.size_alloc, World.size_setCell, World.size_drew, size_drewN'] at hz1); have : w.heap.size < w1.heap.size := (by omega); have := hb1.cell (p := ⟨w.heap.size, 0, none⟩) (by go_size); simp [go_sem, *] at this; have := hb1.frozen (p := ⟨w.heap.size, 0, none⟩) (by go_size); simp [go_sem, *] at this; have := hb1.cell (p := ⟨w.heap.size, 1, none⟩) (by go_size); simp [go_sem, *] at this; have := hb1.frozen (p := ⟨w.heap.size, 1, none⟩) (by go_size); simp [go_sem, *] at this)
        refine bodyPost_ret (v := .tuple #[.agg #[.int .i64 0, .int .u64 0], .int .i64 4]) (by simp [results, Try.results33, go_sem, *]) rfl ?_
        exact ⟨rfl, by (repeat' (first | (with_reducible exact Below.refl _ _) | (with_reducible refine Below.setCell ?_ ?_ _) | (with_reducible refine Below.alloc ?_ ?_ _) | (with_reducible refine Below.drew ?_) | (with_reducible refine belowN ?_ _) | (with_reducible refine below_step ?_ ?_ (by with_reducible assumption)) | go_size))⟩
    · have hv := pdV_range D hb
      rw [hb] at hP
      have HP := Lib.hid hP
      have hSg : ∀ w, Calls Try.prog 41 #[M (pdV D), .bool neg] w fun e w' => e = .returned (.tuple #[W (clip (sgn (pdV D) neg)), .bool (fitB (sgn (pdV D) neg))]) ∧ Below w.heap.size w w' := fun w => signed_any _ _ w hv.1 hv.2
      by_cases hf : fits (sgn (pdV D) neg)
      · rw [clip_yes hf, fit_yes hf] at hSg
        have HSg := Lib.hid hSg
        obtain ⟨T, hT, hTx⟩ := HTx.out _ hf
        have HT := Lib.hid hTx
        have hT2 : ((str l).toList == (str T).toList) = false := by rw [Bool.eq_false_iff] at hT ⊢; intro h; exact hT (by rw [beq_iff_eq] at h ⊢; exact h.symm)
        clear hP hn hb hW0 hSg hv hf HTx hTx
        generalize sgn (pdV D) neg = x at *
        generalize pdV D = m at *
        rcases hsh with ⟨rfl, rfl⟩ | ⟨rfl, rfl, rfl | ⟨h0, h45⟩⟩
        · have zl2 : (str (45 :: D)).size = D.length + 1 := by rw [zl]; rfl
          have hD39 : D.length ≤ 39 := by simp at h40; omega
          have hlt0 : 0 < (str (45 :: D)).size := by omega
          have h45 : ((((str (45 :: D))[0]'hlt0).toNat : Int)) = 45 := by rw [str_get _ 0 hlt0 (by simp)]; rfl
          have hx1 : (str (45 :: D)).extract 1 (D.length + 1) = str D := ext_tail D 45 _ rfl
          have hem : ((str (45 :: D)).toList == []) = false := by rw [str_toList]; simp
          clear zl
          go_enter Try.func33, Try.ntmps33
          go_wp2_with (first | (go_at_call 53; ((with_reducible refine (HP.out _).mono ?_); rintro e w1 ⟨rfl, hb1⟩); have hz1 := hb1.size; (try simp only [World.size_alloc, World.size_setCell, World.size_drew, size_drewN'] at hz1); have : w.heap.size < w1.heap.size := (by omega); have := hb1.cell (p := ⟨w.heap.size, 0, none⟩) (by go_size); simp [go_sem, *] at this; have := hb1.frozen (p := ⟨w.heap.size, 0, none⟩) (by go_size); simp [go_sem, *] at this; have := hb1.cell (p := ⟨w.heap.size, 1, none⟩) (by go_size); simp [go_sem, *] at this; have := hb1.frozen (p := ⟨w.heap.size, 1, none⟩) (by go_size); simp [go_sem, *] at this) | (go_at_call 41; ((with_reducible refine (HSg.out _).mono ?_); rintro e w2 ⟨rfl, hb2⟩); have hz2 := hb2.size; (try simp only [World.size_alloc, World.size_setCell, World.size_drew, size_drewN'] at hz2); have : w.heap.size < w2.heap.size := (by omega); have := hb2.cell (p := ⟨w.heap.size, 0, none⟩) (by go_size); simp [go_sem, *] at this; have := hb2.frozen (p := ⟨w.heap.size, 0, none⟩) (by go_size); simp [go_sem, *] at this; have := hb2.cell (p := ⟨w.heap.size, 1, none⟩) (by go_size); simp [go_sem, *] at this; have := hb2.frozen (p := ⟨w.heap.size, 1, none⟩) (by go_size); simp [go_sem, *] at this) | (go_at_call 32; ((with_reducible refine (HT.out _).mono ?_); rintro e w3 ⟨rfl, hb3⟩); have hz3 := hb3.size; (try simp only [World.size_alloc, World.size_setCell, World.size_drew, size_drewN'] at hz3); have : w.heap.size < w3.heap.size := (by omega); have := hb3.cell (p := ⟨w.heap.size, 0, none⟩) (by go_size); simp [go_sem, *] at this; have := hb3.frozen (p := ⟨w.heap.size, 0, none⟩) (by go_size); simp [go_sem, *] at this; have := hb3.cell (p := ⟨w.heap.size, 1, none⟩) (by go_size); simp [go_sem, *] at this; have := hb3.frozen (p := ⟨w.heap.size, 1, none⟩) (by go_size); simp [go_sem, *] at this; have : w2.heap.size < w3.heap.size := (by omega); have := hb3.cell (p := ⟨w2.heap.size, 0, none⟩) (by go_size); simp [go_sem, *] at this; have := hb3.frozen (p := ⟨w2.heap.size, 0, none⟩) (by go_size); simp [go_sem, *] at this; have := hb3.cell (p := ⟨w2.heap.size, 1, none⟩) (by go_size); simp [go_sem, *] at this; have := hb3.frozen (p := ⟨w2.heap.size, 1, none⟩) (by go_size); simp [go_sem, *] at this))
          refine bodyPost_ret (v := .tuple #[.agg #[.int .i64 0, .int .u64 0], .int .i64 4]) (by simp [results, Try.results33, go_sem, *]) rfl ?_
          exact ⟨rfl, by (repeat' (first | (with_reducible exact Below.refl _ _) | (with_reducible refine Below.setCell ?_ ?_ _) | (with_reducible refine Below.alloc ?_ ?_ _) | (with_reducible refine Below.drew ?_) | (with_reducible refine belowN ?_ _) | (with_reducible refine below_step ?_ ?_ (by with_reducible assumption)) | go_size))⟩
        · have hem : ((str []).toList == []) = true := by rw [str_toList]; rfl
          go_enter Try.func33, Try.ntmps33
          go_wp2_with (first | (go_at_call 53; ((with_reducible refine (HP.out _).mono ?_); rintro e w1 ⟨rfl, hb1⟩); have hz1 := hb1.size; (try simp only [World.size_alloc, World.size_setCell, World.size_drew, size_drewN'] at hz1); have : w.heap.size < w1.heap.size := (by omega); have := hb1.cell (p := ⟨w.heap.size, 0, none⟩) (by go_size); simp [go_sem, *] at this; have := hb1.frozen (p := ⟨w.heap.size, 0, none⟩) (by go_size); simp [go_sem, *] at this; have := hb1.cell (p := ⟨w.heap.size, 1, none⟩) (by go_size); simp [go_sem, *] at this; have := hb1.frozen (p := ⟨w.heap.size, 1, none⟩) (by go_size); simp [go_sem, *] at this) | (go_at_call 41; ((with_reducible refine (HSg.out _).mono ?_); rintro e w2 ⟨rfl, hb2⟩); have hz2 := hb2.size; (try simp only [World.size_alloc, World.size_setCell, World.size_drew, size_drewN'] at hz2); have : w.heap.size < w2.heap.size := (by omega); have := hb2.cell (p := ⟨w.heap.size, 0, none⟩) (by go_size); simp [go_sem, *] at this; have := hb2.frozen (p := ⟨w.heap.size, 0, none⟩) (by go_size); simp [go_sem, *] at this; have := hb2.cell (p := ⟨w.heap.size, 1, none⟩) (by go_size); simp [go_sem, *] at this; have := hb2.frozen (p := ⟨w.heap.size, 1, none⟩) (by go_size); simp [go_sem, *] at this) | (go_at_call 32; ((with_reducible refine (HT.out _).mono ?_); rintro e w3 ⟨rfl, hb3⟩); have hz3 := hb3.size; (try simp only [World.size_alloc, World.size_setCell, World.size_drew, size_drewN'] at hz3); have : w.heap.size < w3.heap.size := (by omega); have := hb3.cell (p := ⟨w.heap.size, 0, none⟩) (by go_size); simp [go_sem, *] at this; have := hb3.frozen (p := ⟨w.heap.size, 0, none⟩) (by go_size); simp [go_sem, *] at this; have := hb3.cell (p := ⟨w.heap.size, 1, none⟩) (by go_size); simp [go_sem, *] at this; have := hb3.frozen (p := ⟨w.heap.size, 1, none⟩) (by go_size); simp [go_sem, *] at this; have : w2.heap.size < w3.heap.size := (by omega); have := hb3.cell (p := ⟨w2.heap.size, 0, none⟩) (by go_size); simp [go_sem, *] at this; have := hb3.frozen (p := ⟨w2.heap.size, 0, none⟩) (by go_size); simp [go_sem, *] at this; have := hb3.cell (p := ⟨w2.heap.size, 1, none⟩) (by go_size); simp [go_sem, *] at this; have := hb3.frozen (p := ⟨w2.heap.size, 1, none⟩) (by go_size); simp [go_sem, *] at this))
          refine bodyPost_ret (v := .tuple #[.agg #[.int .i64 0, .int .u64 0], .int .i64 4]) (by simp [results, Try.results33, go_sem, *]) rfl ?_
          exact ⟨rfl, by (repeat' (first | (with_reducible exact Below.refl _ _) | (with_reducible refine Below.setCell ?_ ?_ _) | (with_reducible refine Below.alloc ?_ ?_ _) | (with_reducible refine Below.drew ?_) | (with_reducible refine belowN ?_ _) | (with_reducible refine below_step ?_ ?_ (by with_reducible assumption)) | go_size))⟩
        · have hlt0 : 0 < (str l).size := by omega
          have h45 : ((((str l)[0]'hlt0).toNat : Int) == 45) = false := by
            rw [str_get _ 0 hlt0 h0]
            exact beq_eq_false_iff_ne.2 (fun h => h45 (UInt8.toNat_inj.1 (by show _ = 45; omega)))
          have hem : ((str l).toList == []) = false := by rw [str_toList]; cases l with | nil => simp at h0 | cons c r => simp
          go_enter Try.func33, Try.ntmps33
          go_wp2_with (first | (go_at_call 53; ((with_reducible refine (HP.out _).mono ?_); rintro e w1 ⟨rfl, hb1⟩); have hz1 := hb1.size; (try simp only [World.size_alloc, World.size_setCell, World.size_drew, size_drewN'] at hz1); have : w.heap.size < w1.heap.size := (by omega); have := hb1.cell (p := ⟨w.heap.size, 0, none⟩) (by go_size); simp [go_sem, *] at this; have := hb1.frozen (p := ⟨w.heap.size, 0, none⟩) (by go_size); simp [go_sem, *] at this; have := hb1.cell (p := ⟨w.heap.size, 1, none⟩) (by go_size); simp [go_sem, *] at this; have := hb1.frozen (p := ⟨w.heap.size, 1, none⟩) (by go_size); simp [go_sem, *] at this) | (go_at_call 41; ((with_reducible refine (HSg.out _).mono ?_); rintro e w2 ⟨rfl, hb2⟩); have hz2 := hb2.size; (try simp only [World.size_alloc, World.size_setCell, World.size_drew, size_drewN'] at hz2); have : w.heap.size < w2.heap.size := (by omega); have := hb2.cell (p := ⟨w.heap.size, 0, none⟩) (by go_size); simp [go_sem, *] at this; have := hb2.frozen (p := ⟨w.heap.size, 0, none⟩) (by go_size); simp [go_sem, *] at this; have := hb2.cell (p := ⟨w.heap.size, 1, none⟩) (by go_size); simp [go_sem, *] at this; have := hb2.frozen (p := ⟨w.heap.size, 1, none⟩) (by go_size); simp [go_sem, *] at this) | (go_at_call 32; ((with_reducible refine (HT.out _).mono ?_); rintro e w3 ⟨rfl, hb3⟩); have hz3 := hb3.size; (try simp only [World.size_alloc, World.size_setCell, World.size_drew, size_drewN'] at hz3); have : w.heap.size < w3.heap.size := (by omega); have := hb3.cell (p := ⟨w.heap.size, 0, none⟩) (by go_size); simp [go_sem, *] at this; have := hb3.frozen (p := ⟨w.heap.size, 0, none⟩) (by go_size); simp [go_sem, *] at this; have := hb3.cell (p := ⟨w.heap.size, 1, none⟩) (by go_size); simp [go_sem, *] at this; have := hb3.frozen (p := ⟨w.heap.size, 1, none⟩) (by go_size); simp [go_sem, *] at this; have : w2.heap.size < w3.heap.size := (by omega); have := hb3.cell (p := ⟨w2.heap.size, 0, none⟩) (by go_size); simp [go_sem, *] at this; have := hb3.frozen (p := ⟨w2.heap.size, 0, none⟩) (by go_size); simp [go_sem, *] at this; have := hb3.cell (p := ⟨w2.heap.size, 1, none⟩) (by go_size); simp [go_sem, *] at this; have := hb3.frozen (p := ⟨w2.heap.size, 1, none⟩) (by go_size); simp [go_sem, *] at this))
          refine bodyPost_ret (v := .tuple #[.agg #[.int .i64 0, .int .u64 0], .int .i64 4]) (by simp [results, Try.results33, go_sem, *]) rfl ?_
          exact ⟨rfl, by (repeat' (first | (with_reducible exact Below.refl _ _) | (with_reducible refine Below.setCell ?_ ?_ _) | (with_reducible refine Below.alloc ?_ ?_ _) | (with_reducible refine Below.drew ?_) | (with_reducible refine belowN ?_ _) | (with_reducible refine below_step ?_ ?_ (by with_reducible assumption)) | go_size))⟩
      · rw [fit_no hf] at hSg
        have HSg := Lib.hid hSg
        clear hP hn hb hW0 hSg hv hf HTx
        generalize clip (sgn (pdV D) neg) = x at *
        generalize pdV D = m at *
        rcases hsh with ⟨rfl, rfl⟩ | ⟨rfl, rfl, rfl | ⟨h0, h45⟩⟩
        · have zl2 : (str (45 :: D)).size = D.length + 1 := by rw [zl]; rfl
          have hD39 : D.length ≤ 39 := by simp at h40; omega
          have hlt0 : 0 < (str (45 :: D)).size := by omega
          have h45 : ((((str (45 :: D))[0]'hlt0).toNat : Int)) = 45 := by rw [str_get _ 0 hlt0 (by simp)]; rfl
          have hx1 : (str (45 :: D)).extract 1 (D.length + 1) = str D := ext_tail D 45 _ rfl
          have hem : ((str (45 :: D)).toList == []) = false := by rw [str_toList]; simp
          clear zl
          go_enter Try.func33, Try.ntmps33
          go_wp2_with (first | (go_at_call 53; ((with_reducible refine (HP.out _).mono ?_); rintro e w1 ⟨rfl, hb1⟩); have hz1 := hb1.size; (try simp only [World.size_alloc, World.size_setCell, World.size_drew, size_drewN'] at hz1); have : w.heap.size < w1.heap.size := (by omega); have := hb1.cell (p := ⟨w.heap.size, 0, none⟩) (by go_size); simp [go_sem, *] at this; have := hb1.frozen (p := ⟨w.heap.size, 0, none⟩) (by go_size); simp [go_sem, *] at this; have := hb1.cell (p := ⟨w.heap.size, 1, none⟩) (by go_size); simp [go_sem, *] at this; have := hb1.frozen (p := ⟨w.heap.size, 1, none⟩) (by go_size); simp [go_sem, *] at this) | (go_at_call 41; ((with_reducible refine (HSg.out _).mono ?_); rintro e w2 ⟨rfl, hb2⟩); have hz2 := hb2.size; (try simp only [World.size_alloc, World.size_setCell, World.size_drew, size_drewN'] at hz2); have : w.heap.size < w2.heap.size := (by omega); have := hb2.cell (p := ⟨w.heap.size, 0, none⟩) (by go_size); simp [go_sem, *] at this; have := hb2.frozen (p := ⟨w.heap.size, 0, none⟩) (by go_size); simp [go_sem, *] at this; have := hb2.cell (p := ⟨w.heap.size, 1, none⟩) (by go_size); simp [go_sem, *] at this; have := hb2.frozen (p := ⟨w.heap.size, 1, none⟩) (by go_size); simp [go_sem, *] at this))
          refine bodyPost_ret (v := .tuple #[.agg #[.int .i64 0, .int .u64 0], .int .i64 4]) (by simp [results, Try.results33, go_sem, *]) rfl ?_
          exact ⟨rfl, by (repeat' (first | (with_reducible exact Below.refl _ _) | (with_reducible refine Below.setCell ?_ ?_ _) | (with_reducible refine Below.alloc ?_ ?_ _) | (with_reducible refine Below.drew ?_) | (with_reducible refine belowN ?_ _) | (with_reducible refine below_step ?_ ?_ (by with_reducible assumption)) | go_size))⟩
        · have hem : ((str []).toList == []) = true := by rw [str_toList]; rfl
          go_enter Try.func33, Try.ntmps33
          go_wp2_with (first | (go_at_call 53; ((with_reducible refine (HP.out _).mono ?_); rintro e w1 ⟨rfl, hb1⟩); have hz1 := hb1.size; (try simp only [World.size_alloc, World.size_setCell, World.size_drew, size_drewN'] at hz1); have : w.heap.size < w1.heap.size := (by omega); have := hb1.cell (p := ⟨w.heap.size, 0, none⟩) (by go_size); simp [go_sem, *] at this; have := hb1.frozen (p := ⟨w.heap.size, 0, none⟩) (by go_size); simp [go_sem, *] at this; have := hb1.cell (p := ⟨w.heap.size, 1, none⟩) (by go_size); simp [go_sem, *] at this; have := hb1.frozen (p := ⟨w.heap.size, 1, none⟩) (by go_size); simp [go_sem, *] at this) | (go_at_call 41; ((with_reducible refine (HSg.out _).mono ?_); rintro e w2 ⟨rfl, hb2⟩); have hz2 := hb2.size; (try simp only [World.size_alloc, World.size_setCell, World.size_drew, size_drewN'] at hz2); have : w.heap.size < w2.heap.size := (by omega); have := hb2.cell (p := ⟨w.heap.size, 0, none⟩) (by go_size); simp [go_sem, *] at this; have := hb2.frozen (p := ⟨w.heap.size, 0, none⟩) (by go_size); simp [go_sem, *] at this; have := hb2.cell (p := ⟨w.heap.size, 1, none⟩) (by go_size); simp [go_sem, *] at this; have := hb2.frozen (p := ⟨w.heap.size, 1, none⟩) (by go_size); simp [go_sem, *] at this))
          refine bodyPost_ret (v := .tuple #[.agg #[.int .i64 0, .int .u64 0], .int .i64 4]) (by simp [results, Try.results33, go_sem, *]) rfl ?_
          exact ⟨rfl, by (repeat' (first | (with_reducible exact Below.refl _ _) | (with_reducible refine Below.setCell ?_ ?_ _) | (with_reducible refine Below.alloc ?_ ?_ _) | (with_reducible refine Below.drew ?_) | (with_reducible refine belowN ?_ _) | (with_reducible refine below_step ?_ ?_ (by with_reducible assumption)) | go_size))⟩
        · have hlt0 : 0 < (str l).size := by omega
          have h45 : ((((str l)[0]'hlt0).toNat : Int) == 45) = false := by
            rw [str_get _ 0 hlt0 h0]
            exact beq_eq_false_iff_ne.2 (fun h => h45 (UInt8.toNat_inj.1 (by show _ = 45; omega)))
          have hem : ((str l).toList == []) = false := by rw [str_toList]; cases l with | nil => simp at h0 | cons c r => simp
          go_enter Try.func33, Try.ntmps33
          go_wp2_with (first | (go_at_call 53; ((with_reducible refine (HP.out _).mono ?_); rintro e w1 ⟨rfl, hb1⟩); have hz1 := hb1.size; (try simp only [World.size_alloc, World.size_setCell, World.size_drew, size_drewN'] at hz1); have : w.heap.size < w1.heap.size := (by omega); have := hb1.cell (p := ⟨w.heap.size, 0, none⟩) (by go_size); simp [go_sem, *] at this; have := hb1.frozen (p := ⟨w.heap.size, 0, none⟩) (by go_size); simp [go_sem, *] at this; have := hb1.cell (p := ⟨w.heap.size, 1, none⟩) (by go_size); simp [go_sem, *] at this; have := hb1.frozen (p := ⟨w.heap.size, 1, none⟩) (by go_size); simp [go_sem, *] at this) | (go_at_call 41; ((with_reducible refine (HSg.out _).mono ?_); rintro e w2 ⟨rfl, hb2⟩); have hz2 := hb2.size; (try simp only [World.size_alloc, World.size_setCell, World.size_drew, size_drewN'] at hz2); have : w.heap.size < w2.heap.size := (by omega); have := hb2.cell (p := ⟨w.heap.size, 0, none⟩) (by go_size); simp [go_sem, *] at this; have := hb2.frozen (p := ⟨w.heap.size, 0, none⟩) (by go_size); simp [go_sem, *] at this; have := hb2.cell (p := ⟨w.heap.size, 1, none⟩) (by go_size); simp [go_sem, *] at this; have := hb2.frozen (p := ⟨w.heap.size, 1, none⟩) (by go_size); simp [go_sem, *] at this))
          refine bodyPost_ret (v := .tuple #[.agg #[.int .i64 0, .int .u64 0], .int .i64 4]) (by simp [results, Try.results33, go_sem, *]) rfl ?_
          exact ⟨rfl, by (repeat' (first | (with_reducible exact Below.refl _ _) | (with_reducible refine Below.setCell ?_ ?_ _) | (with_reducible refine Below.alloc ?_ ?_ _) | (with_reducible refine Below.drew ?_) | (with_reducible refine belowN ?_ _) | (with_reducible refine below_step ?_ ?_ (by with_reducible assumption)) | go_size))⟩
end Go.Proofs.Ytgdpeajompccnaa
