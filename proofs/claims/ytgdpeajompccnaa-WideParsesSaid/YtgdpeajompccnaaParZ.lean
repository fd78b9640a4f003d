/- The reference's Parse of a wide number. -/
import Derived.Test.YtgdpeajompccnaaParX
import Derived.Test.YtgdpeajompccnaaTxtX
import Derived.Test.YtgdpeajompccnaaWideQ
set_option linter.unusedSimpArgs false
set_option linter.unusedVariables false
namespace Go.Proofs.Ytgdpeajompccnaa
open Go.RowKit

/-- At the head of a round. -/
structure ZInv (w : World) (x : Int) (wr : World) : Prop where
  fit : fits x
  rrow : Row wr w.heap.size 24 [.int .i64 0, .int .u64 0]
  wrow : Row wr (w.heap.size + 1) 24 [.int .i64 (wh x), .int .u64 (wl x)]
  bel : Below w.heap.size w wr
theorem ZInv.step {w : World} {x y : Int} {wr w3 : World} (h : ZInv w x wr) (hb : Below wr.heap.size wr w3) (hy : fits y) (W : World)
    (hW : W = (w3.setCell ⟨w.heap.size + 1, 0, none⟩ (.int .i64 (wh y))).setCell ⟨w.heap.size + 1, 1, none⟩ (.int .u64 (wl y))) : ZInv w y W := by
  obtain ⟨fit, rrow, wrow, bel⟩ := h
  subst hW
  have hrl := Row.lt rrow
  have hml := Row.lt wrow
  refine ⟨hy, ?_, ?_, ?_⟩
  · exact ((rrow.below hb hrl).far (p := ⟨w.heap.size + 1, 0, none⟩) (by simp) _).far (p := ⟨w.heap.size + 1, 1, none⟩) (by simp) _
  · exact ((wrow.below hb hml).put 0 _).put 1 _
  · exact ((below_step bel (by omega) hb).setCell (by simp) _).setCell (by simp) _

set_option maxHeartbeats 8000000 in
theorem rparse_neg (D : List UInt8) (V E : Int) (P : Nat → Int → Bool → Prop) (w : World) (hD1 : 1 ≤ D.length) (hD2 : D.length ≤ 39)
    (HP0 : P 0 0 true)
    (HPs : ∀ k x (h : k < D.length), isDig D[k] = true → P k x true → (fitB (x * 10) = true → P (k + 1) (clip (clip (x * 10) - ((D[k].toNat : Int) - 48))) (fitB (clip (x * 10) - ((D[k].toNat : Int) - 48)))) ∧ (fitB (x * 10) = false → P (k + 1) (clip (x * 10)) false))
    (HPd : ∀ k x (h : k < D.length), isDig D[k] = false → P k x true → V = 0 ∧ E = 4)
    (HPf : ∀ k x, P k x false → V = 0 ∧ E = 4)
    (HPn : ∀ x, fits x → P D.length x true → (Lib.itoa x = 45 :: D → V = x ∧ E = 0) ∧ (Lib.itoa x ≠ 45 :: D → V = 0 ∧ E = 4)) :
    Calls Try.prog 35 #[S (45 :: D)] w fun e w' => e = .returned (.tuple #[W V, .int .i64 E]) ∧ Below w.heap.size w w' := by
  have zD := str_size D
  have H0 : Hid (V = 0 ∧ E = 4 → Ending.returned (.tuple #[.agg #[.int .i64 0, .int .u64 0], .int .i64 4]) = .returned (.tuple #[W V, .int .i64 E])) := Lib.hid (fun h => by rw [h.1, h.2]; unfold W; rfl)
  have hP0 := Lib.hid HP0
  have hPs := Lib.hid HPs
  have hPd := Lib.hid HPd
  have hPf := Lib.hid HPf
  have hPn := Lib.hid HPn
  have HTx : Hid (∀ a, fits a → ∀ w, Calls Try.prog 34 #[W a] w fun e w' => e = .returned (S (Lib.itoa a)) ∧ Below w.heap.size w w') := Lib.hid (fun a ha w => rtext_any a w ha)
  clear HP0 HPs HPd HPf HPn
  have hc0 : ¬ ((D.length : Int) = 0) := by omega
  have hc1 : ((D.length : Int) == 0) = false := beq_eq_false_iff_ne.2 (by omega)
  have hc2 : ¬ (39 : Int) < (D.length : Int) := by omega
  have zl := str_size (45 :: D)
  have zl2 : (str (45 :: D)).size = D.length + 1 := by rw [zl]; rfl
  have hlt0 : 0 < (str (45 :: D)).size := by omega
  have h45 : ((((str (45 :: D))[0]'hlt0).toNat : Int)) = 45 := by rw [str_get _ 0 hlt0 (by simp)]; rfl
  have hx1 : (str (45 :: D)).extract 1 (D.length + 1) = str D := ext_tail D 45 _ rfl
  have hne : ((str D).toList == (str (45 :: D)).toList) = false := by rw [str_beq]; exact beq_eq_false_iff_ne.2 (fun h => by have := congrArg List.length h; simp at this)
  clear zl
  obtain ⟨T, hT⟩ : ∃ T, T = str (45 :: D) := ⟨_, rfl⟩
  go_enter Try.func35, Try.ntmps35
  go_wp2
  go_loopw [6, 7] (fun o i wr => ∃ (k : Nat) (x : Int) (b : Bool), ZInv w x wr ∧ i = .int .i64 (k : Int) ∧ o = .bool b ∧ k ≤ D.length ∧ Hid (P k x b)) (fun _ i _ => D.length - (intOf i).toNat)
  case atStart =>
    refine ⟨0, 0, true, ⟨by unfold fits lo127 hi127; omega, (Row.new w _ [.int .i64 0, .int .u64 0]).alloc _, ?_, ?_⟩, rfl, rfl, Nat.zero_le _, hP0⟩
    · have := Row.new (w.alloc (.cells #[.int .i64 0, .int .u64 0] 24)) 24 [.int .i64 0, .int .u64 0]
      rw [World.size_alloc] at this
      exact this
    · (repeat' (first | (with_reducible exact Below.refl _ _) | (with_reducible refine Below.setCell ?_ ?_ _) | (with_reducible refine Below.alloc ?_ ?_ _) | (with_reducible refine Below.drew ?_) | (with_reducible refine belowN ?_ _) | (with_reducible refine below_step ?_ ?_ (by with_reducible assumption)) | go_size))
  case round =>
    obtain ⟨k, x, b, hi, rfl, rfl, hk, HK⟩ := hrel
    have HI' := Lib.hid hi
    have HF := Lib.hid hi.fit
    have hrl := Row.lt hi.rrow
    have hml := Row.lt hi.wrow
    have r0 : wr.cell? ⟨w.heap.size, 0, none⟩ = some (.int .i64 0) := by rw [hi.rrow.cell]; rfl
    have r1 : wr.cell? ⟨w.heap.size, 1, none⟩ = some (.int .u64 0) := by rw [hi.rrow.cell]; rfl
    have m0 : wr.cell? ⟨w.heap.size + 1, 0, none⟩ = some (.int .i64 (wh x)) := by rw [hi.wrow.cell]; rfl
    have m1 : wr.cell? ⟨w.heap.size + 1, 1, none⟩ = some (.int .u64 (wl x)) := by rw [hi.wrow.cell]; rfl
    have f0 := hi.rrow.free 0
    have f1 := hi.rrow.free 1
    have f2 := hi.wrow.free 0
    have f3 := hi.wrow.free 1
    have hbel := hi.bel
    clear hi hP0
    cases b
    · have E1 := Lib.hid (H0.out (hPf.out k x HK.out))
      by_cases hlt : k < D.length
      all_goals
        go_wp2
        refine bodyPost_ret (v := .tuple #[.agg #[.int .i64 0, .int .u64 0], .int .i64 4]) (by simp [results, Try.results35, go_sem, *]) rfl ?_
        refine ⟨E1.out, ?_⟩
        (repeat' (first | (with_reducible exact Below.refl _ _) | (with_reducible refine Below.setCell ?_ ?_ _) | (with_reducible refine Below.alloc ?_ ?_ _) | (with_reducible refine Below.drew ?_) | (with_reducible refine belowN ?_ _) | (with_reducible refine below_step ?_ ?_ (by with_reducible assumption)) | go_size))
    · by_cases hlt : k < D.length
      · have hlt2 : k < (str D).size := by omega
        have hg := str_get D k hlt2 hlt
        cases hdg : isDig D[k]
        · have hc : ((((str D)[k]'hlt2).toNat : Int)) < 48 ∨ (¬ ((((str D)[k]'hlt2).toNat : Int)) < 48 ∧ 57 < ((((str D)[k]'hlt2).toNat : Int))) := by
            rw [hg]
            have : ¬ (48 ≤ D[k].toNat ∧ D[k].toNat ≤ 57) := fun h => by rw [(isDig_iff _).2 h] at hdg; cases hdg
            omega
          have E1 := Lib.hid (H0.out (hPd.out k x hlt hdg HK.out))
          clear hg hdg
          rcases hc with hc | ⟨hc, hc2⟩
          all_goals
            go_wp2
            refine bodyPost_ret (v := .tuple #[.agg #[.int .i64 0, .int .u64 0], .int .i64 4]) (by simp [results, Try.results35, go_sem, *]) rfl ?_
            refine ⟨E1.out, ?_⟩
            (repeat' (first | (with_reducible exact Below.refl _ _) | (with_reducible refine Below.setCell ?_ ?_ _) | (with_reducible refine Below.alloc ?_ ?_ _) | (with_reducible refine Below.drew ?_) | (with_reducible refine belowN ?_ _) | (with_reducible refine below_step ?_ ?_ (by with_reducible assumption)) | go_size))
        · have hc : 48 ≤ ((str D)[k]'hlt2).toNat ∧ ((str D)[k]'hlt2).toNat ≤ 57 := by rw [hg]; exact (isDig_iff _).1 hdg
          have hc1 : ¬ ((((str D)[k]'hlt2).toNat : Int)) < 48 := by omega
          have hc2 : ¬ 57 < ((((str D)[k]'hlt2).toNat : Int)) := by omega
          have hw1 : IntKind.u8.wrap ((((str D)[k]'hlt2).toNat : Int) - 48) = (((str D)[k]'hlt2).toNat : Int) - 48 := by rw [IntKind.wrap_u8]; omega
          have hw9 : IntKind.i64.wrap ((((str D)[k]'hlt2).toNat : Int) - 48) = (((str D)[k]'hlt2).toNat : Int) - 48 := by rw [IntKind.wrap_i64]; omega
          have hs := hPs.out k x hlt hdg HK.out
          have hS := fun w => rscale_any x 10 w HF.out (by unfold I64; omega)
          have hfc := fits_clip (x * 10)
          cases hb : fitB (x * 10)
          · rw [hb] at hS
            have HS := Lib.hid hS
            have Q := Lib.hid (hs.2 hb)
            have HY := Lib.hid hfc
            clear hg hdg hs hS hfc hb
            generalize clip (x * 10) = y at *
            go_wp2_with (go_at_call 21; ((with_reducible refine (HS.out _).mono ?_); rintro e w2 ⟨rfl, hb2⟩); have hz2 := hb2.size; (try simp only [World.size_alloc, World.size_setCell, World.size_drew, size_drewN'] at hz2); have : w.heap.size < w2.heap.size := (by omega); have := hb2.cell (p := ⟨w.heap.size, 0, none⟩) (by go_size); simp [go_sem, *] at this; have := hb2.frozen (p := ⟨w.heap.size, 0, none⟩) (by go_size); simp [go_sem, *] at this; have := hb2.cell (p := ⟨w.heap.size, 1, none⟩) (by go_size); simp [go_sem, *] at this; have := hb2.frozen (p := ⟨w.heap.size, 1, none⟩) (by go_size); simp [go_sem, *] at this; have : w.heap.size + 1 < w2.heap.size := (by omega); have := hb2.cell (p := ⟨w.heap.size + 1, 0, none⟩) (by go_size); simp [go_sem, *] at this; have := hb2.frozen (p := ⟨w.heap.size + 1, 0, none⟩) (by go_size); simp [go_sem, *] at this; have := hb2.cell (p := ⟨w.heap.size + 1, 1, none⟩) (by go_size); simp [go_sem, *] at this; have := hb2.frozen (p := ⟨w.heap.size + 1, 1, none⟩) (by go_size); simp [go_sem, *] at this)
            have hbw : Below wr.heap.size wr w2 := by (repeat' (first | (with_reducible exact Below.refl _ _) | (with_reducible refine Below.setCell ?_ ?_ _) | (with_reducible refine Below.alloc ?_ ?_ _) | (with_reducible refine Below.drew ?_) | (with_reducible refine belowN ?_ _) | (with_reducible refine below_step ?_ ?_ (by with_reducible assumption)) | go_size))
            have hst := HI'.out.step hbw HY.out _ rfl
            exact ⟨⟨k + 1, y, false, hst, by go_num, rfl, by omega, Q⟩, by simp [intOf]; omega⟩
          · rw [hb] at hS
            have HS := Lib.hid hS
            have q : P (k + 1) (clip (clip (x * 10) - ((((str D)[k]'hlt2).toNat : Int) - 48))) (fitB (clip (x * 10) - ((((str D)[k]'hlt2).toNat : Int) - 48))) := by have h := hs.1 hb; rw [hg]; exact h
            have hfc2 := fits_clip (clip (x * 10) - ((((str D)[k]'hlt2).toNat : Int) - 48))
            have hO := fun w => rof_any ((((str D)[k]'hlt2).toNat : Int) - 48) w (by omega)
            have hB := fun w => rsub_any (clip (x * 10)) ((((str D)[k]'hlt2).toNat : Int) - 48) w hfc (by unfold fits lo127 hi127; omega)
            have HO := Lib.hid hO
            have HB := Lib.hid hB
            have Q := Lib.hid q
            have HY := Lib.hid hfc2
            have HY1 := Lib.hid hfc
            clear hg hdg hs hS hfc hb q hfc2 hO hB
            generalize fitB (clip (x * 10) - ((((str D)[k]'hlt2).toNat : Int) - 48)) = b2 at *
            generalize clip (clip (x * 10) - ((((str D)[k]'hlt2).toNat : Int) - 48)) = z at *
            generalize clip (x * 10) = y at *
            go_wp2_with (go_at_call 21; ((with_reducible refine (HS.out _).mono ?_); rintro e w2 ⟨rfl, hb2⟩); have hz2 := hb2.size; (try simp only [World.size_alloc, World.size_setCell, World.size_drew, size_drewN'] at hz2); have : w.heap.size < w2.heap.size := (by omega); have := hb2.cell (p := ⟨w.heap.size, 0, none⟩) (by go_size); simp [go_sem, *] at this; have := hb2.frozen (p := ⟨w.heap.size, 0, none⟩) (by go_size); simp [go_sem, *] at this; have := hb2.cell (p := ⟨w.heap.size, 1, none⟩) (by go_size); simp [go_sem, *] at this; have := hb2.frozen (p := ⟨w.heap.size, 1, none⟩) (by go_size); simp [go_sem, *] at this; have : w.heap.size + 1 < w2.heap.size := (by omega); have := hb2.cell (p := ⟨w.heap.size + 1, 0, none⟩) (by go_size); simp [go_sem, *] at this; have := hb2.frozen (p := ⟨w.heap.size + 1, 0, none⟩) (by go_size); simp [go_sem, *] at this; have := hb2.cell (p := ⟨w.heap.size + 1, 1, none⟩) (by go_size); simp [go_sem, *] at this; have := hb2.frozen (p := ⟨w.heap.size + 1, 1, none⟩) (by go_size); simp [go_sem, *] at this)
            go_region_with (first | (go_at_call 19; ((with_reducible refine (HO.out _).mono ?_); rintro e w3 ⟨rfl, hb3⟩); have hz3 := hb3.size; (try simp only [World.size_alloc, World.size_setCell, World.size_drew, size_drewN'] at hz3); have : w.heap.size < w3.heap.size := (by omega); have := hb3.cell (p := ⟨w.heap.size, 0, none⟩) (by go_size); simp [go_sem, *] at this; have := hb3.frozen (p := ⟨w.heap.size, 0, none⟩) (by go_size); simp [go_sem, *] at this; have := hb3.cell (p := ⟨w.heap.size, 1, none⟩) (by go_size); simp [go_sem, *] at this; have := hb3.frozen (p := ⟨w.heap.size, 1, none⟩) (by go_size); simp [go_sem, *] at this; have : w.heap.size + 1 < w3.heap.size := (by omega); have := hb3.cell (p := ⟨w.heap.size + 1, 0, none⟩) (by go_size); simp [go_sem, *] at this; have := hb3.frozen (p := ⟨w.heap.size + 1, 0, none⟩) (by go_size); simp [go_sem, *] at this; have := hb3.cell (p := ⟨w.heap.size + 1, 1, none⟩) (by go_size); simp [go_sem, *] at this; have := hb3.frozen (p := ⟨w.heap.size + 1, 1, none⟩) (by go_size); simp [go_sem, *] at this) | (go_at_call 15; ((with_reducible refine (HB.out _).mono ?_); rintro e w4 ⟨rfl, hb4⟩); have hz4 := hb4.size; (try simp only [World.size_alloc, World.size_setCell, World.size_drew, size_drewN'] at hz4); have : w.heap.size < w4.heap.size := (by omega); have := hb4.cell (p := ⟨w.heap.size, 0, none⟩) (by go_size); simp [go_sem, *] at this; have := hb4.frozen (p := ⟨w.heap.size, 0, none⟩) (by go_size); simp [go_sem, *] at this; have := hb4.cell (p := ⟨w.heap.size, 1, none⟩) (by go_size); simp [go_sem, *] at this; have := hb4.frozen (p := ⟨w.heap.size, 1, none⟩) (by go_size); simp [go_sem, *] at this; have : w.heap.size + 1 < w4.heap.size := (by omega); have := hb4.cell (p := ⟨w.heap.size + 1, 0, none⟩) (by go_size); simp [go_sem, *] at this; have := hb4.frozen (p := ⟨w.heap.size + 1, 0, none⟩) (by go_size); simp [go_sem, *] at this; have := hb4.cell (p := ⟨w.heap.size + 1, 1, none⟩) (by go_size); simp [go_sem, *] at this; have := hb4.frozen (p := ⟨w.heap.size + 1, 1, none⟩) (by go_size); simp [go_sem, *] at this))
            all_goals
              go_wp2
              have hst1 := HI'.out.step (w3 := w2) (by (repeat' (first | (with_reducible exact Below.refl _ _) | (with_reducible refine Below.setCell ?_ ?_ _) | (with_reducible refine Below.alloc ?_ ?_ _) | (with_reducible refine Below.drew ?_) | (with_reducible refine belowN ?_ _) | (with_reducible refine below_step ?_ ?_ (by with_reducible assumption)) | go_size))) HY1.out _ rfl
              have hst := hst1.step (w3 := w4) (by (repeat' (first | (with_reducible exact Below.refl _ _) | (with_reducible refine Below.setCell ?_ ?_ _) | (with_reducible refine Below.alloc ?_ ?_ _) | (with_reducible refine Below.drew ?_) | (with_reducible refine belowN ?_ _) | (with_reducible refine below_step ?_ ?_ (by with_reducible assumption)) | go_size))) HY.out _ rfl
              exact ⟨⟨k + 1, z, b2, hst, by go_num, rfl, by omega, Q⟩, by simp [intOf]; omega⟩
      · obtain rfl : k = D.length := by omega
        have hn := hPn.out x HF.out HK.out
        have HX := HF
        have HT0 : Hid (∃ T : List UInt8, ((Lib.itoa x = 45 :: D ∧ T = 45 :: D ∧ V = x ∧ E = 0) ∨ (((str T).toList == (str (45 :: D)).toList) = false ∧ V = 0 ∧ E = 4)) ∧ ∀ w, Calls Try.prog 34 #[W x] w fun e w' => e = .returned (S T) ∧ Below w.heap.size w w') := Lib.hid (by
          refine ⟨Lib.itoa x, ?_, fun w => HTx.out x HF.out w⟩
          by_cases he : Lib.itoa x = 45 :: D
          · exact Or.inl ⟨he, he, hn.1 he⟩
          · exact Or.inr ⟨by rw [str_beq]; exact beq_eq_false_iff_ne.2 he, hn.2 he⟩)
        obtain ⟨T, hT1, hT2⟩ := HT0.out
        have HT := Lib.hid hT2
        clear HT0 hT2 HTx hPn HK hPs hPd hPf hn
        rcases hT1 with ⟨_, rfl, rfl, rfl⟩ | ⟨hq, h4⟩
        · clear H0
          go_wp2_with (go_at_call 34; ((with_reducible refine (HT.out _).mono ?_); rintro e w2 ⟨rfl, hb2⟩); have hz2 := hb2.size; (try simp only [World.size_alloc, World.size_setCell, World.size_drew, size_drewN'] at hz2); have : w.heap.size < w2.heap.size := (by omega); have := hb2.cell (p := ⟨w.heap.size, 0, none⟩) (by go_size); simp [go_sem, *] at this; have := hb2.frozen (p := ⟨w.heap.size, 0, none⟩) (by go_size); simp [go_sem, *] at this; have := hb2.cell (p := ⟨w.heap.size, 1, none⟩) (by go_size); simp [go_sem, *] at this; have := hb2.frozen (p := ⟨w.heap.size, 1, none⟩) (by go_size); simp [go_sem, *] at this; have : w.heap.size + 1 < w2.heap.size := (by omega); have := hb2.cell (p := ⟨w.heap.size + 1, 0, none⟩) (by go_size); simp [go_sem, *] at this; have := hb2.frozen (p := ⟨w.heap.size + 1, 0, none⟩) (by go_size); simp [go_sem, *] at this; have := hb2.cell (p := ⟨w.heap.size + 1, 1, none⟩) (by go_size); simp [go_sem, *] at this; have := hb2.frozen (p := ⟨w.heap.size + 1, 1, none⟩) (by go_size); simp [go_sem, *] at this)
          refine bodyPost_ret (v := .tuple #[.agg #[.int .i64 (wh V), .int .u64 (wl V)], .int .i64 0]) (by simp [results, Try.results35, go_sem, *]) rfl ?_
          refine ⟨rfl, ?_⟩
          (repeat' (first | (with_reducible exact Below.refl _ _) | (with_reducible refine Below.setCell ?_ ?_ _) | (with_reducible refine Below.alloc ?_ ?_ _) | (with_reducible refine Below.drew ?_) | (with_reducible refine belowN ?_ _) | (with_reducible refine below_step ?_ ?_ (by with_reducible assumption)) | go_size))
        · have E1 := Lib.hid (H0.out h4)
          clear h4 H0
          go_wp2_with (go_at_call 34; ((with_reducible refine (HT.out _).mono ?_); rintro e w2 ⟨rfl, hb2⟩); have hz2 := hb2.size; (try simp only [World.size_alloc, World.size_setCell, World.size_drew, size_drewN'] at hz2); have : w.heap.size < w2.heap.size := (by omega); have := hb2.cell (p := ⟨w.heap.size, 0, none⟩) (by go_size); simp [go_sem, *] at this; have := hb2.frozen (p := ⟨w.heap.size, 0, none⟩) (by go_size); simp [go_sem, *] at this; have := hb2.cell (p := ⟨w.heap.size, 1, none⟩) (by go_size); simp [go_sem, *] at this; have := hb2.frozen (p := ⟨w.heap.size, 1, none⟩) (by go_size); simp [go_sem, *] at this; have : w.heap.size + 1 < w2.heap.size := (by omega); have := hb2.cell (p := ⟨w.heap.size + 1, 0, none⟩) (by go_size); simp [go_sem, *] at this; have := hb2.frozen (p := ⟨w.heap.size + 1, 0, none⟩) (by go_size); simp [go_sem, *] at this; have := hb2.cell (p := ⟨w.heap.size + 1, 1, none⟩) (by go_size); simp [go_sem, *] at this; have := hb2.frozen (p := ⟨w.heap.size + 1, 1, none⟩) (by go_size); simp [go_sem, *] at this)
          refine bodyPost_ret (v := .tuple #[.agg #[.int .i64 0, .int .u64 0], .int .i64 4]) (by simp [results, Try.results35, go_sem, *]) rfl ?_
          refine ⟨E1.out, ?_⟩
          (repeat' (first | (with_reducible exact Below.refl _ _) | (with_reducible refine Below.setCell ?_ ?_ _) | (with_reducible refine Below.alloc ?_ ?_ _) | (with_reducible refine Below.drew ?_) | (with_reducible refine belowN ?_ _) | (with_reducible refine below_step ?_ ?_ (by with_reducible assumption)) | go_size))
set_option maxHeartbeats 8000000 in
theorem rparse_pos (D : List UInt8) (V E : Int) (P : Nat → Int → Bool → Prop) (w : World) (hD1 : 1 ≤ D.length) (hD2 : D.length ≤ 39) (h45 : ∀ h : 0 < D.length, D[0] ≠ 45)
    (HP0 : P 0 0 true)
    (HPs : ∀ k x (h : k < D.length), isDig D[k] = true → P k x true → (fitB (x * 10) = true → P (k + 1) (clip (clip (x * 10) - ((D[k].toNat : Int) - 48))) (fitB (clip (x * 10) - ((D[k].toNat : Int) - 48)))) ∧ (fitB (x * 10) = false → P (k + 1) (clip (x * 10)) false))
    (HPd : ∀ k x (h : k < D.length), isDig D[k] = false → P k x true → V = 0 ∧ E = 4)
    (HPf : ∀ k x, P k x false → V = 0 ∧ E = 4)
    (HPn : ∀ x, fits x → P D.length x true → (fitB (-x) = true → (Lib.itoa (clip (-x)) = D → V = clip (-x) ∧ E = 0) ∧ (Lib.itoa (clip (-x)) ≠ D → V = 0 ∧ E = 4)) ∧ (fitB (-x) = false → V = 0 ∧ E = 4)) :
    Calls Try.prog 35 #[S D] w fun e w' => e = .returned (.tuple #[W V, .int .i64 E]) ∧ Below w.heap.size w w' := by
  have zD := str_size D
  have H0 : Hid (V = 0 ∧ E = 4 → Ending.returned (.tuple #[.agg #[.int .i64 0, .int .u64 0], .int .i64 4]) = .returned (.tuple #[W V, .int .i64 E])) := Lib.hid (fun h => by rw [h.1, h.2]; unfold W; rfl)
  have hP0 := Lib.hid HP0
  have hPs := Lib.hid HPs
  have hPd := Lib.hid HPd
  have hPf := Lib.hid HPf
  have hPn := Lib.hid HPn
  have HTx : Hid (∀ a, fits a → ∀ w, Calls Try.prog 34 #[W a] w fun e w' => e = .returned (S (Lib.itoa a)) ∧ Below w.heap.size w w') := Lib.hid (fun a ha w => rtext_any a w ha)
  clear HP0 HPs HPd HPf HPn
  have hc0 : ¬ ((D.length : Int) = 0) := by omega
  have hc1 : ((D.length : Int) == 0) = false := beq_eq_false_iff_ne.2 (by omega)
  have hc2 : ¬ (39 : Int) < (D.length : Int) := by omega
  have hlt0 : 0 < (str D).size := by omega
  have h46 : ((((str D)[0]'hlt0).toNat : Int) == 45) = false := by
    rw [str_get _ 0 hlt0 (by omega)]
    exact beq_eq_false_iff_ne.2 (fun h => h45 (by omega) (UInt8.toNat_inj.1 (by show _ = 45; omega)))
  clear h45
  go_enter Try.func35, Try.ntmps35
  go_wp2
  go_loopw [6, 7] (fun o i wr => ∃ (k : Nat) (x : Int) (b : Bool), ZInv w x wr ∧ i = .int .i64 (k : Int) ∧ o = .bool b ∧ k ≤ D.length ∧ Hid (P k x b)) (fun _ i _ => D.length - (intOf i).toNat)
  case atStart =>
    refine ⟨0, 0, true, ⟨by unfold fits lo127 hi127; omega, (Row.new w _ [.int .i64 0, .int .u64 0]).alloc _, ?_, ?_⟩, rfl, rfl, Nat.zero_le _, hP0⟩
    · have := Row.new (w.alloc (.cells #[.int .i64 0, .int .u64 0] 24)) 24 [.int .i64 0, .int .u64 0]
      rw [World.size_alloc] at this
      exact this
    · (repeat' (first | (with_reducible exact Below.refl _ _) | (with_reducible refine Below.setCell ?_ ?_ _) | (with_reducible refine Below.alloc ?_ ?_ _) | (with_reducible refine Below.drew ?_) | (with_reducible refine belowN ?_ _) | (with_reducible refine below_step ?_ ?_ (by with_reducible assumption)) | go_size))
  case round =>
    obtain ⟨k, x, b, hi, rfl, rfl, hk, HK⟩ := hrel
    have HI' := Lib.hid hi
    have HF := Lib.hid hi.fit
    have hrl := Row.lt hi.rrow
    have hml := Row.lt hi.wrow
    have r0 : wr.cell? ⟨w.heap.size, 0, none⟩ = some (.int .i64 0) := by rw [hi.rrow.cell]; rfl
    have r1 : wr.cell? ⟨w.heap.size, 1, none⟩ = some (.int .u64 0) := by rw [hi.rrow.cell]; rfl
    have m0 : wr.cell? ⟨w.heap.size + 1, 0, none⟩ = some (.int .i64 (wh x)) := by rw [hi.wrow.cell]; rfl
    have m1 : wr.cell? ⟨w.heap.size + 1, 1, none⟩ = some (.int .u64 (wl x)) := by rw [hi.wrow.cell]; rfl
    have f0 := hi.rrow.free 0
    have f1 := hi.rrow.free 1
    have f2 := hi.wrow.free 0
    have f3 := hi.wrow.free 1
    have hbel := hi.bel
    clear hi hP0
    cases b
    · have E1 := Lib.hid (H0.out (hPf.out k x HK.out))
      by_cases hlt : k < D.length
      all_goals
        go_wp2
        refine bodyPost_ret (v := .tuple #[.agg #[.int .i64 0, .int .u64 0], .int .i64 4]) (by simp [results, Try.results35, go_sem, *]) rfl ?_
        refine ⟨E1.out, ?_⟩
        (repeat' (first | (with_reducible exact Below.refl _ _) | (with_reducible refine Below.setCell ?_ ?_ _) | (with_reducible refine Below.alloc ?_ ?_ _) | (with_reducible refine Below.drew ?_) | (with_reducible refine belowN ?_ _) | (with_reducible refine below_step ?_ ?_ (by with_reducible assumption)) | go_size))
    · by_cases hlt : k < D.length
      · have hlt2 : k < (str D).size := by omega
        have hg := str_get D k hlt2 hlt
        cases hdg : isDig D[k]
        · have hc : ((((str D)[k]'hlt2).toNat : Int)) < 48 ∨ (¬ ((((str D)[k]'hlt2).toNat : Int)) < 48 ∧ 57 < ((((str D)[k]'hlt2).toNat : Int))) := by
            rw [hg]
            have : ¬ (48 ≤ D[k].toNat ∧ D[k].toNat ≤ 57) := fun h => by rw [(isDig_iff _).2 h] at hdg; cases hdg
            omega
          have E1 := Lib.hid (H0.out (hPd.out k x hlt hdg HK.out))
          clear hg hdg
          rcases hc with hc | ⟨hc, hc2⟩
          all_goals
            go_wp2
            refine bodyPost_ret (v := .tuple #[.agg #[.int .i64 0, .int .u64 0], .int .i64 4]) (by simp [results, Try.results35, go_sem, *]) rfl ?_
            refine ⟨E1.out, ?_⟩
            (repeat' (first | (with_reducible exact Below.refl _ _) | (with_reducible refine Below.setCell ?_ ?_ _) | (with_reducible refine Below.alloc ?_ ?_ _) | (with_reducible refine Below.drew ?_) | (with_reducible refine belowN ?_ _) | (with_reducible refine below_step ?_ ?_ (by with_reducible assumption)) | go_size))
        · have hc : 48 ≤ ((str D)[k]'hlt2).toNat ∧ ((str D)[k]'hlt2).toNat ≤ 57 := by rw [hg]; exact (isDig_iff _).1 hdg
          have hc1 : ¬ ((((str D)[k]'hlt2).toNat : Int)) < 48 := by omega
          have hc2 : ¬ 57 < ((((str D)[k]'hlt2).toNat : Int)) := by omega
          have hw1 : IntKind.u8.wrap ((((str D)[k]'hlt2).toNat : Int) - 48) = (((str D)[k]'hlt2).toNat : Int) - 48 := by rw [IntKind.wrap_u8]; omega
          have hw9 : IntKind.i64.wrap ((((str D)[k]'hlt2).toNat : Int) - 48) = (((str D)[k]'hlt2).toNat : Int) - 48 := by rw [IntKind.wrap_i64]; omega
          have hs := hPs.out k x hlt hdg HK.out
          have hS := fun w => rscale_any x 10 w HF.out (by unfold I64; omega)
          have hfc := fits_clip (x * 10)
          cases hb : fitB (x * 10)
          · rw [hb] at hS
            have HS := Lib.hid hS
            have Q := Lib.hid (hs.2 hb)
            have HY := Lib.hid hfc
            clear hg hdg hs hS hfc hb
            generalize clip (x * 10) = y at *
            go_wp2_with (go_at_call 21; ((with_reducible refine (HS.out _).mono ?_); rintro e w2 ⟨rfl, hb2⟩); have hz2 := hb2.size; (try simp only [World.size_alloc, World.size_setCell, World.size_drew, size_drewN'] at hz2); have : w.heap.size < w2.heap.size := (by omega); have := hb2.cell (p := ⟨w.heap.size, 0, none⟩) (by go_size); simp [go_sem, *] at this; have := hb2.frozen (p := ⟨w.heap.size, 0, none⟩) (by go_size); simp [go_sem, *] at this; have := hb2.cell (p := ⟨w.heap.size, 1, none⟩) (by go_size); simp [go_sem, *] at this; have := hb2.frozen (p := ⟨w.heap.size, 1, none⟩) (by go_size); simp [go_sem, *] at this; have : w.heap.size + 1 < w2.heap.size := (by omega); have := hb2.cell (p := ⟨w.heap.size + 1, 0, none⟩) (by go_size); simp [go_sem, *] at this; have := hb2.frozen (p := ⟨w.heap.size + 1, 0, none⟩) (by go_size); simp [go_sem, *] at this; have := hb2.cell (p := ⟨w.heap.size + 1, 1, none⟩) (by go_size); simp [go_sem, *] at this; have := hb2.frozen (p := ⟨w.heap.size + 1, 1, none⟩) (by go_size); simp [go_sem, *] at this)
            have hbw : Below wr.heap.size wr w2 := by (repeat' (first | (with_reducible exact Below.refl _ _) | (with_reducible refine Below.setCell ?_ ?_ _) | (with_reducible refine Below.alloc ?_ ?_ _) | (with_reducible refine Below.drew ?_) | (with_reducible refine belowN ?_ _) | (with_reducible refine below_step ?_ ?_ (by with_reducible assumption)) | go_size))
            have hst := HI'.out.step hbw HY.out _ rfl
            exact ⟨⟨k + 1, y, false, hst, by go_num, rfl, by omega, Q⟩, by simp [intOf]; omega⟩
          · rw [hb] at hS
            have HS := Lib.hid hS
            have q : P (k + 1) (clip (clip (x * 10) - ((((str D)[k]'hlt2).toNat : Int) - 48))) (fitB (clip (x * 10) - ((((str D)[k]'hlt2).toNat : Int) - 48))) := by have h := hs.1 hb; rw [hg]; exact h
            have hfc2 := fits_clip (clip (x * 10) - ((((str D)[k]'hlt2).toNat : Int) - 48))
            have hO := fun w => rof_any ((((str D)[k]'hlt2).toNat : Int) - 48) w (by omega)
            have hB := fun w => rsub_any (clip (x * 10)) ((((str D)[k]'hlt2).toNat : Int) - 48) w hfc (by unfold fits lo127 hi127; omega)
            have HO := Lib.hid hO
            have HB := Lib.hid hB
            have Q := Lib.hid q
            have HY := Lib.hid hfc2
            have HY1 := Lib.hid hfc
            clear hg hdg hs hS hfc hb q hfc2 hO hB
            generalize fitB (clip (x * 10) - ((((str D)[k]'hlt2).toNat : Int) - 48)) = b2 at *
            generalize clip (clip (x * 10) - ((((str D)[k]'hlt2).toNat : Int) - 48)) = z at *
            generalize clip (x * 10) = y at *
            go_wp2_with (go_at_call 21; ((with_reducible refine (HS.out _).mono ?_); rintro e w2 ⟨rfl, hb2⟩); have hz2 := hb2.size; (try simp only [World.size_alloc, World.size_setCell, World.size_drew, size_drewN'] at hz2); have : w.heap.size < w2.heap.size := (by omega); have := hb2.cell (p := ⟨w.heap.size, 0, none⟩) (by go_size); simp [go_sem, *] at this; have := hb2.frozen (p := ⟨w.heap.size, 0, none⟩) (by go_size); simp [go_sem, *] at this; have := hb2.cell (p := ⟨w.heap.size, 1, none⟩) (by go_size); simp [go_sem, *] at this; have := hb2.frozen (p := ⟨w.heap.size, 1, none⟩) (by go_size); simp [go_sem, *] at this; have : w.heap.size + 1 < w2.heap.size := (by omega); have := hb2.cell (p := ⟨w.heap.size + 1, 0, none⟩) (by go_size); simp [go_sem, *] at this; have := hb2.frozen (p := ⟨w.heap.size + 1, 0, none⟩) (by go_size); simp [go_sem, *] at this; have := hb2.cell (p := ⟨w.heap.size + 1, 1, none⟩) (by go_size); simp [go_sem, *] at this; have := hb2.frozen (p := ⟨w.heap.size + 1, 1, none⟩) (by go_size); simp [go_sem, *] at this)
            go_region_with (first | (go_at_call 19; ((with_reducible refine (HO.out _).mono ?_); rintro e w3 ⟨rfl, hb3⟩); have hz3 := hb3.size; (try simp only [World.size_alloc, World.size_setCell, World.size_drew, size_drewN'] at hz3); have : w.heap.size < w3.heap.size := (by omega); have := hb3.cell (p := ⟨w.heap.size, 0, none⟩) (by go_size); simp [go_sem, *] at this; have := hb3.frozen (p := ⟨w.heap.size, 0, none⟩) (by go_size); simp [go_sem, *] at this; have := hb3.cell (p := ⟨w.heap.size, 1, none⟩) (by go_size); simp [go_sem, *] at this; have := hb3.frozen (p := ⟨w.heap.size, 1, none⟩) (by go_size); simp [go_sem, *] at this; have : w.heap.size + 1 < w3.heap.size := (by omega); have := hb3.cell (p := ⟨w.heap.size + 1, 0, none⟩) (by go_size); simp [go_sem, *] at this; have := hb3.frozen (p := ⟨w.heap.size + 1, 0, none⟩) (by go_size); simp [go_sem, *] at this; have := hb3.cell (p := ⟨w.heap.size + 1, 1, none⟩) (by go_size); simp [go_sem, *] at this; have := hb3.frozen (p := ⟨w.heap.size + 1, 1, none⟩) (by go_size); simp [go_sem, *] at this) | (go_at_call 15; ((with_reducible refine (HB.out _).mono ?_); rintro e w4 ⟨rfl, hb4⟩); have hz4 := hb4.size; (try simp only [World.size_alloc, World.size_setCell, World.size_drew, size_drewN'] at hz4); have : w.heap.size < w4.heap.size := (by omega); have := hb4.cell (p := ⟨w.heap.size, 0, none⟩) (by go_size); simp [go_sem, *] at this; have := hb4.frozen (p := ⟨w.heap.size, 0, none⟩) (by go_size); simp [go_sem, *] at this; have := hb4.cell (p := ⟨w.heap.size, 1, none⟩) (by go_size); simp [go_sem, *] at this; have := hb4.frozen (p := ⟨w.heap.size, 1, none⟩) (by go_size); simp [go_sem, *] at this; have : w.heap.size + 1 < w4.heap.size := (by omega); have := hb4.cell (p := ⟨w.heap.size + 1, 0, none⟩) (by go_size); simp [go_sem, *] at this; have := hb4.frozen (p := ⟨w.heap.size + 1, 0, none⟩) (by go_size); simp [go_sem, *] at this; have := hb4.cell (p := ⟨w.heap.size + 1, 1, none⟩) (by go_size); simp [go_sem, *] at this; have := hb4.frozen (p := ⟨w.heap.size + 1, 1, none⟩) (by go_size); simp [go_sem, *] at this))
            all_goals
              go_wp2
              have hst1 := HI'.out.step (w3 := w2) (by (repeat' (first | (with_reducible exact Below.refl _ _) | (with_reducible refine Below.setCell ?_ ?_ _) | (with_reducible refine Below.alloc ?_ ?_ _) | (with_reducible refine Below.drew ?_) | (with_reducible refine belowN ?_ _) | (with_reducible refine below_step ?_ ?_ (by with_reducible assumption)) | go_size))) HY1.out _ rfl
              have hst := hst1.step (w3 := w4) (by (repeat' (first | (with_reducible exact Below.refl _ _) | (with_reducible refine Below.setCell ?_ ?_ _) | (with_reducible refine Below.alloc ?_ ?_ _) | (with_reducible refine Below.drew ?_) | (with_reducible refine belowN ?_ _) | (with_reducible refine below_step ?_ ?_ (by with_reducible assumption)) | go_size))) HY.out _ rfl
              exact ⟨⟨k + 1, z, b2, hst, by go_num, rfl, by omega, Q⟩, by simp [intOf]; omega⟩
      · obtain rfl : k = D.length := by omega
        have hn := hPn.out x HF.out HK.out
        have hN := fun w => rneg_any x w HF.out
        cases hb : fitB (-x)
        · rw [hb] at hN
          have HN := Lib.hid hN
          have E1 := Lib.hid (H0.out (hn.2 hb))
          clear hN hn hb HTx hPn HK hPs hPd hPf H0
          generalize clip (-x) = y at *
          go_wp2_with (go_at_call 17; ((with_reducible refine (HN.out _).mono ?_); rintro e w3 ⟨rfl, hb3⟩); have hz3 := hb3.size; (try simp only [World.size_alloc, World.size_setCell, World.size_drew, size_drewN'] at hz3); have : w.heap.size < w3.heap.size := (by omega); have := hb3.cell (p := ⟨w.heap.size, 0, none⟩) (by go_size); simp [go_sem, *] at this; have := hb3.frozen (p := ⟨w.heap.size, 0, none⟩) (by go_size); simp [go_sem, *] at this; have := hb3.cell (p := ⟨w.heap.size, 1, none⟩) (by go_size); simp [go_sem, *] at this; have := hb3.frozen (p := ⟨w.heap.size, 1, none⟩) (by go_size); simp [go_sem, *] at this; have : w.heap.size + 1 < w3.heap.size := (by omega); have := hb3.cell (p := ⟨w.heap.size + 1, 0, none⟩) (by go_size); simp [go_sem, *] at this; have := hb3.frozen (p := ⟨w.heap.size + 1, 0, none⟩) (by go_size); simp [go_sem, *] at this; have := hb3.cell (p := ⟨w.heap.size + 1, 1, none⟩) (by go_size); simp [go_sem, *] at this; have := hb3.frozen (p := ⟨w.heap.size + 1, 1, none⟩) (by go_size); simp [go_sem, *] at this)
          refine bodyPost_ret (v := .tuple #[.agg #[.int .i64 0, .int .u64 0], .int .i64 4]) (by simp [results, Try.results35, go_sem, *]) rfl ?_
          refine ⟨E1.out, ?_⟩
          (repeat' (first | (with_reducible exact Below.refl _ _) | (with_reducible refine Below.setCell ?_ ?_ _) | (with_reducible refine Below.alloc ?_ ?_ _) | (with_reducible refine Below.drew ?_) | (with_reducible refine belowN ?_ _) | (with_reducible refine below_step ?_ ?_ (by with_reducible assumption)) | go_size))
        · rw [hb] at hN
          have HN := Lib.hid hN
          have hm := hn.1 hb
          have HT0 : Hid (∃ T : List UInt8, ((Lib.itoa (clip (-x)) = D ∧ T = D ∧ V = clip (-x) ∧ E = 0) ∨ (((str T).toList == (str D).toList) = false ∧ V = 0 ∧ E = 4)) ∧ ∀ w, Calls Try.prog 34 #[W (clip (-x))] w fun e w' => e = .returned (S T) ∧ Below w.heap.size w w') := Lib.hid (by
            refine ⟨Lib.itoa (clip (-x)), ?_, fun w => HTx.out _ (fits_clip _) w⟩
            by_cases he : Lib.itoa (clip (-x)) = D
            · exact Or.inl ⟨he, he, hm.1 he⟩
            · exact Or.inr ⟨by rw [str_beq]; exact beq_eq_false_iff_ne.2 he, hm.2 he⟩)
          obtain ⟨T, hT1, hT2⟩ := HT0.out
          have HT := Lib.hid hT2
          clear HT0 hT2 HTx hPn HK hPs hPd hPf hn hm hN hb
          generalize clip (-x) = y at *
          rcases hT1 with ⟨_, rfl, rfl, rfl⟩ | ⟨hq, h4⟩
          · clear H0
            go_wp2_with (first | (go_at_call 17; ((with_reducible refine (HN.out _).mono ?_); rintro e w3 ⟨rfl, hb3⟩); have hz3 := hb3.size; (try simp only [World.size_alloc, World.size_setCell, World.size_drew, size_drewN'] at hz3); have : w.heap.size < w3.heap.size := (by omega); have := hb3.cell (p := ⟨w.heap.size, 0, none⟩) (by go_size); simp [go_sem, *] at this; have := hb3.frozen (p := ⟨w.heap.size, 0, none⟩) (by go_size); simp [go_sem, *] at this; have := hb3.cell (p := ⟨w.heap.size, 1, none⟩) (by go_size); simp [go_sem, *] at this; have := hb3.frozen (p := ⟨w.heap.size, 1, none⟩) (by go_size); simp [go_sem, *] at this; have : w.heap.size + 1 < w3.heap.size := (by omega); have := hb3.cell (p := ⟨w.heap.size + 1, 0, none⟩) (by go_size); simp [go_sem, *] at this; have := hb3.frozen (p := ⟨w.heap.size + 1, 0, none⟩) (by go_size); simp [go_sem, *] at this; have := hb3.cell (p := ⟨w.heap.size + 1, 1, none⟩) (by go_size); simp [go_sem, *] at this; have := hb3.frozen (p := ⟨w.heap.size + 1, 1, none⟩) (by go_size); simp [go_sem, *] at this) | (go_at_call 34; ((with_reducible refine (HT.out _).mono ?_); rintro e w2 ⟨rfl, hb2⟩); have hz2 := hb2.size; (try simp only [World.size_alloc, World.size_setCell, World.size_drew, size_drewN'] at hz2); have : w.heap.size < w2.heap.size := (by omega); have := hb2.cell (p := ⟨w.heap.size, 0, none⟩) (by go_size); simp [go_sem, *] at this; have := hb2.frozen (p := ⟨w.heap.size, 0, none⟩) (by go_size); simp [go_sem, *] at this; have := hb2.cell (p := ⟨w.heap.size, 1, none⟩) (by go_size); simp [go_sem, *] at this; have := hb2.frozen (p := ⟨w.heap.size, 1, none⟩) (by go_size); simp [go_sem, *] at this; have : w.heap.size + 1 < w2.heap.size := (by omega); have := hb2.cell (p := ⟨w.heap.size + 1, 0, none⟩) (by go_size); simp [go_sem, *] at this; have := hb2.frozen (p := ⟨w.heap.size + 1, 0, none⟩) (by go_size); simp [go_sem, *] at this; have := hb2.cell (p := ⟨w.heap.size + 1, 1, none⟩) (by go_size); simp [go_sem, *] at this; have := hb2.frozen (p := ⟨w.heap.size + 1, 1, none⟩) (by go_size); simp [go_sem, *] at this))
            refine bodyPost_ret (v := .tuple #[.agg #[.int .i64 (wh V), .int .u64 (wl V)], .int .i64 0]) (by simp [results, Try.results35, go_sem, *]) rfl ?_
            refine ⟨rfl, ?_⟩
            (repeat' (first | (with_reducible exact Below.refl _ _) | (with_reducible refine Below.setCell ?_ ?_ _) | (with_reducible refine Below.alloc ?_ ?_ _) | (with_reducible refine Below.drew ?_) | (with_reducible refine belowN ?_ _) | (with_reducible refine below_step ?_ ?_ (by with_reducible assumption)) | go_size))
          · have E1 := Lib.hid (H0.out h4)
            clear h4 H0
            go_wp2_with (first | (go_at_call 17; ((with_reducible refine (HN.out _).mono ?_); rintro e w3 ⟨rfl, hb3⟩); have hz3 := hb3.size; (try simp only [World.size_alloc, World.size_setCell, World.size_drew, size_drewN'] at hz3); have : w.heap.size < w3.heap.size := (by omega); have := hb3.cell (p := ⟨w.heap.size, 0, none⟩) (by go_size); simp [go_sem, *] at this; have := hb3.frozen (p := ⟨w.heap.size, 0, none⟩) (by go_size); simp [go_sem, *] at this; have := hb3.cell (p := ⟨w.heap.size, 1, none⟩) (by go_size); simp [go_sem, *] at this; have := hb3.frozen (p := ⟨w.heap.size, 1, none⟩) (by go_size); simp [go_sem, *] at this; have : w.heap.size + 1 < w3.heap.size := (by omega); have := hb3.cell (p := ⟨w.heap.size + 1, 0, none⟩) (by go_size); simp [go_sem, *] at this; have := hb3.frozen (p := ⟨w.heap.size + 1, 0, none⟩) (by go_size); simp [go_sem, *] at this; have := hb3.cell (p := ⟨w.heap.size + 1, 1, none⟩) (by go_size); simp [go_sem, *] at this; have := hb3.frozen (p := ⟨w.heap.size + 1, 1, none⟩) (by go_size); simp [go_sem, *] at this) | (go_at_call 34; ((with_reducible refine (HT.out _).mono ?_); rintro e w2 ⟨rfl, hb2⟩); have hz2 := hb2.size; (try simp only [World.size_alloc, World.size_setCell, World.size_drew, size_drewN'] at hz2); have : w.heap.size < w2.heap.size := (by omega); have := hb2.cell (p := ⟨w.heap.size, 0, none⟩) (by go_size); simp [go_sem, *] at this; have := hb2.frozen (p := ⟨w.heap.size, 0, none⟩) (by go_size); simp [go_sem, *] at this; have := hb2.cell (p := ⟨w.heap.size, 1, none⟩) (by go_size); simp [go_sem, *] at this; have := hb2.frozen (p := ⟨w.heap.size, 1, none⟩) (by go_size); simp [go_sem, *] at this; have : w.heap.size + 1 < w2.heap.size := (by omega); have := hb2.cell (p := ⟨w.heap.size + 1, 0, none⟩) (by go_size); simp [go_sem, *] at this; have := hb2.frozen (p := ⟨w.heap.size + 1, 0, none⟩) (by go_size); simp [go_sem, *] at this; have := hb2.cell (p := ⟨w.heap.size + 1, 1, none⟩) (by go_size); simp [go_sem, *] at this; have := hb2.frozen (p := ⟨w.heap.size + 1, 1, none⟩) (by go_size); simp [go_sem, *] at this))
            refine bodyPost_ret (v := .tuple #[.agg #[.int .i64 0, .int .u64 0], .int .i64 4]) (by simp [results, Try.results35, go_sem, *]) rfl ?_
            refine ⟨E1.out, ?_⟩
            (repeat' (first | (with_reducible exact Below.refl _ _) | (with_reducible refine Below.setCell ?_ ?_ _) | (with_reducible refine Below.alloc ?_ ?_ _) | (with_reducible refine Below.drew ?_) | (with_reducible refine belowN ?_ _) | (with_reducible refine below_step ?_ ?_ (by with_reducible assumption)) | go_size))
end Go.Proofs.Ytgdpeajompccnaa
