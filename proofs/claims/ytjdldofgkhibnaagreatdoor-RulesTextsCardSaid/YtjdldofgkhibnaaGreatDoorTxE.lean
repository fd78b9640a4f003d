/- Contract of package text's splitLine. -/
import Derived.Test.YtjdldofgkhibnaaGreatDoorTxD
set_option linter.unusedSimpArgs false
set_option linter.unusedVariables false
namespace Go.Proofs.YtjdldofgkhibnaaGreatDoor
open Go.RowKit

/-- At the head of a round: k is reached, the fields xs are read. -/
structure SInv (l : List UInt8) (w : World) (k : Nat) (xs : List Fld) (v : Value) (wr : World) : Prop where
  k0 : k ≤ l.length
  wh : ∀ h : k < l.length, wht l[k] = false
  val : pre xs (scn l k) = scn l 0
  len : xs.length ≤ k
  own : OwnF wr w.heap.size v xs
  drow : Row wr w.heap.size 59 [.int .i64 0, .int .i64 0, .int .i64 0]
  bel : Below w.heap.size w wr
theorem SInv.step {l : List UInt8} {w : World} {k : Nat} {xs : List Fld} {v v' : Value} {wr W w5 : World} (h : SInv l w k xs v wr) (hlt : k < l.length) (hs : l[k].toNat ≠ 59) (hb : fldB l k = true)
    (hbel : Below wr.heap.size wr W) (ho : w5.ownsRow w.heap.size 68 3 v' (xs.length + 1) (xs.flatMap FC ++ FC (fldF l k))) (hg : W.grownBy w5 v.ownBlock) :
    SInv l w (skp l (fldE l k)) (xs ++ [fldF l k]) v' w5 := by
  obtain ⟨k0, wh, val, len, own, drow, bel⟩ := h
  have hw := wh hlt
  have hE := fldE_lt l k hlt hb hs hw
  have hE2 := fldE_le l k hlt
  have hS := skp_le l (fldE l k) hE2.2
  have hB : w.heap.size ≤ W.heap.size := by have := bel.size; have := hbel.size; omega
  refine ⟨hS.2, fun h => skp_not l _ _ (Nat.le_refl _) h, ?_, ?_, ?_, ?_, ?_⟩
  · rw [← val, scn_field l k hlt hs hw hb, pre_pre, scn_skp l _ (fldE l k) (Nat.le_refl _)]
  · simp; omega
  · unfold OwnF
    rw [List.length_append, List.flatMap_append]
    simpa using ho
  · have h1 : Row W w.heap.size 59 [.int .i64 0, .int .i64 0, .int .i64 0] := drow.below hbel drow.lt
    exact h1.grown hg (fun e => own_row_ne own drow (by decide) e.symm)
  · exact (below_step bel (by have := bel.size; omega) hbel).grown hg hB (fun k hk => (World.ownsRow.lt own k hk).1)
/-- What splitLine answers. -/
def SplPost (l : List UInt8) (w : World) (e : Ending) (w' : World) : Prop :=
  ∃ v, e = .returned (.tuple #[v, .agg #[.int .i64 0, .int .i64 (linC l), .int .i64 (linE l)]]) ∧ OwnF w' w.heap.size v (linV l) ∧ Below w.heap.size w w'
theorem lin_long (l : List UInt8) (h : 1000 < l.length) : linV l = [] ∧ linC l = 1001 ∧ linE l = 9 := by
  have : linR l = .error (1001, 9) := by unfold linR; rw [if_pos h]
  unfold linV linC linE; rw [this]; exact ⟨rfl, rfl, rfl⟩
theorem lin_ok (l : List UInt8) (h : ¬ 1000 < l.length) (xs : List Fld) (hs : scn l 0 = .ok xs) : linV l = xs ∧ linC l = 0 ∧ linE l = 0 := by
  have : linR l = .ok xs := by unfold linR; rw [if_neg h, hs]
  unfold linV linC linE; rw [this]; exact ⟨rfl, rfl, rfl⟩
theorem lin_bad (l : List UInt8) (h : ¬ 1000 < l.length) (e : Nat) (hs : scn l 0 = .error e) : linV l = [] ∧ linC l = (e : Int) + 1 ∧ linE l = 4 := by
  have : linR l = .error ((e : Int) + 1, 4) := by unfold linR; rw [if_neg h, hs]
  unfold linV linC linE; rw [this]; exact ⟨rfl, rfl, rfl⟩
set_option maxRecDepth 100000 in
set_option maxHeartbeats 4000000 in
theorem splitLine_any (l : List UInt8) (w : World) (hl : l.length < 4294967281) (henv : Env w) :
    Calls Tryz.prog 46 #[S l] w (SplPost l w) := by
  have z := str_size l
  have HE := Lib.hid henv
  by_cases h1000 : 1000 < l.length
  · have hq := lin_long l h1000
    have HQ : Hid (SplPost l w = fun e w' => ∃ v, e = .returned (.tuple #[v, .agg #[.int .i64 0, .int .i64 1001, .int .i64 9]]) ∧ OwnF w' w.heap.size v [] ∧ Below w.heap.size w w') := Lib.hid (by unfold SplPost; rw [hq.1, hq.2.1, hq.2.2])
    have k1 : (1000 : Int) < (l.length : Int) := by omega
    clear hq henv
    generalize SplPost l w = Q at *
    go_enter Tryz.func46, Tryz.ntmps46
    go_wp2
    refine bodyPost_ret (v := .tuple #[.slice none 0 0, .agg #[.int .i64 0, .int .i64 1001, .int .i64 9]]) (by simp [results, Tryz.results46, go_sem, *]) rfl ?_
    rw [HQ.out]
    exact ⟨_, rfl, ownF_nil _ _, by (repeat' (first | (with_reducible exact Below.refl _ _) | (with_reducible refine Below.setCell ?_ ?_ _) | (with_reducible refine Below.alloc ?_ ?_ _) | (with_reducible refine Below.drew ?_) | (with_reducible refine belowN ?_ _) | (with_reducible refine below_step ?_ ?_ (by with_reducible assumption)) | go_size))⟩
  · have k1 : ¬ (1000 : Int) < (l.length : Int) := by omega
    have HOk : Hid (∀ xs, scn l 0 = .ok xs → SplPost l w = fun e w' => ∃ v, e = .returned (.tuple #[v, .agg #[.int .i64 0, .int .i64 0, .int .i64 0]]) ∧ OwnF w' w.heap.size v xs ∧ Below w.heap.size w w') := Lib.hid (fun xs h => by
      have hq := lin_ok l h1000 xs h
      unfold SplPost; rw [hq.1, hq.2.1, hq.2.2])
    have HBad : Hid (∀ e0, scn l 0 = .error e0 → SplPost l w = fun e w' => ∃ v, e = .returned (.tuple #[v, .agg #[.int .i64 0, .int .i64 ((e0 : Int) + 1), .int .i64 4]]) ∧ OwnF w' w.heap.size v [] ∧ Below w.heap.size w w') := Lib.hid (fun e0 h => by
      have hq := lin_bad l h1000 e0 h
      unfold SplPost; rw [hq.1, hq.2.1, hq.2.2])
    have hl2 : l.length ≤ 1000 := by omega
    have HSk : Hid (∀ i, i ≤ l.length → ∀ w, Calls Tryz.prog 61 #[S l, .int .i64 (i : Int)] w fun e w' => e = .returned (.int .i64 (skp l i : Int)) ∧ w = w') := Lib.hid (fun i hi w => skip_any l i w (by omega) hi)
    have HS0 : Hid (∀ w, Calls Tryz.prog 61 #[S l, .int .i64 0] w fun e w' => e = .returned (.int .i64 (skp l 0 : Int)) ∧ w = w') := Lib.hid (fun w => skip_any l 0 w (by omega) (by omega))
    have hst : Hid (SInv l w (skp l 0) [] (.slice none 0 0) (w.alloc (.cells #[.int .i64 0, .int .i64 0, .int .i64 0] 59))) := Lib.hid ⟨(skp_le l 0 (by omega)).2, fun h => skp_not l _ _ (Nat.le_refl _) h, by rw [pre_nil, ← scn_skp l _ 0 (Nat.le_refl _)], by simp, ownF_nil _ _, Row.new w _ [.int .i64 0, .int .i64 0, .int .i64 0], (Below.refl _ _).alloc (Nat.le_refl _) _⟩
    obtain ⟨i0, qi0, qz0, qz1, qz2⟩ := info_parts infoF
    clear h1000 henv
    generalize SplPost l w = Q at *
    go_enter Tryz.func46, Tryz.ntmps46
    go_wp2_with (go_at_call 61; ((with_reducible refine (HS0.out _).mono ?_); rintro e w' ⟨rfl, rfl⟩))
    go_loopw [4, 5] (fun v t wr => ∃ (k : Nat) (xs : List Fld), SInv l w k xs v wr ∧ t = .int .i64 (k : Int)) (fun _ t _ => l.length - (intOf t).toNat)
    case atStart => exact ⟨_, [], hst.out, rfl⟩
    case round =>
      obtain ⟨k, xs, hi, rfl⟩ := hrel
      have HI := Lib.hid hi
      have hk := hi.k0
      have hrl := Row.lt hi.drow
      have m0 : wr.cell? ⟨w.heap.size, 0, none⟩ = some (.int .i64 0) := by rw [hi.drow.cell]; rfl
      have m1 : wr.cell? ⟨w.heap.size, 1, none⟩ = some (.int .i64 0) := by rw [hi.drow.cell]; rfl
      have m2 : wr.cell? ⟨w.heap.size, 2, none⟩ = some (.int .i64 0) := by rw [hi.drow.cell]; rfl
      have f0 := hi.drow.free 0
      have f1 := hi.drow.free 1
      have f2 := hi.drow.free 2
      have hbel := hi.bel
      have hxs := hi.len
      have HN := Lib.hid (own_row_ne hi.own hi.drow (by decide))
      clear hi hst HS0
      by_cases hlt : k < l.length
      · have hlt2 : k < (str l).size := by omega
        have hg := str_get l k hlt2 hlt
        by_cases h59 : l[k].toNat = 59
        · have k2 : ((((str l)[k]'hlt2).toNat : Int) == 59) = true := by rw [hg]; exact beq_iff_eq.2 (by omega)
          have k3 : ((((str l)[k]'hlt2).toNat : Int) != 59) = false := by simp only [bne, k2]; rfl
          have HQ := Lib.hid (HOk.out xs (by rw [← HI.out.val, scn_semi l k hlt h59]; simp [pre]))
          clear hg h59
          go_wp2
          refine bodyPost_ret (v := .tuple #[u4, .agg #[.int .i64 0, .int .i64 0, .int .i64 0]]) (by simp [results, Tryz.results46, go_sem, *]) rfl ?_
          rw [HQ.out]
          exact ⟨_, rfl, own_set (own_set (own_set HI.out.own (p := ⟨w.heap.size, 0, none⟩) HN.out _) (p := ⟨w.heap.size, 1, none⟩) HN.out _) (p := ⟨w.heap.size, 2, none⟩) HN.out _, by (repeat' (first | (with_reducible exact Below.refl _ _) | (with_reducible refine Below.setCell ?_ ?_ _) | (with_reducible refine Below.alloc ?_ ?_ _) | (with_reducible refine Below.drew ?_) | (with_reducible refine belowN ?_ _) | (with_reducible refine below_step ?_ ?_ (by with_reducible assumption)) | go_size))⟩
        · have k2 : ((((str l)[k]'hlt2).toNat : Int) == 59) = false := by rw [hg]; exact beq_eq_false_iff_ne.2 (by omega)
          have k3 : ((((str l)[k]'hlt2).toNat : Int) != 59) = true := by simp only [bne, k2]; rfl
          have hF := fun w h => fieldAt_any l k w hlt hl h
          cases hb : fldB l k
          · have hv : fldV l k = ⟨[], 0, false⟩ := by unfold fldV; rw [hb]; rfl
            rw [hb, hv] at hF
            have HF := Lib.hid hF
            have HQ := Lib.hid (HBad.out (fldE l k) (by rw [← HI.out.val, scn_bad l k hlt h59 (HI.out.wh hlt) hb]; rfl))
            have he := fldE_le l k hlt
            clear hg h59 hF hb hv
            generalize fldE l k = e at *
            go_wp2_with (go_at_call 62; (with_reducible refine (HF.out _ ?_).mono ?_); (focus (exact HE.out.stays (by (repeat' (first | (with_reducible exact Below.refl _ _) | (with_reducible refine Below.setCell ?_ ?_ _) | (with_reducible refine Below.alloc ?_ ?_ _) | (with_reducible refine Below.drew ?_) | (with_reducible refine belowN ?_ _) | (with_reducible refine below_step ?_ ?_ (by with_reducible assumption)) | go_size))))); rintro e w2 ⟨rfl, hb2⟩; have hz2 := hb2.size; (try simp only [World.size_alloc, World.size_setCell, World.size_drew, size_drewN'] at hz2); have : w.heap.size < w2.heap.size := (by omega); have := hb2.cell (p := ⟨w.heap.size, 0, none⟩) (by go_size); simp [go_sem, *] at this; have := hb2.frozen (p := ⟨w.heap.size, 0, none⟩) (by go_size); simp [go_sem, *] at this; have := hb2.cell (p := ⟨w.heap.size, 1, none⟩) (by go_size); simp [go_sem, *] at this; have := hb2.frozen (p := ⟨w.heap.size, 1, none⟩) (by go_size); simp [go_sem, *] at this; have := hb2.cell (p := ⟨w.heap.size, 2, none⟩) (by go_size); simp [go_sem, *] at this; have := hb2.frozen (p := ⟨w.heap.size, 2, none⟩) (by go_size); simp [go_sem, *] at this)
            refine bodyPost_ret (v := .tuple #[.slice none 0 0, .agg #[.int .i64 0, .int .i64 ((e : Int) + 1), .int .i64 4]]) (by simp [results, Tryz.results46, go_sem, *]) rfl ?_
            rw [HQ.out]
            exact ⟨_, rfl, ownF_nil _ _, by (repeat' (first | (with_reducible exact Below.refl _ _) | (with_reducible refine Below.setCell ?_ ?_ _) | (with_reducible refine Below.alloc ?_ ?_ _) | (with_reducible refine Below.drew ?_) | (with_reducible refine belowN ?_ _) | (with_reducible refine below_step ?_ ?_ (by with_reducible assumption)) | go_size))⟩
          · have hv : fldV l k = fldF l k := by unfold fldV; rw [hb]; rfl
            rw [hb, hv] at hF
            have HF := Lib.hid hF
            have he := fldE_le l k hlt
            have hE := fldE_lt l k hlt hb h59 (HI.out.wh hlt)
            have HStep : Hid (∀ (W w5 : World) (v' : Value), Below wr.heap.size wr W → w5.ownsRow w.heap.size 68 3 v' (xs.length + 1) (xs.flatMap FC ++ FC (fldF l k)) → W.grownBy w5 u4.ownBlock → SInv l w (skp l (fldE l k)) (xs ++ [fldF l k]) v' w5) := Lib.hid (fun W w5 v' h1 h2 h3 => HI.out.step hlt h59 hb h1 h2 h3)
            have hsk := skp_le l (fldE l k) he.2
            have HK := Lib.hid (HSk.out (fldE l k) he.2)
            clear hg h59 hF hb hv
            generalize fldE l k = e at *
            generalize fldF l k = F at *
            obtain ⟨ft, fc, fq⟩ := F
            go_wp2_with (first | (go_at_call 62; (with_reducible refine (HF.out _ ?_).mono ?_); (focus (exact HE.out.stays (by (repeat' (first | (with_reducible exact Below.refl _ _) | (with_reducible refine Below.setCell ?_ ?_ _) | (with_reducible refine Below.alloc ?_ ?_ _) | (with_reducible refine Below.drew ?_) | (with_reducible refine belowN ?_ _) | (with_reducible refine below_step ?_ ?_ (by with_reducible assumption)) | go_size))))); rintro e w2 ⟨rfl, hb2⟩; have hz2 := hb2.size; (try simp only [World.size_alloc, World.size_setCell, World.size_drew, size_drewN'] at hz2); have : w.heap.size < w2.heap.size := (by omega); have := hb2.cell (p := ⟨w.heap.size, 0, none⟩) (by go_size); simp [go_sem, *] at this; have := hb2.frozen (p := ⟨w.heap.size, 0, none⟩) (by go_size); simp [go_sem, *] at this; have := hb2.cell (p := ⟨w.heap.size, 1, none⟩) (by go_size); simp [go_sem, *] at this; have := hb2.frozen (p := ⟨w.heap.size, 1, none⟩) (by go_size); simp [go_sem, *] at this; have := hb2.cell (p := ⟨w.heap.size, 2, none⟩) (by go_size); simp [go_sem, *] at this; have := hb2.frozen (p := ⟨w.heap.size, 2, none⟩) (by go_size); simp [go_sem, *] at this) | (at_builtin; (refine wpList_append_own_at _ rfl _ _ 41 rfl w.heap.size 68 i0 _ 3 32 Tryz.underlying41 qi0 qz0 qz1 qz2 rfl (by omega) u4 xs.length (xs.flatMap FC) rfl (own_below HI.out.own (by (repeat' (first | (with_reducible exact Below.refl _ _) | (with_reducible refine Below.setCell ?_ ?_ _) | (with_reducible refine Below.alloc ?_ ?_ _) | (with_reducible refine Below.drew ?_) | (with_reducible refine belowN ?_ _) | (with_reducible refine below_step ?_ ?_ (by with_reducible assumption)) | go_size)))) _ 1 1 (FC ⟨ft, fc, fq⟩) rfl rfl (cells_at _ (FC ⟨ft, fc, fq⟩) 68 _ (by simp only [World.size_alloc])) (FC_one _) (by unfold maxLen; omega) (by omega) (by go_size) ?_); intro v5 w5 hown5 hgrow5 _ _) | (go_at_call 61; ((with_reducible refine (HK.out _).mono ?_); rintro e w' ⟨rfl, rfl⟩)))
            have hst := HStep.out _ w5 v5 (by (repeat' (first | (with_reducible exact Below.refl _ _) | (with_reducible refine Below.setCell ?_ ?_ _) | (with_reducible refine Below.alloc ?_ ?_ _) | (with_reducible refine Below.drew ?_) | (with_reducible refine belowN ?_ _) | (with_reducible refine below_step ?_ ?_ (by with_reducible assumption)) | go_size))) hown5 hgrow5
            exact ⟨⟨_, _, hst, rfl⟩, by simp [intOf]; omega⟩
      · have HQ := Lib.hid (HOk.out xs (by rw [← HI.out.val, scn_end l k (by omega)]; simp [pre]))
        go_wp2
        refine bodyPost_ret (v := .tuple #[u4, .agg #[.int .i64 0, .int .i64 0, .int .i64 0]]) (by simp [results, Tryz.results46, go_sem, *]) rfl ?_
        rw [HQ.out]
        exact ⟨_, rfl, own_set (own_set (own_set HI.out.own (p := ⟨w.heap.size, 0, none⟩) HN.out _) (p := ⟨w.heap.size, 1, none⟩) HN.out _) (p := ⟨w.heap.size, 2, none⟩) HN.out _, by (repeat' (first | (with_reducible exact Below.refl _ _) | (with_reducible refine Below.setCell ?_ ?_ _) | (with_reducible refine Below.alloc ?_ ?_ _) | (with_reducible refine Below.drew ?_) | (with_reducible refine belowN ?_ _) | (with_reducible refine below_step ?_ ?_ (by with_reducible assumption)) | go_size))⟩
end Go.Proofs.YtjdldofgkhibnaaGreatDoor
