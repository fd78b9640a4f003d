/- Contract of the reference's fields. -/
import Derived.Test.YtjekflpogafodaaDoorTxF
import Derived.Test.YtjekflpogafodaaDoorTxR
set_option linter.unusedSimpArgs false
set_option linter.unusedVariables false
namespace Go.Proofs.YtjekflpogafodaaDoor
open Go.RowKit

def RAftOk (l : List UInt8) (e : Nat) (b : Bool) : Prop :=
  (e = l.length ∧ b = true) ∨ (∃ h : e < (str l).size, Hid (∀ w, Calls Tryd.prog 41 #[.int .u8 (((str l)[e]'h).toNat : Int)] w fun r w' => r = .returned (.bool true) ∧ w = w') ∧ b = true) ∨
  (∃ h : e < (str l).size, Hid (∀ w, Calls Tryd.prog 41 #[.int .u8 (((str l)[e]'h).toNat : Int)] w fun r w' => r = .returned (.bool false) ∧ w = w') ∧ ((((str l)[e]'h).toNat : Int) == 59) = true ∧ b = true) ∨
  (∃ h : e < (str l).size, Hid (∀ w, Calls Tryd.prog 41 #[.int .u8 (((str l)[e]'h).toNat : Int)] w fun r w' => r = .returned (.bool false) ∧ w = w') ∧ ((((str l)[e]'h).toNat : Int) == 59) = false ∧ b = false)
theorem raft_ok (l : List UInt8) (e : Nat) (he : e ≤ l.length) : RAftOk l e (aft l e) := by
  have z := str_size l
  unfold RAftOk
  rcases aft_cases l e he with ⟨h1, h2⟩ | ⟨h1, h2, h3⟩ | ⟨h1, h2, h3, h4⟩ | ⟨h1, h2, h3, h4⟩
  · exact Or.inl ⟨h1, h2⟩
  · refine Or.inr (Or.inl ⟨by omega, Lib.hid (fun w => ?_), h3⟩)
    have h := rwhite_any l[e] w
    rw [h2] at h; rw [str_get l e (by omega) h1]; exact h
  · refine Or.inr (Or.inr (Or.inl ⟨by omega, Lib.hid (fun w => ?_), ?_, h4⟩))
    · have h := rwhite_any l[e] w
      rw [h2] at h; rw [str_get l e (by omega) h1]; exact h
    · rw [str_get l e (by omega) h1]; exact beq_iff_eq.2 (by omega)
  · refine Or.inr (Or.inr (Or.inr ⟨by omega, Lib.hid (fun w => ?_), ?_, h4⟩))
    · have h := rwhite_any l[e] w
      rw [h2] at h; rw [str_get l e (by omega) h1]; exact h
    · rw [str_get l e (by omega) h1]; exact beq_eq_false_iff_ne.2 (by omega)

structure RInv (l : List UInt8) (w : World) (k : Nat) (xs : List Fld) (v : Value) (wr : World) : Prop where
  k0 : k ≤ l.length
  val : pre xs (scn l k) = scn l 0
  len : xs.length ≤ k
  own : OwnF wr w.heap.size v xs
  bel : Below w.heap.size w wr
theorem RInv.white {l : List UInt8} {w : World} {k : Nat} {xs : List Fld} {v : Value} {wr : World} (h : RInv l w k xs v wr) (hlt : k < l.length) (hw : wht l[k] = true) : RInv l w (k + 1) xs v wr :=
  ⟨hlt, by rw [← h.val, scn_white l k hlt hw], by have := h.len; omega, h.own, h.bel⟩
theorem RInv.step {l : List UInt8} {w : World} {k : Nat} {xs : List Fld} {v v' : Value} {wr W w5 : World} (h : RInv l w k xs v wr) (hlt : k < l.length) (hs : l[k].toNat ≠ 59) (hw : wht l[k] = false) (hb : fldB l k = true)
    (hbel : Below wr.heap.size wr W) (ho : w5.ownsRow w.heap.size 35 3 v' (xs.length + 1) (xs.flatMap FC ++ FC (fldF l k))) (hg : W.grownBy w5 v.ownBlock) :
    RInv l w (fldE l k) (xs ++ [fldF l k]) v' w5 := by
  obtain ⟨k0, val, len, own, bel⟩ := h
  have hE := fldE_lt l k hlt hb hs hw
  have hE2 := fldE_le l k hlt
  have hB : w.heap.size ≤ W.heap.size := by have := bel.size; have := hbel.size; omega
  refine ⟨hE2.2, ?_, ?_, ?_, ?_⟩
  · rw [← val, scn_field l k hlt hs hw hb, pre_pre]
  · simp; omega
  · unfold OwnF
    rw [List.length_append, List.flatMap_append]
    simpa using ho
  · exact (below_step bel (by have := bel.size; omega) hbel).grown hg hB (fun k hk => (World.ownsRow.lt own k hk).1)
def rfV (l : List UInt8) : List Fld := match scn l 0 with | .ok xs => xs | .error _ => []
def rfB (l : List UInt8) : Int := match scn l 0 with | .ok _ => -1 | .error e => (e : Int)
theorem rf_ok (l : List UInt8) (xs : List Fld) (hs : scn l 0 = .ok xs) : rfV l = xs ∧ rfB l = -1 := by unfold rfV rfB; rw [hs]; exact ⟨rfl, rfl⟩
theorem rf_bad (l : List UInt8) (e : Nat) (hs : scn l 0 = .error e) : rfV l = [] ∧ rfB l = (e : Int) := by unfold rfV rfB; rw [hs]; exact ⟨rfl, rfl⟩
def RfPost (l : List UInt8) (w : World) (e : Ending) (w' : World) : Prop :=
  ∃ v, e = .returned (.tuple #[v, .int .i64 (rfB l)]) ∧ OwnF w' w.heap.size v (rfV l) ∧ Below w.heap.size w w'
set_option maxRecDepth 100000 in
set_option maxHeartbeats 8000000 in
theorem rfields_any (l : List UInt8) (w : World) (hl : l.length ≤ 262144) :
    Calls Tryd.prog 23 #[S l] w (RfPost l w) := by
  have z := str_size l
  have HOk : Hid (∀ xs, scn l 0 = .ok xs → RfPost l w = fun e w' => ∃ v, e = .returned (.tuple #[v, .int .i64 (-1)]) ∧ OwnF w' w.heap.size v xs ∧ Below w.heap.size w w') := Lib.hid (fun xs h => by
    have hq := rf_ok l xs h
    unfold RfPost; rw [hq.1, hq.2])
  have HBad : Hid (∀ e0, scn l 0 = .error e0 → RfPost l w = fun e w' => ∃ v, e = .returned (.tuple #[v, .int .i64 (e0 : Int)]) ∧ OwnF w' w.heap.size v [] ∧ Below w.heap.size w w') := Lib.hid (fun e0 h => by
    have hq := rf_bad l e0 h
    unfold RfPost; rw [hq.1, hq.2])
  obtain ⟨i0, qi0, qz0, qz1, qz2⟩ := info_parts infoF
  generalize RfPost l w = Q at *
  go_enter Tryd.func23, Tryd.ntmps23
  go_wp2
  go_loopw [4, 5] (fun v t wr => ∃ (k : Nat) (xs : List Fld), RInv l w k xs v wr ∧ t = .int .i64 (k : Int)) (fun _ t _ => l.length - (intOf t).toNat)
  case atStart => exact ⟨0, [], ⟨Nat.zero_le _, pre_nil _, by simp, ownF_nil _ _, Below.refl _ _⟩, rfl⟩
  case round =>
    obtain ⟨k, xs, hi, rfl⟩ := hrel
    have HI := Lib.hid hi
    have hk := hi.k0
    have hbel := hi.bel
    have hbs := hi.bel.size
    have hxs := hi.len
    by_cases hlt : k < l.length
    · have hlt2 : k < (str l).size := by omega
      have hg := str_get l k hlt2 hlt
      by_cases h59 : l[k].toNat = 59
      · have k2 : ((((str l)[k]'hlt2).toNat : Int) == 59) = true := by rw [hg]; exact beq_iff_eq.2 (by omega)
        have k3 : ((((str l)[k]'hlt2).toNat : Int) != 59) = false := by simp only [bne, k2]; rfl
        have HQ := Lib.hid (HOk.out xs (by rw [← HI.out.val, scn_semi l k hlt h59]; simp [pre]))
        clear hg h59 hi
        go_wp2
        rw [HQ.out]
        exact ⟨_, rfl, HI.out.own, hbel⟩
      · have k2 : ((((str l)[k]'hlt2).toNat : Int) == 59) = false := by rw [hg]; exact beq_eq_false_iff_ne.2 (by omega)
        have k3 : ((((str l)[k]'hlt2).toNat : Int) != 59) = true := by simp only [bne, k2]; rfl
        have hW := fun w => rwhite_any l[k] w
        cases hw : wht l[k]
        · rw [hw] at hW
          have HW : Hid (∀ w, Calls Tryd.prog 41 #[.int .u8 (((str l)[k]'hlt2).toNat : Int)] w fun e w' => e = .returned (.bool false) ∧ w = w') := Lib.hid (fun w => by rw [hg]; exact hW w)
          have hq := fldQ_at l k hlt
          by_cases h34 : l[k].toNat = 34
          · have k4 : ((((str l)[k]'hlt2).toNat : Int) == 34) = true := by rw [hg]; exact beq_iff_eq.2 (by omega)
            have hq2 : fldQ l k = true := hq.trans (decide_eq_true h34)
            have e1 : fldE l k = qE l (k + 1) := by unfold fldE; rw [if_pos hq2]
            have e2 : fldB l k = (qB l (k + 1) && aft l (qE l (k + 1))) := by unfold fldB; rw [if_pos hq2]
            have e3 : fldF l k = ⟨qT l (k + 1), (k : Int) + 1, true⟩ := by unfold fldF; rw [if_pos hq2]
            have hQ := fun w => rquoted_any l k w (by omega) (by omega)
            have hle := qE_le l (k + 1) (by omega)
            cases hb : qB l (k + 1)
            · have r1 : rqT l k = [] := by unfold rqT; rw [hb]; rfl
              have r2 : rqN l k = 0 := by unfold rqN; rw [hb]; rfl
              have r3 : rqW l k = (qE l (k + 1) : Int) := by unfold rqW; rw [hb]; rfl
              rw [r1, r2, r3] at hQ
              have HR := Lib.hid hQ
              have HQ := Lib.hid (HBad.out (qE l (k + 1)) (by rw [← HI.out.val, scn_bad l k hlt h59 hw (by rw [e2, hb]; rfl), e1]; rfl))
              clear hg h59 hi hW hw hq h34 hq2 e1 e2 e3 hQ hb r1 r2 r3
              generalize qE l (k + 1) = e at *
              go_wp2_with (first | (go_at_call 41; ((with_reducible refine (HW.out _).mono ?_); rintro e w' ⟨rfl, rfl⟩)) | (go_at_call 31; ((with_reducible refine (HR.out _).mono ?_); rintro e w' ⟨rfl, rfl⟩)))
              rw [HQ.out]
              exact ⟨_, rfl, ownF_nil _ _, hbel⟩
            · have r1 : rqT l k = qT l (k + 1) := by unfold rqT; rw [hb]; rfl
              have r2 : rqN l k = (qE l (k + 1) : Int) := by unfold rqN; rw [hb]; rfl
              have r3 : rqW l k = -1 := by unfold rqW; rw [hb]; rfl
              rw [r1, r2, r3] at hQ
              have HR := Lib.hid hQ
              have ha := raft_ok l _ hle.2
              have e4 : fldB l k = aft l (qE l (k + 1)) := by rw [e2, hb]; rfl
              have HStep : Hid (fldB l k = true → ∀ (W w5 : World) (v' : Value), Below wr.heap.size wr W → w5.ownsRow w.heap.size 35 3 v' (xs.length + 1) (xs.flatMap FC ++ FC ⟨qT l (k + 1), (k : Int) + 1, true⟩) → W.grownBy w5 u4.ownBlock → RInv l w (qE l (k + 1)) (xs ++ [⟨qT l (k + 1), (k : Int) + 1, true⟩]) v' w5) := Lib.hid (fun hb W w5 v' h1 h2 h3 => by
                have := hi.step hlt h59 hw hb h1 (by rw [e3]; exact h2) h3
                rw [e1, e3] at this; exact this)
              have HNo : Hid (fldB l k = false → Q = fun e w' => ∃ v, e = .returned (.tuple #[v, .int .i64 (qE l (k + 1) : Int)]) ∧ OwnF w' w.heap.size v [] ∧ Below w.heap.size w w') := Lib.hid (fun hb => HBad.out (qE l (k + 1)) (by rw [← HI.out.val, scn_bad l k hlt h59 hw hb, e1]; rfl))
              rw [e4] at HStep HNo
              have hqe := hle.1
              have hqe2 := hle.2
              clear hg h59 hi hW hw hq h34 hq2 e1 e2 e3 hQ hb r1 r2 r3 e4 hle
              generalize aft l (qE l (k + 1)) = b at *
              generalize qE l (k + 1) = e at *
              generalize qT l (k + 1) = t at *
              unfold RAftOk at ha
              rcases ha with ⟨rfl, rfl⟩ | ⟨h1, HX, rfl⟩ | ⟨h1, HX, k5, rfl⟩ | ⟨h1, HX, k5, rfl⟩
              · go_wp2_with (first | (go_at_call 41; ((with_reducible refine (HW.out _).mono ?_); rintro e w' ⟨rfl, rfl⟩)) | (go_at_call 31; ((with_reducible refine (HR.out _).mono ?_); rintro e w' ⟨rfl, rfl⟩)) | (at_builtin; (refine wpList_append_own_at _ rfl _ _ 36 rfl w.heap.size 35 i0 _ 3 32 Tryd.underlying36 qi0 qz0 qz1 qz2 rfl (by omega) u4 xs.length (xs.flatMap FC) rfl (own_below HI.out.own (by (repeat' (first | (with_reducible exact Below.refl _ _) | (with_reducible refine Below.setCell ?_ ?_ _) | (with_reducible refine Below.alloc ?_ ?_ _) | (with_reducible refine Below.drew ?_) | (with_reducible refine belowN ?_ _) | (with_reducible refine below_step ?_ ?_ (by with_reducible assumption)) | go_size)))) _ 1 1 (FC ⟨t, (k : Int) + 1, true⟩) rfl rfl (cells_at _ (FC ⟨t, (k : Int) + 1, true⟩) 35 _ (by first | rfl | simp only [World.size_alloc] | go_size)) (FC_one _) (by unfold maxLen; omega) (by omega) (by go_size) ?_); intro v5 w5 hown5 hgrow5 _ _))
                have hst := HStep.out (by first | rfl | trivial) _ w5 v5 (by (repeat' (first | (with_reducible exact Below.refl _ _) | (with_reducible refine Below.setCell ?_ ?_ _) | (with_reducible refine Below.alloc ?_ ?_ _) | (with_reducible refine Below.drew ?_) | (with_reducible refine belowN ?_ _) | (with_reducible refine below_step ?_ ?_ (by with_reducible assumption)) | go_size))) hown5 hgrow5
                exact ⟨⟨_, _, hst, rfl⟩, by simp [intOf]; omega⟩
              · go_wp2_with (first | (go_at_call 41; ((with_reducible refine (HW.out _).mono ?_); rintro e w' ⟨rfl, rfl⟩)) | (go_at_call 41; ((with_reducible refine (HX.out _).mono ?_); rintro e w' ⟨rfl, rfl⟩)) | (go_at_call 31; ((with_reducible refine (HR.out _).mono ?_); rintro e w' ⟨rfl, rfl⟩)) | (at_builtin; (refine wpList_append_own_at _ rfl _ _ 36 rfl w.heap.size 35 i0 _ 3 32 Tryd.underlying36 qi0 qz0 qz1 qz2 rfl (by omega) u4 xs.length (xs.flatMap FC) rfl (own_below HI.out.own (by (repeat' (first | (with_reducible exact Below.refl _ _) | (with_reducible refine Below.setCell ?_ ?_ _) | (with_reducible refine Below.alloc ?_ ?_ _) | (with_reducible refine Below.drew ?_) | (with_reducible refine belowN ?_ _) | (with_reducible refine below_step ?_ ?_ (by with_reducible assumption)) | go_size)))) _ 1 1 (FC ⟨t, (k : Int) + 1, true⟩) rfl rfl (cells_at _ (FC ⟨t, (k : Int) + 1, true⟩) 35 _ (by first | rfl | simp only [World.size_alloc] | go_size)) (FC_one _) (by unfold maxLen; omega) (by omega) (by go_size) ?_); intro v5 w5 hown5 hgrow5 _ _))
                have hst := HStep.out (by first | rfl | trivial) _ w5 v5 (by (repeat' (first | (with_reducible exact Below.refl _ _) | (with_reducible refine Below.setCell ?_ ?_ _) | (with_reducible refine Below.alloc ?_ ?_ _) | (with_reducible refine Below.drew ?_) | (with_reducible refine belowN ?_ _) | (with_reducible refine below_step ?_ ?_ (by with_reducible assumption)) | go_size))) hown5 hgrow5
                exact ⟨⟨_, _, hst, rfl⟩, by simp [intOf]; omega⟩
              · have k6 : ((((str l)[e]'h1).toNat : Int) != 59) = false := by simp only [bne, k5]; rfl
                go_wp2_with (first | (go_at_call 41; ((with_reducible refine (HW.out _).mono ?_); rintro e w' ⟨rfl, rfl⟩)) | (go_at_call 41; ((with_reducible refine (HX.out _).mono ?_); rintro e w' ⟨rfl, rfl⟩)) | (go_at_call 31; ((with_reducible refine (HR.out _).mono ?_); rintro e w' ⟨rfl, rfl⟩)) | (at_builtin; (refine wpList_append_own_at _ rfl _ _ 36 rfl w.heap.size 35 i0 _ 3 32 Tryd.underlying36 qi0 qz0 qz1 qz2 rfl (by omega) u4 xs.length (xs.flatMap FC) rfl (own_below HI.out.own (by (repeat' (first | (with_reducible exact Below.refl _ _) | (with_reducible refine Below.setCell ?_ ?_ _) | (with_reducible refine Below.alloc ?_ ?_ _) | (with_reducible refine Below.drew ?_) | (with_reducible refine belowN ?_ _) | (with_reducible refine below_step ?_ ?_ (by with_reducible assumption)) | go_size)))) _ 1 1 (FC ⟨t, (k : Int) + 1, true⟩) rfl rfl (cells_at _ (FC ⟨t, (k : Int) + 1, true⟩) 35 _ (by first | rfl | simp only [World.size_alloc] | go_size)) (FC_one _) (by unfold maxLen; omega) (by omega) (by go_size) ?_); intro v5 w5 hown5 hgrow5 _ _))
                have hst := HStep.out (by first | rfl | trivial) _ w5 v5 (by (repeat' (first | (with_reducible exact Below.refl _ _) | (with_reducible refine Below.setCell ?_ ?_ _) | (with_reducible refine Below.alloc ?_ ?_ _) | (with_reducible refine Below.drew ?_) | (with_reducible refine belowN ?_ _) | (with_reducible refine below_step ?_ ?_ (by with_reducible assumption)) | go_size))) hown5 hgrow5
                exact ⟨⟨_, _, hst, rfl⟩, by simp [intOf]; omega⟩
              · have k6 : ((((str l)[e]'h1).toNat : Int) != 59) = true := by simp only [bne, k5]; rfl
                go_wp2_with (first | (go_at_call 41; ((with_reducible refine (HW.out _).mono ?_); rintro e w' ⟨rfl, rfl⟩)) | (go_at_call 41; ((with_reducible refine (HX.out _).mono ?_); rintro e w' ⟨rfl, rfl⟩)) | (go_at_call 31; ((with_reducible refine (HR.out _).mono ?_); rintro e w' ⟨rfl, rfl⟩)))
                rw [HNo.out (by first | rfl | trivial)]
                exact ⟨_, rfl, ownF_nil _ _, hbel⟩
          · have k4 : ((((str l)[k]'hlt2).toNat : Int) == 34) = false := by rw [hg]; exact beq_eq_false_iff_ne.2 (by omega)
            have hq2 : fldQ l k = false := hq.trans (decide_eq_false h34)
            have e1 : fldE l k = wnd l k := by unfold fldE; rw [hq2]; rfl
            have e2 : fldB l k = aft l (wnd l k) := by unfold fldB; rw [hq2]; rfl
            have e3 : fldF l k = ⟨(l.drop k).take (wnd l k - k), (k : Int) + 1, false⟩ := by unfold fldF; rw [hq2]; rfl
            have hle := wnd_le l k (by omega)
            have ha := raft_ok l _ hle.2
            have HElt : Hid (fldB l k = true → k < wnd l k) := Lib.hid (fun hb => by rw [← e1]; exact fldE_lt l k hlt hb h59 hw)
            have HStep : Hid (fldB l k = true → ∀ (W w5 : World) (v' : Value), Below wr.heap.size wr W → w5.ownsRow w.heap.size 35 3 v' (xs.length + 1) (xs.flatMap FC ++ FC ⟨(l.drop k).take (wnd l k - k), (k : Int) + 1, false⟩) → W.grownBy w5 u4.ownBlock → RInv l w (wnd l k) (xs ++ [⟨(l.drop k).take (wnd l k - k), (k : Int) + 1, false⟩]) v' w5) := Lib.hid (fun hb W w5 v' h1 h2 h3 => by
                have := hi.step hlt h59 hw hb h1 (by rw [e3]; exact h2) h3
                rw [e1, e3] at this; exact this)
            have HNo : Hid (fldB l k = false → Q = fun e w' => ∃ v, e = .returned (.tuple #[v, .int .i64 (wnd l k : Int)]) ∧ OwnF w' w.heap.size v [] ∧ Below w.heap.size w w') := Lib.hid (fun hb => HBad.out (wnd l k) (by rw [← HI.out.val, scn_bad l k hlt h59 hw hb, e1]; rfl))
            rw [e2] at HStep HNo HElt
            have hqe := hle.1
            have hqe2 := hle.2
            have hx : (str l).extract k (wnd l k) = str ((l.drop k).take (wnd l k - k)) := str_ext l k _
            have HWn : Hid (∀ j, j ≤ l.length → wnd l j = wnd l k → (j < l.length ∧ j < wnd l k ∧ ∃ h : j < (str l).size, (∀ w, Calls Tryd.prog 42 #[.int .u8 (((str l)[j]'h).toNat : Int)] w fun e w' => e = .returned (.bool true) ∧ w = w') ∧ wnd l (j + 1) = wnd l k) ∨ (j = wnd l k ∧ (j < l.length → ∃ h : j < (str l).size, ∀ w, Calls Tryd.prog 42 #[.int .u8 (((str l)[j]'h).toNat : Int)] w fun e w' => e = .returned (.bool false) ∧ w = w'))) := Lib.hid (fun j hj hjw => by
              by_cases hjl : j < l.length
              · have hg2 := str_get l j (by omega) hjl
                have hR := fun w => rword_any l[j] w
                cases hwj : wrd l[j]
                · rw [hwj] at hR
                  exact Or.inr ⟨by rw [← hjw, wnd_no l j hjl hwj], fun _ => ⟨by omega, fun w => by rw [hg2]; exact hR w⟩⟩
                · rw [hwj] at hR
                  have h1 := wnd_yes l j hjl hwj
                  have h2 := wnd_le l (j + 1) (by omega)
                  exact Or.inl ⟨hjl, by omega, by omega, fun w => by rw [hg2]; exact hR w, by omega⟩
              · exact Or.inr ⟨by rw [← hjw, wnd_end l j (by omega)], fun h => absurd h hjl⟩)
            clear hg h59 hi hW hw hq h34 hq2 e1 e2 e3 hle
            generalize aft l (wnd l k) = b at *
            generalize hn : wnd l k = n at *
            generalize (l.drop k).take (n - k) = t at *
            have HN := Lib.hid hn
            clear hn
            go_wp2_with (go_at_call 41; ((with_reducible refine (HW.out _).mono ?_); rintro e w' ⟨rfl, rfl⟩))
            obtain ⟨wo, rfl⟩ : ∃ wo : World, wo = wr := ⟨_, rfl⟩
            go_loop [5] (fun t => ∃ j : Nat, k ≤ j ∧ j ≤ l.length ∧ t = .int .i64 (j : Int) ∧ Hid (wnd l j = n)) (fun t => l.length - (intOf t).toNat)
            case atStart => exact ⟨k, Nat.le_refl _, by omega, rfl, HN⟩
            case round =>
              obtain ⟨j, hj1, hj2, rfl, HJ⟩ := hrel
              rcases HWn.out j hj2 HJ.out with ⟨hjl, hjn, hjs, hjw, hjn2⟩ | ⟨hjn, hjw⟩
              · have HC := Lib.hid hjw
                have HJ2 := Lib.hid hjn2
                clear hjw hjn2 HN
                go_wp2_with (go_at_call 42; ((with_reducible refine (HC.out _).mono ?_); rintro e w' ⟨rfl, rfl⟩))
                go_round
                case rel => exact ⟨j + 1, by omega, by omega, by go_num, HJ2⟩
                case measure => simp [intOf]; omega
              · subst hjn
                clear HN HWn
                unfold RAftOk at ha
                rcases ha with ⟨rfl, rfl⟩ | ⟨h1, HX, rfl⟩ | ⟨h1, HX, k5, rfl⟩ | ⟨h1, HX, k5, rfl⟩
                · clear hjw
                  have hEl := HElt.out (by first | rfl | trivial)
                  go_wp2_with (at_builtin; (refine wpList_append_own_at _ rfl _ _ 36 rfl w.heap.size 35 i0 _ 3 32 Tryd.underlying36 qi0 qz0 qz1 qz2 rfl (by omega) u4 xs.length (xs.flatMap FC) rfl (own_below HI.out.own (by (repeat' (first | (with_reducible exact Below.refl _ _) | (with_reducible refine Below.setCell ?_ ?_ _) | (with_reducible refine Below.alloc ?_ ?_ _) | (with_reducible refine Below.drew ?_) | (with_reducible refine belowN ?_ _) | (with_reducible refine below_step ?_ ?_ (by with_reducible assumption)) | go_size)))) _ 1 1 (FC ⟨t, (k : Int) + 1, false⟩) rfl rfl (cells_at _ (FC ⟨t, (k : Int) + 1, false⟩) 35 _ (by first | rfl | simp only [World.size_alloc] | go_size)) (FC_one _) (by unfold maxLen; omega) (by omega) (by go_size) ?_); intro v5 w5 hown5 hgrow5 _ _)
                  have hst := HStep.out (by first | rfl | trivial) _ w5 v5 (by (repeat' (first | (with_reducible exact Below.refl _ _) | (with_reducible refine Below.setCell ?_ ?_ _) | (with_reducible refine Below.alloc ?_ ?_ _) | (with_reducible refine Below.drew ?_) | (with_reducible refine belowN ?_ _) | (with_reducible refine below_step ?_ ?_ (by with_reducible assumption)) | go_size))) hown5 hgrow5
                  exact ⟨⟨_, _, hst, rfl⟩, by simp [intOf]; omega⟩
                · obtain ⟨h2, hjw⟩ := hjw (by omega)
                  have HC := Lib.hid hjw
                  have hEl := HElt.out (by first | rfl | trivial)
                  clear hjw
                  go_wp2_with (first | (go_at_call 42; ((with_reducible refine (HC.out _).mono ?_); rintro e w' ⟨rfl, rfl⟩)) | (go_at_call 41; ((with_reducible refine (HX.out _).mono ?_); rintro e w' ⟨rfl, rfl⟩)) | (at_builtin; (refine wpList_append_own_at _ rfl _ _ 36 rfl w.heap.size 35 i0 _ 3 32 Tryd.underlying36 qi0 qz0 qz1 qz2 rfl (by omega) u4 xs.length (xs.flatMap FC) rfl (own_below HI.out.own (by (repeat' (first | (with_reducible exact Below.refl _ _) | (with_reducible refine Below.setCell ?_ ?_ _) | (with_reducible refine Below.alloc ?_ ?_ _) | (with_reducible refine Below.drew ?_) | (with_reducible refine belowN ?_ _) | (with_reducible refine below_step ?_ ?_ (by with_reducible assumption)) | go_size)))) _ 1 1 (FC ⟨t, (k : Int) + 1, false⟩) rfl rfl (cells_at _ (FC ⟨t, (k : Int) + 1, false⟩) 35 _ (by first | rfl | simp only [World.size_alloc] | go_size)) (FC_one _) (by unfold maxLen; omega) (by omega) (by go_size) ?_); intro v5 w5 hown5 hgrow5 _ _))
                  have hst := HStep.out (by first | rfl | trivial) _ w5 v5 (by (repeat' (first | (with_reducible exact Below.refl _ _) | (with_reducible refine Below.setCell ?_ ?_ _) | (with_reducible refine Below.alloc ?_ ?_ _) | (with_reducible refine Below.drew ?_) | (with_reducible refine belowN ?_ _) | (with_reducible refine below_step ?_ ?_ (by with_reducible assumption)) | go_size))) hown5 hgrow5
                  exact ⟨⟨_, _, hst, rfl⟩, by simp [intOf]; omega⟩
                · obtain ⟨h2, hjw⟩ := hjw (by omega)
                  have HC := Lib.hid hjw
                  have hEl := HElt.out (by first | rfl | trivial)
                  have k6 : ((((str l)[j]'h1).toNat : Int) != 59) = false := by simp only [bne, k5]; rfl
                  clear hjw
                  go_wp2_with (first | (go_at_call 42; ((with_reducible refine (HC.out _).mono ?_); rintro e w' ⟨rfl, rfl⟩)) | (go_at_call 41; ((with_reducible refine (HX.out _).mono ?_); rintro e w' ⟨rfl, rfl⟩)) | (at_builtin; (refine wpList_append_own_at _ rfl _ _ 36 rfl w.heap.size 35 i0 _ 3 32 Tryd.underlying36 qi0 qz0 qz1 qz2 rfl (by omega) u4 xs.length (xs.flatMap FC) rfl (own_below HI.out.own (by (repeat' (first | (with_reducible exact Below.refl _ _) | (with_reducible refine Below.setCell ?_ ?_ _) | (with_reducible refine Below.alloc ?_ ?_ _) | (with_reducible refine Below.drew ?_) | (with_reducible refine belowN ?_ _) | (with_reducible refine below_step ?_ ?_ (by with_reducible assumption)) | go_size)))) _ 1 1 (FC ⟨t, (k : Int) + 1, false⟩) rfl rfl (cells_at _ (FC ⟨t, (k : Int) + 1, false⟩) 35 _ (by first | rfl | simp only [World.size_alloc] | go_size)) (FC_one _) (by unfold maxLen; omega) (by omega) (by go_size) ?_); intro v5 w5 hown5 hgrow5 _ _))
                  have hst := HStep.out (by first | rfl | trivial) _ w5 v5 (by (repeat' (first | (with_reducible exact Below.refl _ _) | (with_reducible refine Below.setCell ?_ ?_ _) | (with_reducible refine Below.alloc ?_ ?_ _) | (with_reducible refine Below.drew ?_) | (with_reducible refine belowN ?_ _) | (with_reducible refine below_step ?_ ?_ (by with_reducible assumption)) | go_size))) hown5 hgrow5
                  exact ⟨⟨_, _, hst, rfl⟩, by simp [intOf]; omega⟩
                · obtain ⟨h2, hjw⟩ := hjw (by omega)
                  have HC := Lib.hid hjw
                  have k6 : ((((str l)[j]'h1).toNat : Int) != 59) = true := by simp only [bne, k5]; rfl
                  clear hjw
                  go_wp2_with (first | (go_at_call 42; ((with_reducible refine (HC.out _).mono ?_); rintro e w' ⟨rfl, rfl⟩)) | (go_at_call 41; ((with_reducible refine (HX.out _).mono ?_); rintro e w' ⟨rfl, rfl⟩)))
                  rw [HNo.out (by first | rfl | trivial)]
                  exact ⟨_, rfl, ownF_nil _ _, hbel⟩
        · rw [hw] at hW
          have HW : Hid (∀ w, Calls Tryd.prog 41 #[.int .u8 (((str l)[k]'hlt2).toNat : Int)] w fun e w' => e = .returned (.bool true) ∧ w = w') := Lib.hid (fun w => by rw [hg]; exact hW w)
          have HStep := Lib.hid (hi.white hlt hw)
          clear hg h59 hi hW hw
          go_wp2_with (go_at_call 41; ((with_reducible refine (HW.out _).mono ?_); rintro e w' ⟨rfl, rfl⟩))
          exact ⟨⟨k + 1, xs, HStep.out, by go_num⟩, by simp [intOf]; omega⟩
    · have HQ := Lib.hid (HOk.out xs (by rw [← HI.out.val, scn_end l k (by omega)]; simp [pre]))
      clear hi
      go_wp2
      rw [HQ.out]
      exact ⟨_, rfl, HI.out.own, hbel⟩
end Go.Proofs.YtjekflpogafodaaDoor
