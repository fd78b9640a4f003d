/- Contract of the reference's out of layer 7. -/
import Derived.Test.YtkgdlimekkdekaaDoorNoS
import Derived.Test.YtkgdlimekkdekaaDoorNoG
set_option linter.unusedSimpArgs false
set_option linter.unusedVariables false
namespace Go.Proofs.YtkgdlimekkdekaaDoor
open Go.RowKit

theorem has_ix (l : List UInt8) (j : Nat) (hj : j < hows.length) : (sg l == (hows[j]).toNat) = decide (ix hows l = (j : Int)) := by
  cases l with
  | nil =>
    have h0 : ∀ j : Fin 11, ((0 : Nat) == (hows[j.val]'j.isLt).toNat) = decide ((-1 : Int) = (j.val : Int)) := by decide +kernel
    exact h0 ⟨j, hj⟩
  | cons c r =>
    have hf : ∀ n : Fin 256, ∀ j : Fin 11, (n.val == (hows[j.val]'j.isLt).toNat) = decide (Lib.indexByte hows (UInt8.ofNat n.val) = (j.val : Int)) := by decide +kernel
    have h := hf ⟨c.toNat, c.toNat_lt⟩ ⟨j, hj⟩
    have eb : UInt8.ofNat c.toNat = c := by simp
    simp only [eb] at h
    exact h
theorem nmR_len (l : List UInt8) : (nmR l).1.length ≤ l.length := by
  unfold nmR; split
  · split
    · simp; omega
    · simp
  · exact Nat.le_refl _
def hAt (i : Int) (k : Int) : Int := if 0 ≤ i ∧ i < k then i else 0
theorem wcR_ix (l : List UInt8) : (wcR l).1 = l.tail ∧ (wcR l).2 = hAt (ix hows l) 11 ∧ -1 ≤ ix hows l ∧ ix hows l ≤ 10 := by
  cases l with
  | nil => exact ⟨rfl, rfl, by decide, by decide⟩
  | cons c r =>
    have h := wcP_ix (c :: r)
    unfold wcR hAt
    unfold wcP at h
    by_cases hc : c ∈ hows
    · simp only [if_pos hc] at h ⊢
      rcases h with ⟨h1, h2⟩ | ⟨h1, h2, h3⟩
      · have := (Prod.mk.inj h2).2
        rw [h1]
        refine ⟨rfl, ?_, by omega, by omega⟩
        rw [if_neg (by omega)]; exact this
      · have := (Prod.mk.inj h3).2
        refine ⟨rfl, ?_, by omega, by omega⟩
        rw [if_pos (by omega)]; exact this
    · simp only [if_neg hc] at h ⊢
      rcases h with ⟨h1, h2⟩ | ⟨h1, h2, h3⟩
      · rw [h1]; exact ⟨rfl, rfl, by omega, by omega⟩
      · exfalso
        have := (Prod.mk.inj h3).1
        unfold adv at this
        rw [if_pos h1] at this
        have hl := congrArg List.length this
        simp at hl
set_option maxRecDepth 20000 in
set_option maxHeartbeats 8000000 in
theorem out_any (t s r sh b z : Int) (x : Bool) (l : List UInt8) (w : World) (hl : l.length ≤ 4611686018427387904) :
    Calls Tryd.prog 78 #[DV ⟨t, s, r, sh, b, x, 0, 0, 0, 0, false, z⟩, S l] w fun e w' => e = .returned (.tuple #[DV ⟨t, s, r, sh, b, x, (stO nmR wcR l).2.h, (stO nmR wcR l).2.v, (stO nmR wcR l).2.f, (stO nmR wcR l).2.g, (stO nmR wcR l).2.u, z⟩, S (stO nmR wcR l).1]) ∧ Below w.heap.size w w' := by
  obtain ⟨ew1, ew2, hi0, hi1⟩ := wcR_ix l
  have HH : Hid (∀ (k : Nat) (h : k < (⟨#[78, 66, 67, 76, 83, 72, 82, 84, 79, 77, 81]⟩ : ByteArray).size) (w : World), Calls Tryd.prog 76 #[S l, .int .u8 (((⟨#[78, 66, 67, 76, 83, 72, 82, 84, 79, 77, 81]⟩ : ByteArray)[k]'h).toNat : Int)] w fun e w' => e = .returned (.bool (decide (ix hows l = (k : Int)))) ∧ w = w') := Lib.hid (fun k h w => by
    have hk : k < hows.length := h
    have e : ((⟨#[78, 66, 67, 76, 83, 72, 82, 84, 79, 77, 81]⟩ : ByteArray)[k]'h) = hows[k] := str_get hows k h hk
    rw [e]
    have hne : (hows[k]).toNat ≠ 0 := by
      have h0 : ∀ j : Fin 11, (hows[j.val]'j.isLt).toNat ≠ 0 := by decide +kernel
      exact h0 ⟨k, hk⟩
    have h2 := has_any hows[k] l w hne
    rw [has_ix l k hk] at h2
    exact h2)
  obtain ⟨O, hO⟩ : ∃ O, O = stO nmR wcR l := ⟨_, rfl⟩
  rw [← hO]
  have HO : Hid (O = stF nmR (hAt (ix hows l) 11) (nmR l.tail).2 (nmR l.tail).1) := Lib.hid (by rw [hO]; unfold stO; rw [ew1, ew2])
  clear hO ew1 ew2
  generalize ix hows l = i at *
  have hrow := Lib.hid (box_row ⟨t, s, r, sh, b, x, 0, 0, 0, 0, false, z⟩ w)
  have z0 := str_size l
  go_enter Tryd.func78, Tryd.ntmps78
  go_wp2
  have hst : Hid (Row ((w.alloc (.cells #[.int .u8 t, .int .u8 s, .int .i64 r, .int .i64 sh, .int .i64 b, .bool x, .int .u8 0, .int .i64 0, .int .i64 0, .int .i64 0, .bool false, .int .i64 z] DT)).alloc (.cells #[.int .u8 0, .int .u8 0, .int .i64 0, .int .i64 0, .int .i64 0, .bool false, .int .u8 0, .int .i64 0, .int .i64 0, .int .i64 0, .bool false, .int .i64 0] DT)) (w.heap.size) DT (DC ⟨t, s, r, sh, b, x, 0, 0, 0, 0, false, z⟩)) ∧ Hid (Row ((w.alloc (.cells #[.int .u8 t, .int .u8 s, .int .i64 r, .int .i64 sh, .int .i64 b, .bool x, .int .u8 0, .int .i64 0, .int .i64 0, .int .i64 0, .bool false, .int .i64 z] DT)).alloc (.cells #[.int .u8 0, .int .u8 0, .int .i64 0, .int .i64 0, .int .i64 0, .bool false, .int .u8 0, .int .i64 0, .int .i64 0, .int .i64 0, .bool false, .int .i64 0] DT)) (w.heap.size + 1) DT (DC zeroD)) ∧ Hid (Below w.heap.size w ((w.alloc (.cells #[.int .u8 t, .int .u8 s, .int .i64 r, .int .i64 sh, .int .i64 b, .bool x, .int .u8 0, .int .i64 0, .int .i64 0, .int .i64 0, .bool false, .int .i64 z] DT)).alloc (.cells #[.int .u8 0, .int .u8 0, .int .i64 0, .int .i64 0, .int .i64 0, .bool false, .int .u8 0, .int .i64 0, .int .i64 0, .int .i64 0, .bool false, .int .i64 0] DT))) := by
    refine ⟨Lib.hid (hrow.out.alloc _), Lib.hid ?_, Lib.hid (by (repeat' (first | (with_reducible exact Below.refl _ _) | (with_reducible refine Below.setCell ?_ ?_ _) | (with_reducible refine Below.alloc ?_ ?_ _) | (with_reducible refine Below.drew ?_) | (with_reducible refine belowN ?_ _) | (with_reducible refine below_step ?_ ?_ (by with_reducible assumption)) | go_size)))⟩
    have h := box_row zeroD (w.alloc (.cells #[.int .u8 t, .int .u8 s, .int .i64 r, .int .i64 sh, .int .i64 b, .bool x, .int .u8 0, .int .i64 0, .int .i64 0, .int .i64 0, .bool false, .int .i64 z] DT))
    rw [World.size_alloc] at h; exact h
  obtain ⟨hr, hz, hB⟩ := hst
  go_loopw [7] (fun tt wr => ∃ k : Nat, k ≤ 11 ∧ tt = .int .i64 (k : Int) ∧ Hid (Row wr (w.heap.size) DT (DC ⟨t, s, r, sh, b, x, (hAt i k), 0, 0, 0, false, z⟩)) ∧ Hid (Row wr (w.heap.size + 1) DT (DC zeroD)) ∧ Hid (Below w.heap.size w wr)) (fun tt _ => 11 - (intOf tt).toNat)
  case atStart => exact ⟨0, by omega, rfl, by
    have e : hAt i (0 : Nat) = 0 := by unfold hAt; rw [if_neg (by omega)]
    rw [e]; exact hr, hz, hB⟩
  case round =>
    obtain ⟨k, hk, rfl, hr, hz, hB⟩ := hrel
    have c6 : wr.cell? ⟨w.heap.size, 6, none⟩ = some (.int .u8 (hAt i k)) := hr.out.cell 6
    have f6 := hr.out.free 6
    by_cases hlt : k < 11
    · by_cases hij : i = (k : Int)
      · have e : hAt i ((k + 1 : Nat) : Int) = (k : Int) := by unfold hAt; rw [if_pos (by omega), hij]
        have d1 : decide (i = (k : Int)) = true := by simpa using hij
        have E := Lib.hid e
        have J := Lib.hid hij
        clear hij e
        go_wp2_with fail
        refine (HH.out k _ _).mono ?_
        rintro e w' ⟨rfl, rfl⟩
        go_wp2
        exact ⟨⟨k + 1, by omega, by go_num, by rw [E.out]; exact Lib.hid (hr.out.put 6 (.int .u8 (k : Int))), Lib.hid (hz.out.far (p := ⟨w.heap.size, 6, none⟩) (by show w.heap.size + 1 ≠ w.heap.size; omega) _), Lib.hid (Below.setCell (p := ⟨w.heap.size, 6, none⟩) hB.out (by show w.heap.size ≤ w.heap.size; omega) _)⟩, by simp [intOf]; omega⟩
      · have e : hAt i ((k + 1 : Nat) : Int) = hAt i (k : Int) := by
          unfold hAt
          by_cases h : 0 ≤ i ∧ i < (k : Int)
          · rw [if_pos h, if_pos (by omega)]
          · rw [if_neg h, if_neg (by omega)]
        have d1 : decide (i = (k : Int)) = false := by simpa using hij
        have E := Lib.hid e
        clear hij e
        go_wp2_with fail
        refine (HH.out k _ _).mono ?_
        rintro e w' ⟨rfl, rfl⟩
        go_wp2
        exact ⟨⟨k + 1, by omega, by go_num, by rw [E.out]; exact hr, hz, hB⟩, by simp [intOf]; omega⟩
    · have e11 : (k : Int) = 11 := by omega
      rw [e11] at hr
      clear e11 c6 f6 HH
      have hh8 : 0 ≤ hAt i 11 ∧ hAt i 11 ≤ 10 := by unfold hAt; split <;> omega
      generalize hAt i 11 = h at *
      clear hi0 hi1
      have HS40 : Hid (∀ (m : List UInt8) (w : World), Calls Tryd.prog 76 #[S m, .int .u8 40] w fun e w' => e = .returned (.bool (sg m == 40)) ∧ w = w') := Lib.hid (fun m w => has_any 40 m w (by decide))
      have HS44 : Hid (∀ (m : List UInt8) (w : World), Calls Tryd.prog 76 #[S m, .int .u8 44] w fun e w' => e = .returned (.bool (sg m == 44)) ∧ w = w') := Lib.hid (fun m w => has_any 44 m w (by decide))
      have HS115 : Hid (∀ (m : List UInt8) (w : World), Calls Tryd.prog 76 #[S m, .int .u8 115] w fun e w' => e = .returned (.bool (sg m == 115)) ∧ w = w') := Lib.hid (fun m w => has_any 115 m w (by decide))
      have HS41 : Hid (∀ (m : List UInt8) (w : World), Calls Tryd.prog 76 #[S m, .int .u8 41] w fun e w' => e = .returned (.bool (sg m == 41)) ∧ w = w') := Lib.hid (fun m w => has_any 41 m w (by decide))
      cases l with
      | nil =>
        have e2 := Lib.hid (show O = ([], ⟨h, 0, 0, 0, false⟩) from HO.out)
        have k0 : (str []).toList.isEmpty = true := by rw [str_toList]; rfl
        clear HO HS40 HS44 HS115 HS41
        have c0 : wr.cell? ⟨w.heap.size, 0, none⟩ = some (.int .u8 t) := hr.out.cell 0
        have c1 : wr.cell? ⟨w.heap.size, 1, none⟩ = some (.int .u8 s) := hr.out.cell 1
        have c2 : wr.cell? ⟨w.heap.size, 2, none⟩ = some (.int .i64 r) := hr.out.cell 2
        have c3 : wr.cell? ⟨w.heap.size, 3, none⟩ = some (.int .i64 sh) := hr.out.cell 3
        have c4 : wr.cell? ⟨w.heap.size, 4, none⟩ = some (.int .i64 b) := hr.out.cell 4
        have c5 : wr.cell? ⟨w.heap.size, 5, none⟩ = some (.bool x) := hr.out.cell 5
        have c6 : wr.cell? ⟨w.heap.size, 6, none⟩ = some (.int .u8 h) := hr.out.cell 6
        have c7 : wr.cell? ⟨w.heap.size, 7, none⟩ = some (.int .i64 0) := hr.out.cell 7
        have c8 : wr.cell? ⟨w.heap.size, 8, none⟩ = some (.int .i64 0) := hr.out.cell 8
        have c9 : wr.cell? ⟨w.heap.size, 9, none⟩ = some (.int .i64 0) := hr.out.cell 9
        have c10 : wr.cell? ⟨w.heap.size, 10, none⟩ = some (.bool false) := hr.out.cell 10
        have c11 : wr.cell? ⟨w.heap.size, 11, none⟩ = some (.int .i64 z) := hr.out.cell 11
        have d0 : wr.cell? ⟨w.heap.size + 1, 0, none⟩ = some (.int .u8 0) := hz.out.cell 0
        have f0 := hz.out.free 0
        have d1 : wr.cell? ⟨w.heap.size + 1, 1, none⟩ = some (.int .u8 0) := hz.out.cell 1
        have f1 := hz.out.free 1
        have d2 : wr.cell? ⟨w.heap.size + 1, 2, none⟩ = some (.int .i64 0) := hz.out.cell 2
        have f2 := hz.out.free 2
        have d3 : wr.cell? ⟨w.heap.size + 1, 3, none⟩ = some (.int .i64 0) := hz.out.cell 3
        have f3 := hz.out.free 3
        have d4 : wr.cell? ⟨w.heap.size + 1, 4, none⟩ = some (.int .i64 0) := hz.out.cell 4
        have f4 := hz.out.free 4
        have d5 : wr.cell? ⟨w.heap.size + 1, 5, none⟩ = some (.bool false) := hz.out.cell 5
        have f5 := hz.out.free 5
        have d6 : wr.cell? ⟨w.heap.size + 1, 6, none⟩ = some (.int .u8 0) := hz.out.cell 6
        have f6 := hz.out.free 6
        have d7 : wr.cell? ⟨w.heap.size + 1, 7, none⟩ = some (.int .i64 0) := hz.out.cell 7
        have f7 := hz.out.free 7
        have d8 : wr.cell? ⟨w.heap.size + 1, 8, none⟩ = some (.int .i64 0) := hz.out.cell 8
        have f8 := hz.out.free 8
        have d9 : wr.cell? ⟨w.heap.size + 1, 9, none⟩ = some (.int .i64 0) := hz.out.cell 9
        have f9 := hz.out.free 9
        have d10 : wr.cell? ⟨w.heap.size + 1, 10, none⟩ = some (.bool false) := hz.out.cell 10
        have f10 := hz.out.free 10
        have d11 : wr.cell? ⟨w.heap.size + 1, 11, none⟩ = some (.int .i64 0) := hz.out.cell 11
        have f11 := hz.out.free 11
        obtain ⟨WF, hWF⟩ : ∃ WF, WF = ((((((((((((wr.setCell ⟨w.heap.size + 1, 0, none⟩ (.int .u8 t)).setCell ⟨w.heap.size + 1, 1, none⟩ (.int .u8 s)).setCell ⟨w.heap.size + 1, 2, none⟩ (.int .i64 r)).setCell ⟨w.heap.size + 1, 3, none⟩ (.int .i64 sh)).setCell ⟨w.heap.size + 1, 4, none⟩ (.int .i64 b)).setCell ⟨w.heap.size + 1, 5, none⟩ (.bool x)).setCell ⟨w.heap.size + 1, 6, none⟩ (.int .u8 h)).setCell ⟨w.heap.size + 1, 7, none⟩ (.int .i64 0)).setCell ⟨w.heap.size + 1, 8, none⟩ (.int .i64 0)).setCell ⟨w.heap.size + 1, 9, none⟩ (.int .i64 0)).setCell ⟨w.heap.size + 1, 10, none⟩ (.bool false)).setCell ⟨w.heap.size + 1, 11, none⟩ (.int .i64 z)) := ⟨_, rfl⟩
        have wrow : Row WF (w.heap.size + 1) DT (DC ⟨t, s, r, sh, b, x, h, 0, 0, 0, false, z⟩) := by rw [hWF]; exact ((((((((((((hz.out.put 0 (.int .u8 t)).put 1 (.int .u8 s)).put 2 (.int .i64 r)).put 3 (.int .i64 sh)).put 4 (.int .i64 b)).put 5 (.bool x)).put 6 (.int .u8 h)).put 7 (.int .i64 0)).put 8 (.int .i64 0)).put 9 (.int .i64 0)).put 10 (.bool false)).put 11 (.int .i64 z))
        have hbW : Below w.heap.size w WF := by
          rw [hWF]
          repeat' (first | (with_reducible exact hB.out) | (with_reducible refine Below.setCell ?_ ?_ _) | (show w.heap.size ≤ w.heap.size + 1; omega))
        have hW2 := Lib.hid hWF
        clear hWF
        go_wp2
        rw [← hW2.out]
        clear hW2
        have q0 : WF.cell? ⟨w.heap.size + 1, 0, none⟩ = some (.int .u8 t) := wrow.cell 0
        have q1 : WF.cell? ⟨w.heap.size + 1, 1, none⟩ = some (.int .u8 s) := wrow.cell 1
        have q2 : WF.cell? ⟨w.heap.size + 1, 2, none⟩ = some (.int .i64 r) := wrow.cell 2
        have q3 : WF.cell? ⟨w.heap.size + 1, 3, none⟩ = some (.int .i64 sh) := wrow.cell 3
        have q4 : WF.cell? ⟨w.heap.size + 1, 4, none⟩ = some (.int .i64 b) := wrow.cell 4
        have q5 : WF.cell? ⟨w.heap.size + 1, 5, none⟩ = some (.bool x) := wrow.cell 5
        have q6 : WF.cell? ⟨w.heap.size + 1, 6, none⟩ = some (.int .u8 h) := wrow.cell 6
        have q7 : WF.cell? ⟨w.heap.size + 1, 7, none⟩ = some (.int .i64 0) := wrow.cell 7
        have q8 : WF.cell? ⟨w.heap.size + 1, 8, none⟩ = some (.int .i64 0) := wrow.cell 8
        have q9 : WF.cell? ⟨w.heap.size + 1, 9, none⟩ = some (.int .i64 0) := wrow.cell 9
        have q10 : WF.cell? ⟨w.heap.size + 1, 10, none⟩ = some (.bool false) := wrow.cell 10
        have q11 : WF.cell? ⟨w.heap.size + 1, 11, none⟩ = some (.int .i64 z) := wrow.cell 11
        refine bodyPost_ret (v := .tuple #[DV ⟨t, s, r, sh, b, x, h, 0, 0, 0, false, z⟩, S []]) (by simp [results, Tryd.results78, go_sem, q0, q1, q2, q3, q4, q5, q6, q7, q8, q9, q10, q11]) rfl ?_
        exact ⟨by rw [e2.out], hbW⟩
      | cons c l' =>
        have k0 : (str (c :: l')).toList.isEmpty = false := by rw [str_toList]; rfl
        have zl : (c :: l').length = l'.length + 1 := rfl
        have hx : Hid ((str (c :: l')).extract 1 (l'.length + 1) = str l') := Lib.hid (by rw [str_ext]; simp)
        have HN0 := Lib.hid (fun w => rnumber_any l' w (by omega))
        obtain ⟨l2, e2⟩ : ∃ l2, l2 = (nmR l').1 := ⟨_, rfl⟩
        obtain ⟨v, ev⟩ : ∃ v, v = (nmR l').2 := ⟨_, rfl⟩
        have n2 : l2.length ≤ 4611686018427387904 := by have := nmR_len l'; rw [e2]; omega
        rw [← e2, ← ev] at HN0
        have HO2 : Hid (O = stF nmR h v l2) := Lib.hid (by rw [e2, ev]; exact HO.out)
        clear HO e2 ev
        go_wp2_with fail
        rw [hx.out]
        refine (HN0.out _).mono ?_
        rintro e w2 ⟨rfl, hb2⟩
        have z2 := str_size l2
        have hr := Lib.hid (hr.out.below hb2 hr.out.lt)
        have hz := Lib.hid (hz.out.below hb2 hz.out.lt)
        have hB := Lib.hid (below_step hB.out hB.out.size hb2)
        clear hb2
        have c7 : w2.cell? ⟨w.heap.size, 7, none⟩ = some (.int .i64 0) := hr.out.cell 7
        have f7 := hr.out.free 7
        go_wp2_with fail
        refine (HS40.out _ _).mono ?_
        rintro e w' ⟨rfl, rfl⟩
        have hS7 : Hid (Row (w2.setCell ⟨w.heap.size, 7, none⟩ (.int .i64 v)) (w.heap.size) DT (DC ⟨t, s, r, sh, b, x, h, v, 0, 0, false, z⟩)) ∧ Hid (Row (w2.setCell ⟨w.heap.size, 7, none⟩ (.int .i64 v)) (w.heap.size + 1) DT (DC zeroD)) ∧ Hid (Below w.heap.size w (w2.setCell ⟨w.heap.size, 7, none⟩ (.int .i64 v))) := ⟨Lib.hid (hr.out.put 7 (.int .i64 v)), Lib.hid (hz.out.far (p := ⟨w.heap.size, 7, none⟩) (by show w.heap.size + 1 ≠ w.heap.size; omega) _), Lib.hid (Below.setCell (p := ⟨w.heap.size, 7, none⟩) hB.out (by show w.heap.size ≤ w.heap.size; omega) _)⟩
        obtain ⟨hr, hz, hB⟩ := hS7
        clear c7 f7
        generalize (w2.setCell ⟨w.heap.size, 7, none⟩ (.int .i64 v)) = W7 at *
        go_upto_if 30 with fail
        go_cut [1] (fun v1 wx => v1 = S O.1 ∧ Hid (Row wx (w.heap.size) DT (DC ⟨t, s, r, sh, b, x, O.2.h, O.2.v, O.2.f, O.2.g, O.2.u, z⟩)) ∧ Hid (Row wx (w.heap.size + 1) DT (DC zeroD)) ∧ Hid (Below w.heap.size w wx))
        case first =>
          by_cases hq : sg l2 = 40
          · have kq : (sg l2 == 40) = true := by simpa using hq
            have h1 : 1 ≤ l2.length := by cases l2 with | nil => simp [sg] at hq | cons _ _ => simp
            have hx2 : Hid ((str l2).extract 1 l2.length = str l2.tail) := Lib.hid (by rw [str_ext, List.drop_one, List.take_of_length_le (by simp)])
            have HN1 := Lib.hid (fun w => rnumber_any l2.tail w (by simp; omega))
            obtain ⟨l4, e4⟩ : ∃ l4, l4 = (nmR l2.tail).1 := ⟨_, rfl⟩
            obtain ⟨f, ef⟩ : ∃ f, f = (nmR l2.tail).2 := ⟨_, rfl⟩
            have n4 : l4.length ≤ 4611686018427387904 := by have := nmR_len l2.tail; simp at this; rw [e4]; omega
            obtain ⟨l5, e5⟩ : ∃ l5, l5 = (stN nmR 44 l4).1 := ⟨_, rfl⟩
            obtain ⟨g, eg⟩ : ∃ g, g = (stN nmR 44 l4).2 := ⟨_, rfl⟩
            have h5 : (sg l4 = 44 ∧ l5 = (nmR l4.tail).1 ∧ g = (nmR l4.tail).2) ∨ (sg l4 ≠ 44 ∧ l5 = l4 ∧ g = 0) := by
              rw [e5, eg]; unfold stN; by_cases h : sg l4 = 44
              · left; rw [if_pos h]; exact ⟨h, rfl, rfl⟩
              · right; rw [if_neg h]; exact ⟨h, rfl, rfl⟩
            have n5 : l5.length ≤ 4611686018427387904 := by
              rcases h5 with ⟨_, e, _⟩ | ⟨_, e, _⟩
              · have := nmR_len l4.tail; simp at this; rw [e]; omega
              · rw [e]; exact n4
            obtain ⟨l6, e6⟩ : ∃ l6, l6 = (stX 115 l5).1 := ⟨_, rfl⟩
            obtain ⟨u, eu⟩ : ∃ u, u = (stX 115 l5).2 := ⟨_, rfl⟩
            have h6 : (sg l5 = 115 ∧ l6 = l5.tail ∧ u = true) ∨ (sg l5 ≠ 115 ∧ l6 = l5 ∧ u = false) := by
              rw [e6, eu]; unfold stX; by_cases h : sg l5 = 115
              · left; rw [if_pos h]; exact ⟨h, rfl, rfl⟩
              · right; rw [if_neg h]; exact ⟨h, rfl, rfl⟩
            have n6 : l6.length ≤ 4611686018427387904 := by
              rcases h6 with ⟨_, e, _⟩ | ⟨_, e, _⟩
              · rw [e]; simp; omega
              · rw [e]; exact n5
            have e3 : Hid (O = ((stX 41 l6).1, ⟨h, v, f, g, u⟩)) := Lib.hid (by rw [HO2.out]; unfold stF; rw [if_pos hq, e6, eu, e5, eg, e4, ef])
            rw [← e4, ← ef] at HN1
            have H5 := Lib.hid h5
            have H6 := Lib.hid h6
            clear HO2 hq h5 h6 e4 ef e5 eg e6 eu
            go_wp2_with fail
            rw [hx2.out]
            refine (HN1.out _).mono ?_
            rintro e w3 ⟨rfl, hb3⟩
            have z4 := str_size l4
            have hr := Lib.hid (hr.out.below hb3 hr.out.lt)
            have hz := Lib.hid (hz.out.below hb3 hz.out.lt)
            have hB := Lib.hid (below_step hB.out hB.out.size hb3)
            clear hb3
            have c8 : w3.cell? ⟨w.heap.size, 8, none⟩ = some (.int .i64 0) := hr.out.cell 8
            have f8 := hr.out.free 8
            go_wp2_with fail
            refine (HS44.out _ _).mono ?_
            rintro e w' ⟨rfl, rfl⟩
            have hS8 : Hid (Row (w3.setCell ⟨w.heap.size, 8, none⟩ (.int .i64 f)) (w.heap.size) DT (DC ⟨t, s, r, sh, b, x, h, v, f, 0, false, z⟩)) ∧ Hid (Row (w3.setCell ⟨w.heap.size, 8, none⟩ (.int .i64 f)) (w.heap.size + 1) DT (DC zeroD)) ∧ Hid (Below w.heap.size w (w3.setCell ⟨w.heap.size, 8, none⟩ (.int .i64 f))) := ⟨Lib.hid (hr.out.put 8 (.int .i64 f)), Lib.hid (hz.out.far (p := ⟨w.heap.size, 8, none⟩) (by show w.heap.size + 1 ≠ w.heap.size; omega) _), Lib.hid (Below.setCell (p := ⟨w.heap.size, 8, none⟩) hB.out (by show w.heap.size ≤ w.heap.size; omega) _)⟩
            obtain ⟨hr, hz, hB⟩ := hS8
            clear c8 f8
            generalize (w3.setCell ⟨w.heap.size, 8, none⟩ (.int .i64 f)) = W8 at *
            go_upto_if 39 with fail
            go_cut [1] (fun v1 wx => v1 = S l5 ∧ Hid (Row wx (w.heap.size) DT (DC ⟨t, s, r, sh, b, x, h, v, f, g, false, z⟩)) ∧ Hid (Row wx (w.heap.size + 1) DT (DC zeroD)) ∧ Hid (Below w.heap.size w wx))
            case first =>
              as_aux_lemma =>
              rcases H5.out with ⟨hq4, e5, eg⟩ | ⟨hq4, rfl, rfl⟩
              · have kq4 : (sg l4 == 44) = true := by simpa using hq4
                have h14 : 1 ≤ l4.length := by cases l4 with | nil => simp [sg] at hq4 | cons _ _ => simp
                have hx4 : Hid ((str l4).extract 1 l4.length = str l4.tail) := Lib.hid (by rw [str_ext, List.drop_one, List.take_of_length_le (by simp)])
                have HN2 := Lib.hid (fun w => rnumber_any l4.tail w (by simp; omega))
                rw [← e5, ← eg] at HN2
                clear hq4 e5 eg H5
                go_wp2_with fail
                rw [hx4.out]
                refine (HN2.out _).mono ?_
                rintro e w4 ⟨rfl, hb4⟩
                have hr := Lib.hid (hr.out.below hb4 hr.out.lt)
                have hz := Lib.hid (hz.out.below hb4 hz.out.lt)
                have hB := Lib.hid (below_step hB.out hB.out.size hb4)
                clear hb4
                have c9 : w4.cell? ⟨w.heap.size, 9, none⟩ = some (.int .i64 0) := hr.out.cell 9
                have f9 := hr.out.free 9
                go_wp2
                go_meet
                case rel => exact ⟨rfl, Lib.hid (hr.out.put 9 (.int .i64 g)), Lib.hid (hz.out.far (p := ⟨w.heap.size, 9, none⟩) (by show w.heap.size + 1 ≠ w.heap.size; omega) _), Lib.hid (Below.setCell (p := ⟨w.heap.size, 9, none⟩) hB.out (by show w.heap.size ≤ w.heap.size; omega) _)⟩
              · have kq4 : (sg l5 == 44) = false := by simpa using hq4
                clear hq4 H5
                go_wp2
                go_meet
                case rel => exact ⟨rfl, hr, hz, hB⟩
            case rest =>
            obtain ⟨rfl, hr, hz, hB⟩ := hcut
            clear H5 z4 HN1 hx2
            have z5 := str_size l5
            go_wp2_with fail
            refine (HS115.out _ _).mono ?_
            rintro e w' ⟨rfl, rfl⟩
            go_upto_if 48 with fail
            go_cut [1] (fun v1 wx => v1 = S l6 ∧ Hid (Row wx (w.heap.size) DT (DC ⟨t, s, r, sh, b, x, h, v, f, g, u, z⟩)) ∧ Hid (Row wx (w.heap.size + 1) DT (DC zeroD)) ∧ Hid (Below w.heap.size w wx))
            case first =>
              as_aux_lemma =>
              rcases H6.out with ⟨hq5, rfl, rfl⟩ | ⟨hq5, rfl, rfl⟩
              · have kq5 : (sg l5 == 115) = true := by simpa using hq5
                have h15 : 1 ≤ l5.length := by cases l5 with | nil => simp [sg] at hq5 | cons _ _ => simp
                have hx5 : Hid ((str l5).extract 1 l5.length = str l5.tail) := Lib.hid (by rw [str_ext, List.drop_one, List.take_of_length_le (by simp)])
                have c10 : wc.cell? ⟨w.heap.size, 10, none⟩ = some (.bool false) := hr.out.cell 10
                have f10 := hr.out.free 10
                clear hq5 H6 n6
                go_wp2_with fail
                go_region
                all_goals
                  go_wp2_with fail
                  go_meet
                  case rel => exact ⟨by rw [hx5.out], Lib.hid (hr.out.put 10 (.bool true)), Lib.hid (hz.out.far (p := ⟨w.heap.size, 10, none⟩) (by show w.heap.size + 1 ≠ w.heap.size; omega) _), Lib.hid (Below.drew (Below.setCell (p := ⟨w.heap.size, 10, none⟩) hB.out (by show w.heap.size ≤ w.heap.size; omega) _))⟩
              · have kq5 : (sg l6 == 115) = false := by simpa using hq5
                clear hq5 H6 n5
                go_wp2
                go_meet
                case rel => exact ⟨rfl, hr, hz, hB⟩
            case rest =>
            obtain ⟨rfl, hr, hz, hB⟩ := hcut
            clear H6 z5
            have z6 := str_size l6
            go_wp2_with fail
            refine (HS41.out _ _).mono ?_
            rintro e w' ⟨rfl, rfl⟩
            by_cases hq6 : sg l6 = 41
            · have kq6 : (sg l6 == 41) = true := by simpa using hq6
              have h16 : 1 ≤ l6.length := by cases l6 with | nil => simp [sg] at hq6 | cons _ _ => simp
              have hx6 : Hid ((str l6).extract 1 l6.length = str l6.tail) := Lib.hid (by rw [str_ext, List.drop_one, List.take_of_length_le (by simp)])
              have e7 := Lib.hid (show O = (l6.tail, ⟨h, v, f, g, u⟩) by rw [e3.out]; unfold stX; rw [if_pos hq6])
              clear hq6 e3
              go_wp2
              go_meet
              case rel => rw [e7.out]; exact ⟨by rw [hx6.out], hr, hz, hB⟩
            · have kq6 : (sg l6 == 41) = false := by simpa using hq6
              have e7 := Lib.hid (show O = (l6, ⟨h, v, f, g, u⟩) by rw [e3.out]; unfold stX; rw [if_neg hq6])
              clear hq6 e3
              go_wp2
              go_meet
              case rel => rw [e7.out]; exact ⟨rfl, hr, hz, hB⟩
          · have kq : (sg l2 == 40) = false := by simpa using hq
            have e3 := Lib.hid (show O = (l2, ⟨h, v, 0, 0, false⟩) by rw [HO2.out]; unfold stF; rw [if_neg hq])
            clear hq HO2
            go_wp2
            go_meet
            case rel => rw [e3.out]; exact ⟨rfl, hr, hz, hB⟩
        case rest =>
        obtain ⟨rfl, hr, hz, hB⟩ := hcut
        obtain ⟨L, K⟩ := O
        obtain ⟨kh, kv, kf, kg, ku⟩ := K
        dsimp only at hr
        clear HO2 HS40 HS44 HS115 HS41 HN0
        have c0 : wc.cell? ⟨w.heap.size, 0, none⟩ = some (.int .u8 t) := hr.out.cell 0
        have c1 : wc.cell? ⟨w.heap.size, 1, none⟩ = some (.int .u8 s) := hr.out.cell 1
        have c2 : wc.cell? ⟨w.heap.size, 2, none⟩ = some (.int .i64 r) := hr.out.cell 2
        have c3 : wc.cell? ⟨w.heap.size, 3, none⟩ = some (.int .i64 sh) := hr.out.cell 3
        have c4 : wc.cell? ⟨w.heap.size, 4, none⟩ = some (.int .i64 b) := hr.out.cell 4
        have c5 : wc.cell? ⟨w.heap.size, 5, none⟩ = some (.bool x) := hr.out.cell 5
        have c6 : wc.cell? ⟨w.heap.size, 6, none⟩ = some (.int .u8 kh) := hr.out.cell 6
        have c7 : wc.cell? ⟨w.heap.size, 7, none⟩ = some (.int .i64 kv) := hr.out.cell 7
        have c8 : wc.cell? ⟨w.heap.size, 8, none⟩ = some (.int .i64 kf) := hr.out.cell 8
        have c9 : wc.cell? ⟨w.heap.size, 9, none⟩ = some (.int .i64 kg) := hr.out.cell 9
        have c10 : wc.cell? ⟨w.heap.size, 10, none⟩ = some (.bool ku) := hr.out.cell 10
        have c11 : wc.cell? ⟨w.heap.size, 11, none⟩ = some (.int .i64 z) := hr.out.cell 11
        have d0 : wc.cell? ⟨w.heap.size + 1, 0, none⟩ = some (.int .u8 0) := hz.out.cell 0
        have f0 := hz.out.free 0
        have d1 : wc.cell? ⟨w.heap.size + 1, 1, none⟩ = some (.int .u8 0) := hz.out.cell 1
        have f1 := hz.out.free 1
        have d2 : wc.cell? ⟨w.heap.size + 1, 2, none⟩ = some (.int .i64 0) := hz.out.cell 2
        have f2 := hz.out.free 2
        have d3 : wc.cell? ⟨w.heap.size + 1, 3, none⟩ = some (.int .i64 0) := hz.out.cell 3
        have f3 := hz.out.free 3
        have d4 : wc.cell? ⟨w.heap.size + 1, 4, none⟩ = some (.int .i64 0) := hz.out.cell 4
        have f4 := hz.out.free 4
        have d5 : wc.cell? ⟨w.heap.size + 1, 5, none⟩ = some (.bool false) := hz.out.cell 5
        have f5 := hz.out.free 5
        have d6 : wc.cell? ⟨w.heap.size + 1, 6, none⟩ = some (.int .u8 0) := hz.out.cell 6
        have f6 := hz.out.free 6
        have d7 : wc.cell? ⟨w.heap.size + 1, 7, none⟩ = some (.int .i64 0) := hz.out.cell 7
        have f7 := hz.out.free 7
        have d8 : wc.cell? ⟨w.heap.size + 1, 8, none⟩ = some (.int .i64 0) := hz.out.cell 8
        have f8 := hz.out.free 8
        have d9 : wc.cell? ⟨w.heap.size + 1, 9, none⟩ = some (.int .i64 0) := hz.out.cell 9
        have f9 := hz.out.free 9
        have d10 : wc.cell? ⟨w.heap.size + 1, 10, none⟩ = some (.bool false) := hz.out.cell 10
        have f10 := hz.out.free 10
        have d11 : wc.cell? ⟨w.heap.size + 1, 11, none⟩ = some (.int .i64 0) := hz.out.cell 11
        have f11 := hz.out.free 11
        obtain ⟨WF, hWF⟩ : ∃ WF, WF = ((((((((((((wc.setCell ⟨w.heap.size + 1, 0, none⟩ (.int .u8 t)).setCell ⟨w.heap.size + 1, 1, none⟩ (.int .u8 s)).setCell ⟨w.heap.size + 1, 2, none⟩ (.int .i64 r)).setCell ⟨w.heap.size + 1, 3, none⟩ (.int .i64 sh)).setCell ⟨w.heap.size + 1, 4, none⟩ (.int .i64 b)).setCell ⟨w.heap.size + 1, 5, none⟩ (.bool x)).setCell ⟨w.heap.size + 1, 6, none⟩ (.int .u8 kh)).setCell ⟨w.heap.size + 1, 7, none⟩ (.int .i64 kv)).setCell ⟨w.heap.size + 1, 8, none⟩ (.int .i64 kf)).setCell ⟨w.heap.size + 1, 9, none⟩ (.int .i64 kg)).setCell ⟨w.heap.size + 1, 10, none⟩ (.bool ku)).setCell ⟨w.heap.size + 1, 11, none⟩ (.int .i64 z)) := ⟨_, rfl⟩
        have wrow : Row WF (w.heap.size + 1) DT (DC ⟨t, s, r, sh, b, x, kh, kv, kf, kg, ku, z⟩) := by rw [hWF]; exact ((((((((((((hz.out.put 0 (.int .u8 t)).put 1 (.int .u8 s)).put 2 (.int .i64 r)).put 3 (.int .i64 sh)).put 4 (.int .i64 b)).put 5 (.bool x)).put 6 (.int .u8 kh)).put 7 (.int .i64 kv)).put 8 (.int .i64 kf)).put 9 (.int .i64 kg)).put 10 (.bool ku)).put 11 (.int .i64 z))
        have hbW : Below w.heap.size w WF := by
          rw [hWF]
          repeat' (first | (with_reducible exact hB.out) | (with_reducible refine Below.setCell ?_ ?_ _) | (show w.heap.size ≤ w.heap.size + 1; omega))
        have hW2 := Lib.hid hWF
        clear hWF
        go_wp2
        rw [← hW2.out]
        clear hW2
        have q0 : WF.cell? ⟨w.heap.size + 1, 0, none⟩ = some (.int .u8 t) := wrow.cell 0
        have q1 : WF.cell? ⟨w.heap.size + 1, 1, none⟩ = some (.int .u8 s) := wrow.cell 1
        have q2 : WF.cell? ⟨w.heap.size + 1, 2, none⟩ = some (.int .i64 r) := wrow.cell 2
        have q3 : WF.cell? ⟨w.heap.size + 1, 3, none⟩ = some (.int .i64 sh) := wrow.cell 3
        have q4 : WF.cell? ⟨w.heap.size + 1, 4, none⟩ = some (.int .i64 b) := wrow.cell 4
        have q5 : WF.cell? ⟨w.heap.size + 1, 5, none⟩ = some (.bool x) := wrow.cell 5
        have q6 : WF.cell? ⟨w.heap.size + 1, 6, none⟩ = some (.int .u8 kh) := wrow.cell 6
        have q7 : WF.cell? ⟨w.heap.size + 1, 7, none⟩ = some (.int .i64 kv) := wrow.cell 7
        have q8 : WF.cell? ⟨w.heap.size + 1, 8, none⟩ = some (.int .i64 kf) := wrow.cell 8
        have q9 : WF.cell? ⟨w.heap.size + 1, 9, none⟩ = some (.int .i64 kg) := wrow.cell 9
        have q10 : WF.cell? ⟨w.heap.size + 1, 10, none⟩ = some (.bool ku) := wrow.cell 10
        have q11 : WF.cell? ⟨w.heap.size + 1, 11, none⟩ = some (.int .i64 z) := wrow.cell 11
        refine bodyPost_ret (v := .tuple #[DV ⟨t, s, r, sh, b, x, kh, kv, kf, kg, ku, z⟩, S L]) (by simp [results, Tryd.results78, go_sem, q0, q1, q2, q3, q4, q5, q6, q7, q8, q9, q10, q11]) rfl ?_
        exact ⟨rfl, hbW⟩
end Go.Proofs.YtkgdlimekkdekaaDoor
