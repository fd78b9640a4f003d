/- Contract of the reference's Write. -/
import Derived.Test.YtjdldofgkhibnaaGreatDoorWri
import Derived.Test.YtjdldofgkhibnaaGreatDoorTxQ
set_option linter.unusedSimpArgs false
set_option linter.unusedVariables false
namespace Go.Proofs.YtjdldofgkhibnaaGreatDoor
open Go.RowKit

set_option maxRecDepth 100000 in
theorem rwd_any (t : List UInt8) (w : World) (hl : t.length ≤ 4611686018427387904) :
    Calls Tryz.prog 43 #[S t] w fun e w' => e = .returned (.bool (wdB t)) ∧ w' = w := by
  have z := str_size t
  have HW := Lib.hid rword_any
  have HE : Hid ((str t).toList.isEmpty = t.isEmpty) := Lib.hid (by rw [str_toList])
  have HD : Hid (wdB t = (!t.isEmpty && decide (wnd t 0 = t.length))) := Lib.hid rfl
  generalize wdB t = D at *
  go_enter Tryz.func43, Tryz.ntmps43
  go_wp2
  go_loop [3] (fun i => ∃ k : Nat, k ≤ t.length ∧ i = .int .i64 (k : Int) ∧ Hid (wnd t 0 = wnd t k)) (fun i => t.length - (intOf i).toNat)
  case atStart => exact ⟨0, Nat.zero_le _, rfl, Lib.hid rfl⟩
  case round =>
    obtain ⟨k, hk, rfl, hw⟩ := hrel
    by_cases hlt : k < t.length
    · have hlt2 : k < (str t).size := by omega
      have hg := str_get t k hlt2 hlt
      have HW2 : Hid (∀ w, Calls Tryz.prog 59 #[.int .u8 (((str t)[k]'hlt2).toNat : Int)] w fun e w' => e = .returned (.bool (wrd t[k])) ∧ w = w') := Lib.hid (by rw [hg]; exact HW.out t[k])
      clear hg
      cases hb : wrd t[k]
      · have hD : D = false := by
          have h1 := wnd_no t k hlt hb
          rw [HD.out, hw.out, h1]
          simp; omega
        rw [hb] at HW2
        clear hb
        subst hD
        go_wp2_with (go_at_call 59; ((with_reducible refine (HW2.out _).mono ?_); rintro e w' ⟨rfl, rfl⟩))
        go_ret
        exact ⟨rfl, rfl⟩
      · have h1 := Lib.hid (wnd_yes t k hlt hb)
        rw [hb] at HW2
        clear hb
        go_wp2_with (go_at_call 59; ((with_reducible refine (HW2.out _).mono ?_); rintro e w' ⟨rfl, rfl⟩))
        go_round
        case rel => exact ⟨k + 1, by omega, by go_num, Lib.hid (by rw [hw.out, h1.out])⟩
        case measure => simp [intOf]; omega
    · have hD : D = !t.isEmpty := by
        have h1 := wnd_end t k (by omega)
        rw [HD.out, hw.out, h1]
        have : k = t.length := by omega
        simp [this]
      have he := HE.out
      cases hb : t.isEmpty
      all_goals
        rw [hb] at he hD
        subst hD
        clear hb
        go_wp2
        go_ret
        exact ⟨rfl, rfl⟩
set_option maxRecDepth 100000 in
set_option maxHeartbeats 8000000 in
theorem rwrite_any (ls : List Lin) (v : Value) (w : World) (h : RdL w v ls) (hf : Fine ls) :
    Calls Tryz.prog 23 #[v] w fun e w' => e = .returned (S (wrA ls)) ∧ Below w.heap.size w w' := by
  have HFine := Lib.hid hf
  rcases h with ⟨rfl, A, c, rfl⟩ | ⟨hn, g, o, c, rfl, hg, hc1, hc2, hcells⟩
  · clear hf
    go_enter Tryz.func23, Tryz.ntmps23
    go_wp2
    go_loopw [3, 10] (fun s t wr => t = .int .i64 0 ∧ s = S [] ∧ wr = w) (fun _ t _ => 0)
    case atStart => exact ⟨rfl, rfl, rfl⟩
    case round =>
      obtain ⟨rfl, rfl, rfl⟩ := hrel
      go_wp2
      go_ret
      exact ⟨rfl, by (repeat' (first | (with_reducible exact Below.refl _ _) | (with_reducible refine Below.setCell ?_ ?_ _) | (with_reducible refine Below.alloc ?_ ?_ _) | (with_reducible refine Below.drew ?_) | (with_reducible refine belowN ?_ _) | (with_reducible refine below_step ?_ ?_ (by with_reducible assumption)) | go_size))⟩
  · have HC := Lib.hid hcells
    have hn1 := hf.n
    have hn2 := hf.all
    clear hf hcells hn
    go_enter Tryz.func23, Tryz.ntmps23
    go_wp2
    go_loopw [3, 10] (fun s t wr => ∃ (k : Nat) (acc : List UInt8), k ≤ ls.length ∧ t = .int .i64 (k : Int) ∧ s = S acc ∧ Hid (acc = wrA (ls.take k)) ∧ Hid (Below w.heap.size w wr)) (fun _ t _ => ls.length - (intOf t).toNat)
    case atStart => exact ⟨0, [], Nat.zero_le _, rfl, rfl, Lib.hid rfl, Lib.hid (Below.refl _ _)⟩
    case round =>
      obtain ⟨k, acc, hk, rfl, rfl, hacc, hbw⟩ := hrel
      have hbw2 := hbw.out
      have hz2 := hbw2.size
      by_cases hlt : k < ls.length
      · obtain ⟨u, c0, c1, c2⟩ := HC.out k ls[k] (List.getElem?_eq_getElem hlt)
        have d0 := (hbw2.cell (p := ⟨g, o + k * 2, none⟩) hg).trans c0
        have d1 := (hbw2.cell (p := ⟨g, o + k * 2 + 1, none⟩) hg).trans c1
        have hroom := wrA_room ls k hlt
        have hstep := Lib.hid (wrA_take ls k hlt)
        have hfl := HFine.out.flds ls[k] (List.getElem_mem hlt)
        have htx := Lib.hid (HFine.out.text ls[k] (List.getElem_mem hlt))
        have hgw : g < wr.heap.size := by omega
        rw [← hacc.out] at hroom hstep
        generalize ls[k] = x at *
        obtain ⟨xn, fs⟩ := x
        simp only at d0 c2 hfl htx
        have hwl : wrL ⟨xn, fs⟩ = wrJ fs ++ (if fs = [] then [] else [10]) := rfl
        rw [hwl] at hroom hstep
        clear hwl c0 c1 hacc
        rcases c2 with ⟨rfl, A, ca, rfl⟩ | ⟨hne, gf, of_, cf, rfl, hgf, hcf1, hcf2, hfc⟩
        · have hs2 : Hid (acc = wrA (ls.take (k + 1))) := Lib.hid (by rw [hstep.out]; simp [wrJ])
          clear hroom hstep
          go_wp2
          go_loopw [3, 17] (fun s t wq => t = .int .i64 0 ∧ s = S acc ∧ wq = wr.alloc (.cells #[.int .i64 xn, .slice A 0 ca] 43)) (fun _ t _ => 0)
          case atStart => exact ⟨rfl, rfl, rfl⟩
          case round =>
            obtain ⟨rfl, rfl, rfl⟩ := hrel
            go_wp2
            exact ⟨⟨k + 1, acc, by omega, by go_num, rfl, hs2, Lib.hid (by (repeat' (first | (with_reducible exact Below.refl _ _) | (with_reducible refine Below.setCell ?_ ?_ _) | (with_reducible refine Below.alloc ?_ ?_ _) | (with_reducible refine Below.drew ?_) | (with_reducible refine belowN ?_ _) | (with_reducible refine below_step ?_ ?_ (by with_reducible assumption)) | go_size)))⟩, by simp [intOf]; omega⟩
        · have hs2 : Hid (acc ++ wrJ fs ++ [10] = wrA (ls.take (k + 1))) := Lib.hid (by rw [hstep.out, if_neg hne, List.append_assoc])
          have hr2 : acc.length + (wrJ fs).length + 1 ≤ 70368744177664 := by rw [if_neg hne] at hroom; simp at hroom; omega
          have hfp : 0 < fs.length := by cases fs with | nil => exact absurd rfl hne | cons _ _ => simp
          have HFC := Lib.hid hfc
          have hgfw : gf < wr.heap.size := by omega
          clear hroom hstep hne hfc
          go_wp2
          have HX := Lib.hid (Row.new wr 43 [.int .i64 xn, .slice (some ⟨gf, of_, none⟩) fs.length cf])
          have HW0 : Hid (Below w.heap.size w (wr.alloc (.cells #[.int .i64 xn, .slice (some ⟨gf, of_, none⟩) fs.length cf] 43))) := Lib.hid (by (repeat' (first | (with_reducible exact Below.refl _ _) | (with_reducible refine Below.setCell ?_ ?_ _) | (with_reducible refine Below.alloc ?_ ?_ _) | (with_reducible refine Below.drew ?_) | (with_reducible refine belowN ?_ _) | (with_reducible refine below_step ?_ ?_ (by with_reducible assumption)) | go_size)))
          change Hid (Row (wr.alloc (.cells #[.int .i64 xn, .slice (some ⟨gf, of_, none⟩) fs.length cf] 43)) _ _ _) at HX
          generalize wr.alloc (.cells #[.int .i64 xn, .slice (some ⟨gf, of_, none⟩) fs.length cf] 43) = W0 at *
          generalize wr.heap.size = gx at *
          go_loopw [3, 17] (fun s t wr => ∃ (i : Nat) (J : List UInt8), i ≤ fs.length ∧ t = .int .i64 (i : Int) ∧ s = S J ∧ Hid (J = acc ++ wrJ (fs.take i)) ∧ Hid (Row wr gx 43 [.int .i64 xn, .slice (some ⟨gf, of_, none⟩) fs.length cf]) ∧ Hid (Below w.heap.size w wr)) (fun _ t _ => fs.length - (intOf t).toNat)
          case atStart => exact ⟨0, acc, Nat.zero_le _, rfl, rfl, Lib.hid (by simp [wrJ]), HX, HW0⟩
          case round =>
            obtain ⟨i, J, hi, rfl, rfl, hJ, hXi, hbi⟩ := hrel
            have hbi2 := hbi.out
            have hzi := hbi2.size
            have zJ := str_size J
            by_cases hil : i < fs.length
            · obtain ⟨x0, x1, x2⟩ := HFC.out i fs[i] (List.getElem?_eq_getElem hil)
              have y0 := (hbi2.cell (p := ⟨gf, of_ + i * 3, none⟩) hgf).trans x0
              have y1 := (hbi2.cell (p := ⟨gf, of_ + i * 3 + 1, none⟩) hgf).trans x1
              have y2 := (hbi2.cell (p := ⟨gf, of_ + i * 3 + 2, none⟩) hgf).trans x2
              have hrm := wrJ_room fs i hil
              have hfx := htx.out fs[i] (List.getElem_mem hil)
              have hst : Hid (wrJ (fs.take (i + 1)) = wrJ (fs.take i) ++ (if fs.take i = [] then [] else [32]) ++ wrF fs[i]) := Lib.hid (by rw [List.take_succ_eq_append_getElem hil, wrJ_app])
              have hgfi : gf < wr.heap.size := by omega
              generalize fs[i] = f at *
              obtain ⟨ft, fc, fq⟩ := f
              simp only at y0 y1 y2 hfx
              have hJl : J.length + 1 + (wrF ⟨ft, fc, fq⟩).length ≤ 70368744177664 + 1 := by rw [hJ.out, List.length_append]; omega
              -- what follows J
              obtain ⟨J2, hJ2⟩ : ∃ J2, J2 = J ++ (if i = 0 then [] else [32]) := ⟨_, rfl⟩
              have hs3 : Hid (J2 ++ wrF ⟨ft, fc, fq⟩ = acc ++ wrJ (fs.take (i + 1))) := Lib.hid (by
                have : (if fs.take i = [] then ([] : List UInt8) else [32]) = (if i = 0 then [] else [32]) := by
                  by_cases h0 : i = 0
                  · subst h0; simp
                  · have hne : fs.take i ≠ [] := fun e => by have := congrArg List.length e; rw [List.length_take, List.length_nil] at this; omega
                    rw [if_neg h0, if_neg hne]
                rw [hJ2, hst.out, hJ.out, this]; simp)
              have hJ2l : J2.length ≤ J.length + 1 := by rw [hJ2, List.length_append]; split <;> simp
              have hi0 : (¬ (0 : Int) < (i : Int) ∧ J2 = J) ∨ ((0 : Int) < (i : Int) ∧ str J ++ (⟨#[32]⟩ : ByteArray) = str J2) := by
                by_cases h0 : i = 0
                · exact Or.inl ⟨by omega, by rw [hJ2, if_pos h0, List.append_nil]⟩
                · exact Or.inr ⟨by omega, by rw [hJ2, if_neg h0]; exact str_app J [32]⟩
              have h3 : (fq = false ∧ wdB ft = true ∧ wrF ⟨ft, fc, fq⟩ = ft) ∨ (fq = false ∧ wdB ft = false ∧ wrF ⟨ft, fc, fq⟩ = 34 :: (dbl ft ++ [34])) ∨ (fq = true ∧ wrF ⟨ft, fc, fq⟩ = 34 :: (dbl ft ++ [34])) := by
                unfold wrF
                cases fq
                · cases hw : wdB ft
                  · exact Or.inr (Or.inl ⟨rfl, rfl, by simp⟩)
                  · exact Or.inl ⟨rfl, rfl, by simp⟩
                · exact Or.inr (Or.inr ⟨rfl, by simp⟩)
              have HWd := Lib.hid (fun w => rwd_any ft w (by omega))
              have HQt : Hid (∀ w, Calls Tryz.prog 44 #[S ft] w fun e w' => e = .returned (S (34 :: (dbl ft ++ [34]))) ∧ w' = w) := Lib.hid (fun w => (rquote_any ft w (by omega)).mono fun e w' ⟨h1, h2⟩ => ⟨h1, h2.symm⟩)
              have zf := str_size ft
              have zJ2 := str_size J2
              clear hJ2 hst x0 x1 x2 hrm
              generalize wrF ⟨ft, fc, fq⟩ = F at *
              have zF := str_size F
              rcases hi0 with ⟨hi0, rfl⟩ | ⟨hi0, hy⟩
              all_goals
                rcases h3 with ⟨rfl, hw, rfl⟩ | ⟨rfl, hw, hF⟩ | ⟨rfl, hF⟩
              all_goals
                (try rw [hw] at HWd)
                (try rw [← hF] at HQt)
                (try clear hF)
                (try clear hw)
                go_wp2_with (first
                  | (go_at_call 43; ((with_reducible refine (HWd.out _).mono ?_); rintro e w' ⟨rfl, rfl⟩))
                  | (go_at_call 44; ((with_reducible refine (HQt.out _).mono ?_); rintro e w' ⟨rfl, rfl⟩)))
                exact ⟨⟨i + 1, _, by omega, by go_num, congrArg Value.string (str_app _ _), hs3, Lib.hid (hXi.out.alloc _), Lib.hid (by (repeat' (first | (with_reducible exact Below.refl _ _) | (with_reducible refine Below.setCell ?_ ?_ _) | (with_reducible refine Below.alloc ?_ ?_ _) | (with_reducible refine Below.drew ?_) | (with_reducible refine belowN ?_ _) | (with_reducible refine below_step ?_ ?_ (by with_reducible assumption)) | go_size)))⟩, by simp [intOf]; omega⟩
            · have ht : fs.take i = fs := List.take_of_length_le (by omega)
              rw [ht] at hJ
              have hJl : J.length = acc.length + (wrJ fs).length := by rw [hJ.out, List.length_append]
              have HY : Hid (str J ++ (⟨#[10]⟩ : ByteArray) = str (J ++ [10])) := Lib.hid (str_app J [10])
              have g1 : wr.cell? ⟨gx, 1, none⟩ = some (.slice (some ⟨gf, of_, none⟩) fs.length cf) := hXi.out.cell 1
              have hf0 : (0 : Int) < (fs.length : Int) := by omega
              have hJ2 : J.length ≤ 70368744177664 := by omega
              clear hJl
              go_wp2
              exact ⟨⟨k + 1, J ++ [10], by omega, by go_num, congrArg Value.string HY.out, Lib.hid (by rw [← hs2.out, hJ.out]), hbi⟩, by simp [intOf]; omega⟩
      · have ht : ls.take k = ls := List.take_of_length_le (by omega)
        rw [ht] at hacc
        go_wp2
        go_ret
        rw [hacc.out]
        exact ⟨rfl, hbw2⟩
end Go.Proofs.YtjdldofgkhibnaaGreatDoor
