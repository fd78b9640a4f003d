/- Contract of the program's Write. -/
import Derived.Test.YtjdldofgkhibnaaGreatDoorWri
set_option linter.unusedSimpArgs false
set_option linter.unusedVariables false
namespace Go.Proofs.YtjdldofgkhibnaaGreatDoor
open Go.RowKit

set_option maxRecDepth 100000 in
set_option maxHeartbeats 8000000 in
theorem write_any (ls : List Lin) (v : Value) (w : World) (h : RdL w v ls) (hf : Fine ls) (henv : Env w) :
    Calls Tryz.prog 18 #[v] w fun e w' => e = .returned (S (wrA ls)) ∧ Below w.heap.size w w' := by
  have HE := Lib.hid henv
  have HFine := Lib.hid hf
  have HSt : Hid (∀ (l : List UInt8) (W : World), Bld w.heap.size w.heap.size (Lib.byteCells l) W → w.heap.size ≤ W.heap.size → Calls Tryz.prog 39 #[.pointer (some ⟨w.heap.size, 0, none⟩)] W fun e w' => e = .returned (S l) ∧ Below w.heap.size W w') := Lib.hid (fun l W h1 h2 => bstr_any _ _ l W h1 h2)
  have HWB : Hid (∀ (l : List UInt8) (W : World), Bld w.heap.size w.heap.size (Lib.byteCells l) W → l.length + 1 ≤ 140737488355328 → w.heap.size ≤ W.heap.size → Calls Tryz.prog 36 #[.pointer (some ⟨w.heap.size, 0, none⟩), .int .u8 32] W fun e w' => e = .returned .nilIface ∧ (Bld w.heap.size w.heap.size (Lib.byteCells (l ++ [32])) w' ∧ Below w.heap.size W w' ∧ Frm W w')) := Lib.hid (fun l W h1 h2 h3 => wbyte_list _ _ l 32 W h1 h2 h3)
  have HWN : Hid (∀ (l : List UInt8) (W : World), Bld w.heap.size w.heap.size (Lib.byteCells l) W → l.length + 1 ≤ 140737488355328 → w.heap.size ≤ W.heap.size → Calls Tryz.prog 36 #[.pointer (some ⟨w.heap.size, 0, none⟩), .int .u8 10] W fun e w' => e = .returned .nilIface ∧ (Bld w.heap.size w.heap.size (Lib.byteCells (l ++ [10])) w' ∧ Below w.heap.size W w' ∧ Frm W w')) := Lib.hid (fun l W h1 h2 h3 => wbyte_list _ _ l 10 W h1 h2 h3)
  have HWS : Hid (∀ (l m : List UInt8) (W : World), Bld w.heap.size w.heap.size (Lib.byteCells l) W → l.length + m.length ≤ 140737488355328 → w.heap.size ≤ W.heap.size → Calls Tryz.prog 37 #[.pointer (some ⟨w.heap.size, 0, none⟩), S m] W fun e w' => e = .returned (.tuple #[.int .i64 (m.length : Int), .nilIface]) ∧ (Bld w.heap.size w.heap.size (Lib.byteCells (l ++ m)) w' ∧ Below w.heap.size W w' ∧ Frm W w')) := Lib.hid (fun l m W h1 h2 h3 => wstr_list _ _ l m W h1 h2 h3)
  have HN0 := Lib.hid (bld_new w)
  rcases h with ⟨rfl, A, c, rfl⟩ | ⟨hn, g, o, c, rfl, hg, hc1, hc2, hcells⟩
  · clear henv hf HWB HWN HWS
    go_enter Tryz.func18, Tryz.ntmps18
    go_wp2
    go_loopw [10] (fun t wr => t = .int .i64 0 ∧ Hid (Bld w.heap.size w.heap.size (Lib.byteCells []) wr) ∧ Hid (Below w.heap.size w wr)) (fun t _ => 0)
    case atStart => exact ⟨rfl, HN0, Lib.hid (by (repeat' (first | (with_reducible exact Below.refl _ _) | (with_reducible refine Below.setCell ?_ ?_ _) | (with_reducible refine Below.alloc ?_ ?_ _) | (with_reducible refine Below.drew ?_) | (with_reducible refine belowN ?_ _) | (with_reducible refine below_step ?_ ?_ (by with_reducible assumption)) | go_size)))⟩
    case round =>
      obtain ⟨rfl, hB, hbw⟩ := hrel
      have hbw2 := hbw.out
      have hz2 := hbw2.size
      go_wp2_with (go_at_call 39; (refine (HSt.out [] _ hB.out hz2).mono ?_); rintro e w' ⟨rfl, hb3⟩)
      go_ret
      exact ⟨rfl, hbw2.trans hb3⟩
  · have HC := Lib.hid hcells
    have hn1 := hf.n
    have hn2 := hf.all
    clear henv hf hcells hn
    go_enter Tryz.func18, Tryz.ntmps18
    go_wp2
    go_loopw [10] (fun t wr => ∃ k : Nat, k ≤ ls.length ∧ t = .int .i64 (k : Int) ∧ Hid (Bld w.heap.size w.heap.size (Lib.byteCells (wrA (ls.take k))) wr) ∧ Hid (Below w.heap.size w wr)) (fun t _ => ls.length - (intOf t).toNat)
    case atStart => exact ⟨0, Nat.zero_le _, rfl, HN0, Lib.hid (by (repeat' (first | (with_reducible exact Below.refl _ _) | (with_reducible refine Below.setCell ?_ ?_ _) | (with_reducible refine Below.alloc ?_ ?_ _) | (with_reducible refine Below.drew ?_) | (with_reducible refine belowN ?_ _) | (with_reducible refine below_step ?_ ?_ (by with_reducible assumption)) | go_size)))⟩
    case round =>
      obtain ⟨k, hk, rfl, hB, hbw⟩ := hrel
      have hbw2 := hbw.out
      have hz2 := hbw2.size
      by_cases hlt : k < ls.length
      · obtain ⟨u, c0, c1, c2⟩ := HC.out k ls[k] (List.getElem?_eq_getElem hlt)
        have d0 := (hbw2.cell (p := ⟨g, o + k * 2, none⟩) hg).trans c0
        have d1 := (hbw2.cell (p := ⟨g, o + k * 2 + 1, none⟩) hg).trans c1
        have hroom := wrA_room ls k hlt
        have hstep := Lib.hid (wrA_take ls k hlt)
        have hfl := HFine.out.flds ls[k] (List.getElem_mem hlt)
        have htx := Lib.hid (HFine.out.text ls[k] (List.getElem_mem hlt))
        have hgw : g < wr.heap.size := by omega
        generalize ls[k] = x at *
        generalize wrA (ls.take k) = acc at *
        obtain ⟨xn, fs⟩ := x
        simp only at d0 c2 hfl htx
        have hwl : wrL ⟨xn, fs⟩ = wrJ fs ++ (if fs = [] then [] else [10]) := rfl
        rw [hwl] at hroom hstep
        clear hwl c0 c1
        rcases c2 with ⟨rfl, A, ca, rfl⟩ | ⟨hne, gf, of_, cf, rfl, hgf, hcf1, hcf2, hfc⟩
        · have hs2 : Hid (wrA (ls.take (k + 1)) = acc) := Lib.hid (by rw [hstep.out]; simp [wrJ])
          clear hroom hstep
          go_wp2
          go_loopw [17] (fun t wq => t = .int .i64 0 ∧ wq = wr.alloc (.cells #[.int .i64 xn, .slice A 0 ca] 43)) (fun t _ => 0)
          case atStart => exact ⟨rfl, rfl⟩
          case round =>
            obtain ⟨rfl, rfl⟩ := hrel
            go_wp2
            exact ⟨⟨k + 1, by omega, by go_num, Lib.hid (by rw [hs2.out]; exact bld_below hB.out (by (repeat' (first | (with_reducible exact Below.refl _ _) | (with_reducible refine Below.setCell ?_ ?_ _) | (with_reducible refine Below.alloc ?_ ?_ _) | (with_reducible refine Below.drew ?_) | (with_reducible refine belowN ?_ _) | (with_reducible refine below_step ?_ ?_ (by with_reducible assumption)) | go_size)))), Lib.hid (by (repeat' (first | (with_reducible exact Below.refl _ _) | (with_reducible refine Below.setCell ?_ ?_ _) | (with_reducible refine Below.alloc ?_ ?_ _) | (with_reducible refine Below.drew ?_) | (with_reducible refine belowN ?_ _) | (with_reducible refine below_step ?_ ?_ (by with_reducible assumption)) | go_size)))⟩, by simp [intOf]; omega⟩
        · have hs2 : Hid (wrA (ls.take (k + 1)) = acc ++ wrJ fs ++ [10]) := Lib.hid (by rw [hstep.out, if_neg hne, List.append_assoc])
          have hr2 : acc.length + (wrJ fs).length + 1 ≤ 70368744177664 := by rw [if_neg hne] at hroom; simp at hroom; omega
          have hfp : 0 < fs.length := by cases fs with | nil => exact absurd rfl hne | cons _ _ => simp
          have HFC := Lib.hid hfc
          have hgfw : gf < wr.heap.size := by omega
          clear hroom hstep hne hfc
          go_wp2
          have HX := Lib.hid (Row.new wr 43 [.int .i64 xn, .slice (some ⟨gf, of_, none⟩) fs.length cf])
          have HB0 : Hid (Bld w.heap.size w.heap.size (Lib.byteCells acc) (wr.alloc (.cells #[.int .i64 xn, .slice (some ⟨gf, of_, none⟩) fs.length cf] 43))) := Lib.hid (bld_below hB.out (by (repeat' (first | (with_reducible exact Below.refl _ _) | (with_reducible refine Below.setCell ?_ ?_ _) | (with_reducible refine Below.alloc ?_ ?_ _) | (with_reducible refine Below.drew ?_) | (with_reducible refine belowN ?_ _) | (with_reducible refine below_step ?_ ?_ (by with_reducible assumption)) | go_size))))
          have HW0 : Hid (Below w.heap.size w (wr.alloc (.cells #[.int .i64 xn, .slice (some ⟨gf, of_, none⟩) fs.length cf] 43))) := Lib.hid (by (repeat' (first | (with_reducible exact Below.refl _ _) | (with_reducible refine Below.setCell ?_ ?_ _) | (with_reducible refine Below.alloc ?_ ?_ _) | (with_reducible refine Below.drew ?_) | (with_reducible refine belowN ?_ _) | (with_reducible refine below_step ?_ ?_ (by with_reducible assumption)) | go_size)))
          change Hid (Row (wr.alloc (.cells #[.int .i64 xn, .slice (some ⟨gf, of_, none⟩) fs.length cf] 43)) _ _ _) at HX
          generalize wr.alloc (.cells #[.int .i64 xn, .slice (some ⟨gf, of_, none⟩) fs.length cf] 43) = W0 at *
          generalize wr.heap.size = gx at *
          go_loopw [17] (fun t wr => ∃ i : Nat, i ≤ fs.length ∧ t = .int .i64 (i : Int) ∧ Hid (Bld w.heap.size w.heap.size (Lib.byteCells (acc ++ wrJ (fs.take i))) wr) ∧ Hid (Row wr gx 43 [.int .i64 xn, .slice (some ⟨gf, of_, none⟩) fs.length cf]) ∧ Hid (Below w.heap.size w wr)) (fun t _ => fs.length - (intOf t).toNat)
          case atStart => exact ⟨0, Nat.zero_le _, rfl, by simpa [wrJ] using HB0, HX, HW0⟩
          case round =>
            obtain ⟨i, hi, rfl, hBi, hXi, hbi⟩ := hrel
            have hbi2 := hbi.out
            have hzi := hbi2.size
            by_cases hil : i < fs.length
            · obtain ⟨x0, x1, x2⟩ := HFC.out i fs[i] (List.getElem?_eq_getElem hil)
              have y0 := (hbi2.cell (p := ⟨gf, of_ + i * 3, none⟩) hgf).trans x0
              have y1 := (hbi2.cell (p := ⟨gf, of_ + i * 3 + 1, none⟩) hgf).trans x1
              have y2 := (hbi2.cell (p := ⟨gf, of_ + i * 3 + 2, none⟩) hgf).trans x2
              have hrm := wrJ_room fs i hil
              have hfx := htx.out fs[i] (List.getElem_mem hil)
              have hst : Hid (wrJ (fs.take (i + 1)) = wrJ (fs.take i) ++ (if fs.take i = [] then [] else [32]) ++ wrF fs[i]) := Lib.hid (by rw [List.take_succ_eq_append_getElem hil, wrJ_app])
              have hgfi : gf < wr.heap.size := by omega
              generalize fs[i] = f at *
              obtain ⟨ft, fc, fq⟩ := f
              simp only at y0 y1 y2 hfx
              have HWf : Hid (∀ w, Env w → Calls Tryz.prog 38 #[.agg #[S ft, .int .i64 fc, .bool fq]] w fun e w' => e = .returned (S (wrF ⟨ft, fc, fq⟩)) ∧ Below w.heap.size w w') := Lib.hid (fun w h => written_any ⟨ft, fc, fq⟩ w hfx h)
              clear x0 x1 x2
              by_cases h0 : i = 0
              · have hs3 : Hid (acc ++ wrJ (fs.take (i + 1)) = acc ++ wrF ⟨ft, fc, fq⟩) := Lib.hid (by rw [hst.out]; subst h0; simp [wrJ])
                have hB2 : Hid (Bld w.heap.size w.heap.size (Lib.byteCells acc) wr) := by subst h0; simpa [wrJ] using hBi
                have hi0 : ¬ (0 : Int) < (i : Int) := by omega
                have hrF : acc.length + (wrF ⟨ft, fc, fq⟩).length ≤ 140737488355328 := by omega
                generalize wrF ⟨ft, fc, fq⟩ = F at *
                clear hst hBi h0 hrm
                go_wp2_with (first
                  | (go_at_call 38; (with_reducible refine (HWf.out _ ?_).mono ?_); (focus (exact HE.out.stays (by (repeat' (first | (with_reducible exact Below.refl _ _) | (with_reducible refine Below.setCell ?_ ?_ _) | (with_reducible refine Below.alloc ?_ ?_ _) | (with_reducible refine Below.drew ?_) | (with_reducible refine belowN ?_ _) | (with_reducible refine below_step ?_ ?_ (by with_reducible assumption)) | go_size))))); rintro e w3 ⟨rfl, hb3⟩; have hz3 := hb3.size; (try simp only [World.size_alloc, World.size_setCell, World.size_drew, size_drewN'] at hz3))
                  | (go_at_call 37; (refine (HWS.out acc F _ (bld_below (bld_below hB2.out (by (repeat' (first | (with_reducible exact Below.refl _ _) | (with_reducible refine Below.setCell ?_ ?_ _) | (with_reducible refine Below.alloc ?_ ?_ _) | (with_reducible refine Below.drew ?_) | (with_reducible refine belowN ?_ _) | (with_reducible refine below_step ?_ ?_ (by with_reducible assumption)) | go_size)))) hb3) hrF (by go_size)).mono ?_); rintro e w4 ⟨rfl, hB4, hb4, hf4⟩))
                exact ⟨⟨i + 1, by omega, by go_num, Lib.hid (by rw [hs3.out]; exact hB4), Lib.hid (hf4 _ _ _ (by decide) (by decide) ((hXi.out.alloc _).below hb3 (by have := hXi.out.lt; go_size))), Lib.hid (Below.trans (by (repeat' (first | (with_reducible exact Below.refl _ _) | (with_reducible refine Below.setCell ?_ ?_ _) | (with_reducible refine Below.alloc ?_ ?_ _) | (with_reducible refine Below.drew ?_) | (with_reducible refine belowN ?_ _) | (with_reducible refine below_step ?_ ?_ (by with_reducible assumption)) | go_size))) hb4)⟩, by simp [intOf]; omega⟩
              · have hs3 : Hid (acc ++ wrJ (fs.take (i + 1)) = acc ++ wrJ (fs.take i) ++ [32] ++ wrF ⟨ft, fc, fq⟩) := Lib.hid (by
                  have hne : fs.take i ≠ [] := fun e => by have := congrArg List.length e; rw [List.length_take, List.length_nil] at this; omega
                  rw [hst.out, if_neg hne]; simp)
                have hi0 : (0 : Int) < (i : Int) := by omega
                have hr5 : (acc ++ wrJ (fs.take i)).length + 1 ≤ 140737488355328 := by rw [List.length_append]; omega
                have hr6 : (acc ++ wrJ (fs.take i) ++ [32]).length + (wrF ⟨ft, fc, fq⟩).length ≤ 140737488355328 := by simp only [List.length_append, List.length_cons, List.length_nil]; omega
                generalize wrF ⟨ft, fc, fq⟩ = F at *
                generalize acc ++ wrJ (fs.take i) = J at *
                have HR4 := Lib.hid (Row.new wr 68 [S ft, .int .i64 fc, .bool fq])
                clear hst h0 hrm
                go_wp2_with (first
                  | (go_at_call 36; (refine (HWB.out J _ (bld_below hBi.out (by (repeat' (first | (with_reducible exact Below.refl _ _) | (with_reducible refine Below.setCell ?_ ?_ _) | (with_reducible refine Below.alloc ?_ ?_ _) | (with_reducible refine Below.drew ?_) | (with_reducible refine belowN ?_ _) | (with_reducible refine below_step ?_ ?_ (by with_reducible assumption)) | go_size)))) hr5 (by go_size)).mono ?_); rintro e w2 ⟨rfl, hB2, hb2, hf2⟩; have hw2 : Below w.heap.size w w2 := Below.trans (by (repeat' (first | (with_reducible exact Below.refl _ _) | (with_reducible refine Below.setCell ?_ ?_ _) | (with_reducible refine Below.alloc ?_ ?_ _) | (with_reducible refine Below.drew ?_) | (with_reducible refine belowN ?_ _) | (with_reducible refine below_step ?_ ?_ (by with_reducible assumption)) | go_size))) hb2; have hzz := hw2.size; have HR5 := hf2 _ _ _ (by decide) (by decide) HR4.out; have m0 : w2.cell? ⟨wr.heap.size, 0, none⟩ = some (S ft) := HR5.cell 0; have m1 : w2.cell? ⟨wr.heap.size, 1, none⟩ = some (.int .i64 fc) := HR5.cell 1; have m2 : w2.cell? ⟨wr.heap.size, 2, none⟩ = some (.bool fq) := HR5.cell 2; have HX5 := Lib.hid (hf2 _ _ _ (by decide) (by decide) (hXi.out.alloc _)); clear HR5)
                  | (go_at_call 38; (with_reducible refine (HWf.out _ ?_).mono ?_); (focus (exact HE.out.stays (by (repeat' (first | (with_reducible exact Below.refl _ _) | (with_reducible refine Below.setCell ?_ ?_ _) | (with_reducible refine Below.alloc ?_ ?_ _) | (with_reducible refine Below.drew ?_) | (with_reducible refine belowN ?_ _) | (with_reducible refine below_step ?_ ?_ (by with_reducible assumption)) | go_size))))); rintro e w3 ⟨rfl, hb3⟩; have hz3 := hb3.size; (try simp only [World.size_alloc, World.size_setCell, World.size_drew, size_drewN'] at hz3))
                  | (go_at_call 37; (refine (HWS.out (J ++ [32]) F _ (bld_below hB2 hb3) hr6 (by go_size)).mono ?_); rintro e w4 ⟨rfl, hB4, hb4, hf4⟩))
                exact ⟨⟨i + 1, by omega, by go_num, Lib.hid (by rw [hs3.out]; exact hB4), Lib.hid (hf4 _ _ _ (by decide) (by decide) (HX5.out.below hb3 HX5.out.lt)), Lib.hid (Below.trans (below_step hw2 hzz hb3) hb4)⟩, by simp [intOf]; omega⟩
            · have ht : fs.take i = fs := List.take_of_length_le (by omega)
              rw [ht] at hBi
              have g1 : wr.cell? ⟨gx, 1, none⟩ = some (.slice (some ⟨gf, of_, none⟩) fs.length cf) := hXi.out.cell 1
              have hf0 : (0 : Int) < (fs.length : Int) := by omega
              go_wp2_with (go_at_call 36; (refine (HWN.out (acc ++ wrJ fs) _ hBi.out (by simp; omega) hzi).mono ?_); rintro e w4 ⟨rfl, hB4, hb4, hf4⟩)
              exact ⟨⟨k + 1, by omega, by go_num, Lib.hid (by rw [hs2.out]; exact hB4), Lib.hid (hbi2.trans hb4)⟩, by simp [intOf]; omega⟩
      · have ht : ls.take k = ls := List.take_of_length_le (by omega)
        rw [ht] at hB
        go_wp2_with (go_at_call 39; (refine (HSt.out (wrA ls) _ hB.out hz2).mono ?_); rintro e w' ⟨rfl, hb3⟩)
        go_ret
        exact ⟨rfl, hbw2.trans hb3⟩
end Go.Proofs.YtjdldofgkhibnaaGreatDoor
