/- Each word stands at its column, each quoted string begins there, only white space lies between the fields: TextColumns returns true for every input, and old memory is as it was. Condition: the listed variables of the library are as the program's text lays them (the card ties them). -/
import Derived.Test.YtjekflpogafodaaDoorTxK
import Derived.Test.YtjekflpogafodaaDoorTxN
import Derived.Test.YtjekflpogafodaaDoorTxSplits
set_option linter.unusedSimpArgs false
set_option linter.unusedVariables false
namespace Go.Proofs.YtjekflpogafodaaDoor
open Go.ChangeShapes Go.WideShapes Go.ChangeAt Go.RowKit Go.Joins

def IC (xs : List Nat) : List Value := xs.map fun (x : Nat) => .int .i64 (x : Int)
theorem IC_length (xs : List Nat) : (IC xs).length = xs.length := by simp [IC]
def OwnI (w : World) (b : Nat) (v : Value) (xs : List Nat) : Prop := w.ownsRow b 3 1 v xs.length (IC xs)
theorem infoI : (Tryd.prog.info? 3).map (fun i => (i.zero, i.size, i.bytes)) = some (some (.int .i64 0), 1, 8) := by kernel_rfl
theorem ownI_built (w : World) (x : Nat) (b : Nat) (hb : b ≤ w.heap.size) : OwnI (w.alloc (.cells #[.int .i64 (x : Int)] 3)) b (.slice (some ⟨w.heap.size, 0, none⟩) 1 1) [x] := by
  have h := Row.new w 3 [.int .i64 (x : Int)]
  exact ⟨by simp [IC], Or.inr ⟨w.heap.size, 1, #[.int .i64 (x : Int)], rfl, hb, h, Nat.le_refl _, by unfold maxLen; omega, by simp, by simp [IC]⟩⟩
theorem ownI_at {w : World} {b g n cap : Nat} {xs : List Nat} (h : OwnI w b (.slice (some ⟨g, 0, none⟩) n cap) xs) (hn : n = xs.length) (k x : Nat) (hx : xs[k]? = some x) : w.cell? ⟨g, k, none⟩ = some (.int .i64 (x : Int)) := by
  subst hn
  exact own_cells h k _ (by simp [IC, hx])
theorem cols_line (l : List UInt8) (h : l.length ≤ 262144) (k : Nat) (x : Lin) (hx : (spL l)[k]? = some x) :
    ∃ (j s : Nat) (p : List UInt8), (0 :: nls 0 l)[j]? = some s ∧ x.num = (j : Int) + 1 ∧ s + p.length ≤ l.length ∧ (l.drop s).take p.length = p ∧ Fit p 0 x.flds ∧ x.flds ≠ [] := by
  unfold spL at hx
  rw [if_neg (by omega)] at hx
  obtain ⟨j, p, h1, h2, h3, h4, h5⟩ := linesF_at _ _ _ _ hx
  have hj := (List.getElem?_eq_some_iff.1 h1).1
  have hs : (sts 0 (pcs l))[j]? = some ((sts 0 (pcs l))[j]'(by rw [sts_length]; exact hj)) := List.getElem?_eq_getElem _
  obtain ⟨s1, s2, s3⟩ := sts_at l 0 j p _ h1 hs
  refine ⟨j, _, p, ?_, by rw [h2]; omega, s2, s3, by rw [h3]; exact lin_fit p h4 h5, by rw [h3]; exact h5⟩
  rw [← sts_pcs]
  exact hs
set_option maxRecDepth 100000 in
set_option maxHeartbeats 8000000 in
theorem textColumns_walk (s : ByteArray) (w : World) (hs : s.size ≤ maxLen) (henv : Env w) :
    Calls Tryd.prog 7 #[.string s] w fun e w' => e = .returned (.bool true) ∧ Below w.heap.size w w' := by
  have hA := Lib.hid awake_any
  have HE := Lib.hid henv
  obtain ⟨i0, qi, qz0, qz1, qz2⟩ := info_parts infoI
  by_cases h2 : 500 < s.size
  · have z2 : (500 : Int) < (s.size : Int) := by omega
    clear h2 hs henv qi
    go_enter Tryd.func7, Tryd.ntmps7
    go_wp2_with (go_at_call 8; (with_reducible refine (hA.out _ ?_).mono ?_); (focus (exact HE.out.stays (by (repeat' (first | (with_reducible exact Below.refl _ _) | (with_reducible refine Below.setCell ?_ ?_ _) | (with_reducible refine Below.alloc ?_ ?_ _) | (with_reducible refine Below.drew ?_) | (with_reducible refine belowN ?_ _) | (with_reducible refine below_step ?_ ?_ (by with_reducible assumption)) | go_size))))); rintro e w1 ⟨rfl, hb1⟩; have hz1 := hb1.size; (try simp only [World.size_alloc, World.size_setCell, World.size_drew, size_drewN'] at hz1))
    go_ret
    exact ⟨rfl, by (repeat' (first | (with_reducible exact Below.refl _ _) | (with_reducible refine Below.setCell ?_ ?_ _) | (with_reducible refine Below.alloc ?_ ?_ _) | (with_reducible refine Below.drew ?_) | (with_reducible refine belowN ?_ _) | (with_reducible refine below_step ?_ ?_ (by with_reducible assumption)) | go_size))⟩
  · obtain ⟨l, rfl⟩ : ∃ l, s = str l := ⟨s.data.toList, (str_of s).symm⟩
    rw [str_size] at h2
    have z := str_size l
    have z2 : ¬ (500 : Int) < ((str l).size : Int) := by omega
    clear hs henv
    go_enter Tryd.func7, Tryd.ntmps7
    go_wp2_with (go_at_call 8; (with_reducible refine (hA.out _ ?_).mono ?_); (focus (exact HE.out.stays (by (repeat' (first | (with_reducible exact Below.refl _ _) | (with_reducible refine Below.setCell ?_ ?_ _) | (with_reducible refine Below.alloc ?_ ?_ _) | (with_reducible refine Below.drew ?_) | (with_reducible refine belowN ?_ _) | (with_reducible refine below_step ?_ ?_ (by with_reducible assumption)) | go_size))))); rintro e w1 ⟨rfl, hb1⟩; have hz1 := hb1.size; (try simp only [World.size_alloc, World.size_setCell, World.size_drew, size_drewN'] at hz1))
    go_loopw [3, 23] (fun v t wr => ∃ k : Nat, k ≤ l.length ∧ t = .int .i64 (k : Int) ∧ Hid (OwnI wr w.heap.size v (0 :: nls 0 (l.take k))) ∧ Hid (Below w.heap.size w wr)) (fun _ t _ => l.length - (intOf t).toNat)
    case atStart => exact ⟨0, Nat.zero_le _, rfl, Lib.hid (ownI_built w1 0 _ hz1), Lib.hid (by (repeat' (first | (with_reducible exact Below.refl _ _) | (with_reducible refine Below.setCell ?_ ?_ _) | (with_reducible refine Below.alloc ?_ ?_ _) | (with_reducible refine Below.drew ?_) | (with_reducible refine belowN ?_ _) | (with_reducible refine below_step ?_ ?_ (by with_reducible assumption)) | go_size)))⟩
    case round =>
      obtain ⟨k, hk, rfl, hown, hbw⟩ := hrel
      by_cases hlt : k < l.length
      · have hlt2 : k < (str l).size := by omega
        have hg := str_get l k hlt2 hlt
        have ht : l.take (k + 1) = l.take k ++ [l[k]] := List.take_succ_eq_append_getElem hlt
        have hnl := nls_length (l.take k) 0
        have htl : (l.take k).length = k := by simp; omega
        by_cases h10 : l[k].toNat = 10
        · have k1 : ((((str l)[k]'hlt2).toNat : Int) == 10) = true := by rw [hg]; exact beq_iff_eq.2 (by omega)
          have en : Hid (nls 0 (l.take (k + 1)) = nls 0 (l.take k) ++ [k + 1]) := Lib.hid (by rw [ht, nls_app, if_pos h10, htl, Nat.zero_add])
          have hO := hown
          have hzr := hbw.out.size
          clear hg h10 ht
          generalize nls 0 (l.take k) = xs at *
          go_wp2_with (at_builtin; (refine wpList_append_own_at _ rfl _ _ 45 rfl w.heap.size 3 i0 _ 1 8 Tryd.underlying45 qi qz0 qz1 qz2 rfl (by omega) _ (0 :: xs).length (IC (0 :: xs)) rfl (own_below hO.out (by (repeat' (first | (with_reducible exact Below.refl _ _) | (with_reducible refine Below.setCell ?_ ?_ _) | (with_reducible refine Below.alloc ?_ ?_ _) | (with_reducible refine Below.drew ?_) | (with_reducible refine belowN ?_ _) | (with_reducible refine below_step ?_ ?_ (by with_reducible assumption)) | go_size)))) _ 1 1 [.int .i64 ((k : Int) + 1)] rfl rfl (cells_at _ [.int .i64 ((k : Int) + 1)] 3 _ (by first | rfl | simp only [World.size_alloc] | go_size)) (by intro u hu; simp at hu; subst hu; rfl) (by unfold maxLen; simp; omega) (by simp; omega) (by go_size) ?_))
          intro v5 w5 hown5 hgrow5 _ _
          go_wp2
          have HB5 := Lib.hid ((Below.alloc hbw.out hzr (.cells #[.int .i64 ((k : Int) + 1)] 3)).grown hgrow5 (by simp only [World.size_alloc]; omega) (fun k hk => (World.ownsRow.lt hO.out k hk).1))
          exact ⟨⟨k + 1, by omega, by go_num, Lib.hid (by rw [en.out]; have e : IC (0 :: (xs ++ [k + 1])) = IC (0 :: xs) ++ [.int .i64 ((k : Int) + 1)] := (by simp [IC]); unfold OwnI; rw [e]; simpa using hown5), HB5⟩, by simp [intOf]; omega⟩
        · have k1 : ((((str l)[k]'hlt2).toNat : Int) == 10) = false := by rw [hg]; exact beq_eq_false_iff_ne.2 (by omega)
          have en : Hid (nls 0 (l.take (k + 1)) = nls 0 (l.take k)) := Lib.hid (by rw [ht, nls_app, if_neg h10, List.append_nil])
          clear hg h10 ht
          go_wp2
          exact ⟨⟨k + 1, by omega, by go_num, by rw [en.out]; exact hown, hbw⟩, by simp [intOf]; omega⟩
      · have ht : l.take k = l := List.take_of_length_le (by omega)
        rw [ht] at hown
        have hlen := nls_length l 0
        have HCL := Lib.hid (cols_line l (by omega))
        have HFL := Lib.hid (spL_flds l)
        have n1 := spL_len l
        have HP : Hid (∀ w, Env w → Calls Tryd.prog 9 #[S l] w (SpPost l w)) := Lib.hid (fun w h => split_any l w (by omega) h)
        have hbw2 := hbw.out
        have hzr := hbw2.size
        unfold SpPost at HP
        generalize spL l = LL at *
        obtain ⟨ST, hST⟩ : ∃ ST, ST = 0 :: nls 0 l := ⟨_, rfl⟩
        rw [← hST] at hown HCL
        have hsl : 0 < ST.length ∧ ST.length ≤ l.length + 1 := by rw [hST]; simp; omega
        clear hST hlen ht
        rcases own_form hown.out with ⟨h0, _⟩ | ⟨gs, cs, rfl, gs1, gs2, gs3, gs4⟩
        · omega
        go_wp2_with fail
        refine (HP.out _ (HE.out.stays hbw2)).mono ?_
        rintro e w2 ⟨vL, vD, rfl, hL, hD, hb2⟩
        have hz2 := hb2.size; (try simp only [World.size_alloc, World.size_setCell, World.size_drew, size_drewN'] at hz2)
        have HO2 : Hid (OwnI w2 w.heap.size (.slice (some ⟨gs, 0, none⟩) ST.length cs) ST) := Lib.hid (own_below hown.out hb2)
        have HL := Lib.hid hL
        clear hD
        obtain ⟨vs, q1, q2, q3⟩ := hL
        rcases own_form q2 with ⟨hn0, rfl⟩ | ⟨gL, cL, rfl, gL1, gL2, gL3, gL4⟩
        · clear q1 q2 q3 vs hn0
          go_wp2
          go_loopw [43] (fun t wr => t = .int .i64 0 ∧ Hid (Below w2.heap.size w2 wr)) (fun t _ => 0)
          case atStart => exact ⟨rfl, Lib.hid (Below.refl _ _)⟩
          case round =>
            obtain ⟨rfl, hbq⟩ := hrel
            have hbq2 := hbq.out
            go_wp2
            go_ret
            exact ⟨rfl, by (repeat' (first | (with_reducible exact Below.refl _ _) | (with_reducible refine Below.setCell ?_ ?_ _) | (with_reducible refine Below.alloc ?_ ?_ _) | (with_reducible refine Below.drew ?_) | (with_reducible refine belowN ?_ _) | (with_reducible refine below_step ?_ ?_ (by with_reducible assumption)) | go_size))⟩
        · clear q1 q2 q3 vs
          go_wp2
          go_loopw [43] (fun t wr => ∃ k : Nat, k ≤ LL.length ∧ t = .int .i64 (k : Int) ∧ Hid (Below w2.heap.size w2 wr)) (fun t _ => LL.length - (intOf t).toNat)
          case atStart => exact ⟨0, Nat.zero_le _, rfl, Lib.hid (Below.refl _ _)⟩
          case round =>
            obtain ⟨k2, hk2, rfl, hbq⟩ := hrel
            have hbq2 := hbq.out
            have hzq := hbq2.size
            by_cases hlt : k2 < LL.length
            · obtain ⟨u, c0, c1, c2⟩ := ownL_at (HL.out.below hbq2) k2 LL[k2] (List.getElem?_eq_getElem hlt)
              have hfl := HFL.out LL[k2] (List.getElem_mem hlt)
              obtain ⟨j, s, p, hj, hnum, hsp, hpart, hfit, hne⟩ := HCL.out k2 LL[k2] (List.getElem?_eq_getElem hlt)
              generalize LL[k2] = x at *
              obtain ⟨xn, fs⟩ := x
              simp only at c0 c1 c2 hfl hnum hfit hne
              subst hnum
              have hj1 := (List.getElem?_eq_some_iff.1 hj).1
              have hsj := ownI_at (own_below HO2.out hbq2) rfl j s hj
              have hfp : 0 < fs.length := by cases fs with | nil => exact absurd rfl hne | cons _ _ => simp
              rcases own_form c2 with ⟨h0, _⟩ | ⟨pf, cf, rfl, pf1, pf2, pf3, pf4⟩
              · omega
              have C2 := Lib.hid c2
              have HF := Lib.hid hfit
              have HPT := Lib.hid hpart
              have hgs : gs < wr.heap.size := by omega
              have hpf : pf < wr.heap.size := by omega
              have hj0 : ¬ ((j : Int) + 1 < 1) := by omega
              have hj2 : ¬ ((ST.length : Int) < (j : Int) + 1) := by omega
              have hf0 : ((fs.length : Int) == 0) = false := beq_eq_false_iff_ne.2 (by omega)
              have HJ := Lib.hid hj
              clear c2 hfit hpart hne hj
              go_wp2
              have HX := Lib.hid (Row.new wr 38 [.int .i64 ((j : Int) + 1), .slice (some ⟨pf, 0, none⟩) fs.length cf])
              have HB0 : Hid (Below w2.heap.size w2 (wr.alloc (.cells #[.int .i64 ((j : Int) + 1), .slice (some ⟨pf, 0, none⟩) fs.length cf] 38))) := Lib.hid (Below.alloc hbq2 hzq _)
              have HB1 : Below wr.heap.size wr (wr.alloc (.cells #[.int .i64 ((j : Int) + 1), .slice (some ⟨pf, 0, none⟩) fs.length cf] 38)) := Below.alloc (Below.refl _ _) (Nat.le_refl _) _
              have HC3 := Lib.hid (own_below C2.out HB1)
              have hgx : wr.heap.size < (wr.alloc (.cells #[.int .i64 ((j : Int) + 1), .slice (some ⟨pf, 0, none⟩) fs.length cf] 38)).heap.size := by simp only [World.size_alloc]; omega
              change Hid (Row (wr.alloc (.cells #[.int .i64 ((j : Int) + 1), .slice (some ⟨pf, 0, none⟩) fs.length cf] 38)) _ _ _) at HX
              clear hsj c0 c1 HB1 C2
              generalize wr.alloc (.cells #[.int .i64 ((j : Int) + 1), .slice (some ⟨pf, 0, none⟩) fs.length cf] 38) = W0 at *
              generalize wr.heap.size = gx at *
              go_loopw [9, 72] (fun v t wr => ∃ (i E : Nat), i ≤ fs.length ∧ t = .int .i64 (i : Int) ∧ v = .int .i64 (E : Int) ∧ Hid (∃ e, E = s + e ∧ Fit p e (fs.drop i)) ∧ Hid (Below W0.heap.size W0 wr)) (fun _ t _ => fs.length - (intOf t).toNat)
              case atStart => exact ⟨0, s, Nat.zero_le _, rfl, rfl, Lib.hid ⟨0, rfl, HF.out⟩, Lib.hid (Below.refl _ _)⟩
              case round =>
                obtain ⟨i, E, hi, rfl, rfl, hfit, hbx⟩ := hrel
                have hbx2 := hbx.out
                have hzx := hbx2.size
                by_cases hil : i < fs.length
                · obtain ⟨x0, x1, x2⟩ := ownF_at (D := fs) (own_below HC3.out hbx2) i fs[i] (List.getElem?_eq_getElem hil)
                  obtain ⟨e, hE, hf⟩ := hfit.out
                  rw [List.drop_eq_getElem_cons hil] at hf
                  obtain ⟨a, a1, a2, a3, a4, a5, a6, a7⟩ := hf
                  generalize fs[i] = f at *
                  obtain ⟨ft, fc, fq⟩ := f
                  simp only at x0 x1 x2 a3 a6
                  obtain ⟨V, hV⟩ : ∃ V, V = wrt ⟨ft, fc, fq⟩ := ⟨_, rfl⟩
                  rw [← hV] at a4 a5 a7
                  obtain ⟨A, hA0⟩ : ∃ A : Nat, A = s + a := ⟨_, rfl⟩
                  have hat : (s : Int) + fc - 1 = (A : Int) := by omega
                  have hfc : 1 ≤ fc ∧ fc ≤ 1001 := by omega
                  have hEA : ¬ ((A : Int) < (E : Int)) := by omega
                  have hAl : A + V.length ≤ l.length := by omega
                  have hs5 : s ≤ 500 := by omega
                  have hE5 : E ≤ A := by omega
                  have HXs : Hid ((str l).extract A (A + V.length) = str V) := Lib.hid (by rw [str_ext, hA0, show s + a + V.length - (s + a) = V.length by omega, part l p s a V.length HPT.out a4, a5])
                  have HFit : Hid (∃ e', A + V.length = s + e' ∧ Fit p e' (fs.drop (i + 1))) := Lib.hid ⟨a + V.length, by omega, a7⟩
                  have HWh : Hid (∀ t, E ≤ t → t < A → ∃ h : t < l.length, wht l[t] = true) := Lib.hid (fun t h1 h2 => by
                    obtain ⟨q1, q2⟩ := a2 (t - s) (by omega) (by omega)
                    have hl : s + (t - s) < l.length := by omega
                    have := part_at l p s (t - s) HPT.out q1 hl
                    have e0 : s + (t - s) = t := by omega
                    simp only [e0] at this
                    exact ⟨by omega, by rw [this]; exact q2⟩)
                  have HV := Lib.hid hV
                  have hrx := Lib.hid (HX.out.below hbx2 hgx)
                  have g0 : wr.cell? ⟨gx, 0, none⟩ = some (.int .i64 ((j : Int) + 1)) := hrx.out.cell 0
                  have hsj := ownI_at (own_below (own_below HO2.out HB0.out) hbx2) rfl j s HJ.out
                  have l1 : gs < wr.heap.size := by omega
                  have l2 : pf < wr.heap.size := by omega
                  have l3 : gx < wr.heap.size := by omega
                  clear hV a1 a2 a3 a4 a5 a7 hA0 hE hfit
                  go_wp2
                  go_quiet (fail)
                  go_wp2
                  have HR5 := Lib.hid ((Row.new wr 35 [S ft, .int .i64 fc, .bool fq]).drewN nq)
                  have HB5 : Hid (Below W0.heap.size W0 ((wr.alloc (.cells #[S ft, .int .i64 fc, .bool fq] 35)).drewN nq)) := Lib.hid (by (repeat' (first | (with_reducible exact Below.refl _ _) | (with_reducible refine Below.setCell ?_ ?_ _) | (with_reducible refine Below.alloc ?_ ?_ _) | (with_reducible refine Below.drew ?_) | (with_reducible refine belowN ?_ _) | (with_reducible refine below_step ?_ ?_ (by with_reducible assumption)) | go_size)))
                  have hz5 : wr.heap.size < ((wr.alloc (.cells #[S ft, .int .i64 fc, .bool fq] 35)).drewN nq).heap.size := by rw [size_drewN']; simp only [World.size_alloc]; omega
                  change Hid (Row ((wr.alloc (.cells #[S ft, .int .i64 fc, .bool fq] 35)).drewN nq) _ _ _) at HR5
                  clear x0 x1 x2 g0 hsj hrx l1 l2 l3
                  generalize (wr.alloc (.cells #[S ft, .int .i64 fc, .bool fq] 35)).drewN nq = W5 at *
                  go_loop [13] (fun t => ∃ m : Nat, E ≤ m ∧ m ≤ A ∧ t = .int .i64 (m : Int)) (fun t => A - (intOf t).toNat)
                  case atStart => exact ⟨E, Nat.le_refl _, hE5, rfl⟩
                  case round =>
                    obtain ⟨m, hm1, hm2, rfl⟩ := hrel
                    by_cases hmA : m < A
                    · obtain ⟨q1, q2⟩ := HWh.out m hm1 hmA
                      have q3 : m < (str l).size := by omega
                      have hg := str_get l m q3 q1
                      rw [wht_iff] at q2
                      rcases q2 with q2 | q2
                      · have k1 : ((((str l)[m]'q3).toNat : Int) == 32) = false := by rw [hg]; exact beq_eq_false_iff_ne.2 (by omega)
                        have k2 : ((((str l)[m]'q3).toNat : Int) == 9) = true := by rw [hg]; exact beq_iff_eq.2 (by omega)
                        have k3 : ((((str l)[m]'q3).toNat : Int) != 32) = true := by simp only [bne, k1]; rfl
                        have k4 : ((((str l)[m]'q3).toNat : Int) != 9) = false := by simp only [bne, k2]; rfl
                        clear hg q2
                        go_wp2
                        go_round
                        case rel => exact ⟨m + 1, by omega, by omega, by go_num⟩
                        case measure => simp [intOf]; omega
                      · have k1 : ((((str l)[m]'q3).toNat : Int) == 32) = true := by rw [hg]; exact beq_iff_eq.2 (by omega)
                        have k3 : ((((str l)[m]'q3).toNat : Int) != 32) = false := by simp only [bne, k1]; rfl
                        clear hg q2
                        go_wp2
                        go_round
                        case rel => exact ⟨m + 1, by omega, by omega, by go_num⟩
                        case measure => simp [intOf]; omega
                    · have t0 : W5.cell? ⟨wr.heap.size, 0, none⟩ = some (S ft) := HR5.out.cell 0
                      have t2 : W5.cell? ⟨wr.heap.size, 2, none⟩ = some (.bool fq) := HR5.out.cell 2
                      have zV := str_size V
                      have hx := HXs.out
                      have hbel := HB5.out
                      have hzW := hbel.size
                      cases fq
                      · have hVf : V = ft := HV.out
                        subst hVf
                        go_wp2
                        exact ⟨⟨i + 1, A + V.length, by omega, by go_num, by go_num, HFit, HB5⟩, by simp [intOf]; omega⟩
                      · have HQ : Hid (∀ w, Env w → Calls Tryd.prog 17 #[S ft] w fun e w' => e = .returned (S V) ∧ Below w.heap.size w w') := Lib.hid (fun w h => by rw [HV.out]; exact quote_any ft w (by omega) h)
                        have HBA : Hid (Below w.heap.size w W5) := Lib.hid (by have h0 := HB0.out; have h0z := h0.size; (repeat' (first | (with_reducible exact Below.refl _ _) | (with_reducible refine Below.setCell ?_ ?_ _) | (with_reducible refine Below.alloc ?_ ?_ _) | (with_reducible refine Below.drew ?_) | (with_reducible refine belowN ?_ _) | (with_reducible refine below_step ?_ ?_ (by with_reducible assumption)) | go_size)))
                        go_wp2_with fail
                        refine (HQ.out _ (HE.out.stays HBA.out)).mono ?_
                        rintro e6 w6 ⟨rfl, hb6⟩
                        have hz6 := hb6.size; (try simp only [World.size_alloc, World.size_setCell, World.size_drew, size_drewN'] at hz6)
                        go_wp2
                        exact ⟨⟨i + 1, A + V.length, by omega, by go_num, by go_num, HFit, Lib.hid (below_step hbel hzW hb6)⟩, by simp [intOf]; omega⟩
                · go_wp2
                  exact ⟨⟨k2 + 1, by omega, by go_num, Lib.hid (below_step HB0.out HB0.out.size hbx2)⟩, by simp [intOf]; omega⟩
            · go_wp2
              go_ret
              exact ⟨rfl, by (repeat' (first | (with_reducible exact Below.refl _ _) | (with_reducible refine Below.setCell ?_ ?_ _) | (with_reducible refine Below.alloc ?_ ?_ _) | (with_reducible refine Below.drew ?_) | (with_reducible refine belowN ?_ _) | (with_reducible refine below_step ?_ ?_ (by with_reducible assumption)) | go_size))⟩

set_option maxRecDepth 100000 in
theorem textColumns_lifted (os : Os) (started : os.Started) (H : Type) (enc : TypeId × Value → H) :
    ReturnsInHanded {} Tryd.checked os 7 .any (fun w args => (Rows.textColumnsSpec.pre enc Tryd.prog Tryd.f7 [] false w args ∧ laidMetH Tryd.prog laidA w) ∧ sizedMet enc Tryd.prog Tryd.f7 (OpenSpec.ofChange Rows.textColumnsSpec) false w args)
      (Rows.textColumnsSpec.post enc Tryd.prog Tryd.f7 false true false false) := by
  refine law_lift (C := Tryd.checked) (X := fun w _ => laidMetH Tryd.prog laidA w) (tb := 4) (fun _ _ _ hh h => h.of_heap hh) own started (by kernel_rfl) Tryd.func7 laidOut
    (by rw [Tryd.params7]; intro t ht; simp at ht; (try subst ht) <;> (try (rcases ht with rfl | rfl)) <;> exact ⟨by kernel_rfl, of_decide_eq_true (by kernel_rfl)⟩) rfl (by kernel_rfl) Tryd.underlying4
    (ChangeSpec.witness_shaped (enc := enc) (C := Tryd.checked) (os := os) (X := fun w _ => laidMetH Tryd.prog laidA w) false (World.laidAll Tryd.prog os laidA) #[.string ⟨#[]⟩] 8 rfl (laidA_shaped os) (by kernel_rfl) (by kernel_rfl) (by kernel_rfl) (laidA_met os _)) ?_
  intro WW base args ds gs p hval hA hreach hL hS
  rw [Tryd.params7] at hA hval
  obtain ⟨v0, vs0, d0, ds0, p0, q0, hargs, rfl, rfl, h0, r0⟩ := trodAll_cons hA
  obtain ⟨rfl, rfl, rfl⟩ := trodAll_nil r0
  obtain rfl : args = #[v0] := by cases args; simp_all
  obtain ⟨a0, rfl, g0⟩ := open_str (hval 0 _ v0 rfl rfl) h0
  exact ⟨rfl, textColumns_walk a0 WW g0 (env_of_laid hL hS)⟩

theorem textColumns_holds : Rows.TextColumnsSaid :=
  OpenClaim.holds_of_wide 7 Tryd.f7 rfl rfl rfl rfl rfl rfl rfl ⟨rfl, rfl, rfl, rfl, rfl⟩ rfl rfl rfl rfl rfl (by kernel_rfl) Tryd.func7 (by kernel_rfl)
    (of_decide_eq_true (by kernel_rfl)) (by unfold Func.isWrapper; first | (rw [if_pos (by decide +kernel)]; kernel_rfl) | (rw [if_neg (by decide +kernel)]; exact ⟨rfl, rfl⟩))
    (fun os started H enc _ => textColumns_lifted os started H enc)

theorem textColumns_card : Rows.TextColumnsCardSaid :=
  Claim7.holds_tied_plain_at .later [] [.data, .data, .data, .data, .sentinel, .sentinel, .pinned] true Rows.textColumnsCard.stood.harness Rows.textColumnsCard.stood.looks
    textColumns_holds (fun _ h => by cases h) (by kernel_rfl) (fun _ h => by cases h) textColumns_row_tie rfl ⟨rfl, rfl⟩ (by kernel_rfl) rfl
    (fun f fn hf hfn => by
      obtain rfl : f = 7 := Option.some.inj ((show Tryd.prog.funcNamed "scorebook/scorebooklaw03.TextColumns" = some 7 by kernel_rfl).symm.trans hf) |>.symm
      obtain rfl : fn = Tryd.f7 := (Option.some.inj (Tryd.func7.symm.trans hfn)).symm
      exact ⟨by kernel_rfl, fun j t ht => by
        rw [Tryd.params7] at ht
        have hm : t ∈ [9] := by simpa using Array.mem_of_getElem? ht
        have hall : ([9].all fun u => !Tryd.prog.wantsStandIn u) = true := by kernel_rfl
        exact (show Tryd.prog.wantsStandIn t = false by simpa using List.all_eq_true.1 hall t hm)⟩)
    (by kernel_rfl)
#print axioms textColumns_card

end Go.Proofs.YtjekflpogafodaaDoor
