/- The walk of TextWrites, on lines that can be read and are of no great size. -/
import Derived.Test.YtjekflpogafodaaDoorTxK
import Derived.Test.YtjekflpogafodaaDoorTxSplits
import Derived.Test.YtjekflpogafodaaDoorWrl
import Derived.Test.YtjekflpogafodaaDoorWrr
import Derived.Test.YtjekflpogafodaaDoorWrm
set_option linter.unusedSimpArgs false
set_option linter.unusedVariables false
namespace Go.Proofs.YtjekflpogafodaaDoor
open Go.ChangeShapes Go.WideShapes Go.ChangeAt Go.RowKit Go.Joins

theorem fine_split (l : List UInt8) (h : l.length ≤ 1000) : Fine (spL l) := by
  obtain ⟨_, _, h3, h4⟩ := split_back l (by omega)
  refine ⟨by have := spL_len l; omega, by omega, fun x hx => by have := spL_flds l x hx; omega, ?_⟩
  intro x hx f hf
  have hg := h4 x hx
  have h1 : f.text.length ≤ (wrF f).length := by rw [wrF_wrt f (hg.ok f hf)]; exact wrt_text f
  have h2 : (wrF f).length ≤ (wrJ x.flds).length := by
    obtain ⟨k, hk, rfl⟩ := List.getElem_of_mem hf
    have := wrJ_room x.flds k hk
    omega
  have := hg.short
  omega
theorem formL {w : World} {b : Nat} {v : Value} {L : List Lin} (h : OwnL w b v L) : (L.length = 0 ∧ ∃ A c, v = .slice A 0 c) ∨ (0 < L.length ∧ ∃ g cap, v = .slice (some ⟨g, 0, none⟩) L.length cap ∧ g < w.heap.size ∧ L.length ≤ cap ∧ cap ≤ 9223372036854775807) := by
  obtain ⟨vs, q1, q2, q3⟩ := h
  rcases own_form q2 with ⟨h0, rfl⟩ | ⟨g, c, rfl, _, h1, h2, h3⟩
  · exact Or.inl ⟨h0, _, _, rfl⟩
  · by_cases h0 : L.length = 0
    · exact Or.inl ⟨h0, _, _, by rw [h0]⟩
    · exact Or.inr ⟨by omega, g, c, rfl, h1, h2, h3⟩
set_option maxRecDepth 100000 in
set_option maxHeartbeats 8000000 in
theorem textWrites_walkR (s : ByteArray) (raw : List Lin) (v : Value) (w : World) (hs : s.size ≤ maxLen) (hv : ∃ A c, v = .slice A raw.length c) (hr : raw.length ≤ 50 → RdL w v raw ∧ Fine raw) (henv : Env w) :
    Calls Tryd.prog 5 #[.string s, v] w fun e w' => e = .returned (.bool true) ∧ Below w.heap.size w w' := by
  have hA := Lib.hid awake_any
  have HE := Lib.hid henv
  obtain ⟨A, c, rfl⟩ := hv
  by_cases h2 : 1000 < s.size
  · have z2 : (1000 : Int) < (s.size : Int) := by omega
    clear h2 hs henv hr
    go_enter Tryd.func5, Tryd.ntmps5
    go_wp2_with (go_at_call 8; (with_reducible refine (hA.out _ ?_).mono ?_); (focus (exact HE.out.stays (by (repeat' (first | (with_reducible exact Below.refl _ _) | (with_reducible refine Below.setCell ?_ ?_ _) | (with_reducible refine Below.alloc ?_ ?_ _) | (with_reducible refine Below.drew ?_) | (with_reducible refine belowN ?_ _) | (with_reducible refine below_step ?_ ?_ (by with_reducible assumption)) | go_size))))); rintro e w1 ⟨rfl, hb1⟩; have hz1 := hb1.size; (try simp only [World.size_alloc, World.size_setCell, World.size_drew, size_drewN'] at hz1))
    go_ret
    exact ⟨rfl, by (repeat' (first | (with_reducible exact Below.refl _ _) | (with_reducible refine Below.setCell ?_ ?_ _) | (with_reducible refine Below.alloc ?_ ?_ _) | (with_reducible refine Below.drew ?_) | (with_reducible refine belowN ?_ _) | (with_reducible refine below_step ?_ ?_ (by with_reducible assumption)) | go_size))⟩
  by_cases h3 : 50 < raw.length
  · have z2 : ¬ (1000 : Int) < (s.size : Int) := by omega
    have z3 : (50 : Int) < (raw.length : Int) := by omega
    clear h2 hs henv hr
    go_enter Tryd.func5, Tryd.ntmps5
    go_wp2_with (go_at_call 8; (with_reducible refine (hA.out _ ?_).mono ?_); (focus (exact HE.out.stays (by (repeat' (first | (with_reducible exact Below.refl _ _) | (with_reducible refine Below.setCell ?_ ?_ _) | (with_reducible refine Below.alloc ?_ ?_ _) | (with_reducible refine Below.drew ?_) | (with_reducible refine belowN ?_ _) | (with_reducible refine below_step ?_ ?_ (by with_reducible assumption)) | go_size))))); rintro e w1 ⟨rfl, hb1⟩; have hz1 := hb1.size; (try simp only [World.size_alloc, World.size_setCell, World.size_drew, size_drewN'] at hz1))
    go_ret
    exact ⟨rfl, by (repeat' (first | (with_reducible exact Below.refl _ _) | (with_reducible refine Below.setCell ?_ ?_ _) | (with_reducible refine Below.alloc ?_ ?_ _) | (with_reducible refine Below.drew ?_) | (with_reducible refine belowN ?_ _) | (with_reducible refine below_step ?_ ?_ (by with_reducible assumption)) | go_size))⟩
  · obtain ⟨hrd, hfi⟩ := hr (by omega)
    obtain ⟨l, rfl⟩ : ∃ l, s = str l := ⟨s.data.toList, (str_of s).symm⟩
    rw [str_size] at h2
    have z := str_size l
    have z2 : ¬ (1000 : Int) < ((str l).size : Int) := by omega
    have z3 : ¬ (50 : Int) < (raw.length : Int) := by omega
    obtain ⟨b1, b2, b3, b4⟩ := split_back l (by omega)
    have hfl := Lib.hid (fine_split l (by omega))
    have n1 := spL_len l
    have n3 := Lib.hid (spL_flds l)
    have HP : Hid (∀ w, Env w → Calls Tryd.prog 9 #[S l] w (SpPost l w)) := Lib.hid (fun w h => split_any l w (by omega) h)
    have HP2 : Hid (∀ w, Env w → Calls Tryd.prog 9 #[S (wrA (spL l))] w fun e w' => ∃ vL Aa ca, e = .returned (.tuple #[vL, .slice Aa 0 ca]) ∧ OwnL w' w.heap.size vL (reln 1 (spL l)) ∧ Below w.heap.size w w') := Lib.hid (fun w h => by
      refine (split_any (wrA (spL l)) w (by omega) h).mono ?_
      rintro e w' ⟨vL, vD, rfl, hL, hD, hb⟩
      rw [b1] at hL
      rw [b2] at hD
      rcases own_form hD with ⟨_, rfl⟩ | ⟨gd, cd, rfl, _⟩
      · exact ⟨vL, _, _, rfl, hL, hb⟩
      · exact ⟨vL, _, _, rfl, hL, hb⟩)
    have HW1 : Hid (∀ w, RdL w (.slice A raw.length c) raw → Env w → Calls Tryd.prog 13 #[.slice A raw.length c] w fun e w' => e = .returned (S (wrA raw)) ∧ Below w.heap.size w w') := Lib.hid (fun w h he => write_any raw _ w h hfi he)
    have HW2 : Hid (∀ w, RdL w (.slice A raw.length c) raw → Calls Tryd.prog 14 #[.slice A raw.length c] w fun e w' => e = .returned (S (wrA raw)) ∧ Below w.heap.size w w') := Lib.hid (fun w h => rwrite_any raw _ w h hfi)
    have HW3 : Hid (∀ w v, RdL w v (spL l) → Env w → Calls Tryd.prog 13 #[v] w fun e w' => e = .returned (S (wrA (spL l))) ∧ Below w.heap.size w w') := Lib.hid (fun w v h he => write_any (spL l) v w h hfl.out he)
    have HR := Lib.hid hrd
    have nr := reln_length (spL l) 1
    have HRA := Lib.hid (reln_at (spL l) 1)
    have HG : Hid (∀ x ∈ spL l, x.flds ≠ []) := Lib.hid (fun x hx => (b4 x hx).some)
    clear b1 b2 b3 b4 hs henv hr hrd hfi hfl
    unfold SpPost at HP
    generalize reln 1 (spL l) = LR at *
    generalize wrA (spL l) = T at *
    generalize wrA raw = RW at *
    generalize spL l = LL at *
    go_enter Tryd.func5, Tryd.ntmps5
    go_wp2_with (first
      | (go_at_call 8; (with_reducible refine (hA.out _ ?_).mono ?_); (focus (exact HE.out.stays (by (repeat' (first | (with_reducible exact Below.refl _ _) | (with_reducible refine Below.setCell ?_ ?_ _) | (with_reducible refine Below.alloc ?_ ?_ _) | (with_reducible refine Below.drew ?_) | (with_reducible refine belowN ?_ _) | (with_reducible refine below_step ?_ ?_ (by with_reducible assumption)) | go_size))))); rintro e w1 ⟨rfl, hb1⟩; have hz1 := hb1.size; (try simp only [World.size_alloc, World.size_setCell, World.size_drew, size_drewN'] at hz1))
      | (go_at_call 13; (with_reducible refine (HW1.out _ ?_ ?_).mono ?_); (focus (exact HR.out.below hb1)); (focus (exact HE.out.stays (by (repeat' (first | (with_reducible exact Below.refl _ _) | (with_reducible refine Below.setCell ?_ ?_ _) | (with_reducible refine Below.alloc ?_ ?_ _) | (with_reducible refine Below.drew ?_) | (with_reducible refine belowN ?_ _) | (with_reducible refine below_step ?_ ?_ (by with_reducible assumption)) | go_size))))); rintro e w2 ⟨rfl, hb2⟩; have hz2 := hb2.size; (try simp only [World.size_alloc, World.size_setCell, World.size_drew, size_drewN'] at hz2))
      | (go_at_call 14; (with_reducible refine (HW2.out _ ?_).mono ?_); (focus (exact (HR.out.below hb1).below hb2)); rintro e w3 ⟨rfl, hb3⟩; have hz3 := hb3.size; (try simp only [World.size_alloc, World.size_setCell, World.size_drew, size_drewN'] at hz3))
      | (go_at_call 9; (with_reducible refine (HP.out _ ?_).mono ?_); (focus (exact HE.out.stays (by (repeat' (first | (with_reducible exact Below.refl _ _) | (with_reducible refine Below.setCell ?_ ?_ _) | (with_reducible refine Below.alloc ?_ ?_ _) | (with_reducible refine Below.drew ?_) | (with_reducible refine belowN ?_ _) | (with_reducible refine below_step ?_ ?_ (by with_reducible assumption)) | go_size))))); rintro e w4 ⟨vL, vD, rfl, hL, hD, hb4⟩; have hz4 := hb4.size; (try simp only [World.size_alloc, World.size_setCell, World.size_drew, size_drewN'] at hz4))
      | (go_at_call 13; (with_reducible refine (HW3.out _ _ ?_ ?_).mono ?_); (focus (exact hL.rd)); (focus (exact HE.out.stays (by (repeat' (first | (with_reducible exact Below.refl _ _) | (with_reducible refine Below.setCell ?_ ?_ _) | (with_reducible refine Below.alloc ?_ ?_ _) | (with_reducible refine Below.drew ?_) | (with_reducible refine belowN ?_ _) | (with_reducible refine below_step ?_ ?_ (by with_reducible assumption)) | go_size))))); rintro e w5 ⟨rfl, hb5⟩; have hz5 := hb5.size; (try simp only [World.size_alloc, World.size_setCell, World.size_drew, size_drewN'] at hz5)))
    refine (HP2.out _ (HE.out.stays (by (repeat' (first | (with_reducible exact Below.refl _ _) | (with_reducible refine Below.setCell ?_ ?_ _) | (with_reducible refine Below.alloc ?_ ?_ _) | (with_reducible refine Below.drew ?_) | (with_reducible refine belowN ?_ _) | (with_reducible refine below_step ?_ ?_ (by with_reducible assumption)) | go_size))))).mono ?_
    rintro e w6 ⟨vM, Aa, ca, rfl, hM, hb6⟩
    have hz6 := hb6.size; (try simp only [World.size_alloc, World.size_setCell, World.size_drew, size_drewN'] at hz6)
    have HL6 := Lib.hid ((hL.below hb5).below hb6)
    have HM6 := Lib.hid hM
    clear hL hD
    rcases formL HL6.out with ⟨h0, A1, c1, rfl⟩ | ⟨h0, gL, cL, rfl, gL1, gL2, gL3⟩
    · rcases formL HM6.out with ⟨h1, A2, c2, rfl⟩ | ⟨h1, _⟩
      · clear h0 h1 nr hM
        go_wp2
        go_loopw [51] (fun t wr => t = .int .i64 0 ∧ Hid (Below w6.heap.size w6 wr)) (fun t _ => 0)
        case atStart => exact ⟨rfl, Lib.hid (Below.refl _ _)⟩
        case round =>
          obtain ⟨rfl, hbq⟩ := hrel
          have hbq2 := hbq.out
          go_wp2
          go_ret
          exact ⟨rfl, by (repeat' (first | (with_reducible exact Below.refl _ _) | (with_reducible refine Below.setCell ?_ ?_ _) | (with_reducible refine Below.alloc ?_ ?_ _) | (with_reducible refine Below.drew ?_) | (with_reducible refine belowN ?_ _) | (with_reducible refine below_step ?_ ?_ (by with_reducible assumption)) | go_size))⟩
      · omega
    · rcases formL HM6.out with ⟨h1, _⟩ | ⟨h1, gM, cM, rfl, gM1, gM2, gM3⟩
      · omega
      · clear hM
        go_wp2
        go_loopw [51] (fun t wr => ∃ k : Nat, k ≤ LL.length ∧ t = .int .i64 (k : Int) ∧ Hid (Below w6.heap.size w6 wr)) (fun t _ => LL.length - (intOf t).toNat)
        case atStart => exact ⟨0, Nat.zero_le _, rfl, Lib.hid (Below.refl _ _)⟩
        case round =>
          obtain ⟨k, hk, rfl, hbq⟩ := hrel
          have hbq2 := hbq.out
          have hzq := hbq2.size
          by_cases hlt : k < LL.length
          · obtain ⟨u, c0, c1, c2⟩ := ownL_at (HL6.out.below hbq2) k LL[k] (List.getElem?_eq_getElem hlt)
            obtain ⟨um, d0, d1, d2⟩ := ownL_at (HM6.out.below hbq2) k _ (HRA.out k LL[k] (List.getElem?_eq_getElem hlt))
            have hne := HG.out LL[k] (List.getElem_mem hlt)
            have hfl := n3.out LL[k] (List.getElem_mem hlt)
            generalize LL[k] = x at *
            obtain ⟨xn, fs⟩ := x
            simp only at c0 c1 c2 d0 d1 d2 hne hfl
            have hfp : 0 < fs.length := by cases fs with | nil => exact absurd rfl hne | cons _ _ => simp
            have nrf := refld_length fs 0
            have HRF := Lib.hid (refld_at fs 0)
            generalize refld 0 fs = rf at *
            have e1 : ((1 + k : Nat) : Int) = (k : Int) + 1 := by omega
            rw [e1] at d0
            rcases own_form c2 with ⟨hx, _⟩ | ⟨p1, q1, rfl, p11, p12, p13, p14⟩
            · omega
            rcases own_form d2 with ⟨hx, _⟩ | ⟨p2, q2, rfl, p21, p22, p23, p24⟩
            · omega
            have C2 := Lib.hid c2
            have D2 := Lib.hid d2
            clear c2 d2 hne e1
            go_wp2
            go_quiet (fail)
            go_wp2
            go_loopw [83] (fun t wq => ∃ i : Nat, i ≤ fs.length ∧ t = .int .i64 (i : Int) ∧ Hid (Below wr.heap.size wr wq)) (fun t _ => fs.length - (intOf t).toNat)
            case atStart => exact ⟨0, Nat.zero_le _, rfl, Lib.hid (belowN (Below.refl _ _) _)⟩
            case round =>
              obtain ⟨i, hi, rfl, hbx⟩ := hrel
              have hbx2 := hbx.out
              have hzx := hbx2.size
              by_cases hil : i < fs.length
              · obtain ⟨x0, x1, x2⟩ := ownF_at (own_below C2.out hbx2) i fs[i] (List.getElem?_eq_getElem hil)
                obtain ⟨cc, hcc⟩ := HRF.out i fs[i] (List.getElem?_eq_getElem hil)
                obtain ⟨y0, y1, y2⟩ := ownF_at (own_below D2.out hbx2) i _ hcc
                have g1 := (hbx2.cell (p := ⟨gM, k * 2 + 1, none⟩) (by show gM < _; omega)).trans d1
                have l1 : p1 < wr.heap.size := by omega
                have l2 : p2 < wr.heap.size := by omega
                have l3 : gM < wr.heap.size := by omega
                clear hcc
                generalize fs[i] = f at *
                obtain ⟨ft, fc, fq⟩ := f
                simp only at x0 x1 x2 y0 y1 y2
                go_wp2
                exact ⟨⟨i + 1, by omega, by go_num, Lib.hid (by (repeat' (first | (with_reducible exact Below.refl _ _) | (with_reducible refine Below.setCell ?_ ?_ _) | (with_reducible refine Below.alloc ?_ ?_ _) | (with_reducible refine Below.drew ?_) | (with_reducible refine belowN ?_ _) | (with_reducible refine below_step ?_ ?_ (by with_reducible assumption)) | go_size)))⟩, by simp [intOf]; omega⟩
              · go_wp2
                exact ⟨⟨k + 1, by omega, by go_num, Lib.hid (below_step hbq2 hzq hbx2)⟩, by simp [intOf]; omega⟩
          · go_wp2
            go_ret
            exact ⟨rfl, by (repeat' (first | (with_reducible exact Below.refl _ _) | (with_reducible refine Below.setCell ?_ ?_ _) | (with_reducible refine Below.alloc ?_ ?_ _) | (with_reducible refine Below.drew ?_) | (with_reducible refine belowN ?_ _) | (with_reducible refine below_step ?_ ?_ (by with_reducible assumption)) | go_size))⟩
end Go.Proofs.YtjekflpogafodaaDoor
