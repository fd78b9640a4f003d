/- The limits of a line, of the number of diagnostics and of a source: TextLong returns true for every input, and old memory is as it was. Condition: the listed variables of the library are as the program's text lays them (the card ties them). -/
import Derived.Test.YtjekflpogafodaaDoorTxL
import Derived.Test.YtjekflpogafodaaDoorTxSplits
set_option linter.unusedSimpArgs false
set_option linter.unusedVariables false
namespace Go.Proofs.YtjekflpogafodaaDoor
open Go.ChangeShapes Go.WideShapes Go.ChangeAt Go.RowKit Go.Joins

section
variable {H : Type} {enc : TypeId × Value → H} {w : World} {base b0 : Nat} {spare : Nat → Bool} {held : Bool} {r : Reach}
set_option maxRecDepth 20000 in
theorem open_u8 {v : Value} {d : DataW H} {p : List MemPlace} (hv : Value.okWide Tryd.prog w r b0 5 v) (h : DataW.Trod enc Tryd.prog w base spare held 5 v d p) : ∃ n : Nat, v = .int .u8 (n : Int) ∧ n < 256 := by
  obtain ⟨n, rfl, _, _, hw⟩ := open_int (P := Tryd.prog) Tryd.underlying5 hv h
  simp [Lit.wf, IntKind.min, IntKind.max, IntKind.signed, IntKind.bits] at hw
  exact ⟨n.toNat, by rw [Int.toNat_of_nonneg (by omega)], by omega⟩
end
theorem lenL0 {w : World} {b : Nat} {v : Value} (h : OwnL w b v []) : ∃ A ca, v = .slice A 0 ca := by
  obtain ⟨vs, q1, q2, q3⟩ := h
  rcases own_form q2 with ⟨_, rfl⟩ | ⟨g, cap, rfl, _⟩
  · exact ⟨_, _, rfl⟩
  · exact ⟨_, _, rfl⟩
theorem lenD0 {w : World} {b : Nat} {v : Value} (h : OwnD w b v []) : ∃ A ca, v = .slice A 0 ca := by
  rcases own_form h with ⟨_, rfl⟩ | ⟨g, cap, rfl, _⟩
  · exact ⟨_, _, rfl⟩
  · exact ⟨_, _, rfl⟩
/-- Splitting a source of no lines and one diagnostic. -/
def KD (d : Dia) (w : World) (e : Ending) (w' : World) : Prop := ∃ A ca vD, e = .returned (.tuple #[.slice A 0 ca, vD]) ∧ OwnD w' w.heap.size vD [d] ∧ Below w.heap.size w w'
theorem k_none (l : List UInt8) (d : Dia) (hl : l.length < 1000000) (h1 : spL l = [] ∧ spD l = [d]) (w : World) (h : Env w) : Calls Tryd.prog 9 #[S l] w (KD d w) := by
  refine (split_any l w (by omega) h).mono ?_
  rintro e w' ⟨vL, vD, rfl, hL, hD, hb⟩
  rw [h1.1] at hL; rw [h1.2] at hD
  obtain ⟨A, ca, rfl⟩ := lenL0 hL
  exact ⟨A, ca, vD, rfl, hD, hb⟩
/-- Splitting a source of one line of one field. -/
def KL (s : List UInt8) (w : World) (e : Ending) (w' : World) : Prop := ∃ g p cap c A ca, e = .returned (.tuple #[.slice (some ⟨g, 0, none⟩) 1 cap, .slice A 0 ca]) ∧ w'.cell? ⟨g, 1, none⟩ = some (.slice (some ⟨p, 0, none⟩) 1 c) ∧ w'.cell? ⟨p, 0, none⟩ = some (S s) ∧ 1 ≤ cap ∧ 1 ≤ c ∧ Below w.heap.size w w'
theorem k_line (l s : List UInt8) (hl : l.length < 1000000) (h1 : spL l = [⟨1, [⟨s, 1, false⟩]⟩] ∧ spD l = []) (w : World) (h : Env w) : Calls Tryd.prog 9 #[S l] w (KL s w) := by
  refine (split_any l w (by omega) h).mono ?_
  rintro e w' ⟨vL, vD, rfl, hL, hD, hb⟩
  rw [h1.1] at hL; rw [h1.2] at hD
  obtain ⟨A, ca, rfl⟩ := lenD0 hD
  have hL2 := hL
  obtain ⟨vs, q1, q2, q3⟩ := hL2
  rcases own_form q2 with ⟨h0, _⟩ | ⟨g, cap, rfl, g1, g2, g3, g4⟩
  · simp at h0
  · obtain ⟨u, c0, c1, c2⟩ := ownL_at hL 0 ⟨1, [⟨s, 1, false⟩]⟩ rfl
    rcases own_form c2 with ⟨h0, _⟩ | ⟨q, c, rfl, p1, p2, p3, p4⟩
    · simp at h0
    · obtain ⟨x0, x1, x2⟩ := ownF_at c2 0 ⟨s, 1, false⟩ rfl
      exact ⟨g, q, cap, c, A, ca, rfl, c1, x0, g3, p3, hb⟩
set_option maxRecDepth 100000 in
set_option maxHeartbeats 4000000 in
theorem textLong_walk8 (n : Nat) (c : UInt8) (w : World) (hn : n < 256) (henv : Env w) :
    Calls Tryd.prog 4 #[.int .u8 (n : Int), .int .u8 (c.toNat : Int)] w fun e w' => e = .returned (.bool true) ∧ Below w.heap.size w w' := by
  have hA := Lib.hid awake_any
  have HE := Lib.hid henv
  obtain ⟨m, hm⟩ : ∃ m : Nat, m = 998 + n % 5 := ⟨_, rfl⟩
  have hm1 : 998 ≤ m ∧ m ≤ 1002 := by omega
  have hmi : (998 : Int) + (n : Int) % 5 = (m : Int) := by rw [hm]; omega
  have hmk := make_fil m 97 (by omega)
  clear hm henv
  go_enter Tryd.func4, Tryd.ntmps4
  go_wp2_with (go_at_call 8; (with_reducible refine (hA.out _ ?_).mono ?_); (focus (exact HE.out.stays (by (repeat' (first | (with_reducible exact Below.refl _ _) | (with_reducible refine Below.setCell ?_ ?_ _) | (with_reducible refine Below.alloc ?_ ?_ _) | (with_reducible refine Below.drew ?_) | (with_reducible refine belowN ?_ _) | (with_reducible refine below_step ?_ ?_ (by with_reducible assumption)) | go_size))))); rintro e w1 ⟨rfl, hb1⟩; have hz1 := hb1.size; (try simp only [World.size_alloc, World.size_setCell, World.size_drew, size_drewN'] at hz1))
  clear hmk
  have hw1 : w.heap.size ≤ w1.heap.size := hz1
  go_loopw [25] (fun t wr => ∃ k : Nat, k ≤ m ∧ t = .int .i64 (k : Int) ∧ Hid (Row wr w1.heap.size 5 (Lib.byteCells (fil k m 97))) ∧ Hid (Below w.heap.size w wr)) (fun t _ => m - (intOf t).toNat)
  case atStart => exact ⟨0, Nat.zero_le _, rfl, Lib.hid (Row.new w1 _ _), Lib.hid (by (repeat' (first | (with_reducible exact Below.refl _ _) | (with_reducible refine Below.setCell ?_ ?_ _) | (with_reducible refine Below.alloc ?_ ?_ _) | (with_reducible refine Below.drew ?_) | (with_reducible refine belowN ?_ _) | (with_reducible refine below_step ?_ ?_ (by with_reducible assumption)) | go_size)))⟩
  case round =>
    obtain ⟨k, hk, rfl, hrow, hbw⟩ := hrel
    by_cases hlt : k < m
    · have c0 : wr.cell? ⟨w1.heap.size, k, none⟩ = some (.int .u8 0) := by rw [hrow.out.cell k, fil_at k m 97 hlt]
      have f0 := hrow.out.free k
      have HP : Hid (Row (wr.setCell ⟨w1.heap.size, k, none⟩ (.int .u8 97)) w1.heap.size 5 (Lib.byteCells (fil (k + 1) m 97))) := Lib.hid (by have := hrow.out.put k (.int .u8 97); rw [← fil_put k m 97 hlt]; exact this)
      go_wp2
      exact ⟨⟨k + 1, by omega, by go_num, HP, Lib.hid (Below.setCell hbw.out (by show w.heap.size ≤ w1.heap.size; exact hw1) _)⟩, by simp [intOf]; omega⟩
    · obtain rfl : k = m := by omega
      have hr : Hid (Row wr w1.heap.size 5 (Lib.byteCells (rep k 97))) := Lib.hid (by rw [← fil_full]; exact hrow.out)
      clear hrow
      have hcv : ∀ cap, (convert 30 9 (.slice (some ⟨w1.heap.size, 0, none⟩) k cap)).run Tryd.prog wr = .ok (S (rep k 97)) wr := fun cap => by
        have := conv_row (cap := cap) hr.out; rw [rep_length] at this; exact this
      have hlr : (rep k 97).length < 1000000 := by rw [rep_length]; omega
      by_cases h1000 : 1000 < k
      case' pos =>
        have HS := Lib.hid (k_none (rep k 97) _ hlr (rep_long k h1000 (by omega)))
        go_wp2_with fail
        refine (HS.out _ (HE.out.stays hbw.out)).mono ?_
        rintro e w2 ⟨A, ca, vD, rfl, hD, hb2⟩
        have hz2 := hb2.size; (try simp only [World.size_alloc, World.size_setCell, World.size_drew, size_drewN'] at hz2)
        have hbw2 := hbw.out
        have hz0 := hbw2.size
        go_wp2_with (go_at_call 12; (refine (sameD_any [⟨1, 1001, 9⟩] _ w2.heap.size _ _ _ (by simp) (own_below hD (by (repeat' (first | (with_reducible exact Below.refl _ _) | (with_reducible refine Below.setCell ?_ ?_ _) | (with_reducible refine Below.alloc ?_ ?_ _) | (with_reducible refine Below.drew ?_) | (with_reducible refine belowN ?_ _) | (with_reducible refine below_step ?_ ?_ (by with_reducible assumption)) | go_size)))) (ownD_built w2 ⟨1, 1001, 9⟩ _ (Nat.le_refl _))).mono ?_); rintro e w' ⟨rfl, q, rfl⟩)
        clear hcv
      case' neg =>
        have HS := Lib.hid (k_line (rep k 97) (rep k 97) hlr (rep_short k (by omega) (by omega)))
        go_wp2_with fail
        refine (HS.out _ (HE.out.stays hbw.out)).mono ?_
        rintro e w2 ⟨g, p, cap, cc, A, ca, rfl, c1, x0, g3, p3, hb2⟩
        have hz2 := hb2.size; (try simp only [World.size_alloc, World.size_setCell, World.size_drew, size_drewN'] at hz2)
        have hbw2 := hbw.out
        have hz0 := hbw2.size
        have hcv2 : ∀ q cap, (convert 30 9 (.slice (some ⟨w1.heap.size, 0, none⟩) k cap)).run Tryd.prog (w2.drewN q) = .ok (S (rep k 97)) (w2.drewN q) := fun q cap => by
          have := conv_row (cap := cap) ((hr.out.below hb2 hr.out.lt).drewN q); rw [rep_length] at this; exact this
        clear hcv
        go_wp2
        go_quiet (fail)
        go_wp2
        clear hcv2
      all_goals
        go_loopw [9, 72] (fun s t wr => ∃ (j : Nat) (L : List UInt8), j ≤ n ∧ L.length = 4 * j ∧ t = .int .u8 (j : Int) ∧ s = S L ∧ Hid (Below w.heap.size w wr)) (fun _ t _ => n - (intOf t).toNat)
        case atStart => exact ⟨0, [], Nat.zero_le _, rfl, rfl, rfl, Lib.hid (by (repeat' (first | (with_reducible exact Below.refl _ _) | (with_reducible refine Below.setCell ?_ ?_ _) | (with_reducible refine Below.alloc ?_ ?_ _) | (with_reducible refine Below.drew ?_) | (with_reducible refine belowN ?_ _) | (with_reducible refine below_step ?_ ?_ (by with_reducible assumption)) | go_size)))⟩
        case round =>
          obtain ⟨j, L, hj, hL, rfl, rfl, hbr⟩ := hrel
          by_cases hjn : j < n
          · have hcv : ∀ cap, (convert 30 9 (.slice (some ⟨wr.heap.size, 0, none⟩) 4 cap)).run Tryd.prog (wr.alloc (.cells #[.int .u8 120, .int .u8 (c.toNat : Int), .int .u8 121, .int .u8 10] 5)) = .ok (S [120, c, 121, 10]) (wr.alloc (.cells #[.int .u8 120, .int .u8 (c.toNat : Int), .int .u8 121, .int .u8 10] 5)) :=
              fun cap => conv_row (cap := cap) (Row.new wr 5 (Lib.byteCells [120, c, 121, 10]))
            have z1 := str_size L
            have z2 := str_size [120, c, 121, 10]
            have HY : Hid (str L ++ str [120, c, 121, 10] = str (L ++ [120, c, 121, 10])) := Lib.hid (str_app _ _)
            go_wp2
            exact ⟨⟨j + 1, L ++ [120, c, 121, 10], by omega, by simp; omega, by go_num, congrArg Value.string HY.out, Lib.hid (Below.alloc hbr.out (by have := hbr.out.size; omega) _)⟩, by simp [intOf]; omega⟩
          · have z1 := str_size L
            have hLl : L.length ≤ 1020 := by omega
            have n1 := spL_len L
            have n2 := spD_len L
            have n3 := Lib.hid (spL_flds L)
            have HP : Hid (∀ w, Env w → Calls Tryd.prog 9 #[S L] w (SpPost L w)) := Lib.hid (fun w h => split_any L w (by omega) h)
            have HR : Hid (∀ w, Calls Tryd.prog 10 #[S L] w (SpPost L w)) := Lib.hid (fun w => rsplit_any L w (by omega))
            obtain ⟨M, hM⟩ : ∃ M : Nat, M = 262145 := ⟨_, rfl⟩
            have hMi : Hid ((M : Int) = 262145) := Lib.hid (by omega)
            have hMb : M ≤ 300000 := by omega
            have hmk2 : ∀ w, (Instr.makeSlice 30 (.int .i64 262145) (.int .i64 262145)).run Tryd.prog w = .ok (.slice (some ⟨w.heap.size, 0, none⟩) M M) (w.alloc (.cells (Lib.byteCells (fil 0 M 10)).toArray 5)) := by
              intro w
              have := make_fil M 10 (by omega) w
              rw [hMi.out] at this
              exact this
            clear hM
            have hbr2 := hbr.out
            have hzr := hbr2.size
            unfold SpPost at HP HR
            generalize spL L = LL at *
            generalize spD L = DD at *
            clear hL
            go_wp2_with (first
              | (go_at_call 9; (with_reducible refine (HP.out _ ?_).mono ?_); (focus (exact HE.out.stays (by (repeat' (first | (with_reducible exact Below.refl _ _) | (with_reducible refine Below.setCell ?_ ?_ _) | (with_reducible refine Below.alloc ?_ ?_ _) | (with_reducible refine Below.drew ?_) | (with_reducible refine belowN ?_ _) | (with_reducible refine below_step ?_ ?_ (by with_reducible assumption)) | go_size))))); rintro e w3 ⟨yL, yD, rfl, hL3, hD3, hb3⟩; have hz3 := hb3.size; (try simp only [World.size_alloc, World.size_setCell, World.size_drew, size_drewN'] at hz3))
              | (go_at_call 10; (with_reducible refine (HR.out _).mono ?_); rintro e w4 ⟨xL, xD, rfl, rL, rD, hb4⟩; have hz4 := hb4.size; (try simp only [World.size_alloc, World.size_setCell, World.size_drew, size_drewN'] at hz4)))
            clear hmk2
            go_loopw [93] (fun t wq => ∃ i : Nat, i ≤ M ∧ t = .int .i64 (i : Int) ∧ Hid (Row wq w4.heap.size 5 (Lib.byteCells (fil i M 10))) ∧ Hid (Below w4.heap.size w4 wq)) (fun t _ => M - (intOf t).toNat)
            case atStart => exact ⟨0, Nat.zero_le _, rfl, Lib.hid (Row.new w4 _ _), Lib.hid (by (repeat' (first | (with_reducible exact Below.refl _ _) | (with_reducible refine Below.setCell ?_ ?_ _) | (with_reducible refine Below.alloc ?_ ?_ _) | (with_reducible refine Below.drew ?_) | (with_reducible refine belowN ?_ _) | (with_reducible refine below_step ?_ ?_ (by with_reducible assumption)) | go_size)))⟩
            case round =>
              obtain ⟨i, hi, rfl, hrw, hbq⟩ := hrel
              by_cases hil : i < M
              · have c0 : wr.cell? ⟨w4.heap.size, i, none⟩ = some (.int .u8 0) := by rw [hrw.out.cell i, fil_at i M 10 hil]
                have f0 := hrw.out.free i
                have HQ : Hid (Row (wr.setCell ⟨w4.heap.size, i, none⟩ (.int .u8 10)) w4.heap.size 5 (Lib.byteCells (fil (i + 1) M 10))) := Lib.hid (by have := hrw.out.put i (.int .u8 10); rw [← fil_put i M 10 hil]; exact this)
                go_wp2
                exact ⟨⟨i + 1, by omega, by go_num, HQ, Lib.hid (Below.setCell hbq.out (Nat.le_refl w4.heap.size) _)⟩, by simp [intOf]; omega⟩
              · have e2 : fil i M 10 = rep M 10 := by rw [show i = M by omega]; exact fil_full M 10
                rw [e2] at hrw
                have hcv : ∀ cap, (convert 30 9 (.slice (some ⟨w4.heap.size, 0, none⟩) M cap)).run Tryd.prog wr = .ok (S (rep M 10)) wr := fun cap => by
                  have := conv_row (cap := cap) hrw.out; rw [rep_length] at this; exact this
                have HS := Lib.hid (k_none (rep M 10) ⟨1, 1, 9⟩ (by rw [rep_length]; omega) (big_long _ (by rw [rep_length]; have := hMi.out; omega)))
                have HSL : Hid (∀ (W : World), (∃ b, OwnL W b yL LL) → OwnL W w3.heap.size xL LL → Calls Tryd.prog 11 #[yL, xL] W fun e w' => e = .returned (.bool true) ∧ ∃ k, w' = W.drewN k) := Lib.hid (fun W ⟨b, h1⟩ h2 => sameL_any LL _ _ _ _ _ (by omega) (fun x hx => by have := n3.out x hx; omega) h1 h2)
                have HSD : Hid (∀ (W : World), (∃ b, OwnD W b yD DD) → OwnD W w3.heap.size xD DD → Calls Tryd.prog 12 #[yD, xD] W fun e w' => e = .returned (.bool true) ∧ ∃ k, w' = W.drewN k) := Lib.hid (fun W ⟨b, h1⟩ h2 => sameD_any DD _ _ _ _ _ (by omega) h1 h2)
                have HS3 : Hid (∀ (W : World) (g : Nat) (yE : Value), g = W.heap.size → (∃ b, OwnD (W.alloc (.cells #[.int .i64 1, .int .i64 1, .int .i64 9] 33)) b yE [⟨1, 1, 9⟩]) → Calls Tryd.prog 12 #[yE, .slice (some ⟨g, 0, none⟩) 1 1] (W.alloc (.cells #[.int .i64 1, .int .i64 1, .int .i64 9] 33)) fun e w' => e = .returned (.bool true) ∧ ∃ k, w' = (W.alloc (.cells #[.int .i64 1, .int .i64 1, .int .i64 9] 33)).drewN k) :=
                  Lib.hid (fun W g yE hg ⟨b, h1⟩ => by subst hg; exact sameD_any [⟨1, 1, 9⟩] _ _ _ _ _ (by simp) h1 (ownD_built W ⟨1, 1, 9⟩ _ (Nat.le_refl _)))
                clear e2 hrw
                have hbq2 := hbq.out
                have hzq := hbq2.size
                go_wp2_with (first
                  | (go_at_call 9; (with_reducible refine (HS.out _ ?_).mono ?_); (focus (exact HE.out.stays (by (repeat' (first | (with_reducible exact Below.refl _ _) | (with_reducible refine Below.setCell ?_ ?_ _) | (with_reducible refine Below.alloc ?_ ?_ _) | (with_reducible refine Below.drew ?_) | (with_reducible refine belowN ?_ _) | (with_reducible refine below_step ?_ ?_ (by with_reducible assumption)) | go_size))))); rintro e w5 ⟨A5, ca5, yE, rfl, hD5, hb5⟩; have hz5 := hb5.size; (try simp only [World.size_alloc, World.size_setCell, World.size_drew, size_drewN'] at hz5))
                  | (go_at_call 11; (with_reducible refine (HSL.out _ ?_ ?_).mono ?_); (focus (exact ⟨_, ((hL3.below hb4).below hbq2).below hb5⟩)); (focus (exact (rL.below hbq2).below hb5)); rintro e w' ⟨rfl, q5, rfl⟩)
                  | (go_at_call 12; (with_reducible refine (HSD.out _ ?_ ?_).mono ?_); (focus (exact ⟨_, own_drewN (own_below (own_below (own_below hD3 hb4) hbq2) hb5) q5⟩)); (focus (exact own_drewN (own_below (own_below rD hbq2) hb5) q5)); rintro e w' ⟨rfl, q6, rfl⟩)
                  | (go_at_call 12; (with_reducible refine (HS3.out _ _ _ ?_ ?_).mono ?_); (focus (first | rfl | simp only [size_drewN'])); (focus (exact ⟨_, own_below hD5 (by (repeat' (first | (with_reducible exact Below.refl _ _) | (with_reducible refine Below.setCell ?_ ?_ _) | (with_reducible refine Below.alloc ?_ ?_ _) | (with_reducible refine Below.drew ?_) | (with_reducible refine belowN ?_ _) | (with_reducible refine below_step ?_ ?_ (by with_reducible assumption)) | go_size)))⟩)); rintro e w' ⟨rfl, q7, rfl⟩))
                go_ret
                exact ⟨rfl, by (repeat' (first | (with_reducible exact Below.refl _ _) | (with_reducible refine Below.setCell ?_ ?_ _) | (with_reducible refine Below.alloc ?_ ?_ _) | (with_reducible refine Below.drew ?_) | (with_reducible refine belowN ?_ _) | (with_reducible refine below_step ?_ ?_ (by with_reducible assumption)) | go_size))⟩

theorem textLong_walk (n c : Nat) (w : World) (hn : n < 256) (hc : c < 256) (henv : Env w) :
    Calls Tryd.prog 4 #[.int .u8 (n : Int), .int .u8 (c : Int)] w fun e w' => e = .returned (.bool true) ∧ Below w.heap.size w w' := by
  have e : (UInt8.ofNat c).toNat = c := by simp; omega
  have h := textLong_walk8 n (UInt8.ofNat c) w hn henv
  rw [e] at h
  exact h

set_option maxRecDepth 100000 in
theorem textLong_lifted (os : Os) (started : os.Started) (H : Type) (enc : TypeId × Value → H) :
    ReturnsInHanded {} Tryd.checked os 4 .any (fun w args => (Rows.textLongSpec.pre enc Tryd.prog Tryd.f4 [] false w args ∧ laidMetH Tryd.prog laidA w) ∧ sizedMet enc Tryd.prog Tryd.f4 (OpenSpec.ofChange Rows.textLongSpec) false w args)
      (Rows.textLongSpec.post enc Tryd.prog Tryd.f4 false true false false) := by
  refine law_lift (C := Tryd.checked) (X := fun w _ => laidMetH Tryd.prog laidA w) (tb := 4) (fun _ _ _ hh h => h.of_heap hh) own started (by kernel_rfl) Tryd.func4 laidOut
    (by rw [Tryd.params4]; intro t ht; simp at ht; (try subst ht) <;> (try (rcases ht with rfl | rfl)) <;> exact ⟨by kernel_rfl, of_decide_eq_true (by kernel_rfl)⟩) rfl (by kernel_rfl) Tryd.underlying4
    (ChangeSpec.witness_shaped (enc := enc) (C := Tryd.checked) (os := os) (X := fun w _ => laidMetH Tryd.prog laidA w) false (World.laidAll Tryd.prog os laidA) #[.int .u8 0, .int .u8 0] 8 rfl (laidA_shaped os) (by kernel_rfl) (by kernel_rfl) (by kernel_rfl) (laidA_met os _)) ?_
  intro WW base args ds gs p hval hA hreach hL hS
  rw [Tryd.params4] at hA hval
  obtain ⟨v0, vs0, d0, ds0, p0, q0, hargs, rfl, rfl, h0, r0⟩ := trodAll_cons hA
  obtain ⟨v1, vs1, d1, ds1, p1, q1, rfl, rfl, rfl, h1, r1⟩ := trodAll_cons r0
  obtain ⟨rfl, rfl, rfl⟩ := trodAll_nil r1
  obtain rfl : args = #[v0, v1] := by cases args; simp_all
  obtain ⟨a0, rfl, g0⟩ := open_u8 (hval 0 _ v0 rfl rfl) h0
  obtain ⟨a1, rfl, g1⟩ := open_u8 (hval 1 _ v1 rfl rfl) h1
  exact ⟨rfl, textLong_walk a0 a1 WW g0 g1 (env_of_laid hL hS)⟩

theorem textLong_holds : Rows.TextLongSaid :=
  OpenClaim.holds_of_wide 4 Tryd.f4 rfl rfl rfl rfl rfl rfl rfl ⟨rfl, rfl, rfl, rfl, rfl⟩ rfl rfl rfl rfl rfl (by kernel_rfl) Tryd.func4 (by kernel_rfl)
    (of_decide_eq_true (by kernel_rfl)) (by unfold Func.isWrapper; first | (rw [if_pos (by decide +kernel)]; kernel_rfl) | (rw [if_neg (by decide +kernel)]; exact ⟨rfl, rfl⟩))
    (fun os started H enc _ => textLong_lifted os started H enc)

theorem textLong_card : Rows.TextLongCardSaid :=
  Claim7.holds_tied_plain_at .later [] [.data, .data, .data, .data, .sentinel, .sentinel, .pinned] true Rows.textLongCard.stood.harness Rows.textLongCard.stood.looks
    textLong_holds (fun _ h => by cases h) (by kernel_rfl) (fun _ h => by cases h) textLong_row_tie rfl ⟨rfl, rfl⟩ (by kernel_rfl) rfl
    (fun f fn hf hfn => by
      obtain rfl : f = 4 := Option.some.inj ((show Tryd.prog.funcNamed "scorebook/scorebooklaw03.TextLong" = some 4 by kernel_rfl).symm.trans hf) |>.symm
      obtain rfl : fn = Tryd.f4 := (Option.some.inj (Tryd.func4.symm.trans hfn)).symm
      exact ⟨by kernel_rfl, fun j t ht => by
        rw [Tryd.params4] at ht
        have hm : t ∈ [5, 5] := by simpa using Array.mem_of_getElem? ht
        have hall : ([5, 5].all fun u => !Tryd.prog.wantsStandIn u) = true := by kernel_rfl
        exact (show Tryd.prog.wantsStandIn t = false by simpa using List.all_eq_true.1 hall t hm)⟩)
    (by kernel_rfl)
#print axioms textLong_card

end Go.Proofs.YtjekflpogafodaaDoor
