/- Contracts of package notation's readWicket and read. -/
import Derived.Test.YtkgdlimekkdekaaDoorNoC
set_option linter.unusedSimpArgs false
set_option linter.unusedVariables false
namespace Go.Proofs.YtkgdlimekkdekaaDoor
open Go.RowKit

/-- The reader and the delivery stand in two blocks of the call's own. -/
structure St (B g k : Nat) (l : List UInt8) (d : Dl) (w0 w : World) : Prop where
  rd : Row w g RT (RS l)
  dl : Row w k DT (DC d)
  old : Below B w0 w
theorem St.chg {B g k : Nat} {l l' : List UInt8} {d : Dl} {w0 w w' : World} (h : St B g k l d w0 w) (hc : Chg g RT (RS l') w w') (hB : B ≤ g) (hne : k ≠ g) (hs : B ≤ w.heap.size) : St B g k l' d w0 w' :=
  ⟨hc.row, hc.other h.dl hne, h.old.trans (hc.below hB hs)⟩
theorem St.put {B g k : Nat} {l : List UInt8} {d d' : Dl} {w0 w : World} (h : St B g k l d w0 w) (i : Nat) (u : Value) (hB : B ≤ k) (hne : k ≠ g) (he : (DC d).set i u = DC d') : St B g k l d' w0 (w.setCell ⟨k, i, none⟩ u) :=
  ⟨h.rd.far (p := ⟨k, i, none⟩) (fun e => hne e.symm) u, by have := h.dl.put i u; rw [he] at this; exact this, Below.setCell (p := ⟨k, i, none⟩) h.old hB u⟩
theorem St.size {B g k : Nat} {l : List UInt8} {d : Dl} {w0 w : World} (h : St B g k l d w0 w) (hB : B ≤ g) : B ≤ w.heap.size := by have := h.rd.lt; omega
theorem nmP_len (l : List UInt8) : ∀ n, (nmP l n).1.length ≤ l.length := by
  induction l with
  | nil => intro n; exact Nat.le_refl _
  | cons c r ih =>
    intro n
    unfold nmP
    split
    · have := ih (10 * n + ((c.toNat : Int) - 48)); simp; omega
    · exact Nat.le_refl _
theorem adv_len (sn l : List UInt8) : (adv sn l).length ≤ l.length := by unfold adv; split <;> simp
theorem stX_len (c : Nat) (l : List UInt8) : (stX c l).1.length ≤ l.length := by unfold stX; split <;> simp
theorem wcP_ix (l : List UInt8) : (ix hows l = -1 ∧ wcP l = (adv hows l, 0)) ∨ (0 ≤ ix hows l ∧ ix hows l ≤ 10 ∧ wcP l = (adv hows l, ix hows l)) := by
  cases l with
  | nil => left; exact ⟨rfl, rfl⟩
  | cons c r =>
    have hf : ∀ n : Fin 256, (Lib.indexByte hows (UInt8.ofNat n.val) = -1 ∧ ¬ UInt8.ofNat n.val ∈ hows) ∨ (0 ≤ Lib.indexByte hows (UInt8.ofNat n.val) ∧ Lib.indexByte hows (UInt8.ofNat n.val) ≤ 10 ∧ UInt8.ofNat n.val ∈ hows ∧ Lib.indexByte hows (UInt8.ofNat n.val) = (hows.idxOf (UInt8.ofNat n.val) : Int)) := by decide +kernel
    have hq := hf ⟨c.toNat, c.toNat_lt⟩
    have eb : UInt8.ofNat c.toNat = c := by simp
    simp only [eb] at hq
    have ex : ix hows (c :: r) = Lib.indexByte hows c := rfl
    unfold wcP adv
    rw [ex]
    rcases hq with ⟨h1, h2⟩ | ⟨h1, h2, h3, h4⟩
    · left; refine ⟨h1, ?_⟩; simp only [if_neg h2]; rw [if_neg (by omega)]
    · right; refine ⟨h1, h2, ?_⟩; simp only [if_pos h3]; rw [if_pos h1, h4]; rfl

set_option maxHeartbeats 4000000 in
theorem readWicket_any (B g k : Nat) (l : List UInt8) (t s r sh b z : Int) (x : Bool) (w0 w : World) (hS : St B g k l ⟨t, s, r, sh, b, x, 0, 0, 0, 0, false, z⟩ w0 w) (hBg : B ≤ g) (hBk : B ≤ k) (hne : k ≠ g) (hl : l.length ≤ 4611686018427387904) :
    Calls Tryd.prog 66 #[.pointer (some ⟨g, 0, none⟩), .pointer (some ⟨k, 0, none⟩)] w fun e w' => e = .returned (.tuple #[]) ∧
      St B g k (stO (fun l => nmP l 0) wcP l).1 ⟨t, s, r, sh, b, x, (stO (fun l => nmP l 0) wcP l).2.h, (stO (fun l => nmP l 0) wcP l).2.v, (stO (fun l => nmP l 0) wcP l).2.f, (stO (fun l => nmP l 0) wcP l).2.g, (stO (fun l => nmP l 0) wcP l).2.u, z⟩ w0 w' := by
  have hrow := hS.size hBg
  obtain ⟨l1, e1⟩ : ∃ l1, l1 = adv hows l := ⟨_, rfl⟩
  have n1 : l1.length ≤ 4611686018427387904 := by have := adv_len hows l; rw [← e1] at this; omega
  obtain ⟨l2, e2⟩ : ∃ l2, l2 = (nmP l1 0).1 := ⟨_, rfl⟩
  obtain ⟨v, e3⟩ : ∃ v, v = (nmP l1 0).2 := ⟨_, rfl⟩
  have n2 : l2.length ≤ 4611686018427387904 := by have := nmP_len l1 0; rw [← e2] at this; omega
  have hI : ∃ h : Int, wcP l = (l1, h) ∧ ((ix hows l = -1 ∧ h = 0) ∨ (ix hows l = h ∧ 0 ≤ h ∧ h ≤ 10)) := by
    rcases wcP_ix l with ⟨h1, h2⟩ | ⟨h1, h2, h3⟩
    · exact ⟨0, by rw [h2, e1], Or.inl ⟨h1, rfl⟩⟩
    · exact ⟨ix hows l, by rw [h3, e1], Or.inr ⟨rfl, h1, h2⟩⟩
  obtain ⟨h, hw, hi⟩ := hI
  obtain ⟨O, hO⟩ : ∃ O, O = stO (fun l => nmP l 0) wcP l := ⟨_, rfl⟩
  rw [← hO]
  have HO : Hid (O = stF (fun l => nmP l 0) h v l2) := Lib.hid (by rw [hO]; unfold stO; rw [hw, e2, e3])
  have HS : Hid (Calls Tryd.prog 63 #[.pointer (some ⟨g, 0, none⟩), .string ⟨#[78, 66, 67, 76, 83, 72, 82, 84, 79, 77, 81]⟩] w fun e w' => e = .returned (.int .i64 (ix hows l)) ∧ Chg g RT (RS l1) w w') := Lib.hid (by rw [e1]; exact sign_any hows l g w hS.rd hl)
  have HN : Hid (∀ w, Row w g RT (RS l1) → Calls Tryd.prog 64 #[.pointer (some ⟨g, 0, none⟩)] w fun e w' => e = .returned (.int .i64 v) ∧ Chg g RT (RS l2) w w') := Lib.hid (fun w hr => by rw [e2, e3]; exact number_any l1 g w hr n1)
  have HF : Hid (∀ w, Row w g RT (RS l2) → Calls Tryd.prog 65 #[.pointer (some ⟨g, 0, none⟩), .string ⟨#[40]⟩] w fun e w' => e = .returned (.bool (stX 40 l2).2) ∧ Chg g RT (RS (stX 40 l2).1) w w') := Lib.hid (fun w hr => flag_any 40 (by decide) l2 g w hr n2)
  clear hO e1 e2 e3 hw n1
  -- what is read behind the number
  have hP : (Hid (O = (l2, ⟨h, v, 0, 0, false⟩)) ∧ stX 40 l2 = (l2, false)) ∨ (∃ (l4 l5 l6 l7 : List UInt8) (f gg : Int) (u : Bool), Hid (O = (l7, ⟨h, v, f, gg, u⟩)) ∧ stX 40 l2 = (l2.tail, true) ∧
      Hid (∀ w, Row w g RT (RS l2.tail) → Calls Tryd.prog 64 #[.pointer (some ⟨g, 0, none⟩)] w fun e w' => e = .returned (.int .i64 f) ∧ Chg g RT (RS l4) w w') ∧
      ((gg = 0 ∧ Hid (∀ w, Row w g RT (RS l4) → Calls Tryd.prog 65 #[.pointer (some ⟨g, 0, none⟩), .string ⟨#[44]⟩] w fun e w' => e = .returned (.bool false) ∧ Chg g RT (RS l5) w w')) ∨
        (Hid (∀ w, Row w g RT (RS l4) → Calls Tryd.prog 65 #[.pointer (some ⟨g, 0, none⟩), .string ⟨#[44]⟩] w fun e w' => e = .returned (.bool true) ∧ Chg g RT (RS l4.tail) w w') ∧
          Hid (∀ w, Row w g RT (RS l4.tail) → Calls Tryd.prog 64 #[.pointer (some ⟨g, 0, none⟩)] w fun e w' => e = .returned (.int .i64 gg) ∧ Chg g RT (RS l5) w w'))) ∧
      Hid (∀ w, Row w g RT (RS l5) → Calls Tryd.prog 65 #[.pointer (some ⟨g, 0, none⟩), .string ⟨#[115]⟩] w fun e w' => e = .returned (.bool u) ∧ Chg g RT (RS l6) w w') ∧
      (∃ q, Hid (∀ w, Row w g RT (RS l6) → Calls Tryd.prog 65 #[.pointer (some ⟨g, 0, none⟩), .string ⟨#[41]⟩] w fun e w' => e = .returned (.bool q) ∧ Chg g RT (RS l7) w w'))) := by
    by_cases hq : sg l2 = 40
    · right
      have m3 : l2.tail.length ≤ 4611686018427387904 := by simp; omega
      have m4 : (nmP l2.tail 0).1.length ≤ 4611686018427387904 := by have := nmP_len l2.tail 0; omega
      have m5 : (stN (fun l => nmP l 0) 44 (nmP l2.tail 0).1).1.length ≤ 4611686018427387904 := by
        unfold stN; split
        · have := nmP_len (nmP l2.tail 0).1.tail 0; simp at this ⊢; omega
        · exact m4
      have m6 : (stX 115 (stN (fun l => nmP l 0) 44 (nmP l2.tail 0).1).1).1.length ≤ 4611686018427387904 := by have := stX_len 115 (stN (fun l => nmP l 0) 44 (nmP l2.tail 0).1).1; omega
      refine ⟨(nmP l2.tail 0).1, (stN (fun l => nmP l 0) 44 (nmP l2.tail 0).1).1, (stX 115 (stN (fun l => nmP l 0) 44 (nmP l2.tail 0).1).1).1, (stX 41 (stX 115 (stN (fun l => nmP l 0) 44 (nmP l2.tail 0).1).1).1).1, (nmP l2.tail 0).2, (stN (fun l => nmP l 0) 44 (nmP l2.tail 0).1).2, (stX 115 (stN (fun l => nmP l 0) 44 (nmP l2.tail 0).1).1).2, ?_, ?_, ?_, ?_, ?_, ?_⟩
      · exact Lib.hid (by rw [HO.out]; unfold stF; rw [if_pos hq])
      · unfold stX; rw [if_pos hq]
      · exact Lib.hid (fun w hr => number_any _ g w hr m3)
      · by_cases h44 : sg (nmP l2.tail 0).1 = 44
        · right
          have ex : stX 44 (nmP l2.tail 0).1 = ((nmP l2.tail 0).1.tail, true) := by unfold stX; rw [if_pos h44]
          have en : stN (fun l => nmP l 0) 44 (nmP l2.tail 0).1 = nmP (nmP l2.tail 0).1.tail 0 := by unfold stN; rw [if_pos h44]
          refine ⟨Lib.hid (fun w hr => ?_), Lib.hid (fun w hr => ?_)⟩
          · have := flag_any 44 (by decide) _ g w hr m4
            rw [show (44 : UInt8).toNat = 44 from rfl, ex] at this
            exact this
          · rw [en]; exact number_any _ g w hr (by simp; omega)
        · left
          have ex : stX 44 (nmP l2.tail 0).1 = ((nmP l2.tail 0).1, false) := by unfold stX; rw [if_neg h44]
          have en : stN (fun l => nmP l 0) 44 (nmP l2.tail 0).1 = ((nmP l2.tail 0).1, 0) := by unfold stN; rw [if_neg h44]
          refine ⟨by rw [en], Lib.hid (fun w hr => ?_)⟩
          rw [en]
          have := flag_any 44 (by decide) _ g w hr m4
          rw [show (44 : UInt8).toNat = 44 from rfl, ex] at this
          exact this
      · exact Lib.hid (fun w hr => flag_any 115 (by decide) _ g w hr m5)
      · exact ⟨_, Lib.hid (fun w hr => flag_any 41 (by decide) _ g w hr m6)⟩
    · left
      exact ⟨Lib.hid (by rw [HO.out]; unfold stF; rw [if_neg hq]), by unfold stX; rw [if_neg hq]⟩
  clear HO
  have hwr : 0 ≤ h → h ≤ 10 → IntKind.u8.wrap h = h := fun a b => by rw [IntKind.wrap_u8]; omega
  have HS0 := Lib.hid hS
  rcases hP with ⟨HO, ex⟩ | ⟨l4, l5, l6, l7, f, gg, u, HO, ex, K1, K2, K3, q, K4⟩
  · rw [ex] at HF
    dsimp only at HF
    rcases hi with ⟨hi, rfl⟩ | ⟨hi, h0, h1⟩
    · rw [hi] at HS
      clear hS hwr ex hi
      go_enter Tryd.func66, Tryd.ntmps66
      go_wp2_with fail
      refine HS.out.mono ?_
      rintro e w1 ⟨rfl, hc1⟩
      have hS1 := HS0.out.chg hc1 hBg hne hrow
      go_wp2_with fail
      refine (HN.out _ hS1.rd).mono ?_
      rintro e w2 ⟨rfl, hc2⟩
      have hS2 := hS1.chg hc2 hBg hne (hS1.size hBg)
      have c7 : w2.cell? ⟨k, 7, none⟩ = some (.int .i64 0) := hS2.dl.cell 7
      have f7 := hS2.dl.free 7
      go_wp2_with fail
      have hS3 := hS2.put 7 (.int .i64 v) hBk hne (d' := ⟨t, s, r, sh, b, x, 0, v, 0, 0, false, z⟩) rfl
      refine (HF.out _ hS3.rd).mono ?_
      rintro e w4 ⟨rfl, hc4⟩
      have hS4 := hS3.chg hc4 hBg hne (hS3.size hBg)
      go_wp2
      go_returns
      exact ⟨rfl, by rw [HO.out]; exact hS4⟩
    · rw [hi] at HS
      have hw8 := hwr h0 h1
      clear hS hwr ex hi
      go_enter Tryd.func66, Tryd.ntmps66
      go_wp2_with fail
      refine HS.out.mono ?_
      rintro e w1 ⟨rfl, hc1⟩
      have hS1 := HS0.out.chg hc1 hBg hne hrow
      have c6 : w1.cell? ⟨k, 6, none⟩ = some (.int .u8 0) := hS1.dl.cell 6
      have f6 := hS1.dl.free 6
      go_wp2_with fail
      have hS1 := hS1.put 6 (.int .u8 h) hBk hne (d' := ⟨t, s, r, sh, b, x, h, 0, 0, 0, false, z⟩) rfl
      refine (HN.out _ hS1.rd).mono ?_
      rintro e w2 ⟨rfl, hc2⟩
      have hS2 := hS1.chg hc2 hBg hne (hS1.size hBg)
      have c7 : w2.cell? ⟨k, 7, none⟩ = some (.int .i64 0) := hS2.dl.cell 7
      have f7 := hS2.dl.free 7
      go_wp2_with fail
      have hS3 := hS2.put 7 (.int .i64 v) hBk hne (d' := ⟨t, s, r, sh, b, x, h, v, 0, 0, false, z⟩) rfl
      refine (HF.out _ hS3.rd).mono ?_
      rintro e w4 ⟨rfl, hc4⟩
      have hS4 := hS3.chg hc4 hBg hne (hS3.size hBg)
      go_wp2
      go_returns
      exact ⟨rfl, by rw [HO.out]; exact hS4⟩
  · rw [ex] at HF
    dsimp only at HF
    rcases K2 with ⟨rfl, K2⟩ | ⟨K2, K2b⟩ <;> rcases hi with ⟨hi, rfl⟩ | ⟨hi, h0, h1⟩
    · rw [hi] at HS
      clear hS hwr ex hi
      go_enter Tryd.func66, Tryd.ntmps66
      go_wp2_with fail
      refine HS.out.mono ?_
      rintro e w1 ⟨rfl, hc1⟩
      have hS1 := HS0.out.chg hc1 hBg hne hrow
      go_wp2_with fail
      refine (HN.out _ hS1.rd).mono ?_
      rintro e w2 ⟨rfl, hc2⟩
      have hS2 := hS1.chg hc2 hBg hne (hS1.size hBg)
      have c7 : w2.cell? ⟨k, 7, none⟩ = some (.int .i64 0) := hS2.dl.cell 7
      have f7 := hS2.dl.free 7
      go_wp2_with fail
      have hS3 := hS2.put 7 (.int .i64 v) hBk hne (d' := ⟨t, s, r, sh, b, x, 0, v, 0, 0, false, z⟩) rfl
      refine (HF.out _ hS3.rd).mono ?_
      rintro e w4 ⟨rfl, hc4⟩
      have hS4 := hS3.chg hc4 hBg hne (hS3.size hBg)
      go_wp2_with fail
      refine (K1.out _ hS4.rd).mono ?_
      rintro e w5 ⟨rfl, hc5⟩
      have hS5 := hS4.chg hc5 hBg hne (hS4.size hBg)
      have c8 : w5.cell? ⟨k, 8, none⟩ = some (.int .i64 0) := hS5.dl.cell 8
      have f8 := hS5.dl.free 8
      go_wp2_with fail
      have hS5 := hS5.put 8 (.int .i64 f) hBk hne (d' := ⟨t, s, r, sh, b, x, 0, v, f, 0, false, z⟩) rfl
      refine (K2.out _ hS5.rd).mono ?_
      rintro e w6 ⟨rfl, hc6⟩
      have hS6 := hS5.chg hc6 hBg hne (hS5.size hBg)
      go_wp2_with fail
      refine (K3.out _ hS6.rd).mono ?_
      rintro e w8 ⟨rfl, hc8⟩
      have hS8 := hS6.chg hc8 hBg hne (hS6.size hBg)
      have c10 : w8.cell? ⟨k, 10, none⟩ = some (.bool false) := hS8.dl.cell 10
      have f10 := hS8.dl.free 10
      go_wp2_with fail
      have hS9 := hS8.put 10 (.bool u) hBk hne (d' := ⟨t, s, r, sh, b, x, 0, v, f, 0, u, z⟩) rfl
      refine (K4.out _ hS9.rd).mono ?_
      rintro e w10 ⟨rfl, hc10⟩
      have hS10 := hS9.chg hc10 hBg hne (hS9.size hBg)
      go_wp2
      first | go_end0 | go_returns
      exact ⟨rfl, by rw [HO.out]; exact hS10⟩
    · rw [hi] at HS
      have hw8 := hwr h0 h1
      clear hS hwr ex hi
      go_enter Tryd.func66, Tryd.ntmps66
      go_wp2_with fail
      refine HS.out.mono ?_
      rintro e w1 ⟨rfl, hc1⟩
      have hS1 := HS0.out.chg hc1 hBg hne hrow
      have c6 : w1.cell? ⟨k, 6, none⟩ = some (.int .u8 0) := hS1.dl.cell 6
      have f6 := hS1.dl.free 6
      go_wp2_with fail
      have hS1 := hS1.put 6 (.int .u8 h) hBk hne (d' := ⟨t, s, r, sh, b, x, h, 0, 0, 0, false, z⟩) rfl
      refine (HN.out _ hS1.rd).mono ?_
      rintro e w2 ⟨rfl, hc2⟩
      have hS2 := hS1.chg hc2 hBg hne (hS1.size hBg)
      have c7 : w2.cell? ⟨k, 7, none⟩ = some (.int .i64 0) := hS2.dl.cell 7
      have f7 := hS2.dl.free 7
      go_wp2_with fail
      have hS3 := hS2.put 7 (.int .i64 v) hBk hne (d' := ⟨t, s, r, sh, b, x, h, v, 0, 0, false, z⟩) rfl
      refine (HF.out _ hS3.rd).mono ?_
      rintro e w4 ⟨rfl, hc4⟩
      have hS4 := hS3.chg hc4 hBg hne (hS3.size hBg)
      go_wp2_with fail
      refine (K1.out _ hS4.rd).mono ?_
      rintro e w5 ⟨rfl, hc5⟩
      have hS5 := hS4.chg hc5 hBg hne (hS4.size hBg)
      have c8 : w5.cell? ⟨k, 8, none⟩ = some (.int .i64 0) := hS5.dl.cell 8
      have f8 := hS5.dl.free 8
      go_wp2_with fail
      have hS5 := hS5.put 8 (.int .i64 f) hBk hne (d' := ⟨t, s, r, sh, b, x, h, v, f, 0, false, z⟩) rfl
      refine (K2.out _ hS5.rd).mono ?_
      rintro e w6 ⟨rfl, hc6⟩
      have hS6 := hS5.chg hc6 hBg hne (hS5.size hBg)
      go_wp2_with fail
      refine (K3.out _ hS6.rd).mono ?_
      rintro e w8 ⟨rfl, hc8⟩
      have hS8 := hS6.chg hc8 hBg hne (hS6.size hBg)
      have c10 : w8.cell? ⟨k, 10, none⟩ = some (.bool false) := hS8.dl.cell 10
      have f10 := hS8.dl.free 10
      go_wp2_with fail
      have hS9 := hS8.put 10 (.bool u) hBk hne (d' := ⟨t, s, r, sh, b, x, h, v, f, 0, u, z⟩) rfl
      refine (K4.out _ hS9.rd).mono ?_
      rintro e w10 ⟨rfl, hc10⟩
      have hS10 := hS9.chg hc10 hBg hne (hS9.size hBg)
      go_wp2
      first | go_end0 | go_returns
      exact ⟨rfl, by rw [HO.out]; exact hS10⟩
    · rw [hi] at HS
      clear hS hwr ex hi
      go_enter Tryd.func66, Tryd.ntmps66
      go_wp2_with fail
      refine HS.out.mono ?_
      rintro e w1 ⟨rfl, hc1⟩
      have hS1 := HS0.out.chg hc1 hBg hne hrow
      go_wp2_with fail
      refine (HN.out _ hS1.rd).mono ?_
      rintro e w2 ⟨rfl, hc2⟩
      have hS2 := hS1.chg hc2 hBg hne (hS1.size hBg)
      have c7 : w2.cell? ⟨k, 7, none⟩ = some (.int .i64 0) := hS2.dl.cell 7
      have f7 := hS2.dl.free 7
      go_wp2_with fail
      have hS3 := hS2.put 7 (.int .i64 v) hBk hne (d' := ⟨t, s, r, sh, b, x, 0, v, 0, 0, false, z⟩) rfl
      refine (HF.out _ hS3.rd).mono ?_
      rintro e w4 ⟨rfl, hc4⟩
      have hS4 := hS3.chg hc4 hBg hne (hS3.size hBg)
      go_wp2_with fail
      refine (K1.out _ hS4.rd).mono ?_
      rintro e w5 ⟨rfl, hc5⟩
      have hS5 := hS4.chg hc5 hBg hne (hS4.size hBg)
      have c8 : w5.cell? ⟨k, 8, none⟩ = some (.int .i64 0) := hS5.dl.cell 8
      have f8 := hS5.dl.free 8
      go_wp2_with fail
      have hS5 := hS5.put 8 (.int .i64 f) hBk hne (d' := ⟨t, s, r, sh, b, x, 0, v, f, 0, false, z⟩) rfl
      refine (K2.out _ hS5.rd).mono ?_
      rintro e w6 ⟨rfl, hc6⟩
      have hS6 := hS5.chg hc6 hBg hne (hS5.size hBg)
      go_wp2_with fail
      refine (K2b.out _ hS6.rd).mono ?_
      rintro e w7 ⟨rfl, hc7⟩
      have hS7 := hS6.chg hc7 hBg hne (hS6.size hBg)
      have c9 : w7.cell? ⟨k, 9, none⟩ = some (.int .i64 0) := hS7.dl.cell 9
      have f9 := hS7.dl.free 9
      go_wp2_with fail
      have hS6 := hS7.put 9 (.int .i64 gg) hBk hne (d' := ⟨t, s, r, sh, b, x, 0, v, f, gg, false, z⟩) rfl
      refine (K3.out _ hS6.rd).mono ?_
      rintro e w8 ⟨rfl, hc8⟩
      have hS8 := hS6.chg hc8 hBg hne (hS6.size hBg)
      have c10 : w8.cell? ⟨k, 10, none⟩ = some (.bool false) := hS8.dl.cell 10
      have f10 := hS8.dl.free 10
      go_wp2_with fail
      have hS9 := hS8.put 10 (.bool u) hBk hne (d' := ⟨t, s, r, sh, b, x, 0, v, f, gg, u, z⟩) rfl
      refine (K4.out _ hS9.rd).mono ?_
      rintro e w10 ⟨rfl, hc10⟩
      have hS10 := hS9.chg hc10 hBg hne (hS9.size hBg)
      go_wp2
      first | go_end0 | go_returns
      exact ⟨rfl, by rw [HO.out]; exact hS10⟩
    · rw [hi] at HS
      have hw8 := hwr h0 h1
      clear hS hwr ex hi
      go_enter Tryd.func66, Tryd.ntmps66
      go_wp2_with fail
      refine HS.out.mono ?_
      rintro e w1 ⟨rfl, hc1⟩
      have hS1 := HS0.out.chg hc1 hBg hne hrow
      have c6 : w1.cell? ⟨k, 6, none⟩ = some (.int .u8 0) := hS1.dl.cell 6
      have f6 := hS1.dl.free 6
      go_wp2_with fail
      have hS1 := hS1.put 6 (.int .u8 h) hBk hne (d' := ⟨t, s, r, sh, b, x, h, 0, 0, 0, false, z⟩) rfl
      refine (HN.out _ hS1.rd).mono ?_
      rintro e w2 ⟨rfl, hc2⟩
      have hS2 := hS1.chg hc2 hBg hne (hS1.size hBg)
      have c7 : w2.cell? ⟨k, 7, none⟩ = some (.int .i64 0) := hS2.dl.cell 7
      have f7 := hS2.dl.free 7
      go_wp2_with fail
      have hS3 := hS2.put 7 (.int .i64 v) hBk hne (d' := ⟨t, s, r, sh, b, x, h, v, 0, 0, false, z⟩) rfl
      refine (HF.out _ hS3.rd).mono ?_
      rintro e w4 ⟨rfl, hc4⟩
      have hS4 := hS3.chg hc4 hBg hne (hS3.size hBg)
      go_wp2_with fail
      refine (K1.out _ hS4.rd).mono ?_
      rintro e w5 ⟨rfl, hc5⟩
      have hS5 := hS4.chg hc5 hBg hne (hS4.size hBg)
      have c8 : w5.cell? ⟨k, 8, none⟩ = some (.int .i64 0) := hS5.dl.cell 8
      have f8 := hS5.dl.free 8
      go_wp2_with fail
      have hS5 := hS5.put 8 (.int .i64 f) hBk hne (d' := ⟨t, s, r, sh, b, x, h, v, f, 0, false, z⟩) rfl
      refine (K2.out _ hS5.rd).mono ?_
      rintro e w6 ⟨rfl, hc6⟩
      have hS6 := hS5.chg hc6 hBg hne (hS5.size hBg)
      go_wp2_with fail
      refine (K2b.out _ hS6.rd).mono ?_
      rintro e w7 ⟨rfl, hc7⟩
      have hS7 := hS6.chg hc7 hBg hne (hS6.size hBg)
      have c9 : w7.cell? ⟨k, 9, none⟩ = some (.int .i64 0) := hS7.dl.cell 9
      have f9 := hS7.dl.free 9
      go_wp2_with fail
      have hS6 := hS7.put 9 (.int .i64 gg) hBk hne (d' := ⟨t, s, r, sh, b, x, h, v, f, gg, false, z⟩) rfl
      refine (K3.out _ hS6.rd).mono ?_
      rintro e w8 ⟨rfl, hc8⟩
      have hS8 := hS6.chg hc8 hBg hne (hS6.size hBg)
      have c10 : w8.cell? ⟨k, 10, none⟩ = some (.bool false) := hS8.dl.cell 10
      have f10 := hS8.dl.free 10
      go_wp2_with fail
      have hS9 := hS8.put 10 (.bool u) hBk hne (d' := ⟨t, s, r, sh, b, x, h, v, f, gg, u, z⟩) rfl
      refine (K4.out _ hS9.rd).mono ?_
      rintro e w10 ⟨rfl, hc10⟩
      have hS10 := hS9.chg hc10 hBg hne (hS9.size hBg)
      go_wp2
      first | go_end0 | go_returns
      exact ⟨rfl, by rw [HO.out]; exact hS10⟩
end Go.Proofs.YtkgdlimekkdekaaDoor
