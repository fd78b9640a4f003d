/- Contract of package notation's read. -/
import Derived.Test.YtkgdlimekkdekaaDoorNoE
set_option linter.unusedSimpArgs false
set_option linter.unusedVariables false
namespace Go.Proofs.YtkgdlimekkdekaaDoor
open Go.RowKit

theorem ix_hd (sn : List UInt8) (l : List UInt8) (h : ∀ c : UInt8, c ∈ sn → c.toNat ≠ 0) : (ix sn l = -1 ∧ ∀ c : UInt8, c ∈ sn → sg l ≠ c.toNat) ∨ (∃ c r, l = c :: r ∧ c ∈ sn ∧ ix sn l = (sn.idxOf c : Int)) := by
  have hm : ∀ (sn : List UInt8) (c : UInt8), (c ∈ sn → Lib.indexByte sn c = (sn.idxOf c : Int)) ∧ (¬ c ∈ sn → Lib.indexByte sn c = -1) := by
    intro sn c
    induction sn with
    | nil => exact ⟨fun h => by simp at h, fun _ => rfl⟩
    | cons b r ih =>
      unfold Lib.indexByte
      by_cases hb : b = c
      · subst hb; exact ⟨fun _ => by simp, fun h => by simp at h⟩
      · have hb2 : ¬ (b == c) = true := by simpa using hb
        rw [if_neg hb2]
        constructor
        · intro hc
          have hc2 : c ∈ r := by rcases List.mem_cons.1 hc with h | h; exact absurd h.symm hb; exact h
          rw [ih.1 hc2, if_neg (by simp)]
          have hb3 : (b == c) = false := by simpa using hb
          rw [List.idxOf_cons, hb3]
          simp
        · intro hc
          rw [ih.2 (fun h => hc (List.mem_cons_of_mem _ h))]; rfl
  cases l with
  | nil => left; exact ⟨rfl, fun c hc e => h c hc e.symm⟩
  | cons c r =>
    by_cases hc : c ∈ sn
    · right; exact ⟨c, r, rfl, hc, (hm sn c).1 hc⟩
    · left; exact ⟨(hm sn c).2 hc, fun b hb e => hc (by rw [show c = b from UInt8.toNat_inj.1 e]; exact hb)⟩
theorem ixT (l : List UInt8) : (ix [119, 110] l = -1 ∧ (stT l).1 = adv [119, 110] l ∧ (stT l).2 = 1) ∨ (ix [119, 110] l = 0 ∧ (stT l).1 = adv [119, 110] l ∧ (stT l).2 = 2) ∨ (ix [119, 110] l = 1 ∧ (stT l).1 = adv [119, 110] l ∧ (stT l).2 = 3) := by
  rcases ix_hd [119, 110] l (by decide) with ⟨h1, h2⟩ | ⟨c, r, rfl, hc, h1⟩
  · left
    have a : sg l ≠ 119 := h2 119 (by decide)
    have b : sg l ≠ 110 := h2 110 (by decide)
    unfold stT adv
    rw [h1, if_neg a, if_neg b]
    exact ⟨rfl, rfl, rfl⟩
  · have : c = 119 ∨ c = 110 := by simpa using hc
    rcases this with rfl | rfl
    · right; left; exact ⟨h1, rfl, rfl⟩
    · right; right; exact ⟨h1, rfl, rfl⟩
theorem ixS (t : Int) (l : List UInt8) : (ix srcs l = -1 ∧ (stS t l).1 = adv srcs l ∧ (stS t l).2 = plS t) ∨ (0 ≤ ix srcs l ∧ ix srcs l ≤ 3 ∧ (stS t l).1 = adv srcs l ∧ (stS t l).2 = ix srcs l) := by
  rcases ix_hd srcs l (by decide) with ⟨h1, h2⟩ | ⟨c, r, rfl, hc, h1⟩
  · left
    have a1 : sg l ≠ 46 := h2 46 (by decide)
    have a2 : sg l ≠ 111 := h2 111 (by decide)
    have a3 : sg l ≠ 98 := h2 98 (by decide)
    have a4 : sg l ≠ 108 := h2 108 (by decide)
    unfold stS adv
    rw [h1, if_neg a1, if_neg a2, if_neg a3, if_neg a4]
    exact ⟨rfl, rfl, rfl⟩
  · right
    have : c = 46 ∨ c = 111 ∨ c = 98 ∨ c = 108 := by simpa [srcs] using hc
    rw [h1]
    rcases this with rfl | rfl | rfl | rfl <;> exact ⟨by decide, by decide, rfl, rfl⟩
theorem ixB (l : List UInt8) : (ix [70, 83] l = -1 ∧ (stB l).1 = adv [70, 83] l ∧ (stB l).2 = 0) ∨ (ix [70, 83] l = 0 ∧ (stB l).1 = adv [70, 83] l ∧ (stB l).2 = 4) ∨ (ix [70, 83] l = 1 ∧ (stB l).1 = adv [70, 83] l ∧ (stB l).2 = 6) := by
  rcases ix_hd [70, 83] l (by decide) with ⟨h1, h2⟩ | ⟨c, r, rfl, hc, h1⟩
  · left
    have a : sg l ≠ 70 := h2 70 (by decide)
    have b : sg l ≠ 83 := h2 83 (by decide)
    unfold stB adv
    rw [h1, if_neg a, if_neg b]
    exact ⟨rfl, rfl, rfl⟩
  · have : c = 70 ∨ c = 83 := by simpa using hc
    rcases this with rfl | rfl
    · right; left; exact ⟨h1, rfl, rfl⟩
    · right; right; exact ⟨h1, rfl, rfl⟩
theorem stN_len (c : Nat) (l : List UInt8) : (stN (fun l => nmP l 0) c l).1.length ≤ l.length := by
  unfold stN; split
  · have := nmP_len l.tail 0; simp at this ⊢; omega
  · exact Nat.le_refl _
theorem stF_len (h v : Int) (l : List UInt8) : (stF (fun l => nmP l 0) h v l).1.length ≤ l.length := by
  unfold stF; split
  · have a1 := stX_len 41 (stX 115 (stN (fun l => nmP l 0) 44 (nmP l.tail 0).1).1).1
    have a2 := stX_len 115 (stN (fun l => nmP l 0) 44 (nmP l.tail 0).1).1
    have a3 := stN_len 44 (nmP l.tail 0).1
    have a4 := nmP_len l.tail 0
    simp only [List.length_tail] at a4
    dsimp only
    omega
  · exact Nat.le_refl _
theorem stW_len (l : List UInt8) : (stW (fun l => nmP l 0) wcP l).1.length ≤ l.length := by
  unfold stW; split
  · unfold stO
    have a1 := stF_len (wcP l.tail).2 (nmP (wcP l.tail).1 0).2 (nmP (wcP l.tail).1 0).1
    have a2 := nmP_len (wcP l.tail).1 0
    have a3 : (wcP l.tail).1.length ≤ l.tail.length := by rcases wcP_ix l.tail with ⟨_, e⟩ | ⟨_, _, e⟩ <;> (rw [e]; exact adv_len _ _)
    simp only [List.length_tail] at a3
    dsimp only
    omega
  · exact Nat.le_refl _
theorem ixN (c : UInt8) (hc : c.toNat ≠ 0) (l : List UInt8) : (stX c.toNat l = (l, false) ∧ stN (fun l => nmP l 0) c.toNat l = (l, 0)) ∨ (stX c.toNat l = (l.tail, true) ∧ stN (fun l => nmP l 0) c.toNat l = nmP l.tail 0) := by
  unfold stX stN
  by_cases h : sg l = c.toNat
  · right; rw [if_pos h, if_pos h]; exact ⟨rfl, rfl⟩
  · left; rw [if_neg h, if_neg h]; exact ⟨rfl, rfl⟩
def zeroD : Dl := ⟨0, 0, 0, 0, 0, false, 0, 0, 0, 0, false, 0⟩
set_option maxHeartbeats 4000000 in
theorem read_any (l : List UInt8) (w : World) (hl : l.length ≤ 4611686018427387904) :
    Calls Tryd.prog 39 #[S l] w fun e w' => e = .returned (DV (rdP l)) ∧ Below w.heap.size w w' := by
  obtain ⟨l1, e1⟩ : ∃ l1, l1 = (stT l).1 := ⟨_, rfl⟩
  obtain ⟨t, et⟩ : ∃ t, t = (stT l).2 := ⟨_, rfl⟩
  obtain ⟨l2, e2⟩ : ∃ l2, l2 = (stS t l1).1 := ⟨_, rfl⟩
  obtain ⟨s, es⟩ : ∃ s, s = (stS t l1).2 := ⟨_, rfl⟩
  obtain ⟨l3, e3⟩ : ∃ l3, l3 = (nmP l2 0).1 := ⟨_, rfl⟩
  obtain ⟨r, er⟩ : ∃ r, r = (nmP l2 0).2 := ⟨_, rfl⟩
  obtain ⟨l4, e4⟩ : ∃ l4, l4 = (stB l3).1 := ⟨_, rfl⟩
  obtain ⟨b, eb⟩ : ∃ b, b = (stB l3).2 := ⟨_, rfl⟩
  obtain ⟨l5, e5⟩ : ∃ l5, l5 = (stN (fun l => nmP l 0) 45 l4).1 := ⟨_, rfl⟩
  obtain ⟨sh, esh⟩ : ∃ sh, sh = (stN (fun l => nmP l 0) 45 l4).2 := ⟨_, rfl⟩
  obtain ⟨l6, e6⟩ : ∃ l6, l6 = (stX 120 l5).1 := ⟨_, rfl⟩
  obtain ⟨x, ex⟩ : ∃ x, x = (stX 120 l5).2 := ⟨_, rfl⟩
  obtain ⟨l7, e7⟩ : ∃ l7, l7 = (stW (fun l => nmP l 0) wcP l6).1 := ⟨_, rfl⟩
  obtain ⟨k, ek⟩ : ∃ k, k = (stW (fun l => nmP l 0) wcP l6).2 := ⟨_, rfl⟩
  obtain ⟨z, ez⟩ : ∃ z, z = (stN (fun l => nmP l 0) 64 l7).2 := ⟨_, rfl⟩
  have hD : Hid (rdP l = ⟨t, s, r, sh, b, x, k.h, k.v, k.f, k.g, k.u, z⟩) := Lib.hid (by
    rw [ez, ek, ex, esh, eb, er, es, et, e7, e6, e5, e4, e3, e2, e1, et]; rfl)
  have n1 : l1.length ≤ 4611686018427387904 := by
    rw [e1]; rcases ixT l with h | h | h <;> (rw [h.2.1]; have := adv_len [119, 110] l; omega)
  have n2 : l2.length ≤ 4611686018427387904 := by
    rw [e2]; rcases ixS t l1 with h | h
    · rw [h.2.1]; have := adv_len srcs l1; omega
    · rw [h.2.2.1]; have := adv_len srcs l1; omega
  have n3 : l3.length ≤ 4611686018427387904 := by rw [e3]; have := nmP_len l2 0; omega
  have n4 : l4.length ≤ 4611686018427387904 := by
    rw [e4]; rcases ixB l3 with h | h | h <;> (rw [h.2.1]; have := adv_len [70, 83] l3; omega)
  have n5 : l5.length ≤ 4611686018427387904 := by
    rw [e5]; unfold stN; split
    · have := nmP_len l4.tail 0; simp at this ⊢; omega
    · exact n4
  have n6 : l6.length ≤ 4611686018427387904 := by rw [e6]; have := stX_len 120 l5; omega
  have n7 : l7.length ≤ 4611686018427387904 := by rw [e7]; have := stW_len l6; omega
  have H1 : Hid (∀ g w, Row w g RT (RS l) → Calls Tryd.prog 63 #[.pointer (some ⟨g, 0, none⟩), .string ⟨#[119, 110]⟩] w fun e w' => e = .returned (.int .i64 (ix [119, 110] l)) ∧ Chg g RT (RS l1) w w') := Lib.hid (fun g w hr => by
    have e : l1 = adv [119, 110] l := by rw [e1]; rcases ixT l with h | h | h <;> exact h.2.1
    rw [e]; exact sign_any [119, 110] l g w hr hl)
  have H2 : Hid (∀ g w, Row w g RT (RS l1) → Calls Tryd.prog 63 #[.pointer (some ⟨g, 0, none⟩), .string ⟨#[46, 111, 98, 108]⟩] w fun e w' => e = .returned (.int .i64 (ix srcs l1)) ∧ Chg g RT (RS l2) w w') := Lib.hid (fun g w hr => by
    have e : l2 = adv srcs l1 := by rw [e2]; rcases ixS t l1 with h | h; exact h.2.1; exact h.2.2.1
    rw [e]; exact sign_any srcs l1 g w hr n1)
  have H3 : Hid (∀ g w, Row w g RT (RS l2) → Calls Tryd.prog 64 #[.pointer (some ⟨g, 0, none⟩)] w fun e w' => e = .returned (.int .i64 r) ∧ Chg g RT (RS l3) w w') := Lib.hid (fun g w hr => by rw [er, e3]; exact number_any l2 g w hr n2)
  have H4 : Hid (∀ g w, Row w g RT (RS l3) → Calls Tryd.prog 63 #[.pointer (some ⟨g, 0, none⟩), .string ⟨#[70, 83]⟩] w fun e w' => e = .returned (.int .i64 (ix [70, 83] l3)) ∧ Chg g RT (RS l4) w w') := Lib.hid (fun g w hr => by
    have e : l4 = adv [70, 83] l3 := by rw [e4]; rcases ixB l3 with h | h | h <;> exact h.2.1
    rw [e]; exact sign_any [70, 83] l3 g w hr n3)
  have H5 : Hid (∀ g w, Row w g RT (RS l4) → Calls Tryd.prog 65 #[.pointer (some ⟨g, 0, none⟩), .string ⟨#[45]⟩] w fun e w' => e = .returned (.bool (stX 45 l4).2) ∧ Chg g RT (RS (stX 45 l4).1) w w') := Lib.hid (fun g w hr => flag_any 45 (by decide) l4 g w hr n4)
  have H5n : Hid (stX 45 l4 = (l4.tail, true) → ∀ g w, Row w g RT (RS l4.tail) → Calls Tryd.prog 64 #[.pointer (some ⟨g, 0, none⟩)] w fun e w' => e = .returned (.int .i64 sh) ∧ Chg g RT (RS l5) w w') := Lib.hid (fun hx g w hr => by
    rcases ixN 45 (by decide) l4 with ⟨h1, _⟩ | ⟨_, h2⟩
    · rw [show (45 : UInt8).toNat = 45 from rfl, hx] at h1; exact absurd (congrArg Prod.snd h1) (by simp)
    · rw [esh, e5, show stN (fun l => nmP l 0) 45 l4 = nmP l4.tail 0 from h2]; exact number_any l4.tail g w hr (by simp; omega))
  have hX5 : (stX 45 l4 = (l4, false) ∧ l5 = l4 ∧ sh = 0) ∨ stX 45 l4 = (l4.tail, true) := by
    rcases ixN 45 (by decide) l4 with ⟨h1, h2⟩ | ⟨h1, h2⟩
    · left; refine ⟨h1, ?_, ?_⟩
      · rw [e5, show stN (fun l => nmP l 0) 45 l4 = (l4, 0) from h2]
      · rw [esh, show stN (fun l => nmP l 0) 45 l4 = (l4, 0) from h2]
    · right; exact h1
  have H6 : Hid (∀ g w, Row w g RT (RS l5) → Calls Tryd.prog 65 #[.pointer (some ⟨g, 0, none⟩), .string ⟨#[120]⟩] w fun e w' => e = .returned (.bool x) ∧ Chg g RT (RS l6) w w') := Lib.hid (fun g w hr => by rw [ex, e6]; exact flag_any 120 (by decide) l5 g w hr n5)
  have H7 : Hid (∀ g w, Row w g RT (RS l6) → Calls Tryd.prog 65 #[.pointer (some ⟨g, 0, none⟩), .string ⟨#[47]⟩] w fun e w' => e = .returned (.bool (stX 47 l6).2) ∧ Chg g RT (RS (stX 47 l6).1) w w') := Lib.hid (fun g w hr => flag_any 47 (by decide) l6 g w hr n6)
  have hX7 : (stX 47 l6 = (l6, false) ∧ l7 = l6 ∧ k = ⟨0, 0, 0, 0, false⟩) ∨ (stX 47 l6 = (l6.tail, true) ∧ l7 = (stO (fun l => nmP l 0) wcP l6.tail).1 ∧ k = (stO (fun l => nmP l 0) wcP l6.tail).2) := by
    rw [e7, ek]
    unfold stX stW
    by_cases h : sg l6 = 47
    · right; rw [if_pos h, if_pos h]; exact ⟨rfl, rfl, rfl⟩
    · left; rw [if_neg h, if_neg h]; exact ⟨rfl, rfl, rfl⟩
  have H8 : Hid (∀ g w, Row w g RT (RS l7) → Calls Tryd.prog 65 #[.pointer (some ⟨g, 0, none⟩), .string ⟨#[64]⟩] w fun e w' => e = .returned (.bool (stX 64 l7).2) ∧ Chg g RT (RS (stX 64 l7).1) w w') := Lib.hid (fun g w hr => flag_any 64 (by decide) l7 g w hr n7)
  have H8n : Hid (stX 64 l7 = (l7.tail, true) → ∀ g w, Row w g RT (RS l7.tail) → Calls Tryd.prog 64 #[.pointer (some ⟨g, 0, none⟩)] w fun e w' => e = .returned (.int .i64 z) ∧ Chg g RT (RS (nmP l7.tail 0).1) w w') := Lib.hid (fun hx g w hr => by
    rcases ixN 64 (by decide) l7 with ⟨h1, _⟩ | ⟨_, h2⟩
    · rw [show (64 : UInt8).toNat = 64 from rfl, hx] at h1; exact absurd (congrArg Prod.snd h1) (by simp)
    · rw [ez, show stN (fun l => nmP l 0) 64 l7 = nmP l7.tail 0 from h2]; exact number_any l7.tail g w hr (by simp; omega))
  have hX8 : (stX 64 l7 = (l7, false) ∧ z = 0) ∨ stX 64 l7 = (l7.tail, true) := by
    rcases ixN 64 (by decide) l7 with ⟨h1, h2⟩ | ⟨h1, h2⟩
    · left; exact ⟨h1, by rw [ez, show stN (fun l => nmP l 0) 64 l7 = (l7, 0) from h2]⟩
    · right; exact h1
  have hT : (ix [119, 110] l = -1 ∧ t = 1) ∨ (ix [119, 110] l = 0 ∧ t = 2) ∨ (ix [119, 110] l = 1 ∧ t = 3) := by
    rw [et]; rcases ixT l with h | h | h
    · left; exact ⟨h.1, h.2.2⟩
    · right; left; exact ⟨h.1, h.2.2⟩
    · right; right; exact ⟨h.1, h.2.2⟩
  have hSS : (ix srcs l1 = -1 ∧ s = plS t) ∨ (ix srcs l1 = s ∧ 0 ≤ s ∧ s ≤ 3) := by
    rw [es]; rcases ixS t l1 with h | h
    · left; exact ⟨h.1, h.2.2⟩
    · right; rw [h.2.2.2]; exact ⟨rfl, h.1, h.2.1⟩
  have hB : (ix [70, 83] l3 = -1 ∧ b = 0) ∨ (ix [70, 83] l3 = 0 ∧ b = 4) ∨ (ix [70, 83] l3 = 1 ∧ b = 6) := by
    rw [eb]; rcases ixB l3 with h | h | h
    · left; exact ⟨h.1, h.2.2⟩
    · right; left; exact ⟨h.1, h.2.2⟩
    · right; right; exact ⟨h.1, h.2.2⟩
  have HP := Lib.hid (plS_any t)
  have HT := Lib.hid hT
  have HSS := Lib.hid hSS
  have HB := Lib.hid hB
  have HX5 := Lib.hid hX5
  have HX7 := Lib.hid hX7
  have HX8 := Lib.hid hX8
  rw [hD.out]
  clear hT hSS hB hX5 hX7 hX8 e1 e2 e3 e4 e5 e6 e7 et es er eb esh ex ek ez hD n1 n2 n3 n4 n5
  generalize ix [119, 110] l = i1 at *
  generalize ix srcs l1 = i2 at *
  generalize ix [70, 83] l3 = i3 at *
  generalize stX 45 l4 = p5 at *
  obtain ⟨m5, q5⟩ := p5
  generalize stX 47 l6 = p7 at *
  obtain ⟨m7, q7⟩ := p7
  generalize stX 64 l7 = p8 at *
  obtain ⟨m8, q8⟩ := p8
  dsimp only at H5 H7 H8
  obtain ⟨Z, hZ⟩ : ∃ Z, Z = w.alloc (.cells #[.int .u8 0, .int .u8 0, .int .i64 0, .int .i64 0, .int .i64 0, .bool false, .int .u8 0, .int .i64 0, .int .i64 0, .int .i64 0, .bool false, .int .i64 0] DT) := ⟨_, rfl⟩
  have zrow : Hid (Row Z w.heap.size DT (DC zeroD)) := Lib.hid (by rw [hZ]; exact box_row zeroD w)
  have zb : Hid (Below w.heap.size w Z) := Lib.hid (by rw [hZ]; (repeat' (first | (with_reducible exact Below.refl _ _) | (with_reducible refine Below.setCell ?_ ?_ _) | (with_reducible refine Below.alloc ?_ ?_ _) | (with_reducible refine Below.drew ?_) | (with_reducible refine belowN ?_ _) | (with_reducible refine below_step ?_ ?_ (by with_reducible assumption)) | go_size)))
  have zz : Z.heap.size = w.heap.size + 1 := by rw [hZ]; simp
  go_enter Tryd.func39, Tryd.ntmps39
  go_wp2_with fail
  rw [← hZ]
  have hS0 : St (w.heap.size + 1) (w.heap.size + 1) (w.heap.size + 1 + 1) l ⟨1, 0, 0, 0, 0, false, 0, 0, 0, 0, false, 0⟩ Z ((Z.alloc (.cells #[S l] RT)).alloc (.cells #[.int .u8 1, .int .u8 0, .int .i64 0, .int .i64 0, .int .i64 0, .bool false, .int .u8 0, .int .i64 0, .int .i64 0, .int .i64 0, .bool false, .int .i64 0] DT)) := by
    refine ⟨?_, ?_, ?_⟩
    · have h := (Row.new Z RT (RS l)).alloc (.cells #[.int .u8 1, .int .u8 0, .int .i64 0, .int .i64 0, .int .i64 0, .bool false, .int .u8 0, .int .i64 0, .int .i64 0, .int .i64 0, .bool false, .int .i64 0] DT)
      rw [zz] at h; exact h
    · have h := box_row ⟨1, 0, 0, 0, 0, false, 0, 0, 0, 0, false, 0⟩ (Z.alloc (.cells #[S l] RT))
      rw [World.size_alloc, zz] at h; exact h
    · rw [← zz]; (repeat' (first | (with_reducible exact Below.refl _ _) | (with_reducible refine Below.setCell ?_ ?_ _) | (with_reducible refine Below.alloc ?_ ?_ _) | (with_reducible refine Below.drew ?_) | (with_reducible refine belowN ?_ _) | (with_reducible refine below_step ?_ ?_ (by with_reducible assumption)) | go_size))
  have hBg : w.heap.size + 1 ≤ w.heap.size + 1 := Nat.le_refl _
  have hBk : w.heap.size + 1 ≤ w.heap.size + 1 + 1 := by omega
  have hne : w.heap.size + 1 + 1 ≠ w.heap.size + 1 := by omega
  refine (H1.out _ _ hS0.rd).mono ?_
  rintro e w1 ⟨rfl, hc1⟩
  have hS1 := hS0.chg hc1 hBg hne (hS0.size hBg)
  have c0 : w1.cell? ⟨w.heap.size + 1 + 1, 0, none⟩ = some (.int .u8 1) := hS1.dl.cell 0
  have f0 := hS1.dl.free 0
  go_upto_if 13 with fail
  go_cut [5] (fun v5 wx => St (w.heap.size + 1) (w.heap.size + 1) (w.heap.size + 1 + 1) l1 ⟨t, 0, 0, 0, 0, false, 0, 0, 0, 0, false, 0⟩ Z wx)
  case first =>
    rcases HT.out with ⟨rfl, rfl⟩ | ⟨rfl, rfl⟩ | ⟨rfl, rfl⟩
    · go_wp2
      go_meet
      case rel => exact hS1
    · go_wp2
      go_meet
      case rel => exact hS1.put 0 (.int .u8 2) hBk hne rfl
    · go_wp2
      go_meet
      case rel => exact hS1.put 0 (.int .u8 3) hBk hne rfl
  case rest =>
  clear c0 f0 hS1 hc1 hS0 HT H1
  have hS2 := hcut
  clear hcut
  have c0 : wc.cell? ⟨w.heap.size + 1 + 1, 0, none⟩ = some (.int .u8 t) := hS2.dl.cell 0
  have f0 := hS2.dl.free 0
  have c1 : wc.cell? ⟨w.heap.size + 1 + 1, 1, none⟩ = some (.int .u8 0) := hS2.dl.cell 1
  have f1 := hS2.dl.free 1
  go_wp2_with fail
  refine (HP.out _).mono ?_
  rintro e w' ⟨rfl, rfl⟩
  go_wp2_with fail
  have hS3 := hS2.put 1 (.int .u8 (plS t)) hBk hne (d' := ⟨t, plS t, 0, 0, 0, false, 0, 0, 0, 0, false, 0⟩) rfl
  refine (H2.out _ _ hS3.rd).mono ?_
  rintro e w3 ⟨rfl, hc3⟩
  have hS4 := hS3.chg hc3 hBg hne (hS3.size hBg)
  clear c0 f0 c1 f1
  have c1 : w3.cell? ⟨w.heap.size + 1 + 1, 1, none⟩ = some (.int .u8 (plS t)) := hS4.dl.cell 1
  have f1 := hS4.dl.free 1
  go_upto_if 24 with fail
  go_cut [6] (fun v6 wx => St (w.heap.size + 1) (w.heap.size + 1) (w.heap.size + 1 + 1) l2 ⟨t, s, 0, 0, 0, false, 0, 0, 0, 0, false, 0⟩ Z wx)
  case first =>
    rcases HSS.out with ⟨rfl, rfl⟩ | ⟨rfl, h0, h3⟩
    · go_wp2
      go_meet
      case rel => exact hS4
    · have hwr : IntKind.u8.wrap i2 = i2 := by rw [IntKind.wrap_u8]; omega
      go_wp2
      go_meet
      case rel => exact hS4.put 1 (.int .u8 _) hBk hne rfl
  case rest =>
  clear c1 f1 hS4 hc3 hS3 hS2 HSS H2 HP
  have hS4 := hcut
  clear hcut
  go_wp2_with fail
  refine (H3.out _ _ hS4.rd).mono ?_
  rintro e w5 ⟨rfl, hc5⟩
  have hS5 := hS4.chg hc5 hBg hne (hS4.size hBg)
  have c2 : w5.cell? ⟨w.heap.size + 1 + 1, 2, none⟩ = some (.int .i64 0) := hS5.dl.cell 2
  have f2 := hS5.dl.free 2
  go_wp2_with fail
  have hS6 := hS5.put 2 (.int .i64 r) hBk hne (d' := ⟨t, s, r, 0, 0, false, 0, 0, 0, 0, false, 0⟩) rfl
  refine (H4.out _ _ hS6.rd).mono ?_
  rintro e w6 ⟨rfl, hc6⟩
  have hS7 := hS6.chg hc6 hBg hne (hS6.size hBg)
  clear c2 f2
  have c4 : w6.cell? ⟨w.heap.size + 1 + 1, 4, none⟩ = some (.int .i64 0) := hS7.dl.cell 4
  have f4 := hS7.dl.free 4
  go_upto_if 32 with fail
  go_cut [7] (fun v7 wx => St (w.heap.size + 1) (w.heap.size + 1) (w.heap.size + 1 + 1) l4 ⟨t, s, r, 0, b, false, 0, 0, 0, 0, false, 0⟩ Z wx)
  case first =>
    rcases HB.out with ⟨rfl, rfl⟩ | ⟨rfl, rfl⟩ | ⟨rfl, rfl⟩
    · go_wp2
      go_meet
      case rel => exact hS7
    · go_wp2
      go_meet
      case rel => exact hS7.put 4 (.int .i64 4) hBk hne rfl
    · go_wp2
      go_meet
      case rel => exact hS7.put 4 (.int .i64 6) hBk hne rfl
  case rest =>
  clear c4 f4 hS7 hc6 hS6 hS5 hc5 hS4 HB H3 H4
  have hS7 := hcut
  clear hcut
  go_wp2_with fail
  refine (H5.out _ _ hS7.rd).mono ?_
  rintro e w7 ⟨rfl, hc7⟩
  have hS8 := hS7.chg hc7 hBg hne (hS7.size hBg)
  go_upto_if 37 with fail
  go_cut [] (fun wx => St (w.heap.size + 1) (w.heap.size + 1) (w.heap.size + 1 + 1) l5 ⟨t, s, r, sh, b, false, 0, 0, 0, 0, false, 0⟩ Z wx)
  case first =>
    rcases HX5.out with ⟨hx, rfl, rfl⟩ | hx
    · injection hx with hx1 hx2
      subst hx1 hx2
      go_wp2
      go_meet
      case rel => exact hS8
    · have HN := Lib.hid (H5n.out hx)
      injection hx with hx1 hx2
      subst hx1 hx2
      go_wp2_with fail
      refine (HN.out _ _ hS8.rd).mono ?_
      rintro e w8 ⟨rfl, hc8⟩
      have hS9 := hS8.chg hc8 hBg hne (hS8.size hBg)
      have c3 : w8.cell? ⟨w.heap.size + 1 + 1, 3, none⟩ = some (.int .i64 0) := hS9.dl.cell 3
      have f3 := hS9.dl.free 3
      go_wp2
      go_meet
      case rel => exact hS9.put 3 (.int .i64 sh) hBk hne rfl
  case rest =>
  clear hS8 hc7 hS7 HX5 H5 H5n
  have hS8 := hcut
  clear hcut
  go_wp2_with fail
  refine (H6.out _ _ hS8.rd).mono ?_
  rintro e w9 ⟨rfl, hc9⟩
  have hS9 := hS8.chg hc9 hBg hne (hS8.size hBg)
  have c5 : w9.cell? ⟨w.heap.size + 1 + 1, 5, none⟩ = some (.bool false) := hS9.dl.cell 5
  have f5 := hS9.dl.free 5
  go_wp2_with fail
  have hS10 := hS9.put 5 (.bool x) hBk hne (d' := ⟨t, s, r, sh, b, x, 0, 0, 0, 0, false, 0⟩) rfl
  refine (H7.out _ _ hS10.rd).mono ?_
  rintro e w10 ⟨rfl, hc10⟩
  have hS11 := hS10.chg hc10 hBg hne (hS10.size hBg)
  clear c5 f5
  go_upto_if 42 with fail
  go_cut [] (fun wx => St (w.heap.size + 1) (w.heap.size + 1) (w.heap.size + 1 + 1) l7 ⟨t, s, r, sh, b, x, k.h, k.v, k.f, k.g, k.u, 0⟩ Z wx)
  case first =>
    rcases HX7.out with ⟨hx, hl7, rfl⟩ | ⟨hx, hl7, hk7⟩
    · injection hx with hx1 hx2
      subst hx1 hx2 hl7
      go_wp2
      go_meet
      case rel => exact hS11
    · injection hx with hx1 hx2
      subst hx1 hx2
      go_wp2_with fail
      refine (readWicket_any _ _ _ _ t s r sh b 0 x Z _ hS11 hBg hBk hne (by simp; omega)).mono ?_
      rintro e w11 ⟨rfl, hS12⟩
      rw [← hl7, ← hk7] at hS12
      clear hl7 hk7
      go_wp2
      go_meet
      case rel => exact hS12
  case rest =>
  clear hS11 hc10 hS10 hS9 hc9 hS8 HX7 H7 H6
  have hS12 := hcut
  clear hcut
  go_wp2_with fail
  refine (H8.out _ _ hS12.rd).mono ?_
  rintro e w12 ⟨rfl, hc12⟩
  have hS13 := hS12.chg hc12 hBg hne (hS12.size hBg)
  go_upto_if 44 with fail
  go_cut [] (fun wx => ∃ l8, St (w.heap.size + 1) (w.heap.size + 1) (w.heap.size + 1 + 1) l8 ⟨t, s, r, sh, b, x, k.h, k.v, k.f, k.g, k.u, z⟩ Z wx)
  case first =>
    rcases HX8.out with ⟨hx, rfl⟩ | hx
    · injection hx with hx1 hx2
      subst hx1 hx2
      go_wp2
      go_meet
      case rel => exact ⟨_, hS13⟩
    · have HN := Lib.hid (H8n.out hx)
      injection hx with hx1 hx2
      subst hx1 hx2
      go_wp2_with fail
      refine (HN.out _ _ hS13.rd).mono ?_
      rintro e w13 ⟨rfl, hc13⟩
      have hS14 := hS13.chg hc13 hBg hne (hS13.size hBg)
      have c11 : w13.cell? ⟨w.heap.size + 1 + 1, 11, none⟩ = some (.int .i64 0) := hS14.dl.cell 11
      have f11 := hS14.dl.free 11
      go_wp2
      go_meet
      case rel => exact ⟨_, hS14.put 11 (.int .i64 z) hBk hne rfl⟩
  case rest =>
  obtain ⟨l8, hS14⟩ := hcut
  clear hS13 hc12 hS12 HX8 H8 H8n
  have zr := zrow.out.below hS14.old (by omega)
  have c0 : wc.cell? ⟨w.heap.size + 1 + 1, 0, none⟩ = some (.int .u8 t) := hS14.dl.cell 0
  have d0 : wc.cell? ⟨w.heap.size, 0, none⟩ = some (.int .u8 0) := zr.cell 0
  have f0 := zr.free 0
  have c1 : wc.cell? ⟨w.heap.size + 1 + 1, 1, none⟩ = some (.int .u8 s) := hS14.dl.cell 1
  have d1 : wc.cell? ⟨w.heap.size, 1, none⟩ = some (.int .u8 0) := zr.cell 1
  have f1 := zr.free 1
  have c2 : wc.cell? ⟨w.heap.size + 1 + 1, 2, none⟩ = some (.int .i64 r) := hS14.dl.cell 2
  have d2 : wc.cell? ⟨w.heap.size, 2, none⟩ = some (.int .i64 0) := zr.cell 2
  have f2 := zr.free 2
  have c3 : wc.cell? ⟨w.heap.size + 1 + 1, 3, none⟩ = some (.int .i64 sh) := hS14.dl.cell 3
  have d3 : wc.cell? ⟨w.heap.size, 3, none⟩ = some (.int .i64 0) := zr.cell 3
  have f3 := zr.free 3
  have c4 : wc.cell? ⟨w.heap.size + 1 + 1, 4, none⟩ = some (.int .i64 b) := hS14.dl.cell 4
  have d4 : wc.cell? ⟨w.heap.size, 4, none⟩ = some (.int .i64 0) := zr.cell 4
  have f4 := zr.free 4
  have c5 : wc.cell? ⟨w.heap.size + 1 + 1, 5, none⟩ = some (.bool x) := hS14.dl.cell 5
  have d5 : wc.cell? ⟨w.heap.size, 5, none⟩ = some (.bool false) := zr.cell 5
  have f5 := zr.free 5
  have c6 : wc.cell? ⟨w.heap.size + 1 + 1, 6, none⟩ = some (.int .u8 k.h) := hS14.dl.cell 6
  have d6 : wc.cell? ⟨w.heap.size, 6, none⟩ = some (.int .u8 0) := zr.cell 6
  have f6 := zr.free 6
  have c7 : wc.cell? ⟨w.heap.size + 1 + 1, 7, none⟩ = some (.int .i64 k.v) := hS14.dl.cell 7
  have d7 : wc.cell? ⟨w.heap.size, 7, none⟩ = some (.int .i64 0) := zr.cell 7
  have f7 := zr.free 7
  have c8 : wc.cell? ⟨w.heap.size + 1 + 1, 8, none⟩ = some (.int .i64 k.f) := hS14.dl.cell 8
  have d8 : wc.cell? ⟨w.heap.size, 8, none⟩ = some (.int .i64 0) := zr.cell 8
  have f8 := zr.free 8
  have c9 : wc.cell? ⟨w.heap.size + 1 + 1, 9, none⟩ = some (.int .i64 k.g) := hS14.dl.cell 9
  have d9 : wc.cell? ⟨w.heap.size, 9, none⟩ = some (.int .i64 0) := zr.cell 9
  have f9 := zr.free 9
  have c10 : wc.cell? ⟨w.heap.size + 1 + 1, 10, none⟩ = some (.bool k.u) := hS14.dl.cell 10
  have d10 : wc.cell? ⟨w.heap.size, 10, none⟩ = some (.bool false) := zr.cell 10
  have f10 := zr.free 10
  have c11 : wc.cell? ⟨w.heap.size + 1 + 1, 11, none⟩ = some (.int .i64 z) := hS14.dl.cell 11
  have d11 : wc.cell? ⟨w.heap.size, 11, none⟩ = some (.int .i64 0) := zr.cell 11
  have f11 := zr.free 11
  have hb0 : Below w.heap.size w wc := zb.out.trans (hS14.old.mono (by omega))
  obtain ⟨W, hW⟩ : ∃ W, W = ((((((((((((wc.setCell ⟨w.heap.size, 0, none⟩ (.int .u8 t)).setCell ⟨w.heap.size, 1, none⟩ (.int .u8 s)).setCell ⟨w.heap.size, 2, none⟩ (.int .i64 r)).setCell ⟨w.heap.size, 3, none⟩ (.int .i64 sh)).setCell ⟨w.heap.size, 4, none⟩ (.int .i64 b)).setCell ⟨w.heap.size, 5, none⟩ (.bool x)).setCell ⟨w.heap.size, 6, none⟩ (.int .u8 k.h)).setCell ⟨w.heap.size, 7, none⟩ (.int .i64 k.v)).setCell ⟨w.heap.size, 8, none⟩ (.int .i64 k.f)).setCell ⟨w.heap.size, 9, none⟩ (.int .i64 k.g)).setCell ⟨w.heap.size, 10, none⟩ (.bool k.u)).setCell ⟨w.heap.size, 11, none⟩ (.int .i64 z)) := ⟨_, rfl⟩
  have wrow : Row W w.heap.size DT (DC ⟨t, s, r, sh, b, x, k.h, k.v, k.f, k.g, k.u, z⟩) := by rw [hW]; exact ((((((((((((zr.put 0 (.int .u8 t)).put 1 (.int .u8 s)).put 2 (.int .i64 r)).put 3 (.int .i64 sh)).put 4 (.int .i64 b)).put 5 (.bool x)).put 6 (.int .u8 k.h)).put 7 (.int .i64 k.v)).put 8 (.int .i64 k.f)).put 9 (.int .i64 k.g)).put 10 (.bool k.u)).put 11 (.int .i64 z))
  have hbW : Below w.heap.size w W := by
    rw [hW]
    repeat' (first | (with_reducible exact hb0) | (with_reducible refine Below.setCell ?_ ?_ _) | exact Nat.le_refl _)
  go_wp2
  rw [← hW]
  clear hW
  have q0 : W.cell? ⟨w.heap.size, 0, none⟩ = some (.int .u8 t) := wrow.cell 0
  have q1 : W.cell? ⟨w.heap.size, 1, none⟩ = some (.int .u8 s) := wrow.cell 1
  have q2 : W.cell? ⟨w.heap.size, 2, none⟩ = some (.int .i64 r) := wrow.cell 2
  have q3 : W.cell? ⟨w.heap.size, 3, none⟩ = some (.int .i64 sh) := wrow.cell 3
  have q4 : W.cell? ⟨w.heap.size, 4, none⟩ = some (.int .i64 b) := wrow.cell 4
  have q5 : W.cell? ⟨w.heap.size, 5, none⟩ = some (.bool x) := wrow.cell 5
  have q6 : W.cell? ⟨w.heap.size, 6, none⟩ = some (.int .u8 k.h) := wrow.cell 6
  have q7 : W.cell? ⟨w.heap.size, 7, none⟩ = some (.int .i64 k.v) := wrow.cell 7
  have q8 : W.cell? ⟨w.heap.size, 8, none⟩ = some (.int .i64 k.f) := wrow.cell 8
  have q9 : W.cell? ⟨w.heap.size, 9, none⟩ = some (.int .i64 k.g) := wrow.cell 9
  have q10 : W.cell? ⟨w.heap.size, 10, none⟩ = some (.bool k.u) := wrow.cell 10
  have q11 : W.cell? ⟨w.heap.size, 11, none⟩ = some (.int .i64 z) := wrow.cell 11
  refine bodyPost_ret (v := DV ⟨t, s, r, sh, b, x, k.h, k.v, k.f, k.g, k.u, z⟩) (by simp [results, Tryd.results39, go_sem, q0, q1, q2, q3, q4, q5, q6, q7, q8, q9, q10, q11]) rfl ?_
  exact ⟨rfl, hbW⟩
end Go.Proofs.YtkgdlimekkdekaaDoor
