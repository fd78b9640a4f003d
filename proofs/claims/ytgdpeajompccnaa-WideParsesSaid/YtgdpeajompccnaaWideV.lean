/- The contract of the reference's division of an absolute value, bit by bit. -/
import Derived.Test.YtgdpeajompccnaaWideP
import Derived.Test.YtgdpeajompccnaaDivBits
import Derived.BigRegion
import Derived.Laws.ShiftsVarLaws
set_option linter.unusedSimpArgs false
set_option linter.unusedVariables false
namespace Go.Proofs.Ytgdpeajompccnaa
open Go.RowKit

theorem cel_drew1 {w : World} {b n : Nat} {f : Nat → Int} (h : Cel w b n f) : Cel w.drew b n f := cel_drew h 1
theorem or_bit (Q m : Int) (r : Nat) (h : Q = 2 ^ r * 2 * m) (h0 : 0 ≤ Q) (h1 : Q + 2 ^ r < 4294967296) : bits .or .u64 Q (2 ^ r) = Q + 2 ^ r := by
  have hp := pow_1 r
  rw [u64_or Q _ h0 (by omega) (by omega) (by omega), toNat_two_pow]
  rw [nat_join (r + 1) _ _ ?_ ?_]
  · have : ((2 ^ r : Nat) : Int) = (2 : Int) ^ r := by simp
    omega
  · have e : ((Q.toNat % 2 ^ (r + 1) : Nat) : Int) = 0 := by
      rw [Int.natCast_emod, Int.toNat_of_nonneg h0]
      have : ((2 ^ (r + 1) : Nat) : Int) = (2 : Int) ^ r * 2 := by rw [Nat.pow_succ]; simp
      rw [this, h, Int.mul_emod_right]
    exact Int.ofNat.inj e
  · rw [Nat.pow_succ]; have := Nat.two_pow_pos r; omega
theorem bit_val (C : Int) (h0 : 0 ≤ C) (h1 : C < 4294967296) (r : Nat) : bits .and .u64 (C / 2 ^ r) 1 = C / 2 ^ r % 2 := by
  have hp := pow_1 r
  have hq : 0 ≤ C / 2 ^ r := Int.ediv_nonneg h0 (by omega)
  have hq2 : C / 2 ^ r ≤ C := Int.ediv_le_self _ h0
  rw [u64_and _ 1 hq (by omega) (by decide) (by decide)]
  have : (1 : Int).toNat = 1 := rfl
  rw [this, nat_mask1]
  omega
theorem or_low (s b : Int) (hs : 0 ≤ s) (hs1 : s < 18446744073709551616) (h2 : s % 2 = 0) (hb : b = 0 ∨ b = 1) : bits .or .u64 s b = s + b := by
  rw [u64_or s b hs hs1 (by omega) (by omega), nat_join 1 _ _ (by omega) (by omega)]
  omega
theorem top_val (rest d b : Int) (h0 : 0 ≤ rest) (h1 : rest < d) (h2 : d < 18446744073709551616) (hb : b = 0 ∨ b = 1) (ht : rest / 9223372036854775808 = 1) :
    IntKind.u64.wrap (bits .or .u64 (IntKind.u64.wrap (rest * 2)) b - d) = 2 * rest + b - d ∧ d ≤ 2 * rest + b := by
  simp only [IntKind.wrap_u64]
  rw [or_low _ _ (by omega) (by omega) (by omega) hb]
  omega
theorem low_val (rest d b : Int) (h0 : 0 ≤ rest) (h1 : rest < d) (h2 : d < 18446744073709551616) (hb : b = 0 ∨ b = 1) (ht : ¬ rest / 9223372036854775808 = 1) :
    bits .or .u64 (IntKind.u64.wrap (rest * 2)) b = 2 * rest + b ∧ (d ≤ 2 * rest + b → IntKind.u64.wrap (2 * rest + b - d) = 2 * rest + b - d) := by
  simp only [IntKind.wrap_u64]
  rw [or_low _ _ (by omega) (by omega) (by omega) hb]
  omega

set_option maxHeartbeats 4000000 in
theorem rdivide_any (x d : Int) (w : World) (hx : 0 ≤ x ∧ x < 340282366920938463463374607431768211456) (hd : 1 ≤ d ∧ d < 18446744073709551616) :
    Calls Try.prog 48 #[P4 x, .int .u64 d] w fun e w' => e = .returned (.tuple #[P4 (x / d), .int .u64 (x % d)]) ∧ Below w.heap.size w w' := by
  obtain ⟨c, hc⟩ : ∃ c : Nat → Int, c = fun | 0 => l0 x | 1 => l1 x | 2 => l2 x | _ => l3 x := ⟨_, rfl⟩
  have c0 : l0 x = c 0 := by subst hc; rfl
  have c1 : l1 x = c 1 := by subst hc; rfl
  have c2 : l2 x = c 2 := by subst hc; rfl
  have c3 : l3 x = c 3 := by subst hc; rfl
  have HC : Hid (∀ j, j < 4 → c j = x / 2 ^ (32 * j) % 4294967296) := Lib.hid (fun j hj => by
    rcases (show j = 0 ∨ j = 1 ∨ j = 2 ∨ j = 3 by omega) with rfl | rfl | rfl | rfl
    · rw [← c0]; show _ = x / 1 % 4294967296; unfold l0; omega
    · rw [← c1]; rfl
    · rw [← c2]; rfl
    · rw [← c3]; rfl)
  have HS := Lib.hid (dinv_start x d hx.1 hx.2)
  unfold P4
  rw [c0, c1, c2, c3]
  have HD := Lib.hid hd
  clear c0 c1 c2 c3 hc hx hd
  go_enter Try.func48, Try.ntmps48
  go_wp2
  go_loopw [7, 8] (fun rr p wr => ∃ (k : Nat) (iv rest : Int) (q : Nat → Int), k ≤ 128 ∧ rr = .int .u64 rest ∧ p = .int .i64 iv ∧ Hid (iv = (k : Int) - 1) ∧ Hid (DInv x d k rest q) ∧ Hid (Cel wr w.heap.size 4 c) ∧ Hid (Cel wr (w.heap.size + 1) 4 (fun _ => 0)) ∧ Hid (Cel wr (w.heap.size + 1 + 1) 4 q) ∧ Hid (Below w.heap.size w wr)) (fun _ p _ => (intOf p + 1).toNat)
  case atStart =>
    refine ⟨128, 127, 0, fun _ => 0, by omega, rfl, rfl, Lib.hid (by omega), HS, Lib.hid ?_, Lib.hid ?_, Lib.hid ?_, Lib.hid (by (repeat' (first | (with_reducible exact Below.refl _ _) | (with_reducible refine Below.setCell ?_ ?_ _) | (with_reducible refine Below.alloc ?_ ?_ _) | (with_reducible refine Below.drew ?_) | (with_reducible refine belowN ?_ _) | (with_reducible refine below_step ?_ ?_ (by with_reducible assumption)) | go_size)))⟩
    · intro j hj; rcases (show j = 0 ∨ j = 1 ∨ j = 2 ∨ j = 3 by omega) with rfl | rfl | rfl | rfl <;> simp [go_sem]
    · intro j hj; rcases (show j = 0 ∨ j = 1 ∨ j = 2 ∨ j = 3 by omega) with rfl | rfl | rfl | rfl <;> simp [go_sem]
    · intro j hj; rcases (show j = 0 ∨ j = 1 ∨ j = 2 ∨ j = 3 by omega) with rfl | rfl | rfl | rfl <;> simp [go_sem]
  case round =>
    obtain ⟨k, iv, rest, q, hk, rfl, rfl, hiv, hinv, hcc, hcr, hcq, hbw⟩ := hrel
    by_cases hk0 : k = 0
    · subst hk0
      have hv : iv = -1 := by have := hiv.out; omega
      subst hv
      have HE := Lib.hid (dinv_end hinv.out)
      obtain ⟨k0, f0⟩ := hcq.out 0 (by omega)
      obtain ⟨k1, f1⟩ := hcq.out 1 (by omega)
      obtain ⟨k2, f2⟩ := hcq.out 2 (by omega)
      obtain ⟨k3, f3⟩ := hcq.out 3 (by omega)
      obtain ⟨r0, g0⟩ := hcr.out 0 (by omega)
      obtain ⟨r1, g1⟩ := hcr.out 1 (by omega)
      obtain ⟨r2, g2⟩ := hcr.out 2 (by omega)
      obtain ⟨r3, g3⟩ := hcr.out 3 (by omega)
      go_wp2
      refine bodyPost_ret (v := .tuple #[.agg #[.int .u64 (q 0), .int .u64 (q 1), .int .u64 (q 2), .int .u64 (q 3)], .int .u64 rest]) (by simp [results, Try.results48, go_sem, *]) rfl ?_
      exact ⟨by rw [HE.out.1, HE.out.2.1, HE.out.2.2.1, HE.out.2.2.2.1, HE.out.2.2.2.2], by (have hbo := hbw.out; repeat' (first | with_reducible exact hbo | (with_reducible refine Below.setCell ?_ ?_ _) | (with_reducible refine Below.drew ?_) | (with_reducible refine belowN ?_ _) | (show w.heap.size ≤ w.heap.size + 1 + 1; omega) | go_size))⟩
    · obtain ⟨j, r, hj, hr, rfl⟩ : ∃ j r : Nat, j < 4 ∧ r ≤ 31 ∧ k = 32 * j + r + 1 := ⟨(k - 1) / 32, (k - 1) % 32, by omega, by omega, by omega⟩
      have hr0 : (0 : Int) ≤ (r : Int) := by omega
      have hr1 : (r : Int) < 32 := by omega
      have i0 : 0 ≤ iv := by have := hiv.out; omega
      have hrd : 0 ≤ rest ∧ rest < d := by
        have h1 := hinv.out.1
        have := Int.emod_nonneg (x / 2 ^ (32 * j + r + 1)) (show d ≠ 0 by have := HD.out; omega)
        have := Int.emod_lt_of_pos (x / 2 ^ (32 * j + r + 1)) (show 0 < d by have := HD.out; omega)
        omega
      obtain ⟨iw, hiw⟩ : ∃ iw : Int, iw = iv - 1 := ⟨_, rfl⟩
      have E3 : wrap64 (iv - 1) = iw := by have := hiv.out; unfold wrap64; omega
      have HIW : Hid (iw = ((32 * j + r : Nat) : Int) - 1) := Lib.hid (by have := hiv.out; omega)
      have HM : Hid ((iw + 1).toNat < (iv + 1).toNat) := Lib.hid (by omega)
      have h1 : iv.tmod 32 = (r : Int) := by have := hiv.out; rw [Int.tmod_eq_emod_of_nonneg i0]; omega
      have h2 : iv.tdiv 32 = (j : Int) := by have := hiv.out; rw [Int.tdiv_eq_ediv_of_nonneg i0]; omega
      obtain ⟨bt, hbt⟩ : ∃ bt : Int, bt = x / 2 ^ (32 * j + r) % 2 := ⟨_, rfl⟩
      have hcj := HC.out j hj
      have hcb : 0 ≤ c j ∧ c j < 4294967296 := by omega
      have EA : bits .and .u64 (c j / 2 ^ r) 1 = bt := by
        rw [bit_val _ hcb.1 hcb.2, hbt, pow_part, hcj]; exact (bit_part _ _ hr).symm
      have hb2 : bt = 0 ∨ bt = 1 := by omega
      have HBT := Lib.hid hbt
      have HRD := Lib.hid hrd
      have EP : IntKind.u64.wrap (2 ^ r) = 2 ^ r := by
        obtain ⟨T, hT, hP⟩ := pow_split r hr
        have h1 := pow_1 r
        rw [IntKind.wrap_u64]
        generalize (2 : Int) ^ r = P at *
        have : P * 1 ≤ P * T := Int.mul_le_mul_of_nonneg_left hT (by omega)
        omega
      obtain ⟨m, hm, hq0, hq1⟩ := dinv_bound hinv.out hj hr
      have EQ := or_bit (q j) m r hm hq0 hq1
      have HI0 := Lib.hid hb2
      clear hiw hbt hcj hcb hm hq0 hq1 hrd hb2
      by_cases ht : rest / 9223372036854775808 = 1
      · obtain ⟨EW, hge⟩ := top_val rest d bt HRD.out.1 HRD.out.2 HD.out.2 HI0.out ht
        have hs := Lib.hid (dinv_yes hinv.out HD.out.1 hj hr HBT.out hge)
        clear hge
        rcases (show j = 0 ∨ j = 1 ∨ j = 2 ∨ j = 3 by omega) with rfl | rfl | rfl | rfl
        · have k1 := (hcc.out 0 (by omega)).1; have k2 := (hcq.out 0 (by omega)).1; have k3 := (hcq.out 0 (by omega)).2; go_wp2; go_region; go_wp2; rw [E3]; exact ⟨⟨32 * 0 + r, iw, _, _, by omega, rfl, rfl, HIW, hs, Lib.hid (cel_drew1 (cel_other hcc.out _ _ (by omega) _)), Lib.hid (cel_drew1 (cel_other hcr.out _ _ (by omega) _)), Lib.hid (cel_drew1 (cel_set hcq.out 0 (by omega) _)), Lib.hid (Below.drew (Below.setCell hbw.out (by show w.heap.size ≤ w.heap.size + 1 + 1; omega) _))⟩, by simpa [intOf] using HM.out⟩
        · have k1 := (hcc.out 1 (by omega)).1; have k2 := (hcq.out 1 (by omega)).1; have k3 := (hcq.out 1 (by omega)).2; go_wp2; go_region; go_wp2; rw [E3]; exact ⟨⟨32 * 1 + r, iw, _, _, by omega, rfl, rfl, HIW, hs, Lib.hid (cel_drew1 (cel_other hcc.out _ _ (by omega) _)), Lib.hid (cel_drew1 (cel_other hcr.out _ _ (by omega) _)), Lib.hid (cel_drew1 (cel_set hcq.out 1 (by omega) _)), Lib.hid (Below.drew (Below.setCell hbw.out (by show w.heap.size ≤ w.heap.size + 1 + 1; omega) _))⟩, by simpa [intOf] using HM.out⟩
        · have k1 := (hcc.out 2 (by omega)).1; have k2 := (hcq.out 2 (by omega)).1; have k3 := (hcq.out 2 (by omega)).2; go_wp2; go_region; go_wp2; rw [E3]; exact ⟨⟨32 * 2 + r, iw, _, _, by omega, rfl, rfl, HIW, hs, Lib.hid (cel_drew1 (cel_other hcc.out _ _ (by omega) _)), Lib.hid (cel_drew1 (cel_other hcr.out _ _ (by omega) _)), Lib.hid (cel_drew1 (cel_set hcq.out 2 (by omega) _)), Lib.hid (Below.drew (Below.setCell hbw.out (by show w.heap.size ≤ w.heap.size + 1 + 1; omega) _))⟩, by simpa [intOf] using HM.out⟩
        · have k1 := (hcc.out 3 (by omega)).1; have k2 := (hcq.out 3 (by omega)).1; have k3 := (hcq.out 3 (by omega)).2; go_wp2; go_region; go_wp2; rw [E3]; exact ⟨⟨32 * 3 + r, iw, _, _, by omega, rfl, rfl, HIW, hs, Lib.hid (cel_drew1 (cel_other hcc.out _ _ (by omega) _)), Lib.hid (cel_drew1 (cel_other hcr.out _ _ (by omega) _)), Lib.hid (cel_drew1 (cel_set hcq.out 3 (by omega) _)), Lib.hid (Below.drew (Below.setCell hbw.out (by show w.heap.size ≤ w.heap.size + 1 + 1; omega) _))⟩, by simpa [intOf] using HM.out⟩
      · have ht' : (rest / 9223372036854775808 == 1) = false := by simpa using ht
        obtain ⟨EO, EW⟩ := low_val rest d bt HRD.out.1 HRD.out.2 HD.out.2 HI0.out ht
        by_cases hge : d ≤ 2 * rest + bt
        · have EW := EW hge
          have hs := Lib.hid (dinv_yes hinv.out HD.out.1 hj hr HBT.out hge)
          rcases (show j = 0 ∨ j = 1 ∨ j = 2 ∨ j = 3 by omega) with rfl | rfl | rfl | rfl
          · have k1 := (hcc.out 0 (by omega)).1; have k2 := (hcq.out 0 (by omega)).1; have k3 := (hcq.out 0 (by omega)).2; go_wp2; go_region; go_wp2; rw [E3]; exact ⟨⟨32 * 0 + r, iw, _, _, by omega, rfl, rfl, HIW, hs, Lib.hid (cel_drew1 (cel_other hcc.out _ _ (by omega) _)), Lib.hid (cel_drew1 (cel_other hcr.out _ _ (by omega) _)), Lib.hid (cel_drew1 (cel_set hcq.out 0 (by omega) _)), Lib.hid (Below.drew (Below.setCell hbw.out (by show w.heap.size ≤ w.heap.size + 1 + 1; omega) _))⟩, by simpa [intOf] using HM.out⟩
          · have k1 := (hcc.out 1 (by omega)).1; have k2 := (hcq.out 1 (by omega)).1; have k3 := (hcq.out 1 (by omega)).2; go_wp2; go_region; go_wp2; rw [E3]; exact ⟨⟨32 * 1 + r, iw, _, _, by omega, rfl, rfl, HIW, hs, Lib.hid (cel_drew1 (cel_other hcc.out _ _ (by omega) _)), Lib.hid (cel_drew1 (cel_other hcr.out _ _ (by omega) _)), Lib.hid (cel_drew1 (cel_set hcq.out 1 (by omega) _)), Lib.hid (Below.drew (Below.setCell hbw.out (by show w.heap.size ≤ w.heap.size + 1 + 1; omega) _))⟩, by simpa [intOf] using HM.out⟩
          · have k1 := (hcc.out 2 (by omega)).1; have k2 := (hcq.out 2 (by omega)).1; have k3 := (hcq.out 2 (by omega)).2; go_wp2; go_region; go_wp2; rw [E3]; exact ⟨⟨32 * 2 + r, iw, _, _, by omega, rfl, rfl, HIW, hs, Lib.hid (cel_drew1 (cel_other hcc.out _ _ (by omega) _)), Lib.hid (cel_drew1 (cel_other hcr.out _ _ (by omega) _)), Lib.hid (cel_drew1 (cel_set hcq.out 2 (by omega) _)), Lib.hid (Below.drew (Below.setCell hbw.out (by show w.heap.size ≤ w.heap.size + 1 + 1; omega) _))⟩, by simpa [intOf] using HM.out⟩
          · have k1 := (hcc.out 3 (by omega)).1; have k2 := (hcq.out 3 (by omega)).1; have k3 := (hcq.out 3 (by omega)).2; go_wp2; go_region; go_wp2; rw [E3]; exact ⟨⟨32 * 3 + r, iw, _, _, by omega, rfl, rfl, HIW, hs, Lib.hid (cel_drew1 (cel_other hcc.out _ _ (by omega) _)), Lib.hid (cel_drew1 (cel_other hcr.out _ _ (by omega) _)), Lib.hid (cel_drew1 (cel_set hcq.out 3 (by omega) _)), Lib.hid (Below.drew (Below.setCell hbw.out (by show w.heap.size ≤ w.heap.size + 1 + 1; omega) _))⟩, by simpa [intOf] using HM.out⟩
        · have hlt : 2 * rest + bt < d := by omega
          have hs := Lib.hid (dinv_no hinv.out HD.out.1 hj hr HBT.out hlt)
          clear EW
          rcases (show j = 0 ∨ j = 1 ∨ j = 2 ∨ j = 3 by omega) with rfl | rfl | rfl | rfl
          · have k1 := (hcc.out 0 (by omega)).1; go_wp2; rw [E3]; exact ⟨⟨32 * 0 + r, iw, _, _, by omega, rfl, rfl, HIW, hs, hcc, hcr, hcq, hbw⟩, by simpa [intOf] using HM.out⟩
          · have k1 := (hcc.out 1 (by omega)).1; go_wp2; rw [E3]; exact ⟨⟨32 * 1 + r, iw, _, _, by omega, rfl, rfl, HIW, hs, hcc, hcr, hcq, hbw⟩, by simpa [intOf] using HM.out⟩
          · have k1 := (hcc.out 2 (by omega)).1; go_wp2; rw [E3]; exact ⟨⟨32 * 2 + r, iw, _, _, by omega, rfl, rfl, HIW, hs, hcc, hcr, hcq, hbw⟩, by simpa [intOf] using HM.out⟩
          · have k1 := (hcc.out 3 (by omega)).1; go_wp2; rw [E3]; exact ⟨⟨32 * 3 + r, iw, _, _, by omega, rfl, rfl, HIW, hs, hcc, hcr, hcq, hbw⟩, by simpa [intOf] using HM.out⟩
end Go.Proofs.Ytgdpeajompccnaa
