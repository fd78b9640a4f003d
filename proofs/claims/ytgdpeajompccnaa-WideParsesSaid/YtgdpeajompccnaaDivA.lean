/- The contract of bits.Div64: the quotient and the rest of hi * 2^64 + lo by y, for hi below y. -/
import Derived.Test.YtgdpeajompccnaaWideW
import Derived.Test.YtgdpeajompccnaaShelf
import Derived.Test.YtgdpeajompccnaaDivMath
set_option linter.unusedSimpArgs false
set_option linter.unusedVariables false
namespace Go.Proofs.Ytgdpeajompccnaa
open Go.RowKit

set_option maxHeartbeats 1000000 in
set_option maxRecDepth 100000 in
theorem div64_big (hi lo y : Int) (w : World) (h0 : 1 ≤ hi) (h1 : hi < y) (h2 : y < 18446744073709551616) (h3 : 0 ≤ lo) (h4 : lo < 18446744073709551616) :
    Calls Try.prog 55 #[.int .u64 hi, .int .u64 lo, .int .u64 y] w fun e w' =>
      e = .returned (.tuple #[.int .u64 ((hi * 18446744073709551616 + lo) / y), .int .u64 ((hi * 18446744073709551616 + lo) % y)]) ∧ w = w' := by
  have k0 : (y == 0) = false := by simp; omega
  have k1 : decide (y ≤ hi) = false := by simp; omega
  have k2 : (hi == 0) = false := by simp; omega
  obtain ⟨s, P, Y, a, b, u, v, u1, u0, E1, E2, E3, E4, E5, E6, E7, E8, a0, a1, b0, b1, u00, u10, u11, u000, u001, s0, s1, P1, F1, F2, F3, F4, F5⟩ := div_setup hi lo y h0 h1 h2 h3 h4
  have G1 := Lib.hid F1
  have G3 := Lib.hid F3
  have G4 := Lib.hid F4
  have G5 := Lib.hid F5
  clear F1 F3 F4 F5
  obtain ⟨Q, R, f1, R0, R1, Q0, Q1, f2, f3, f4, f5, p0, p1, p2, EX⟩ := digit_all u u1 a b Y a0 a1 b0 b1 G1.out u00 F2 u10 u11
  obtain ⟨Q', R', f1', R0', R1', Q0', Q1', f2', f3', f4', f5', p0', p1', p2', EX'⟩ := digit_all R u0 a b Y a0 a1 b0 b1 G1.out R0 R1 u000 u001
  have H1 := Lib.hid f1
  have H1' := Lib.hid f1'
  have H2 := Lib.hid f2
  have H3 := Lib.hid f3
  have H4 := Lib.hid f4
  have H2' := Lib.hid f2'
  have H3' := Lib.hid f3'
  have H4' := Lib.hid f4'
  clear f1 f1' f2 f3 f4 f2' f3' f4'
  go_enter Try.func55, Try.ntmps55
  go_wp2_with (go_at_call 58; refine (Try.bits_LeadingZeros64 _ _ (by omega) (by omega)).mono ?_; rintro e w' ⟨rfl, rfl⟩)
  go_loop [15, 16] (fun q r => ∃ q' r' : Int, DigitInv u u1 a b Q q' r' ∧ r' < 4294967296 ∧ q = .int .u64 q' ∧ r = .int .u64 r') (fun q _ => (intOf q).toNat)
  case atStart => exact ⟨_, _, H4.out, by omega, rfl, rfl⟩
  case round =>
    obtain ⟨q, r, hd, hr, rfl, rfl⟩ := hrel
    have r0 := hd.r0
    have q0 := hd.le
    have q1 := hd.top
    obtain ⟨p2, p3⟩ := digit_prod q b (by omega) q1 b0 b1
    have ho := digit_out u u1 a b Q q r hd a0 b0 b1 u10 Q0 Q1 H2.out H3.out
    clear hd
    rcases ho with ⟨c1, c3, hs⟩ | ⟨c1, c2, c3, hs⟩ | ⟨c1, c3, rfl⟩ | ⟨c1, c2, c3, rfl⟩ | ⟨c1, c2, rfl⟩
    · go_wp2
      go_round
      case rel => exact ⟨q - 1, r + a, hs, by omega, rfl, rfl⟩
      case measure => simp [intOf]; omega
    · have := hs.le
      go_wp2
      go_round
      case rel => exact ⟨q - 1, r + a, hs, by omega, rfl, rfl⟩
      case measure => simp [intOf]; omega
    all_goals
      go_wp2
      go_loop [16, 18] (fun r q => ∃ q' r' : Int, DigitInv R u0 a b Q' q' r' ∧ r' < 4294967296 ∧ q = .int .u64 q' ∧ r = .int .u64 r') (fun _ q => (intOf q).toNat)
      case atStart => exact ⟨_, _, H4'.out, by omega, rfl, rfl⟩
      case round =>
        obtain ⟨q, r, hd, hr, rfl, rfl⟩ := hrel
        have r0 := hd.r0
        have q0 := hd.le
        have q1 := hd.top
        obtain ⟨p2, p3⟩ := digit_prod q b (by omega) q1 b0 b1
        have ho := digit_out R u0 a b Q' q r hd a0 b0 b1 u000 Q0' Q1' H2'.out H3'.out
        clear hd
        rcases ho with ⟨c1, c3, hs⟩ | ⟨c1, c2, c3, hs⟩ | ⟨c1, c3, rfl⟩ | ⟨c1, c2, c3, rfl⟩ | ⟨c1, c2, rfl⟩
        · go_wp2
          go_round
          case rel => exact ⟨q - 1, r + a, hs, by omega, rfl, rfl⟩
          case measure => simp [intOf]; omega
        · have := hs.le
          go_wp2
          go_round
          case rel => exact ⟨q - 1, r + a, hs, by omega, rfl, rfl⟩
          case measure => simp [intOf]; omega
        all_goals
          go_wp2
          go_ret2
          obtain ⟨e1, e2⟩ := div_result _ y P Y _ _ R R' u u1 u0 (by omega) P1 G3.out G4.out H1.out H1'.out R0' R1'
          refine ⟨?_, rfl⟩
          rw [e1, ← e2, G5.out]
          rfl

theorem div64_small (lo y : Int) (w : World) (h0 : 1 ≤ y) (h2 : y < 18446744073709551616) (h3 : 0 ≤ lo) (h4 : lo < 18446744073709551616) :
    Calls Try.prog 55 #[.int .u64 0, .int .u64 lo, .int .u64 y] w fun e w' => e = .returned (.tuple #[.int .u64 (lo / y), .int .u64 (lo % y)]) ∧ ∃ n, w' = w.drewN n := by
  have k0 : (y == 0) = false := by simp; omega
  have k1 : decide (y ≤ 0) = false := by simp; omega
  have k3 : y ≠ 0 := by omega
  go_enter Try.func55, Try.ntmps55
  go_wp2_with fail
  go_quiet (fail)
  go_wp2
  go_ret2
  exact ⟨rfl, _, rfl⟩

/-- Div64 at every word below the divisor. -/
theorem div64_any (hi lo y : Int) (w : World) (h0 : 0 ≤ hi) (h1 : hi < y) (h2 : y < 18446744073709551616) (h3 : 0 ≤ lo) (h4 : lo < 18446744073709551616) :
    Calls Try.prog 55 #[.int .u64 hi, .int .u64 lo, .int .u64 y] w fun e w' =>
      e = .returned (.tuple #[.int .u64 ((hi * 18446744073709551616 + lo) / y), .int .u64 ((hi * 18446744073709551616 + lo) % y)]) ∧ ∃ n, w' = w.drewN n := by
  by_cases hz : hi = 0
  · subst hz
    refine (div64_small lo y w (by omega) h2 h3 h4).mono fun e w' h => ?_
    simpa using h
  · exact (div64_big hi lo y w (by omega) h1 h2 h3 h4).mono fun e w' ⟨he, hw⟩ => ⟨he, 0, hw.symm⟩
end Go.Proofs.Ytgdpeajompccnaa
