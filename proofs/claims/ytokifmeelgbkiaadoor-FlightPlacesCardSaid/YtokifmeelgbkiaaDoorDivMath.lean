/- Plain arithmetic for the long division of two words by one: no Go in sight. -/
import Derived.Laws.BitsAllLaws
import Derived.Lib.BitFns
import Derived.WalkArith
set_option linter.unusedVariables false
namespace Go.Proofs.YtokifmeelgbkiaaDoor

/-- One digit of the quotient, found: q with its rest r at the head of a round. u: the two upper digits' word, u1: the next digit. -/
structure DigitInv (u u1 a b Q q r : Int) : Prop where
  eq : u = q * a + r
  le : Q ≤ q
  top : q ≤ 4294967297
  r0 : 0 ≤ r

theorem mul_le {a b c : Int} (h : a ≤ b) (hc : 0 ≤ c) : a * c ≤ b * c := Int.mul_le_mul_of_nonneg_right h hc
theorem mul_0 {a b : Int} (h : 0 ≤ a) (hc : 0 ≤ b) : 0 ≤ a * b := Int.mul_nonneg h hc

/-- At the start. -/
theorem digit_start (u u1 a b Q : Int) (ha : 2147483648 ≤ a) (ha' : a < 4294967296) (hb : 0 ≤ b) (hb' : b < 4294967296) (hu : 0 ≤ u) (huy : u < a * 4294967296 + b) (h1 : 0 ≤ u1) (h1' : u1 < 4294967296)
    (hQ : Q * (a * 4294967296 + b) ≤ u * 4294967296 + u1) (hQ0 : 0 ≤ Q) : DigitInv u u1 a b Q (u / a) (u - u / a * a) ∧ u - u / a * a < a := by
  have e := Int.mul_ediv_add_emod u a
  have m0 := Int.emod_nonneg u (show a ≠ 0 by omega)
  have m1 := Int.emod_lt_of_pos u (show 0 < a by omega)
  have er : u - u / a * a = u % a := by rw [Int.mul_comm]; omega
  refine ⟨⟨by omega, ?_, ?_, by omega⟩, by omega⟩
  · have h2 : Q * a * 4294967296 ≤ u * 4294967296 + u1 := by
      have := mul_0 hQ0 hb
      have e2 : Q * (a * 4294967296 + b) = Q * a * 4294967296 + Q * b := by grind
      omega
    have h3 : Q * a ≤ u := by omega
    exact (Int.le_ediv_iff_mul_le (by omega)).2 h3
  · have h4 : u < a * 4294967298 := by omega
    have h5 : u / a < 4294967298 := Int.ediv_lt_of_lt_mul (by omega) (by rw [Int.mul_comm]; exact h4)
    omega

/-- A round that goes on. -/
theorem digit_step (u u1 a b Q q r : Int) (h : DigitInv u u1 a b Q q r) (ha : 2147483648 ≤ a) (hb : 0 ≤ b) (hc : 4294967296 ≤ q ∨ 4294967296 * r + u1 < q * b)
    (hN : u * 4294967296 + u1 < (Q + 1) * (a * 4294967296 + b)) (hQ : Q * (a * 4294967296 + b) ≤ u * 4294967296 + u1) (hQ1 : Q < 4294967296) : DigitInv u u1 a b Q (q - 1) (r + a) := by
  obtain ⟨h1, h2, h3, h4⟩ := h
  refine ⟨by rw [h1]; grind, ?_, by omega, by omega⟩
  rcases hc with hc | hc
  · omega
  · rcases Int.lt_or_le Q q with hlt | hge
    · omega
    · have e : q = Q := by omega
      subst e
      have e2 : q * (a * 4294967296 + b) = q * a * 4294967296 + q * b := by grind
      omega

/-- The digit is found. -/
theorem digit_done (u u1 a b Q q r : Int) (h : DigitInv u u1 a b Q q r) (ha : 2147483648 ≤ a) (hb : 0 ≤ b) (hc : q * b ≤ 4294967296 * r + u1)
    (hN : u * 4294967296 + u1 < (Q + 1) * (a * 4294967296 + b)) : q = Q := by
  obtain ⟨h1, h2, h3, h4⟩ := h
  have e2 : q * (a * 4294967296 + b) = q * a * 4294967296 + q * b := by grind
  have h5 : q * (a * 4294967296 + b) ≤ u * 4294967296 + u1 := by rw [e2]; omega
  have h6 : q * (a * 4294967296 + b) < (Q + 1) * (a * 4294967296 + b) := by omega
  have h7 : q < Q + 1 := Int.lt_of_mul_lt_mul_right h6 (by omega)
  omega
/-- It is found, too, where the rest has left the digit's range. -/
theorem digit_over (u u1 a b Q q r : Int) (h : DigitInv u u1 a b Q q r) (ha : 2147483648 ≤ a) (hb : 0 ≤ b) (hb' : b < 4294967296) (h0 : 0 ≤ u1) (hq : 0 ≤ q) (hq1 : q ≤ 4294967296) (hr : 4294967296 ≤ r)
    (hN : u * 4294967296 + u1 < (Q + 1) * (a * 4294967296 + b)) : q = Q := by
  refine digit_done u u1 a b Q q r h ha hb ?_ hN
  have h1 : q * b ≤ 4294967296 * b := mul_le hq1 hb
  omega
theorem digit_prod (q b : Int) (hq : 0 ≤ q) (hq1 : q ≤ 4294967297) (hb : 0 ≤ b) (hb' : b < 4294967296) : 0 ≤ q * b ∧ q * b ≤ 18446744073709551615 := by
  refine ⟨mul_0 hq hb, ?_⟩
  have h1 : q * b ≤ 4294967297 * b := mul_le hq1 hb
  omega


theorem bitLenAux_spec : ∀ (f x : Nat), x ≠ 0 → x < 2 ^ f → 1 ≤ Lib.bitLenAux f x ∧ Lib.bitLenAux f x ≤ f ∧ 2 ^ (Lib.bitLenAux f x - 1) ≤ x ∧ x < 2 ^ (Lib.bitLenAux f x)
  | 0, x, h0, h => by
    have : x = 0 := by simpa using h
    exact absurd this h0
  | f + 1, x, h0, h => by
    simp only [Lib.bitLenAux, if_neg h0]
    by_cases h2 : x / 2 = 0
    · have hx : x = 1 := by omega
      subst hx
      have e : Lib.bitLenAux f (1 / 2) = 0 := by cases f <;> simp [Lib.bitLenAux]
      rw [e]
      simp
    · obtain ⟨a1, a2, a3, a4⟩ := bitLenAux_spec f (x / 2) h2 (by rw [Nat.pow_succ] at h; omega)
      generalize Lib.bitLenAux f (x / 2) = n at *
      refine ⟨by omega, by omega, ?_, ?_⟩
      · obtain ⟨m, rfl⟩ : ∃ m, n = m + 1 := ⟨n - 1, by omega⟩
        have e : 1 + (m + 1) - 1 = m + 1 := by omega
        have e' : m + 1 - 1 = m := by omega
        rw [e, Nat.pow_succ]
        rw [e'] at a3
        omega
      · rw [Nat.add_comm 1 n, Nat.pow_succ]; omega

/-- What the shift does. -/
theorem shift_facts (y : Int) (h0 : 1 ≤ y) (h1 : y < 18446744073709551616) :
    ∃ k : Nat, k ≤ 63 ∧ ((Lib.bitLen y.toNat : Nat) : Int) = 64 - (k : Int) ∧ 9223372036854775808 ≤ y * ((2 ^ k : Nat) : Int) ∧ y * ((2 ^ k : Nat) : Int) < 18446744073709551616 := by
  obtain ⟨n, rfl⟩ := Int.eq_ofNat_of_zero_le (show 0 ≤ y by omega)
  obtain ⟨a1, a2, a3, a4⟩ := bitLenAux_spec 64 n (by omega) (by omega)
  simp only [Int.toNat_natCast]
  have e : Lib.bitLen n = Lib.bitLenAux 64 n := rfl
  rw [e]
  generalize Lib.bitLenAux 64 n = m at *
  refine ⟨64 - m, by omega, by omega, ?_, ?_⟩
  · have h2 : 2 ^ (m - 1) * 2 ^ (64 - m) ≤ n * 2 ^ (64 - m) := Nat.mul_le_mul_right _ a3
    rw [← Nat.pow_add, show m - 1 + (64 - m) = 63 by omega] at h2
    have h3 : ((2 ^ 63 : Nat) : Int) ≤ ((n * 2 ^ (64 - m) : Nat) : Int) := by exact_mod_cast h2
    rw [Int.natCast_mul] at h3
    exact h3
  · have h2 : n * 2 ^ (64 - m) < 2 ^ m * 2 ^ (64 - m) := Nat.mul_lt_mul_of_pos_right a4 (Nat.two_pow_pos _)
    rw [← Nat.pow_add, show m + (64 - m) = 64 by omega] at h2
    have h3 : ((n * 2 ^ (64 - m) : Nat) : Int) < ((2 ^ 64 : Nat) : Int) := by exact_mod_cast h2
    rw [Int.natCast_mul] at h3
    exact h3

/-- The words that Div64 lays ahead of its loops, each as the walk writes it. -/
theorem div_setup (hi lo y : Int) (h0 : 1 ≤ hi) (h1 : hi < y) (h2 : y < 18446744073709551616) (h3 : 0 ≤ lo) (h4 : lo < 18446744073709551616) :
    ∃ (s P Y a b u v u1 u0 : Int), IntKind.u64.wrap (64 - ((Lib.bitLen y.toNat : Nat) : Int)) = s ∧ IntKind.u64.wrap (y * 2 ^ s.toNat) = Y ∧ Y / 4294967296 = a ∧ bits .and .u64 Y 4294967295 = b ∧
      bits .or .u64 (IntKind.u64.wrap (hi * 2 ^ s.toNat)) (lo / 2 ^ (64 - s).toNat) = u ∧ IntKind.u64.wrap (lo * 2 ^ s.toNat) = v ∧ v / 4294967296 = u1 ∧ bits .and .u64 v 4294967295 = u0 ∧
      2147483648 ≤ a ∧ a < 4294967296 ∧ 0 ≤ b ∧ b < 4294967296 ∧ 0 ≤ u ∧ 0 ≤ u1 ∧ u1 < 4294967296 ∧ 0 ≤ u0 ∧ u0 < 4294967296 ∧ 0 ≤ s ∧ s ≤ 63 ∧ 1 ≤ P ∧
      Y = a * 4294967296 + b ∧ u < Y ∧ Y = y * P ∧ (hi * 18446744073709551616 + lo) * P = (u * 4294967296 + u1) * 4294967296 + u0 ∧ (2 : Int) ^ s.toNat = P := by
  obtain ⟨k, hk, hb, hY0, hY1⟩ := shift_facts y (by omega) h2
  have es : IntKind.u64.wrap (64 - ((Lib.bitLen y.toNat : Nat) : Int)) = (k : Int) := by rw [hb, IntKind.wrap_u64]; omega
  have ek : (k : Int).toNat = k := by omega
  have ek2 : (64 - (k : Int)).toNat = 64 - k := by omega
  have hp : (2 : Int) ^ k = ((2 ^ k : Nat) : Int) := by simp
  have hr : (2 : Int) ^ (64 - k) = ((2 ^ (64 - k) : Nat) : Int) := by simp
  have hPR : ((2 ^ k : Nat) : Int) * ((2 ^ (64 - k) : Nat) : Int) = 18446744073709551616 := by
    rw [← Int.natCast_mul, ← Nat.pow_add, show k + (64 - k) = 64 by omega]; rfl
  have hP1 : (1 : Int) ≤ ((2 ^ k : Nat) : Int) := by have := Nat.two_pow_pos k; omega
  have hR1 : (1 : Int) ≤ ((2 ^ (64 - k) : Nat) : Int) := by have := Nat.two_pow_pos (64 - k); omega
  have hjoin := fun (x z : Nat) (hx : x % 2 ^ k = 0) (hz : z < 2 ^ k) => nat_join k x z hx hz
  have hdvd : ∀ n : Nat, (n * 2 ^ k) % 2 ^ k = 0 := fun n => Nat.mul_mod_left _ _
  generalize hPd : ((2 ^ k : Nat) : Int) = P at *
  have hPn : P.toNat = 2 ^ k := by rw [← hPd]; exact Int.toNat_natCast _
  generalize hRd : ((2 ^ (64 - k) : Nat) : Int) = R at *
  have hhi : hi * P < 18446744073709551616 := by
    have : hi * P ≤ y * P := mul_le (by omega) (by omega)
    omega
  have hhi0 : 0 ≤ hi * P := mul_0 (by omega) (by omega)
  -- lo in two parts
  have el := Int.mul_ediv_add_emod lo R
  have l0 := Int.emod_nonneg lo (show R ≠ 0 by omega)
  have l1 := Int.emod_lt_of_pos lo (show 0 < R by omega)
  have l2 : 0 ≤ lo / R := Int.ediv_nonneg h3 (by omega)
  have l3 : lo / R < P := Int.ediv_lt_of_lt_mul (by omega) (by rw [hPR]; exact h4)
  generalize hq : lo / R = lq at *
  generalize hm : lo % R = lr at *
  have el2 : lo * P = lq * 18446744073709551616 + lr * P := by
    rw [← el, ← hPR]; grind
  have l4 : 0 ≤ lr * P := mul_0 l0 (by omega)
  have l5 : lr * P < 18446744073709551616 := by
    have h5 : lr * P ≤ (R - 1) * P := mul_le (by omega) (by omega)
    have h6 : (R - 1) * P = 18446744073709551616 - P := by rw [← hPR]; grind
    omega
  have ev : IntKind.u64.wrap (lo * P) = lr * P := by rw [IntKind.wrap_u64]; omega
  have eY : IntKind.u64.wrap (y * P) = y * P := by rw [IntKind.wrap_u64]; omega
  have eH : IntKind.u64.wrap (hi * P) = hi * P := by rw [IntKind.wrap_u64]; omega
  have emask : ∀ x : Int, 0 ≤ x → x < 18446744073709551616 → bits .and .u64 x 4294967295 = x % 4294967296 := by
    intro x hx hx'
    rw [u64_and x 4294967295 hx hx' (by omega) (by omega)]
    obtain ⟨n, rfl⟩ := Int.eq_ofNat_of_zero_le hx
    have : (n : Int).toNat &&& (4294967295 : Int).toNat = n % 4294967296 := by
      simp only [Int.toNat_natCast]
      exact Nat.and_two_pow_sub_one_eq_mod n 32
    rw [this]; omega
  have eor : bits .or .u64 (hi * P) lq = hi * P + lq := by
    have hlow : P ≤ 9223372036854775808 := by
      rcases Int.lt_or_le 9223372036854775808 P with hgt | hle
      · have h7 : 9223372036854775809 * R ≤ P * R := mul_le (by omega) (by omega)
        have h8 : 2 ≤ R := by
          rw [← hRd]
          have : 2 ^ 1 ≤ 2 ^ (64 - k) := Nat.pow_le_pow_right (by omega) (by omega)
          omega
        omega
      · exact hle
    rw [u64_or _ _ hhi0 hhi l2 (by omega)]
    have e1 : (hi * P).toNat = hi.toNat * 2 ^ k := by
      obtain ⟨n, rfl⟩ := Int.eq_ofNat_of_zero_le (show 0 ≤ hi by omega)
      rw [← hPd, ← Int.natCast_mul, Int.toNat_natCast, Int.toNat_natCast]
    rw [hjoin _ _ (by rw [e1]; exact hdvd _) (by rw [← hPn]; omega)]
    omega
  refine ⟨k, P, y * P, y * P / 4294967296, y * P % 4294967296, hi * P + lq, lr * P, lr * P / 4294967296, lr * P % 4294967296, es, ?_, rfl, emask _ (by omega) hY1, ?_, ?_, rfl, emask _ l4 l5,
    by omega, by omega, by omega, by omega, by omega, by omega, by omega, by omega, by omega, by omega, by omega, hP1, by omega, ?_, rfl, ?_, ?_⟩
  · rw [ek, hp]; exact eY
  · rw [ek, ek2, hp, hr, eH, hq]; exact eor
  · rw [ek, hp]; exact ev
  · have h5 : (hi + 1) * P ≤ y * P := mul_le (by omega) (by omega)
    have h6 : (hi + 1) * P = hi * P + P := by grind
    omega
  · have e3 : (hi * 18446744073709551616 + lo) * P = hi * P * 18446744073709551616 + lo * P := by grind
    rw [e3, el2]
    omega
  · rw [ek]; exact hp

/-- One digit, whole: its quotient, its rest, and what the loop wants of them. -/
theorem digit_all (u u1 a b Y : Int) (ha : 2147483648 ≤ a) (ha' : a < 4294967296) (hb : 0 ≤ b) (hb' : b < 4294967296) (hY : Y = a * 4294967296 + b) (hu : 0 ≤ u) (huy : u < Y) (h1 : 0 ≤ u1) (h1' : u1 < 4294967296) :
    ∃ Q R : Int, u * 4294967296 + u1 = Q * Y + R ∧ 0 ≤ R ∧ R < Y ∧ 0 ≤ Q ∧ Q < 4294967296 ∧ Q * (a * 4294967296 + b) ≤ u * 4294967296 + u1 ∧ u * 4294967296 + u1 < (Q + 1) * (a * 4294967296 + b) ∧
      DigitInv u u1 a b Q (u / a) (u - u / a * a) ∧ u - u / a * a < a ∧ 0 ≤ u / a * a ∧ u / a * a ≤ u ∧ 0 ≤ Q * Y ∧
      IntKind.u64.wrap (IntKind.u64.wrap (IntKind.u64.wrap (u * 4294967296) + u1) - IntKind.u64.wrap (Q * Y)) = R := by
  have hN := Int.mul_ediv_add_emod (u * 4294967296 + u1) Y
  have hR0 := Int.emod_nonneg (u * 4294967296 + u1) (show Y ≠ 0 by omega)
  have hR1 := Int.emod_lt_of_pos (u * 4294967296 + u1) (show 0 < Y by omega)
  have Q0 : 0 ≤ (u * 4294967296 + u1) / Y := Int.ediv_nonneg (by omega) (by omega)
  have Q1 : (u * 4294967296 + u1) / Y < 4294967296 := Int.ediv_lt_of_lt_mul (by omega) (by omega)
  generalize (u * 4294967296 + u1) / Y = Q at *
  generalize (u * 4294967296 + u1) % Y = R at *
  have HN : u * 4294967296 + u1 = Q * Y + R := by rw [Int.mul_comm Q Y]; omega
  have e2 : (Q + 1) * Y = Q * Y + Y := by grind
  have HQ1 : Q * (a * 4294967296 + b) ≤ u * 4294967296 + u1 := by rw [← hY]; omega
  have HQ2 : u * 4294967296 + u1 < (Q + 1) * (a * 4294967296 + b) := by rw [← hY]; omega
  have D0 := digit_start u u1 a b Q ha ha' hb hb' hu (by omega) h1 h1' HQ1 Q0
  have p0 : 0 ≤ u / a * a := mul_0 (Int.ediv_nonneg hu (by omega)) (by omega)
  have p1 : u / a * a ≤ u := by have := D0.1.r0; omega
  have p2 : 0 ≤ Q * Y := mul_0 Q0 (by omega)
  refine ⟨Q, R, HN, hR0, hR1, Q0, Q1, HQ1, HQ2, D0.1, D0.2, p0, p1, p2, ?_⟩
  simp only [IntKind.wrap_u64]
  omega
/-- Which ways lead out of a round. -/
theorem digit_out (u u1 a b Q q r : Int) (h : DigitInv u u1 a b Q q r) (ha : 2147483648 ≤ a) (hb : 0 ≤ b) (hb' : b < 4294967296) (h0 : 0 ≤ u1) (Q0 : 0 ≤ Q) (Q1 : Q < 4294967296)
    (hQ : Q * (a * 4294967296 + b) ≤ u * 4294967296 + u1) (hN : u * 4294967296 + u1 < (Q + 1) * (a * 4294967296 + b)) :
    (4294967296 ≤ q ∧ ¬ 4294967296 ≤ r + a ∧ DigitInv u u1 a b Q (q - 1) (r + a)) ∨ (¬ 4294967296 ≤ q ∧ 4294967296 * r + u1 < q * b ∧ ¬ 4294967296 ≤ r + a ∧ DigitInv u u1 a b Q (q - 1) (r + a)) ∨
    (4294967296 ≤ q ∧ 4294967296 ≤ r + a ∧ q = Q + 1) ∨ (¬ 4294967296 ≤ q ∧ 4294967296 * r + u1 < q * b ∧ 4294967296 ≤ r + a ∧ q = Q + 1) ∨ (¬ 4294967296 ≤ q ∧ ¬ 4294967296 * r + u1 < q * b ∧ q = Q) := by
  have r0 := h.r0
  have q0 := h.le
  have q1 := h.top
  by_cases c1 : 4294967296 ≤ q
  · have hs := digit_step u u1 a b Q q r h ha hb (Or.inl c1) hN hQ Q1
    by_cases c3 : 4294967296 ≤ r + a
    · have := digit_over u u1 a b Q (q - 1) (r + a) hs ha hb hb' h0 (by omega) (by omega) c3 hN
      exact .inr (.inr (.inl ⟨c1, c3, by omega⟩))
    · exact .inl ⟨c1, c3, hs⟩
  · by_cases c2 : 4294967296 * r + u1 < q * b
    · have hs := digit_step u u1 a b Q q r h ha hb (Or.inr c2) hN hQ Q1
      have := hs.le
      by_cases c3 : 4294967296 ≤ r + a
      · have := digit_over u u1 a b Q (q - 1) (r + a) hs ha hb hb' h0 (by omega) (by omega) c3 hN
        exact .inr (.inr (.inr (.inl ⟨c1, c2, c3, by omega⟩)))
      · exact .inr (.inl ⟨c1, c2, c3, hs⟩)
    · exact .inr (.inr (.inr (.inr ⟨c1, c2, digit_done u u1 a b Q q r h ha hb (by omega) hN⟩)))

/-- Both digits together are the quotient, and what is left the rest. -/
theorem div_result (N y P Y Q1 Q0 R1 R0 u u1 u0 : Int) (hy : 1 ≤ y) (hP : 1 ≤ P) (hY : Y = y * P) (hN : N * P = (u * 4294967296 + u1) * 4294967296 + u0)
    (e1 : u * 4294967296 + u1 = Q1 * Y + R1) (e0 : R1 * 4294967296 + u0 = Q0 * Y + R0) (h0 : 0 ≤ R0) (h1 : R0 < Y) : N / y = Q1 * 4294967296 + Q0 ∧ R0 / P = N % y := by
  have e2 : N * P = (Q1 * 4294967296 + Q0) * Y + R0 := by
    rw [hN, e1]
    have : (Q1 * Y + R1) * 4294967296 + u0 = Q1 * Y * 4294967296 + (R1 * 4294967296 + u0) := by grind
    rw [this, e0]; grind
  have hyP : (1 : Int) ≤ y * P := by
    have : 1 * 1 ≤ y * P := Int.mul_le_mul hy hP (by omega) (by omega)
    omega
  have e3 : N / y = N * P / Y := by rw [hY, Int.mul_ediv_mul_of_pos_left N y (show 0 < P by omega)]
  have e4 : N * P / Y = Q1 * 4294967296 + Q0 := by
    rw [e2, Int.add_comm, Int.add_mul_ediv_right _ _ (show Y ≠ 0 by omega), Int.ediv_eq_zero_of_lt h0 h1]; omega
  refine ⟨e3.trans e4, ?_⟩
  have e5 : R0 = N % y * P := by
    have h2 := Int.mul_ediv_add_emod N y
    rw [e3.trans e4] at h2
    have h3 : N * P = (y * (Q1 * 4294967296 + Q0) + N % y) * P := by rw [h2]
    rw [hY] at e2
    grind
  rw [e5, Int.mul_ediv_cancel _ (show P ≠ 0 by omega)]
end Go.Proofs.YtokifmeelgbkiaaDoor
