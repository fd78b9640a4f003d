/- Contracts of package exact and its reference: Gcd, bounded, Valid: each returns what its words say, old memory unchanged. -/
import Derived.Test.YtnpnippgfkehaaaDoorRatW
set_option linter.unusedSimpArgs false
set_option linter.unusedVariables false
namespace Go.Proofs.YtnpnippgfkehaaaDoor
open Go.RowKit

theorem size_any (n : Int) (w : World) (h0 : -9223372036854775807 ≤ n) (h1 : n ≤ 9223372036854775807) :
    Calls Tryd.prog 58 #[.int .i64 n] w fun e w' => e = .returned (.int .i64 (absI n)) ∧ w = w' := by
  unfold absI
  by_cases h : n < 0
  · rw [if_pos h]
    go_enter Tryd.func58, Tryd.ntmps58
    go_wp2
    go_ret
    exact ⟨rfl, rfl⟩
  · rw [if_neg h]
    go_enter Tryd.func58, Tryd.ntmps58
    go_wp2
    go_ret
    exact ⟨rfl, rfl⟩

theorem gcd_any (a b : Int) (w : World) (ha : I64 a) (hb : I64 b) :
    Calls Tryd.prog 46 #[.int .i64 a, .int .i64 b] w fun e w' => e = .returned (.int .i64 (gcdI a b)) ∧ ∃ k, w' = w.drewN k := by
  unfold I64 at ha hb
  by_cases h1 : a = -9223372036854775808
  · have e : gcdI a b = 0 := by simp [gcdI, least, h1]
    rw [e]
    subst h1
    go_enter Tryd.func46, Tryd.ntmps46
    go_wp2
    go_ret
    exact ⟨rfl, 0, rfl⟩
  · by_cases h2 : b = -9223372036854775808
    · have e : gcdI a b = 0 := by simp [gcdI, least, h2]
      rw [e]
      subst h2
      go_enter Tryd.func46, Tryd.ntmps46
      go_wp2
      go_ret
      exact ⟨rfl, 0, rfl⟩
    · have k1 : (a == -9223372036854775808) = false := by simpa using h1
      have k2 : (b == -9223372036854775808) = false := by simpa using h2
      have eg : gcdI a b = (Nat.gcd a.natAbs b.natAbs : Int) := by simp [gcdI, least, h1, h2]
      rw [eg]
      obtain ⟨x, hx⟩ : ∃ x : Nat, absI a = (x : Int) := ⟨a.natAbs, by unfold absI; split <;> omega⟩
      obtain ⟨y, hy⟩ : ∃ y : Nat, absI b = (y : Int) := ⟨b.natAbs, by unfold absI; split <;> omega⟩
      have ex : a.natAbs = x := by unfold absI at hx; split at hx <;> omega
      have ey : b.natAbs = y := by unfold absI at hy; split at hy <;> omega
      rw [ex, ey]
      have hxb : x ≤ 9223372036854775807 := by omega
      have hyb : y ≤ 9223372036854775807 := by omega
      have a0 : -9223372036854775807 ≤ a := by omega
      have b0 : -9223372036854775807 ≤ b := by omega
      have a1 := ha.2
      have b1 := hb.2
      clear ha hb eg ex ey h1 h2
      go_enter Tryd.func46, Tryd.ntmps46
      go_wp2_with (go_at_call 58; refine (size_any _ _ (by assumption) (by assumption)).mono ?_; rintro e w' ⟨rfl, rfl⟩)
      go_loopw [0, 1] (fun p q wr => ∃ (u v k : Nat), u ≤ 9223372036854775807 ∧ v ≤ 9223372036854775807 ∧ Hid (Nat.gcd u v = Nat.gcd x y) ∧ p = .int .i64 (u : Int) ∧ q = .int .i64 (v : Int) ∧ wr = w.drewN k) (fun _ q _ => (intOf q).toNat)
      case atStart => exact ⟨x, y, 0, hxb, hyb, Lib.hid rfl, rfl, rfl, rfl⟩
      case round =>
        obtain ⟨u, v, k, hu, hv, hg, rfl, rfl, rfl⟩ := hrel
        by_cases hv0 : v = 0
        · subst hv0
          go_wp2
          go_ret
          exact ⟨by rw [← hg.out, Nat.gcd_zero_right]; rfl, k, rfl⟩
        · have hb : ((v : Int) != 0) = true := by rw [bne_iff_ne]; omega
          have hb' : ((v : Int) == 0) = false := by rw [beq_eq_false_iff_ne]; omega
          have hnz : ¬ (v : Int) = 0 := by omega
          have hlt := Nat.mod_lt u (show 0 < v by omega)
          go_wp2_with fail
          go_quiet (fail)
          go_wp2
          refine ⟨⟨v, u % v, _, hv, by omega, Lib.hid (by rw [← gcd_next]; exact hg.out), rfl, by simp, drewN_two _ _ _⟩, by simp [intOf]; omega⟩
theorem rsize_any (n : Int) (w : World) (h0 : -9223372036854775807 ≤ n) (h1 : n ≤ 9223372036854775807) :
    Calls Tryd.prog 59 #[.int .i64 n] w fun e w' => e = .returned (.int .i64 (absI n)) ∧ w = w' := by
  unfold absI
  by_cases h : n < 0
  · rw [if_pos h]
    go_enter Tryd.func59, Tryd.ntmps59
    go_wp2
    go_ret
    exact ⟨rfl, rfl⟩
  · rw [if_neg h]
    go_enter Tryd.func59, Tryd.ntmps59
    go_wp2
    go_ret
    exact ⟨rfl, rfl⟩

theorem rgcd_any (a b : Int) (w : World) (ha : I64 a) (hb : I64 b) :
    Calls Tryd.prog 48 #[.int .i64 a, .int .i64 b] w fun e w' => e = .returned (.int .i64 (gcdI a b)) ∧ ∃ k, w' = w.drewN k := by
  unfold I64 at ha hb
  by_cases h1 : a = -9223372036854775808
  · have e : gcdI a b = 0 := by simp [gcdI, least, h1]
    rw [e]
    subst h1
    go_enter Tryd.func48, Tryd.ntmps48
    go_wp2
    go_ret
    exact ⟨rfl, 0, rfl⟩
  · by_cases h2 : b = -9223372036854775808
    · have e : gcdI a b = 0 := by simp [gcdI, least, h2]
      rw [e]
      subst h2
      go_enter Tryd.func48, Tryd.ntmps48
      go_wp2
      go_ret
      exact ⟨rfl, 0, rfl⟩
    · have k1 : (a == -9223372036854775808) = false := by simpa using h1
      have k2 : (b == -9223372036854775808) = false := by simpa using h2
      have eg : gcdI a b = (Nat.gcd a.natAbs b.natAbs : Int) := by simp [gcdI, least, h1, h2]
      rw [eg]
      obtain ⟨x, hx⟩ : ∃ x : Nat, absI a = (x : Int) := ⟨a.natAbs, by unfold absI; split <;> omega⟩
      obtain ⟨y, hy⟩ : ∃ y : Nat, absI b = (y : Int) := ⟨b.natAbs, by unfold absI; split <;> omega⟩
      have ex : a.natAbs = x := by unfold absI at hx; split at hx <;> omega
      have ey : b.natAbs = y := by unfold absI at hy; split at hy <;> omega
      rw [ex, ey]
      have hxb : x ≤ 9223372036854775807 := by omega
      have hyb : y ≤ 9223372036854775807 := by omega
      have a0 : -9223372036854775807 ≤ a := by omega
      have b0 : -9223372036854775807 ≤ b := by omega
      have a1 := ha.2
      have b1 := hb.2
      clear ha hb eg ex ey h1 h2
      go_enter Tryd.func48, Tryd.ntmps48
      go_wp2_with (go_at_call 59; refine (rsize_any _ _ (by assumption) (by assumption)).mono ?_; rintro e w' ⟨rfl, rfl⟩)
      go_loopw [0, 1] (fun p q wr => ∃ (u v k : Nat), u ≤ 9223372036854775807 ∧ v ≤ 9223372036854775807 ∧ Hid (Nat.gcd u v = Nat.gcd x y) ∧ p = .int .i64 (u : Int) ∧ q = .int .i64 (v : Int) ∧ wr = w.drewN k) (fun _ q _ => (intOf q).toNat)
      case atStart => exact ⟨x, y, 0, hxb, hyb, Lib.hid rfl, rfl, rfl, rfl⟩
      case round =>
        obtain ⟨u, v, k, hu, hv, hg, rfl, rfl, rfl⟩ := hrel
        by_cases hv0 : v = 0
        · subst hv0
          go_wp2
          go_ret
          exact ⟨by rw [← hg.out, Nat.gcd_zero_right]; rfl, k, rfl⟩
        · have hb : ((v : Int) != 0) = true := by rw [bne_iff_ne]; omega
          have hb' : ((v : Int) == 0) = false := by rw [beq_eq_false_iff_ne]; omega
          have hnz : ¬ (v : Int) = 0 := by omega
          have hlt := Nat.mod_lt u (show 0 < v by omega)
          go_wp2_with fail
          go_quiet (fail)
          go_wp2
          refine ⟨⟨v, u % v, _, hv, by omega, Lib.hid (by rw [← gcd_next]; exact hg.out), rfl, by simp, drewN_two _ _ _⟩, by simp [intOf]; omega⟩

theorem bounded_any (n d : Int) (w : World) :
    Calls Tryd.prog 47 #[R2 n d] w fun e w' => e = .returned (.bool (boundB n d)) ∧ Below w.heap.size w w' := by
  by_cases h1 : 1 ≤ d
  · by_cases h2 : d ≤ 2147483648
    · by_cases h3 : -2147483648 ≤ n
      · go_enter Tryd.func47, Tryd.ntmps47
        go_wp2
        all_goals
          go_ret
          exact ⟨by simp [boundB, *], by (repeat' (first | (with_reducible exact Below.refl _ _) | (with_reducible refine Below.setCell ?_ ?_ _) | (with_reducible refine Below.alloc ?_ ?_ _) | (with_reducible refine Below.drew ?_) | (with_reducible refine belowN ?_ _) | (with_reducible refine below_step ?_ ?_ (by with_reducible assumption)) | go_size))⟩
      · go_enter Tryd.func47, Tryd.ntmps47
        go_wp2
        go_ret
        exact ⟨by simp [boundB]; omega, by (repeat' (first | (with_reducible exact Below.refl _ _) | (with_reducible refine Below.setCell ?_ ?_ _) | (with_reducible refine Below.alloc ?_ ?_ _) | (with_reducible refine Below.drew ?_) | (with_reducible refine belowN ?_ _) | (with_reducible refine below_step ?_ ?_ (by with_reducible assumption)) | go_size))⟩
    · go_enter Tryd.func47, Tryd.ntmps47
      go_wp2
      go_ret
      exact ⟨by simp [boundB]; omega, by (repeat' (first | (with_reducible exact Below.refl _ _) | (with_reducible refine Below.setCell ?_ ?_ _) | (with_reducible refine Below.alloc ?_ ?_ _) | (with_reducible refine Below.drew ?_) | (with_reducible refine belowN ?_ _) | (with_reducible refine below_step ?_ ?_ (by with_reducible assumption)) | go_size))⟩
  · go_enter Tryd.func47, Tryd.ntmps47
    go_wp2
    go_ret
    exact ⟨by simp [boundB]; omega, by (repeat' (first | (with_reducible exact Below.refl _ _) | (with_reducible refine Below.setCell ?_ ?_ _) | (with_reducible refine Below.alloc ?_ ?_ _) | (with_reducible refine Below.drew ?_) | (with_reducible refine belowN ?_ _) | (with_reducible refine below_step ?_ ?_ (by with_reducible assumption)) | go_size))⟩

theorem valid_any (n d : Int) (w : World) (hn : I64 n) (hd : I64 d) :
    Calls Tryd.prog 40 #[R2 n d] w fun e w' => e = .returned (.bool (validB n d)) ∧ Below w.heap.size w w' := by
  cases hb : boundB n d
  · have e : validB n d = false := by simp [validB, hb]
    rw [e]
    go_enter Tryd.func40, Tryd.ntmps40
    go_wp2_with (go_at_call 47; ((with_reducible refine (bounded_any _ _ _).mono ?_); rintro e w1 ⟨rfl, hb1⟩); have hz1 := hb1.size; (try simp only [World.size_alloc, World.size_setCell, World.size_drew, size_drewN'] at hz1); have : w.heap.size < w1.heap.size := (by omega); have := hb1.cell (p := ⟨w.heap.size, 0, none⟩) (by go_size); simp [go_sem, *] at this; have := hb1.frozen (p := ⟨w.heap.size, 0, none⟩) (by go_size); simp [go_sem, *] at this; have := hb1.cell (p := ⟨w.heap.size, 1, none⟩) (by go_size); simp [go_sem, *] at this; have := hb1.frozen (p := ⟨w.heap.size, 1, none⟩) (by go_size); simp [go_sem, *] at this)
    go_ret
    exact ⟨rfl, by (repeat' (first | (with_reducible exact Below.refl _ _) | (with_reducible refine Below.setCell ?_ ?_ _) | (with_reducible refine Below.alloc ?_ ?_ _) | (with_reducible refine Below.drew ?_) | (with_reducible refine belowN ?_ _) | (with_reducible refine below_step ?_ ?_ (by with_reducible assumption)) | go_size))⟩
  · have e : (gcdI n d == 1) = validB n d := by simp [validB, hb]
    go_enter Tryd.func40, Tryd.ntmps40
    go_wp2_with (first | (go_at_call 47; ((with_reducible refine (bounded_any _ _ _).mono ?_); rintro e w1 ⟨rfl, hb1⟩); have hz1 := hb1.size; (try simp only [World.size_alloc, World.size_setCell, World.size_drew, size_drewN'] at hz1); have : w.heap.size < w1.heap.size := (by omega); have := hb1.cell (p := ⟨w.heap.size, 0, none⟩) (by go_size); simp [go_sem, *] at this; have := hb1.frozen (p := ⟨w.heap.size, 0, none⟩) (by go_size); simp [go_sem, *] at this; have := hb1.cell (p := ⟨w.heap.size, 1, none⟩) (by go_size); simp [go_sem, *] at this; have := hb1.frozen (p := ⟨w.heap.size, 1, none⟩) (by go_size); simp [go_sem, *] at this) | (go_at_call 46; refine (gcd_any _ _ _ hn hd).mono ?_; rintro e w' ⟨rfl, k, rfl⟩))
    go_ret
    exact ⟨rfl, by (repeat' (first | (with_reducible exact Below.refl _ _) | (with_reducible refine Below.setCell ?_ ?_ _) | (with_reducible refine Below.alloc ?_ ?_ _) | (with_reducible refine Below.drew ?_) | (with_reducible refine belowN ?_ _) | (with_reducible refine below_step ?_ ?_ (by with_reducible assumption)) | go_size))⟩

theorem rvalid_any (n d : Int) (w : World) (hn : I64 n) (hd : I64 d) :
    Calls Tryd.prog 49 #[R2 n d] w fun e w' => e = .returned (.bool (validB n d)) ∧ Below w.heap.size w w' := by
  cases hb : boundB n d
  · have e : validB n d = false := by simp [validB, hb]
    rw [e]
    have hs : ¬ 1 ≤ d ∨ (1 ≤ d ∧ ¬ d ≤ 2147483648) ∨ (1 ≤ d ∧ d ≤ 2147483648 ∧ ¬ -2147483648 ≤ n) ∨ (1 ≤ d ∧ d ≤ 2147483648 ∧ -2147483648 ≤ n ∧ ¬ n ≤ 2147483648) := by simp [boundB] at hb; omega
    rcases hs with h | ⟨h, h2⟩ | ⟨h, h2, h3⟩ | ⟨h, h2, h3, h4⟩
    all_goals
      go_enter Tryd.func49, Tryd.ntmps49
      go_wp2
      go_ret
      exact ⟨rfl, by (repeat' (first | (with_reducible exact Below.refl _ _) | (with_reducible refine Below.setCell ?_ ?_ _) | (with_reducible refine Below.alloc ?_ ?_ _) | (with_reducible refine Below.drew ?_) | (with_reducible refine belowN ?_ _) | (with_reducible refine below_step ?_ ?_ (by with_reducible assumption)) | go_size))⟩
  · have e : (gcdI n d == 1) = validB n d := by simp [validB, hb]
    have hs : 1 ≤ d ∧ d ≤ 2147483648 ∧ -2147483648 ≤ n ∧ n ≤ 2147483648 := by simp [boundB] at hb; omega
    obtain ⟨h, h2, h3, h4⟩ := hs
    go_enter Tryd.func49, Tryd.ntmps49
    go_wp2_with (go_at_call 48; refine (rgcd_any _ _ _ hn hd).mono ?_; rintro e w' ⟨rfl, k, rfl⟩)
    go_ret
    exact ⟨rfl, by (repeat' (first | (with_reducible exact Below.refl _ _) | (with_reducible refine Below.setCell ?_ ?_ _) | (with_reducible refine Below.alloc ?_ ?_ _) | (with_reducible refine Below.drew ?_) | (with_reducible refine belowN ?_ _) | (with_reducible refine below_step ?_ ?_ (by with_reducible assumption)) | go_size))⟩

/-- The errors and the quotients, rounded down and up. -/
def quoE (n d : Int) : Int := if d = 0 then 1 else if n = least ∧ d = -1 then 2 else 0
def floorI (n d : Int) : Int := if quoE n d = 0 then Int.fdiv n d else 0
def ceilI (n d : Int) : Int := if quoE n d = 0 then (if Int.tmod n d = 0 then Int.fdiv n d else Int.fdiv n d + 1) else 0
theorem quotient_any (n d : Int) (w : World) : Calls Tryd.prog 50 #[.int .i64 n, .int .i64 d] w fun e w' => e = .returned (.int .i64 (quoE n d)) ∧ w = w' := by
  unfold quoE least
  by_cases h1 : d = 0
  · have k : (d == 0) = true := by simp [h1]
    rw [if_pos h1]
    clear h1
    go_enter Tryd.func50, Tryd.ntmps50
    go_wp2
    go_ret
    exact ⟨rfl, rfl⟩
  · have k : (d == 0) = false := by simpa using h1
    rw [if_neg h1]
    by_cases h2 : n = -9223372036854775808
    · subst h2
      by_cases h3 : d = -1
      · subst h3
        go_enter Tryd.func50, Tryd.ntmps50
        go_wp2
        go_ret
        exact ⟨by simp, rfl⟩
      · have k3 : (d == -1) = false := by simpa using h3
        rw [if_neg (by omega)]
        clear h1 h3
        go_enter Tryd.func50, Tryd.ntmps50
        go_wp2
        go_ret
        exact ⟨rfl, rfl⟩
    · have k2 : (n == -9223372036854775808) = false := by simpa using h2
      rw [if_neg (by omega)]
      clear h1 h2
      go_enter Tryd.func50, Tryd.ntmps50
      go_wp2
      go_ret
      exact ⟨rfl, rfl⟩
end Go.Proofs.YtnpnippgfkehaaaDoor
