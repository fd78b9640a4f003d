/- Contracts of the reference's Decimal, and of both where there is an error. -/
import Derived.Test.YtaabebmaobdofaaDoorRatDm
import Derived.Test.YtaabebmaobdofaaDoorRatG
set_option linter.unusedSimpArgs false
set_option linter.unusedVariables false
namespace Go.Proofs.YtaabebmaobdofaaDoor
open Go.RowKit

theorem dot_app (a b : List UInt8) : str a ++ ((⟨#[46]⟩ : ByteArray) ++ str b) = str (a ++ 46 :: b) := by
  rw [show (⟨#[46]⟩ : ByteArray) = str [46] from rfl, str_app, str_app]; rfl
theorem zero_app (b : List UInt8) : (⟨#[48]⟩ : ByteArray) ++ str b = str (48 :: b) := by
  rw [show (⟨#[48]⟩ : ByteArray) = str [48] from rfl, str_app]; rfl
theorem minus_app (b : List UInt8) : (⟨#[45]⟩ : ByteArray) ++ str b = str (45 :: b) := by
  rw [show (⟨#[45]⟩ : ByteArray) = str [45] from rfl, str_app]; rfl
theorem p10_nat (p : Nat) : p10 p = ((10 ^ p : Nat) : Int) := by unfold p10; simp
theorem dec_short (R p : Nat) (hp : 1 ≤ p) : (Lib.decDigits (R % 10 ^ p)).length ≤ p := by
  obtain ⟨k, rfl⟩ : ∃ k, p = k + 1 := ⟨p - 1, by omega⟩
  have h := congrArg List.length (full_tail k R)
  rw [tailD_len] at h
  unfold full at h
  rw [List.length_append, List.length_replicate] at h
  omega

theorem dec_bad (n d p : Int) (w : World) (hn : I64 n) (hd : I64 d) (hv : validB n d = false) :
    Calls Tryd.prog 41 #[R2 n d, .int .i64 p] w fun e w' => e = .returned (.tuple #[.string ⟨#[]⟩, .int .i64 1]) ∧ Below w.heap.size w w' := by
  have HV : Hid (∀ w, Calls Tryd.prog 17 #[R2 n d] w fun e w' => e = .returned (.bool false) ∧ Below w.heap.size w w') := Lib.hid (fun w => by have h := valid_any n d w hn hd; rw [hv] at h; exact h)
  clear hv
  go_enter Tryd.func41, Tryd.ntmps41
  go_wp2_with (go_at_call 17; ((with_reducible refine (HV.out _).mono ?_); rintro e w1 ⟨rfl, hb1⟩); have hz1 := hb1.size; (try simp only [World.size_alloc, World.size_setCell, World.size_drew, size_drewN'] at hz1); have : w.heap.size < w1.heap.size := (by omega); have := hb1.cell (p := ⟨w.heap.size, 0, none⟩) (by go_size); simp [go_sem, *] at this; have := hb1.frozen (p := ⟨w.heap.size, 0, none⟩) (by go_size); simp [go_sem, *] at this; have := hb1.cell (p := ⟨w.heap.size, 1, none⟩) (by go_size); simp [go_sem, *] at this; have := hb1.frozen (p := ⟨w.heap.size, 1, none⟩) (by go_size); simp [go_sem, *] at this)
  go_returns
  exact ⟨rfl, by (repeat' (first | (with_reducible exact Below.refl _ _) | (with_reducible refine Below.setCell ?_ ?_ _) | (with_reducible refine Below.alloc ?_ ?_ _) | (with_reducible refine Below.drew ?_) | (with_reducible refine belowN ?_ _) | (with_reducible refine below_step ?_ ?_ (by with_reducible assumption)) | go_size))⟩
theorem dec_out (n d p : Int) (w : World) (hn : I64 n) (hd : I64 d) (hv : validB n d = true) (hp : p < 0 ∨ 9 < p) :
    Calls Tryd.prog 41 #[R2 n d, .int .i64 p] w fun e w' => e = .returned (.tuple #[.string ⟨#[]⟩, .int .i64 2]) ∧ Below w.heap.size w w' := by
  have HV : Hid (∀ w, Calls Tryd.prog 17 #[R2 n d] w fun e w' => e = .returned (.bool true) ∧ Below w.heap.size w w') := Lib.hid (fun w => by have h := valid_any n d w hn hd; rw [hv] at h; exact h)
  clear hv
  have hp2 : p < 0 ∨ (¬ p < 0 ∧ 9 < p) := by omega
  clear hp
  rcases hp2 with hp | ⟨hp, hp2⟩
  all_goals
    go_enter Tryd.func41, Tryd.ntmps41
    go_wp2_with (go_at_call 17; ((with_reducible refine (HV.out _).mono ?_); rintro e w1 ⟨rfl, hb1⟩); have hz1 := hb1.size; (try simp only [World.size_alloc, World.size_setCell, World.size_drew, size_drewN'] at hz1); have : w.heap.size < w1.heap.size := (by omega); have := hb1.cell (p := ⟨w.heap.size, 0, none⟩) (by go_size); simp [go_sem, *] at this; have := hb1.frozen (p := ⟨w.heap.size, 0, none⟩) (by go_size); simp [go_sem, *] at this; have := hb1.cell (p := ⟨w.heap.size, 1, none⟩) (by go_size); simp [go_sem, *] at this; have := hb1.frozen (p := ⟨w.heap.size, 1, none⟩) (by go_size); simp [go_sem, *] at this)
    go_returns
    exact ⟨rfl, by (repeat' (first | (with_reducible exact Below.refl _ _) | (with_reducible refine Below.setCell ?_ ?_ _) | (with_reducible refine Below.alloc ?_ ?_ _) | (with_reducible refine Below.drew ?_) | (with_reducible refine belowN ?_ _) | (with_reducible refine below_step ?_ ?_ (by with_reducible assumption)) | go_size))⟩

theorem rdec_bad (n d p : Int) (w : World) (hn : I64 n) (hd : I64 d) (hv : validB n d = false) :
    Calls Tryd.prog 42 #[R2 n d, .int .i64 p] w fun e w' => e = .returned (.tuple #[.string ⟨#[]⟩, .int .i64 1]) ∧ Below w.heap.size w w' := by
  have HV : Hid (∀ w, Calls Tryd.prog 18 #[R2 n d] w fun e w' => e = .returned (.bool false) ∧ Below w.heap.size w w') := Lib.hid (fun w => by have h := rvalid_any n d w hn hd; rw [hv] at h; exact h)
  clear hv
  go_enter Tryd.func42, Tryd.ntmps42
  go_wp2_with (go_at_call 18; ((with_reducible refine (HV.out _).mono ?_); rintro e w1 ⟨rfl, hb1⟩); have hz1 := hb1.size; (try simp only [World.size_alloc, World.size_setCell, World.size_drew, size_drewN'] at hz1); have : w.heap.size < w1.heap.size := (by omega); have := hb1.cell (p := ⟨w.heap.size, 0, none⟩) (by go_size); simp [go_sem, *] at this; have := hb1.frozen (p := ⟨w.heap.size, 0, none⟩) (by go_size); simp [go_sem, *] at this; have := hb1.cell (p := ⟨w.heap.size, 1, none⟩) (by go_size); simp [go_sem, *] at this; have := hb1.frozen (p := ⟨w.heap.size, 1, none⟩) (by go_size); simp [go_sem, *] at this)
  go_returns
  exact ⟨rfl, by (repeat' (first | (with_reducible exact Below.refl _ _) | (with_reducible refine Below.setCell ?_ ?_ _) | (with_reducible refine Below.alloc ?_ ?_ _) | (with_reducible refine Below.drew ?_) | (with_reducible refine belowN ?_ _) | (with_reducible refine below_step ?_ ?_ (by with_reducible assumption)) | go_size))⟩
theorem rdec_out (n d p : Int) (w : World) (hn : I64 n) (hd : I64 d) (hv : validB n d = true) (hp : p < 0 ∨ 9 < p) :
    Calls Tryd.prog 42 #[R2 n d, .int .i64 p] w fun e w' => e = .returned (.tuple #[.string ⟨#[]⟩, .int .i64 2]) ∧ Below w.heap.size w w' := by
  have HV : Hid (∀ w, Calls Tryd.prog 18 #[R2 n d] w fun e w' => e = .returned (.bool true) ∧ Below w.heap.size w w') := Lib.hid (fun w => by have h := rvalid_any n d w hn hd; rw [hv] at h; exact h)
  clear hv
  have hp2 : p < 0 ∨ (¬ p < 0 ∧ 9 < p) := by omega
  clear hp
  rcases hp2 with hp | ⟨hp, hp2⟩
  all_goals
    go_enter Tryd.func42, Tryd.ntmps42
    go_wp2_with (go_at_call 18; ((with_reducible refine (HV.out _).mono ?_); rintro e w1 ⟨rfl, hb1⟩); have hz1 := hb1.size; (try simp only [World.size_alloc, World.size_setCell, World.size_drew, size_drewN'] at hz1); have : w.heap.size < w1.heap.size := (by omega); have := hb1.cell (p := ⟨w.heap.size, 0, none⟩) (by go_size); simp [go_sem, *] at this; have := hb1.frozen (p := ⟨w.heap.size, 0, none⟩) (by go_size); simp [go_sem, *] at this; have := hb1.cell (p := ⟨w.heap.size, 1, none⟩) (by go_size); simp [go_sem, *] at this; have := hb1.frozen (p := ⟨w.heap.size, 1, none⟩) (by go_size); simp [go_sem, *] at this)
    go_returns
    exact ⟨rfl, by (repeat' (first | (with_reducible exact Below.refl _ _) | (with_reducible refine Below.setCell ?_ ?_ _) | (with_reducible refine Below.alloc ?_ ?_ _) | (with_reducible refine Below.drew ?_) | (with_reducible refine belowN ?_ _) | (with_reducible refine below_step ?_ ?_ (by with_reducible assumption)) | go_size))⟩

set_option maxHeartbeats 2000000 in
theorem rdecimal_any (n d : Int) (p : Nat) (w : World) (hv : validB n d = true) (hp : p ≤ 9) :
    Calls Tryd.prog 42 #[R2 n d, .int .i64 p] w fun e w' => e = .returned (.tuple #[S (decL n d p), .int .i64 0]) ∧ Below w.heap.size w w' := by
  obtain ⟨d1, d2, n1, n2⟩ := valid_bound hv
  have HV : Hid (∀ w, Calls Tryd.prog 18 #[R2 n d] w fun e w' => e = .returned (.bool true) ∧ Below w.heap.size w w') := Lib.hid (fun w => by
    have h := rvalid_any n d w (by unfold I64; omega) (by unfold I64; omega)
    rw [hv] at h; exact h)
  have a0 := absI_0 n
  have a1 : absI n ≤ 2147483648 := by unfold absI; split <;> omega
  have HS : Hid (∀ w, Calls Tryd.prog 49 #[.int .i64 n] w fun e w' => e = .returned (.int .i64 (absI n)) ∧ w' = w) := Lib.hid (fun w => (rsize_any n w (by omega) (by omega)).mono fun _ _ h => ⟨h.1, h.2.symm⟩)
  have HSC : Hid (0 ≤ absI n * p10 p ∧ absI n * p10 p ≤ 2147483648000000000) := Lib.hid (scaled_le (absI n) p hp a0 a1)
  clear hv
  go_enter Tryd.func42, Tryd.ntmps42
  go_wp2_with (go_at_call 18; ((with_reducible refine (HV.out _).mono ?_); rintro e w1 ⟨rfl, hb1⟩); have hz1 := hb1.size; (try simp only [World.size_alloc, World.size_setCell, World.size_drew, size_drewN'] at hz1); have : w.heap.size < w1.heap.size := (by omega); have := hb1.cell (p := ⟨w.heap.size, 0, none⟩) (by go_size); simp [go_sem, *] at this; have := hb1.frozen (p := ⟨w.heap.size, 0, none⟩) (by go_size); simp [go_sem, *] at this; have := hb1.cell (p := ⟨w.heap.size, 1, none⟩) (by go_size); simp [go_sem, *] at this; have := hb1.frozen (p := ⟨w.heap.size, 1, none⟩) (by go_size); simp [go_sem, *] at this)
  go_loop [6, 7] (fun s i => ∃ k : Nat, k ≤ p ∧ i = .int .i64 k ∧ s = .int .i64 (p10 k)) (fun _ i => p - (intOf i).toNat)
  case atStart => exact ⟨0, Nat.zero_le _, rfl, by simp [p10]⟩
  case round =>
    obtain ⟨k, hk, rfl, rfl⟩ := hrel
    by_cases hlt : k < p
    · have x0 := p10_1 k
      have x1 := p10_mono k (by omega)
      have HX : Hid (p10 (k + 1) = p10 k * 10) := Lib.hid (p10_succ k)
      generalize p10 k = x at *
      go_wp2
      go_round
      case rel => exact ⟨k + 1, by omega, by go_num, by rw [HX.out]⟩
      case measure => simp [intOf]; omega
    · obtain rfl : k = p := by omega
      obtain ⟨y0, y1⟩ := HSC.out
      have x0 := p10_1 k
      have x1 := p10_mono k hp
      have HR : Hid (decR n d k = (2 * (absI n * p10 k) + d) / (2 * d)) := Lib.hid rfl
      have hR0 : 0 ≤ (2 * (absI n * p10 k) + d) / (2 * d) := Int.ediv_nonneg (by omega) (by omega)
      have hR1 : (2 * (absI n * p10 k) + d) / (2 * d) ≤ 4294967296000000000 + 2147483648 := by
        refine Int.le_trans (Int.ediv_le_self _ (by omega)) (by omega)
      have eZ : IntKind.i64.wrap (2 * absI n * p10 k) = 2 * (absI n * p10 k) := by
        rw [IntKind.wrap_i64, Int.mul_assoc]
        generalize absI n * p10 k = y at *
        omega
      obtain ⟨R, hRe⟩ : ∃ R, decR n d k = R := ⟨_, rfl⟩
      have HRe := Lib.hid hRe
      rw [← HR.out, hRe] at hR0 hR1
      have eQ : IntKind.i64.wrap ((2 * (absI n * p10 k) + d).tdiv (2 * d)) = R := by
        rw [Int.tdiv_eq_ediv_of_nonneg (by omega), ← HR.out, hRe, IntKind.wrap_i64]; omega
      have hX : p10 k = ((10 ^ k : Nat) : Int) := p10_nat k
      have HXN := Lib.hid hX
      clear hX hRe HR
      generalize absI n * p10 k = y at *
      have e1 : IntKind.i64.wrap (2 * absI n) = 2 * absI n := by rw [IntKind.wrap_i64]; omega
      have e3 : IntKind.i64.wrap (2 * y + d) = 2 * y + d := by rw [IntKind.wrap_i64]; omega
      have e4 : IntKind.i64.wrap (2 * d) = 2 * d := by rw [IntKind.wrap_i64]; omega
      have z1 : (2 * d == 0) = false := by simp; omega
      have z2 : ¬ 2 * d = 0 := by omega
      have z3 : ¬ d = 0 := by omega
      go_wp2
      go_quiet ((go_at_call 49; refine Calls.quiet_of_same (HS.out _)))
      clear e1 e3 e4 z1 z2 z3 eZ eQ HS HSC y0 y1 a0 a1
      obtain ⟨Rn, rfl⟩ : ∃ Rn : Nat, R = (Rn : Int) := ⟨R.toNat, by omega⟩
      obtain ⟨M, hM⟩ : ∃ M : Nat, M = 10 ^ k := ⟨_, rfl⟩
      rw [← hM] at HXN
      have HM := Lib.hid hM
      have hM1 : 1 ≤ M := by have := HXN.out; omega
      have q1 : ((Rn : Int) / p10 k) = ((Rn / M : Nat) : Int) := by rw [HXN.out]; simp
      have q2 : ((Rn : Int) % p10 k) = ((Rn % M : Nat) : Int) := by rw [HXN.out]; simp
      have q3 : Rn / M ≤ Rn := Nat.div_le_self _ _
      have q4 : Rn % M ≤ Rn := Nat.mod_le _ _
      have HN1 : Hid (∀ w, Calls Tryd.prog 54 #[.int .i64 ((Rn : Int) / p10 k)] w fun e w' => e = .returned (S (Lib.decDigits (Rn / M))) ∧ Below w.heap.size w w') := Lib.hid (fun w => by
        have h := rnum_pos (Rn / M) w (by omega)
        rw [q1]; exact h)
      have HN2 : Hid (∀ w, Calls Tryd.prog 54 #[.int .i64 ((Rn : Int) % p10 k)] w fun e w' => e = .returned (S (Lib.decDigits (Rn % M))) ∧ Below w.heap.size w w') := Lib.hid (fun w => by
        have h := rnum_pos (Rn % M) w (by omega)
        rw [q2]; exact h)
      have s1 := dec_len (Rn / M) (by omega)
      have s2 := dec_len (Rn % M) (by omega)
      have wq : wrap64 ((Rn : Int) / p10 k) = (Rn : Int) / p10 k := by rw [q1]; generalize Rn / M = z at *; exact w64_id (by omega) (by omega)
      have wr : wrap64 ((Rn : Int) % p10 k) = (Rn : Int) % p10 k := by rw [q2]; generalize Rn % M = z at *; exact w64_id (by omega) (by omega)
      clear q1 q2 q3 q4 hM
      generalize p10 k = X at *
      have hXz : ¬ X = 0 := by omega
      have hXz2 : (X == 0) = false := by simp; omega
      have HT0 : Hid (k = 0 → ptL (Lib.itoa (Rn : Int)) k = Lib.decDigits (Rn / M)) := Lib.hid (fun h => by
        have h1 : M = 1 := by rw [HM.out, h]
        rw [h1, Nat.div_one, Lib.itoa_nonneg, h]; rfl)
      have HT1 : Hid (1 ≤ k → ptL (Lib.itoa (Rn : Int)) k = Lib.decDigits (Rn / M) ++ 46 :: full (Rn % M) k) := Lib.hid (fun h => by
        rw [Lib.itoa_nonneg, HM.out]; exact ptL_parts Rn k h)
      have HSH : Hid (1 ≤ k → (Lib.decDigits (Rn % M)).length ≤ k) := Lib.hid (fun h => by rw [HM.out]; exact dec_short Rn k h)
      have HF : Hid (full (Rn % M) k = List.replicate (k - (Lib.decDigits (Rn % M)).length) 48 ++ Lib.decDigits (Rn % M)) := Lib.hid rfl
      have hc : (¬ n < 0 ∧ decL n d k = ptL (Lib.itoa (Rn : Int)) k) ∨ (n < 0 ∧ Rn = 0 ∧ decL n d k = ptL (Lib.itoa (Rn : Int)) k) ∨ (n < 0 ∧ Rn ≠ 0 ∧ decL n d k = 45 :: ptL (Lib.itoa (Rn : Int)) k) := by
        unfold decL
        rw [HRe.out]
        by_cases hn : n < 0
        · by_cases hr : Rn = 0
          · right; left; exact ⟨hn, hr, if_neg (by omega)⟩
          · right; right; exact ⟨hn, hr, if_pos (by omega)⟩
        · left; exact ⟨hn, if_neg (by omega)⟩
      have hc2 : (¬ n < 0 ∧ Hid (decL n d k = ptL (Lib.itoa (Rn : Int)) k)) ∨ (n < 0 ∧ (((Rn : Int) != 0) = false) ∧ Hid (decL n d k = ptL (Lib.itoa (Rn : Int)) k)) ∨ (n < 0 ∧ (((Rn : Int) != 0) = true) ∧ Hid (decL n d k = 45 :: ptL (Lib.itoa (Rn : Int)) k)) := by
        rcases hc with ⟨h1, h2⟩ | ⟨h1, h2, h3⟩ | ⟨h1, h2, h3⟩
        · exact Or.inl ⟨h1, Lib.hid h2⟩
        · exact Or.inr (Or.inl ⟨h1, by simp [h2], Lib.hid h3⟩)
        · exact Or.inr (Or.inr ⟨h1, by simpa using h2, Lib.hid h3⟩)
      clear hc
      generalize Lib.decDigits (Rn / M) = L1 at *
      generalize Lib.decDigits (Rn % M) = L2 at *
      generalize full (Rn % M) k = LF at *
      generalize ptL (Lib.itoa (Rn : Int)) k = T at *
      by_cases hk0 : k = 0
      · have e := HT0.out hk0
        subst hk0
        subst e
        rcases hc2 with ⟨c1, HE⟩ | ⟨c1, c2, HE⟩ | ⟨c1, c2, HE⟩
        · go_wp2_with (go_at_call 54; ((with_reducible refine (HN1.out _).mono ?_); rintro e w2 ⟨rfl, hb2⟩); have hz2 := hb2.size; (try simp only [World.size_alloc, World.size_setCell, World.size_drew, size_drewN'] at hz2); have : w.heap.size < w2.heap.size := (by omega); have := hb2.cell (p := ⟨w.heap.size, 0, none⟩) (by go_size); simp [go_sem, *] at this; have := hb2.frozen (p := ⟨w.heap.size, 0, none⟩) (by go_size); simp [go_sem, *] at this; have := hb2.cell (p := ⟨w.heap.size, 1, none⟩) (by go_size); simp [go_sem, *] at this; have := hb2.frozen (p := ⟨w.heap.size, 1, none⟩) (by go_size); simp [go_sem, *] at this)
          go_returns
          exact ⟨by rw [HE.out]; rfl, by (repeat' (first | (with_reducible exact Below.refl _ _) | (with_reducible refine Below.setCell ?_ ?_ _) | (with_reducible refine Below.alloc ?_ ?_ _) | (with_reducible refine Below.drew ?_) | (with_reducible refine belowN ?_ _) | (with_reducible refine below_step ?_ ?_ (by with_reducible assumption)) | go_size))⟩
        · go_wp2_with (go_at_call 54; ((with_reducible refine (HN1.out _).mono ?_); rintro e w2 ⟨rfl, hb2⟩); have hz2 := hb2.size; (try simp only [World.size_alloc, World.size_setCell, World.size_drew, size_drewN'] at hz2); have : w.heap.size < w2.heap.size := (by omega); have := hb2.cell (p := ⟨w.heap.size, 0, none⟩) (by go_size); simp [go_sem, *] at this; have := hb2.frozen (p := ⟨w.heap.size, 0, none⟩) (by go_size); simp [go_sem, *] at this; have := hb2.cell (p := ⟨w.heap.size, 1, none⟩) (by go_size); simp [go_sem, *] at this; have := hb2.frozen (p := ⟨w.heap.size, 1, none⟩) (by go_size); simp [go_sem, *] at this)
          go_returns
          exact ⟨by rw [HE.out]; rfl, by (repeat' (first | (with_reducible exact Below.refl _ _) | (with_reducible refine Below.setCell ?_ ?_ _) | (with_reducible refine Below.alloc ?_ ?_ _) | (with_reducible refine Below.drew ?_) | (with_reducible refine belowN ?_ _) | (with_reducible refine below_step ?_ ?_ (by with_reducible assumption)) | go_size))⟩
        · go_wp2_with (go_at_call 54; ((with_reducible refine (HN1.out _).mono ?_); rintro e w2 ⟨rfl, hb2⟩); have hz2 := hb2.size; (try simp only [World.size_alloc, World.size_setCell, World.size_drew, size_drewN'] at hz2); have : w.heap.size < w2.heap.size := (by omega); have := hb2.cell (p := ⟨w.heap.size, 0, none⟩) (by go_size); simp [go_sem, *] at this; have := hb2.frozen (p := ⟨w.heap.size, 0, none⟩) (by go_size); simp [go_sem, *] at this; have := hb2.cell (p := ⟨w.heap.size, 1, none⟩) (by go_size); simp [go_sem, *] at this; have := hb2.frozen (p := ⟨w.heap.size, 1, none⟩) (by go_size); simp [go_sem, *] at this)
          go_returns
          exact ⟨by rw [HE.out, minus_app]; rfl, by (repeat' (first | (with_reducible exact Below.refl _ _) | (with_reducible refine Below.setCell ?_ ?_ _) | (with_reducible refine Below.alloc ?_ ?_ _) | (with_reducible refine Below.drew ?_) | (with_reducible refine belowN ?_ _) | (with_reducible refine below_step ?_ ?_ (by with_reducible assumption)) | go_size))⟩
      · have hk1 : 1 ≤ k := by omega
        have e := HT1.out hk1
        have hsh := HSH.out hk1
        subst e
        clear hk0 HSH HT0 HT1
        go_wp2_with (first | (go_at_call 54; ((with_reducible refine (HN1.out _).mono ?_); rintro e w2 ⟨rfl, hb2⟩); have hz2 := hb2.size; (try simp only [World.size_alloc, World.size_setCell, World.size_drew, size_drewN'] at hz2); have : w.heap.size < w2.heap.size := (by omega); have := hb2.cell (p := ⟨w.heap.size, 0, none⟩) (by go_size); simp [go_sem, *] at this; have := hb2.frozen (p := ⟨w.heap.size, 0, none⟩) (by go_size); simp [go_sem, *] at this; have := hb2.cell (p := ⟨w.heap.size, 1, none⟩) (by go_size); simp [go_sem, *] at this; have := hb2.frozen (p := ⟨w.heap.size, 1, none⟩) (by go_size); simp [go_sem, *] at this) | (go_at_call 54; ((with_reducible refine (HN2.out _).mono ?_); rintro e w3 ⟨rfl, hb3⟩); have hz3 := hb3.size; (try simp only [World.size_alloc, World.size_setCell, World.size_drew, size_drewN'] at hz3); have : w.heap.size < w3.heap.size := (by omega); have := hb3.cell (p := ⟨w.heap.size, 0, none⟩) (by go_size); simp [go_sem, *] at this; have := hb3.frozen (p := ⟨w.heap.size, 0, none⟩) (by go_size); simp [go_sem, *] at this; have := hb3.cell (p := ⟨w.heap.size, 1, none⟩) (by go_size); simp [go_sem, *] at this; have := hb3.frozen (p := ⟨w.heap.size, 1, none⟩) (by go_size); simp [go_sem, *] at this))
        go_loop [10] (fun s => ∃ j : Nat, j + L2.length ≤ k ∧ s = .string (str (List.replicate j 48 ++ L2))) (fun s => k - (match s with | .string b => b.size | _ => 0))
        case atStart => exact ⟨0, by omega, rfl⟩
        case round =>
          obtain ⟨j, hj, rfl⟩ := hrel
          have hz := str_size (List.replicate j 48 ++ L2)
          rw [List.length_append, List.length_replicate] at hz
          by_cases hlt2 : j + L2.length < k
          · have HZ : Hid ((⟨#[48]⟩ : ByteArray) ++ str (List.replicate j 48 ++ L2) = str (List.replicate (j + 1) 48 ++ L2)) := Lib.hid (by rw [zero_app, List.replicate_succ]; rfl)
            have hz2 := str_size (List.replicate (j + 1) 48 ++ L2)
            rw [List.length_append, List.length_replicate] at hz2
            have HZ2 := Lib.hid hz2
            have HZ3 := Lib.hid hz
            clear hz2
            go_wp2
            go_round
            case rel => exact ⟨j + 1, by omega, by rw [HZ.out]⟩
            case measure =>
              show k - ((⟨#[48]⟩ : ByteArray) ++ str (List.replicate j 48 ++ L2)).size < k - (str (List.replicate j 48 ++ L2)).size
              rw [HZ.out, HZ2.out, HZ3.out]; omega
          · have ej : j = k - L2.length := by omega
            have eF : List.replicate j 48 ++ L2 = LF := by rw [ej]; exact HF.out.symm
            rw [eF] at hz ⊢
            have hz3 : (str LF).size ≤ 100 := by omega
            have hz4 : k ≤ (str LF).size := by omega
            clear hz ej eF
            rcases hc2 with ⟨c1, HE⟩ | ⟨c1, c2, HE⟩ | ⟨c1, c2, HE⟩
            · go_wp2
              go_returns
              exact ⟨by rw [HE.out, dot_app]; rfl, by (repeat' (first | (with_reducible exact Below.refl _ _) | (with_reducible refine Below.setCell ?_ ?_ _) | (with_reducible refine Below.alloc ?_ ?_ _) | (with_reducible refine Below.drew ?_) | (with_reducible refine belowN ?_ _) | (with_reducible refine below_step ?_ ?_ (by with_reducible assumption)) | go_size))⟩
            · go_wp2
              go_returns
              exact ⟨by rw [HE.out, dot_app]; rfl, by (repeat' (first | (with_reducible exact Below.refl _ _) | (with_reducible refine Below.setCell ?_ ?_ _) | (with_reducible refine Below.alloc ?_ ?_ _) | (with_reducible refine Below.drew ?_) | (with_reducible refine belowN ?_ _) | (with_reducible refine below_step ?_ ?_ (by with_reducible assumption)) | go_size))⟩
            · go_wp2
              go_returns
              exact ⟨by rw [HE.out, dot_app, minus_app]; rfl, by (repeat' (first | (with_reducible exact Below.refl _ _) | (with_reducible refine Below.setCell ?_ ?_ _) | (with_reducible refine Below.alloc ?_ ?_ _) | (with_reducible refine Below.drew ?_) | (with_reducible refine belowN ?_ _) | (with_reducible refine below_step ?_ ?_ (by with_reducible assumption)) | go_size))⟩
end Go.Proofs.YtaabebmaobdofaaDoor
