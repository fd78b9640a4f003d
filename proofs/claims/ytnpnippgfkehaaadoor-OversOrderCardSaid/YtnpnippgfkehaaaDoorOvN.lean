/- The comparison of ratios of package exact, and that rates compare as their ratios do. -/
import Derived.Test.YtnpnippgfkehaaaDoorOvK
set_option linter.unusedSimpArgs false
set_option linter.unusedVariables false
namespace Go.Proofs.YtnpnippgfkehaaaDoor
open Go.RowKit

theorem valid_bound {n d : Int} (h : validB n d = true) : 1 ≤ d ∧ d ≤ 2147483648 ∧ -2147483648 ≤ n ∧ n ≤ 2147483648 := by
  have : boundB n d = true := by unfold validB at h; simp at h; exact h.1
  simp [boundB] at this; omega
theorem valid_gcd {n d : Int} (h : validB n d = true) : Nat.gcd n.natAbs d.natAbs = 1 := by
  obtain ⟨a, b, c, e⟩ := valid_bound h
  have h2 : gcdI n d = 1 := by unfold validB at h; simp at h; exact h.2
  rw [gcdI_nat (by unfold least; omega) (by unfold least; omega)] at h2
  omega
theorem i64_wrap (x : Int) : I64 (wrap64 x) := by unfold I64 wrap64; omega

theorem abs_mul {a b : Int} {A B : Nat} (ha : a.natAbs ≤ A) (hb : b.natAbs ≤ B) : (a * b).natAbs ≤ A * B := by
  rw [Int.natAbs_mul]; exact Nat.mul_le_mul ha hb
theorem w64_abs {x : Int} (h : x.natAbs ≤ 9223372036854775807) : wrap64 x = x := w64_id (by omega) (by omega)
theorem prod_abs {p t : Int} (h1 : p.natAbs ≤ 2147483648) (h2 : t.natAbs ≤ 2147483648) : (p * t).natAbs ≤ 4611686018427387904 := abs_mul h1 h2
theorem prod_eq {p t : Int} (h1 : p.natAbs ≤ 2147483648) (h2 : t.natAbs ≤ 2147483648) : wrap64 (p * t) = p * t := w64_abs (by have := prod_abs h1 h2; omega)

theorem make_parts {X Y : Int} (hY : Y ≠ 0) (bX : X.natAbs ≤ 9223372036854775807) (bY : Y.natAbs ≤ 9223372036854775807) (h : makeE X Y = 0) :
    ∃ g : Int, 0 < g ∧ makeN X Y * g = flip X Y ∧ makeD X Y * g = absI Y ∧ validB (makeN X Y) (makeD X Y) = true := by
  have hl : ¬ (X = least ∨ Y = least) := by unfold least; omega
  have hn : X ≠ least := fun h => hl (Or.inl h)
  have hd : Y ≠ least := fun h => hl (Or.inr h)
  have hb : boundB (redN X Y) (redD X Y) = true := by
    cases hb : boundB (redN X Y) (redD X Y)
    · have := (make_3 hY hl hb).1; omega
    · rfl
  obtain ⟨_, e1, e2⟩ := make_0 hY hl hb
  refine ⟨gcdI X Y, by have := gcdI_1 hn hd hY; omega, ?_, ?_, ?_⟩
  · rw [e1]; unfold redN
    refine Int.tdiv_mul_cancel ?_
    rw [gcdI_nat hn hd, ← Int.dvd_natAbs, natAbs_flip]
    exact Int.natCast_dvd_natCast.2 (Nat.gcd_dvd_left _ _)
  · rw [e2]; unfold redD
    refine Int.tdiv_mul_cancel ?_
    rw [gcdI_nat hn hd, ← Int.dvd_natAbs, natAbs_absI]
    exact Int.natCast_dvd_natCast.2 (Nat.gcd_dvd_right _ _)
  · rw [e1, e2, valid_red hn hd hY bX bY]; exact hb

theorem flip_pos {X Y : Int} (h : 0 < Y) : flip X Y = X := by unfold flip; rw [if_neg (by omega)]
theorem absI_pos {Y : Int} (h : 0 < Y) : absI Y = Y := by unfold absI; rw [if_neg (by omega)]
theorem cmpO_scale {g a b c d : Int} (hg : 0 < g) (h : g * (a - b) = c - d) : cmpO a b = cmpO c d := by
  have h1 : a < b ↔ c < d := by
    constructor
    · intro hlt
      have : g * (a - b) < 0 := by
        have := Int.mul_lt_mul_of_pos_left (show a - b < 0 by omega) hg
        rw [Int.mul_zero] at this; exact this
      omega
    · intro hlt
      rcases Int.lt_trichotomy a b with h' | h' | h'
      · exact h'
      · rw [h', Int.sub_self, Int.mul_zero] at h; omega
      · have := Int.mul_pos hg (show 0 < a - b by omega); omega
  have h2 : b < a ↔ d < c := by
    constructor
    · intro hlt
      have := Int.mul_pos hg (show 0 < a - b by omega); omega
    · intro hlt
      rcases Int.lt_trichotomy a b with h' | h' | h'
      · have := Int.mul_lt_mul_of_pos_left (show a - b < 0 by omega) hg
        rw [Int.mul_zero] at this; omega
      · rw [h', Int.sub_self, Int.mul_zero] at h; omega
      · exact h'
  unfold cmpO
  by_cases x1 : a < b
  · rw [if_pos x1, if_pos (h1.1 x1)]
  · rw [if_neg x1, if_neg (fun h => x1 (h1.2 h))]
    by_cases x2 : b < a
    · rw [if_pos x2, if_pos (h2.1 x2)]
    · rw [if_neg x2, if_neg (fun h => x2 (h2.2 h))]
theorem two_ways (a b c d : Int) : (validB a b = false) ∨ (validB a b = true ∧ validB c d = false) ∨ (validB a b = true ∧ validB c d = true) := by
  cases validB a b <;> cases validB c d <;> simp
def cmpR (a b c d : Int) : Int := if (validB a b && validB c d) then cmpO (wrap64 (a * d)) (wrap64 (c * b)) else 0

theorem cmp_any (a b c d : Int) (w : World) (ha : I64 a) (hb : I64 b) (hc : I64 c) (hd : I64 d) :
    Calls Tryd.prog 25 #[R2 a b, R2 c d] w fun e w' => e = .returned (.int .i64 (cmpR a b c d)) ∧ Below w.heap.size w w' := by
  rcases two_ways a b c d with hva | ⟨hva, hvb⟩ | ⟨hva, hvb⟩
  · have HVa : Hid (∀ w, Calls Tryd.prog 40 #[R2 a b] w fun e w' => e = .returned (.bool false) ∧ Below w.heap.size w w') := Lib.hid (fun w => by have h := valid_any a b w ha hb; rw [hva] at h; exact h)
    have e : cmpR a b c d = 0 := by simp [cmpR, hva]
    rw [e]
    clear e hva
    go_enter Tryd.func25, Tryd.ntmps25
    go_wp2_with (go_at_call 40; ((with_reducible refine (HVa.out _).mono ?_); rintro e w1 ⟨rfl, hb1⟩); have hz1 := hb1.size; (try simp only [World.size_alloc, World.size_setCell, World.size_drew, size_drewN'] at hz1); have : w.heap.size < w1.heap.size := (by omega); have := hb1.cell (p := ⟨w.heap.size, 0, none⟩) (by go_size); simp [go_sem, *] at this; have := hb1.frozen (p := ⟨w.heap.size, 0, none⟩) (by go_size); simp [go_sem, *] at this; have := hb1.cell (p := ⟨w.heap.size, 1, none⟩) (by go_size); simp [go_sem, *] at this; have := hb1.frozen (p := ⟨w.heap.size, 1, none⟩) (by go_size); simp [go_sem, *] at this; have : w.heap.size + 1 < w1.heap.size := (by omega); have := hb1.cell (p := ⟨w.heap.size + 1, 0, none⟩) (by go_size); simp [go_sem, *] at this; have := hb1.frozen (p := ⟨w.heap.size + 1, 0, none⟩) (by go_size); simp [go_sem, *] at this; have := hb1.cell (p := ⟨w.heap.size + 1, 1, none⟩) (by go_size); simp [go_sem, *] at this; have := hb1.frozen (p := ⟨w.heap.size + 1, 1, none⟩) (by go_size); simp [go_sem, *] at this)
    go_ret
    exact ⟨rfl, by (repeat' (first | (with_reducible exact Below.refl _ _) | (with_reducible refine Below.setCell ?_ ?_ _) | (with_reducible refine Below.alloc ?_ ?_ _) | (with_reducible refine Below.drew ?_) | (with_reducible refine belowN ?_ _) | (with_reducible refine below_step ?_ ?_ (by with_reducible assumption)) | go_size))⟩
  · have HVa : Hid (∀ w, Calls Tryd.prog 40 #[R2 a b] w fun e w' => e = .returned (.bool true) ∧ Below w.heap.size w w') := Lib.hid (fun w => by have h := valid_any a b w ha hb; rw [hva] at h; exact h)
    have HVb : Hid (∀ w, Calls Tryd.prog 40 #[R2 c d] w fun e w' => e = .returned (.bool false) ∧ Below w.heap.size w w') := Lib.hid (fun w => by have h := valid_any c d w hc hd; rw [hvb] at h; exact h)
    have e : cmpR a b c d = 0 := by simp [cmpR, hvb]
    rw [e]
    clear e hva hvb
    go_enter Tryd.func25, Tryd.ntmps25
    go_wp2_with (first | (go_at_call 40; ((with_reducible refine (HVa.out _).mono ?_); rintro e w1 ⟨rfl, hb1⟩); have hz1 := hb1.size; (try simp only [World.size_alloc, World.size_setCell, World.size_drew, size_drewN'] at hz1); have : w.heap.size < w1.heap.size := (by omega); have := hb1.cell (p := ⟨w.heap.size, 0, none⟩) (by go_size); simp [go_sem, *] at this; have := hb1.frozen (p := ⟨w.heap.size, 0, none⟩) (by go_size); simp [go_sem, *] at this; have := hb1.cell (p := ⟨w.heap.size, 1, none⟩) (by go_size); simp [go_sem, *] at this; have := hb1.frozen (p := ⟨w.heap.size, 1, none⟩) (by go_size); simp [go_sem, *] at this; have : w.heap.size + 1 < w1.heap.size := (by omega); have := hb1.cell (p := ⟨w.heap.size + 1, 0, none⟩) (by go_size); simp [go_sem, *] at this; have := hb1.frozen (p := ⟨w.heap.size + 1, 0, none⟩) (by go_size); simp [go_sem, *] at this; have := hb1.cell (p := ⟨w.heap.size + 1, 1, none⟩) (by go_size); simp [go_sem, *] at this; have := hb1.frozen (p := ⟨w.heap.size + 1, 1, none⟩) (by go_size); simp [go_sem, *] at this) | (go_at_call 40; ((with_reducible refine (HVb.out _).mono ?_); rintro e w2 ⟨rfl, hb2⟩); have hz2 := hb2.size; (try simp only [World.size_alloc, World.size_setCell, World.size_drew, size_drewN'] at hz2); have : w.heap.size < w2.heap.size := (by omega); have := hb2.cell (p := ⟨w.heap.size, 0, none⟩) (by go_size); simp [go_sem, *] at this; have := hb2.frozen (p := ⟨w.heap.size, 0, none⟩) (by go_size); simp [go_sem, *] at this; have := hb2.cell (p := ⟨w.heap.size, 1, none⟩) (by go_size); simp [go_sem, *] at this; have := hb2.frozen (p := ⟨w.heap.size, 1, none⟩) (by go_size); simp [go_sem, *] at this; have : w.heap.size + 1 < w2.heap.size := (by omega); have := hb2.cell (p := ⟨w.heap.size + 1, 0, none⟩) (by go_size); simp [go_sem, *] at this; have := hb2.frozen (p := ⟨w.heap.size + 1, 0, none⟩) (by go_size); simp [go_sem, *] at this; have := hb2.cell (p := ⟨w.heap.size + 1, 1, none⟩) (by go_size); simp [go_sem, *] at this; have := hb2.frozen (p := ⟨w.heap.size + 1, 1, none⟩) (by go_size); simp [go_sem, *] at this))
    go_ret
    exact ⟨rfl, by (repeat' (first | (with_reducible exact Below.refl _ _) | (with_reducible refine Below.setCell ?_ ?_ _) | (with_reducible refine Below.alloc ?_ ?_ _) | (with_reducible refine Below.drew ?_) | (with_reducible refine belowN ?_ _) | (with_reducible refine below_step ?_ ?_ (by with_reducible assumption)) | go_size))⟩
  · have HVa : Hid (∀ w, Calls Tryd.prog 40 #[R2 a b] w fun e w' => e = .returned (.bool true) ∧ Below w.heap.size w w') := Lib.hid (fun w => by have h := valid_any a b w ha hb; rw [hva] at h; exact h)
    have HVb : Hid (∀ w, Calls Tryd.prog 40 #[R2 c d] w fun e w' => e = .returned (.bool true) ∧ Below w.heap.size w w') := Lib.hid (fun w => by have h := valid_any c d w hc hd; rw [hvb] at h; exact h)
    have e : cmpR a b c d = cmpO (wrap64 (a * d)) (wrap64 (c * b)) := by simp [cmpR, hva, hvb]
    rw [e]
    obtain ⟨X, hX⟩ : ∃ X, wrap64 (a * d) = X := ⟨_, rfl⟩
    obtain ⟨Y, hY⟩ : ∃ Y, wrap64 (c * b) = Y := ⟨_, rfl⟩
    have hX2 : IntKind.i64.wrap (a * d) = X := by rw [← hX, IntKind.wrap_i64]; unfold wrap64; omega
    have hY2 : IntKind.i64.wrap (c * b) = Y := by rw [← hY, IntKind.wrap_i64]; unfold wrap64; omega
    rw [hX, hY]
    clear e hva hvb
    have ht : (X < Y ∧ cmpO X Y = -1) ∨ (¬ X < Y ∧ Y < X ∧ cmpO X Y = 1) ∨ (¬ X < Y ∧ ¬ Y < X ∧ cmpO X Y = 0) := by
      unfold cmpO
      by_cases h1 : X < Y
      · left; simp [h1]
      · by_cases h2 : Y < X
        · right; left; simp [h1, h2]
        · right; right; simp [h1, h2]
    rcases ht with ⟨h1, e⟩ | ⟨h1, h2, e⟩ | ⟨h1, h2, e⟩
    all_goals
      rw [e]
      clear e
      go_enter Tryd.func25, Tryd.ntmps25
      go_wp2_with (first | (go_at_call 40; ((with_reducible refine (HVa.out _).mono ?_); rintro e w1 ⟨rfl, hb1⟩); have hz1 := hb1.size; (try simp only [World.size_alloc, World.size_setCell, World.size_drew, size_drewN'] at hz1); have : w.heap.size < w1.heap.size := (by omega); have := hb1.cell (p := ⟨w.heap.size, 0, none⟩) (by go_size); simp [go_sem, *] at this; have := hb1.frozen (p := ⟨w.heap.size, 0, none⟩) (by go_size); simp [go_sem, *] at this; have := hb1.cell (p := ⟨w.heap.size, 1, none⟩) (by go_size); simp [go_sem, *] at this; have := hb1.frozen (p := ⟨w.heap.size, 1, none⟩) (by go_size); simp [go_sem, *] at this; have : w.heap.size + 1 < w1.heap.size := (by omega); have := hb1.cell (p := ⟨w.heap.size + 1, 0, none⟩) (by go_size); simp [go_sem, *] at this; have := hb1.frozen (p := ⟨w.heap.size + 1, 0, none⟩) (by go_size); simp [go_sem, *] at this; have := hb1.cell (p := ⟨w.heap.size + 1, 1, none⟩) (by go_size); simp [go_sem, *] at this; have := hb1.frozen (p := ⟨w.heap.size + 1, 1, none⟩) (by go_size); simp [go_sem, *] at this) | (go_at_call 40; ((with_reducible refine (HVb.out _).mono ?_); rintro e w2 ⟨rfl, hb2⟩); have hz2 := hb2.size; (try simp only [World.size_alloc, World.size_setCell, World.size_drew, size_drewN'] at hz2); have : w.heap.size < w2.heap.size := (by omega); have := hb2.cell (p := ⟨w.heap.size, 0, none⟩) (by go_size); simp [go_sem, *] at this; have := hb2.frozen (p := ⟨w.heap.size, 0, none⟩) (by go_size); simp [go_sem, *] at this; have := hb2.cell (p := ⟨w.heap.size, 1, none⟩) (by go_size); simp [go_sem, *] at this; have := hb2.frozen (p := ⟨w.heap.size, 1, none⟩) (by go_size); simp [go_sem, *] at this; have : w.heap.size + 1 < w2.heap.size := (by omega); have := hb2.cell (p := ⟨w.heap.size + 1, 0, none⟩) (by go_size); simp [go_sem, *] at this; have := hb2.frozen (p := ⟨w.heap.size + 1, 0, none⟩) (by go_size); simp [go_sem, *] at this; have := hb2.cell (p := ⟨w.heap.size + 1, 1, none⟩) (by go_size); simp [go_sem, *] at this; have := hb2.frozen (p := ⟨w.heap.size + 1, 1, none⟩) (by go_size); simp [go_sem, *] at this))
      go_quiet (fail)
      go_wp2
      go_ret
      exact ⟨rfl, by (repeat' (first | (with_reducible exact Below.refl _ _) | (with_reducible refine Below.setCell ?_ ?_ _) | (with_reducible refine Below.alloc ?_ ?_ _) | (with_reducible refine Below.drew ?_) | (with_reducible refine belowN ?_ _) | (with_reducible refine below_step ?_ ?_ (by with_reducible assumption)) | go_size))⟩


/-- A rate is never too large for a ratio. -/
theorem rate_ok {r b p : Int} (h1 : rateB r b = true) (h2 : perB p = true) : makeE (r * p) b = 0 := by
  obtain ⟨r1, r2, b1, b2⟩ := rateB_1 h1
  obtain ⟨p1, p2⟩ := perB_1 h2
  obtain ⟨m1, m2⟩ := mul_bd (a := r) (b := p) r1 r2 (by omega) p2
  have hl : ¬ (r * p = least ∨ b = least) := by unfold least; omega
  have g1 := gcdI_1 (n := r * p) (d := b) (fun h => hl (Or.inl h)) (fun h => hl (Or.inr h)) (by omega)
  have e1 : redN (r * p) b = (r * p).tdiv (gcdI (r * p) b) := by unfold redN; rw [flip_pos (by omega)]
  have e2 : redD (r * p) b = b.tdiv (gcdI (r * p) b) := by unfold redD; rw [absI_pos (by omega)]
  have x1 : 0 ≤ (r * p).tdiv (gcdI (r * p) b) := Int.tdiv_nonneg m1 (by omega)
  have x2 : (r * p).tdiv (gcdI (r * p) b) ≤ r * p := by
    have := Int.natAbs_tdiv_le_natAbs (r * p) (gcdI (r * p) b); omega
  have x3 : b.tdiv (gcdI (r * p) b) ≤ b := by
    have := Int.natAbs_tdiv_le_natAbs b (gcdI (r * p) b); omega
  have hd : gcdI (r * p) b ∣ b := by
    rw [gcdI_nat (fun h => hl (Or.inl h)) (fun h => hl (Or.inr h)), ← Int.dvd_natAbs]
    exact Int.natCast_dvd_natCast.2 (Nat.gcd_dvd_right _ _)
  have x4 : 1 ≤ b.tdiv (gcdI (r * p) b) := by
    have h := Int.tdiv_mul_cancel hd
    have h0 : 0 ≤ b.tdiv (gcdI (r * p) b) := Int.tdiv_nonneg (by omega) (by omega)
    rcases (show b.tdiv (gcdI (r * p) b) = 0 ∨ 1 ≤ b.tdiv (gcdI (r * p) b) by omega) with h' | h'
    · rw [h', Int.zero_mul] at h; omega
    · exact h'
  refine (make_0 (by omega) hl ?_).1
  rw [e1, e2]; simp [boundB]; omega
theorem order_in {r b s c p : Int} (h1 : rateB r b = true) (h2 : rateB s c = true) (h3 : perB p = true) :
    validB (makeN (r * p) b) (makeD (r * p) b) = true ∧ validB (makeN (s * p) c) (makeD (s * p) c) = true ∧
    cmpR (makeN (r * p) b) (makeD (r * p) b) (makeN (s * p) c) (makeD (s * p) c) = cmpO (r * c) (s * b) := by
  obtain ⟨r1, r2, b1, b2⟩ := rateB_1 h1
  obtain ⟨s1, s2, c1, c2⟩ := rateB_1 h2
  obtain ⟨p1, p2⟩ := perB_1 h3
  obtain ⟨m1, m2⟩ := mul_bd (a := r) (b := p) r1 r2 (by omega) p2
  obtain ⟨m3, m4⟩ := mul_bd (a := s) (b := p) s1 s2 (by omega) p2
  obtain ⟨g, hg, g1, g2, v1⟩ := make_parts (X := r * p) (Y := b) (by omega) (by omega) (by omega) (rate_ok h1 h3)
  obtain ⟨k, hk, k1, k2, v2⟩ := make_parts (X := s * p) (Y := c) (by omega) (by omega) (by omega) (rate_ok h2 h3)
  rw [flip_pos (by omega)] at g1 k1
  rw [absI_pos (by omega)] at g2 k2
  obtain ⟨x1, x2, x3, x4⟩ := valid_bound v1
  obtain ⟨y1, y2, y3, y4⟩ := valid_bound v2
  refine ⟨v1, v2, ?_⟩
  unfold cmpR
  rw [if_pos (by simp [v1, v2]), prod_eq (by omega) (by omega), prod_eq (by omega) (by omega)]
  generalize makeN (r * p) b = an at *
  generalize makeD (r * p) b = ad at *
  generalize makeN (s * p) c = bn at *
  generalize makeD (s * p) c = bd at *
  have hp : 0 < p := by omega
  have e1 : (g * k) * (an * bd - bn * ad) = p * (r * c) - p * (s * b) := by
    have : (g * k) * (an * bd - bn * ad) = (an * g) * (bd * k) - (bn * k) * (ad * g) := by grind
    rw [this, g1, g2, k1, k2]; grind
  have e2 : p * (r * c - s * b) = p * (r * c) - p * (s * b) := by rw [Int.mul_sub]
  rw [cmpO_scale (Int.mul_pos hg hk) e1, cmpO_scale hp e2]
end Go.Proofs.YtnpnippgfkehaaaDoor
