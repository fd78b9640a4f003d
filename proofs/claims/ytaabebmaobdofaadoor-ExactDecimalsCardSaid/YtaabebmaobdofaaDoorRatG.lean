/- Contracts of Neg, Add, Sub, Mul, Div of package exact and its reference: the ratio or the error that their words say; old memory unchanged. -/
import Derived.Test.YtaabebmaobdofaaDoorRatE
set_option linter.unusedSimpArgs false
set_option linter.unusedVariables false
namespace Go.Proofs.YtaabebmaobdofaaDoor
open Go.RowKit

def opE (v : Bool) (x y : Int) : Int := if v then makeE x y else 1
def opN (v : Bool) (x y : Int) : Int := if v then makeN x y else 0
def opD (v : Bool) (x y : Int) : Int := if v then makeD x y else 0
def sumI (a b c d : Int) : Int := wrap64 (wrap64 (a * d) + wrap64 (c * b))
def negN (n d : Int) : Int := if validB n d then -n else 0
def negD (n d : Int) : Int := if validB n d then d else 0
def negE (n d : Int) : Int := if validB n d then 0 else 1

theorem valid_bound {n d : Int} (h : validB n d = true) : 1 ≤ d ∧ d ≤ 2147483648 ∧ -2147483648 ≤ n ∧ n ≤ 2147483648 := by
  have : boundB n d = true := by unfold validB at h; simp at h; exact h.1
  simp [boundB] at this; omega
theorem valid_gcd {n d : Int} (h : validB n d = true) : Nat.gcd n.natAbs d.natAbs = 1 := by
  obtain ⟨a, b, c, e⟩ := valid_bound h
  have h2 : gcdI n d = 1 := by unfold validB at h; simp at h; exact h.2
  rw [gcdI_nat (by unfold least; omega) (by unfold least; omega)] at h2
  omega
theorem valid_neg {n d : Int} : validB (-n) d = validB n d := by
  have e : ∀ n, validB n d = true → validB (-n) d = true := by
    intro n h
    obtain ⟨a, b, c, e⟩ := valid_bound h
    have g := valid_gcd h
    have hb : boundB (-n) d = true := by simp [boundB]; omega
    unfold validB
    rw [hb, gcdI_nat (by unfold least; omega) (by unfold least; omega), Int.natAbs_neg, g]
    rfl
  cases h : validB n d
  · cases h2 : validB (-n) d
    · rfl
    · have := e _ h2; rw [Int.neg_neg] at this; rw [this] at h; cases h
  · exact e n h
theorem make_valid {n d : Int} (h : validB n d = true) : makeE n d = 0 ∧ makeN n d = n ∧ makeD n d = d := by
  obtain ⟨a, b, c, e⟩ := valid_bound h
  have g := valid_gcd h
  have h1 : ¬ (n = least ∨ d = least) := by unfold least; omega
  have hg : gcdI n d = 1 := by rw [gcdI_nat (by unfold least; omega) (by unfold least; omega), g]; rfl
  have e1 : redN n d = n := by unfold redN flip; rw [if_neg (by omega), hg, Int.tdiv_one]
  have e2 : redD n d = d := by unfold redD absI; rw [if_neg (by omega), hg, Int.tdiv_one]
  have := make_0 (n := n) (d := d) (by omega) h1 (by rw [e1, e2]; simp [boundB]; omega)
  rw [e1, e2] at this
  exact this
theorem i64_wrap (x : Int) : I64 (wrap64 x) := by unfold I64 wrap64; omega

theorem neg_any (n d : Int) (w : World) (hn : I64 n) (hd : I64 d) :
    Calls Tryd.prog 23 #[R2 n d] w fun e w' => e = .returned (.tuple #[R2 (negN n d) (negD n d), .int .i64 (negE n d)]) ∧ Below w.heap.size w w' := by
  cases hv : validB n d
  · have HV : Hid (∀ w, Calls Tryd.prog 17 #[R2 n d] w fun e w' => e = .returned (.bool false) ∧ Below w.heap.size w w') := Lib.hid (fun w => by have h := valid_any n d w hn hd; rw [hv] at h; exact h)
    have e1 : negN n d = 0 := by simp [negN, hv]
    have e2 : negD n d = 0 := by simp [negD, hv]
    have e3 : negE n d = 1 := by simp [negE, hv]
    rw [e1, e2, e3]
    clear e1 e2 e3 hv
    go_enter Tryd.func23, Tryd.ntmps23
    go_wp2_with (go_at_call 17; ((with_reducible refine (HV.out _).mono ?_); rintro e w1 ⟨rfl, hb1⟩); have hz1 := hb1.size; (try simp only [World.size_alloc, World.size_setCell, World.size_drew, size_drewN'] at hz1); have : w.heap.size < w1.heap.size := (by omega); have := hb1.cell (p := ⟨w.heap.size, 0, none⟩) (by go_size); simp [go_sem, *] at this; have := hb1.frozen (p := ⟨w.heap.size, 0, none⟩) (by go_size); simp [go_sem, *] at this; have := hb1.cell (p := ⟨w.heap.size, 1, none⟩) (by go_size); simp [go_sem, *] at this; have := hb1.frozen (p := ⟨w.heap.size, 1, none⟩) (by go_size); simp [go_sem, *] at this; have : w.heap.size + 1 < w1.heap.size := (by omega); have := hb1.cell (p := ⟨w.heap.size + 1, 0, none⟩) (by go_size); simp [go_sem, *] at this; have := hb1.frozen (p := ⟨w.heap.size + 1, 0, none⟩) (by go_size); simp [go_sem, *] at this; have := hb1.cell (p := ⟨w.heap.size + 1, 1, none⟩) (by go_size); simp [go_sem, *] at this; have := hb1.frozen (p := ⟨w.heap.size + 1, 1, none⟩) (by go_size); simp [go_sem, *] at this)
    refine bodyPost_ret (v := .tuple #[R2 0 0, .int .i64 1]) (by simp [results, Tryd.results23, go_sem, *]) rfl ?_
    exact ⟨rfl, by (repeat' (first | (with_reducible exact Below.refl _ _) | (with_reducible refine Below.setCell ?_ ?_ _) | (with_reducible refine Below.alloc ?_ ?_ _) | (with_reducible refine Below.drew ?_) | (with_reducible refine belowN ?_ _) | (with_reducible refine below_step ?_ ?_ (by with_reducible assumption)) | go_size))⟩
  · have HV : Hid (∀ w, Calls Tryd.prog 17 #[R2 n d] w fun e w' => e = .returned (.bool true) ∧ Below w.heap.size w w') := Lib.hid (fun w => by have h := valid_any n d w hn hd; rw [hv] at h; exact h)
    have HM : Hid (∀ w, Calls Tryd.prog 13 #[.int .i64 (-n), .int .i64 d] w fun e w' => e = .returned (.tuple #[R2 (-n) d, .int .i64 0]) ∧ Below w.heap.size w w') := Lib.hid (fun w => by
      obtain ⟨a, b, c, e⟩ := valid_bound hv
      have h := make_any (-n) d w (by unfold I64; omega) hd
      obtain ⟨m1, m2, m3⟩ := make_valid (n := -n) (d := d) (by rw [valid_neg]; exact hv)
      rw [m1, m2, m3] at h; exact h)
    have e1 : negN n d = -n := by simp [negN, hv]
    have e2 : negD n d = d := by simp [negD, hv]
    have e3 : negE n d = 0 := by simp [negE, hv]
    rw [e1, e2, e3]
    obtain ⟨b1, b2, b3, b4⟩ := valid_bound hv
    clear e1 e2 e3 hv
    go_enter Tryd.func23, Tryd.ntmps23
    go_wp2_with (first | (go_at_call 17; ((with_reducible refine (HV.out _).mono ?_); rintro e w1 ⟨rfl, hb1⟩); have hz1 := hb1.size; (try simp only [World.size_alloc, World.size_setCell, World.size_drew, size_drewN'] at hz1); have : w.heap.size < w1.heap.size := (by omega); have := hb1.cell (p := ⟨w.heap.size, 0, none⟩) (by go_size); simp [go_sem, *] at this; have := hb1.frozen (p := ⟨w.heap.size, 0, none⟩) (by go_size); simp [go_sem, *] at this; have := hb1.cell (p := ⟨w.heap.size, 1, none⟩) (by go_size); simp [go_sem, *] at this; have := hb1.frozen (p := ⟨w.heap.size, 1, none⟩) (by go_size); simp [go_sem, *] at this; have : w.heap.size + 1 < w1.heap.size := (by omega); have := hb1.cell (p := ⟨w.heap.size + 1, 0, none⟩) (by go_size); simp [go_sem, *] at this; have := hb1.frozen (p := ⟨w.heap.size + 1, 0, none⟩) (by go_size); simp [go_sem, *] at this; have := hb1.cell (p := ⟨w.heap.size + 1, 1, none⟩) (by go_size); simp [go_sem, *] at this; have := hb1.frozen (p := ⟨w.heap.size + 1, 1, none⟩) (by go_size); simp [go_sem, *] at this) | (go_at_call 13; ((with_reducible refine (HM.out _).mono ?_); rintro e w2 ⟨rfl, hb2⟩); have hz2 := hb2.size; (try simp only [World.size_alloc, World.size_setCell, World.size_drew, size_drewN'] at hz2); have : w.heap.size < w2.heap.size := (by omega); have := hb2.cell (p := ⟨w.heap.size, 0, none⟩) (by go_size); simp [go_sem, *] at this; have := hb2.frozen (p := ⟨w.heap.size, 0, none⟩) (by go_size); simp [go_sem, *] at this; have := hb2.cell (p := ⟨w.heap.size, 1, none⟩) (by go_size); simp [go_sem, *] at this; have := hb2.frozen (p := ⟨w.heap.size, 1, none⟩) (by go_size); simp [go_sem, *] at this; have : w.heap.size + 1 < w2.heap.size := (by omega); have := hb2.cell (p := ⟨w.heap.size + 1, 0, none⟩) (by go_size); simp [go_sem, *] at this; have := hb2.frozen (p := ⟨w.heap.size + 1, 0, none⟩) (by go_size); simp [go_sem, *] at this; have := hb2.cell (p := ⟨w.heap.size + 1, 1, none⟩) (by go_size); simp [go_sem, *] at this; have := hb2.frozen (p := ⟨w.heap.size + 1, 1, none⟩) (by go_size); simp [go_sem, *] at this))
    refine bodyPost_ret (v := .tuple #[R2 (-n) d, .int .i64 0]) (by simp [results, Tryd.results23, go_sem, *]) rfl ?_
    exact ⟨rfl, by (repeat' (first | (with_reducible exact Below.refl _ _) | (with_reducible refine Below.setCell ?_ ?_ _) | (with_reducible refine Below.alloc ?_ ?_ _) | (with_reducible refine Below.drew ?_) | (with_reducible refine belowN ?_ _) | (with_reducible refine below_step ?_ ?_ (by with_reducible assumption)) | go_size))⟩

theorem rneg_any (n d : Int) (w : World) (hn : I64 n) (hd : I64 d) :
    Calls Tryd.prog 24 #[R2 n d] w fun e w' => e = .returned (.tuple #[R2 (negN n d) (negD n d), .int .i64 (negE n d)]) ∧ Below w.heap.size w w' := by
  cases hv : validB n d
  · have HV : Hid (∀ w, Calls Tryd.prog 18 #[R2 n d] w fun e w' => e = .returned (.bool false) ∧ Below w.heap.size w w') := Lib.hid (fun w => by have h := rvalid_any n d w hn hd; rw [hv] at h; exact h)
    have e1 : negN n d = 0 := by simp [negN, hv]
    have e2 : negD n d = 0 := by simp [negD, hv]
    have e3 : negE n d = 1 := by simp [negE, hv]
    rw [e1, e2, e3]
    clear e1 e2 e3 hv
    go_enter Tryd.func24, Tryd.ntmps24
    go_wp2_with (go_at_call 18; ((with_reducible refine (HV.out _).mono ?_); rintro e w1 ⟨rfl, hb1⟩); have hz1 := hb1.size; (try simp only [World.size_alloc, World.size_setCell, World.size_drew, size_drewN'] at hz1); have : w.heap.size < w1.heap.size := (by omega); have := hb1.cell (p := ⟨w.heap.size, 0, none⟩) (by go_size); simp [go_sem, *] at this; have := hb1.frozen (p := ⟨w.heap.size, 0, none⟩) (by go_size); simp [go_sem, *] at this; have := hb1.cell (p := ⟨w.heap.size, 1, none⟩) (by go_size); simp [go_sem, *] at this; have := hb1.frozen (p := ⟨w.heap.size, 1, none⟩) (by go_size); simp [go_sem, *] at this; have : w.heap.size + 1 < w1.heap.size := (by omega); have := hb1.cell (p := ⟨w.heap.size + 1, 0, none⟩) (by go_size); simp [go_sem, *] at this; have := hb1.frozen (p := ⟨w.heap.size + 1, 0, none⟩) (by go_size); simp [go_sem, *] at this; have := hb1.cell (p := ⟨w.heap.size + 1, 1, none⟩) (by go_size); simp [go_sem, *] at this; have := hb1.frozen (p := ⟨w.heap.size + 1, 1, none⟩) (by go_size); simp [go_sem, *] at this)
    refine bodyPost_ret (v := .tuple #[R2 0 0, .int .i64 1]) (by simp [results, Tryd.results24, go_sem, *]) rfl ?_
    exact ⟨rfl, by (repeat' (first | (with_reducible exact Below.refl _ _) | (with_reducible refine Below.setCell ?_ ?_ _) | (with_reducible refine Below.alloc ?_ ?_ _) | (with_reducible refine Below.drew ?_) | (with_reducible refine belowN ?_ _) | (with_reducible refine below_step ?_ ?_ (by with_reducible assumption)) | go_size))⟩
  · have HV : Hid (∀ w, Calls Tryd.prog 18 #[R2 n d] w fun e w' => e = .returned (.bool true) ∧ Below w.heap.size w w') := Lib.hid (fun w => by have h := rvalid_any n d w hn hd; rw [hv] at h; exact h)
    have e1 : negN n d = -n := by simp [negN, hv]
    have e2 : negD n d = d := by simp [negD, hv]
    have e3 : negE n d = 0 := by simp [negE, hv]
    rw [e1, e2, e3]
    obtain ⟨b1, b2, b3, b4⟩ := valid_bound hv
    clear e1 e2 e3 hv
    go_enter Tryd.func24, Tryd.ntmps24
    go_wp2_with (go_at_call 18; ((with_reducible refine (HV.out _).mono ?_); rintro e w1 ⟨rfl, hb1⟩); have hz1 := hb1.size; (try simp only [World.size_alloc, World.size_setCell, World.size_drew, size_drewN'] at hz1); have : w.heap.size < w1.heap.size := (by omega); have := hb1.cell (p := ⟨w.heap.size, 0, none⟩) (by go_size); simp [go_sem, *] at this; have := hb1.frozen (p := ⟨w.heap.size, 0, none⟩) (by go_size); simp [go_sem, *] at this; have := hb1.cell (p := ⟨w.heap.size, 1, none⟩) (by go_size); simp [go_sem, *] at this; have := hb1.frozen (p := ⟨w.heap.size, 1, none⟩) (by go_size); simp [go_sem, *] at this; have : w.heap.size + 1 < w1.heap.size := (by omega); have := hb1.cell (p := ⟨w.heap.size + 1, 0, none⟩) (by go_size); simp [go_sem, *] at this; have := hb1.frozen (p := ⟨w.heap.size + 1, 0, none⟩) (by go_size); simp [go_sem, *] at this; have := hb1.cell (p := ⟨w.heap.size + 1, 1, none⟩) (by go_size); simp [go_sem, *] at this; have := hb1.frozen (p := ⟨w.heap.size + 1, 1, none⟩) (by go_size); simp [go_sem, *] at this)
    refine bodyPost_ret (v := .tuple #[R2 (-n) d, .int .i64 0]) (by simp [results, Tryd.results24, go_sem, *]) rfl ?_
    exact ⟨rfl, by (repeat' (first | (with_reducible exact Below.refl _ _) | (with_reducible refine Below.setCell ?_ ?_ _) | (with_reducible refine Below.alloc ?_ ?_ _) | (with_reducible refine Below.drew ?_) | (with_reducible refine belowN ?_ _) | (with_reducible refine below_step ?_ ?_ (by with_reducible assumption)) | go_size))⟩

theorem sum_any (a b c d : Int) (w : World) :
    Calls Tryd.prog 50 #[R2 a b, R2 c d] w fun e w' => e = .returned (.tuple #[R2 (makeN (sumI a b c d) (wrap64 (b * d))) (makeD (sumI a b c d) (wrap64 (b * d))), .int .i64 (makeE (sumI a b c d) (wrap64 (b * d)))]) ∧ Below w.heap.size w w' := by
  have HM : Hid (∀ w, Calls Tryd.prog 13 #[.int .i64 (wrap64 (wrap64 (a * d) + wrap64 (c * b))), .int .i64 (wrap64 (b * d))] w fun e w' => e = .returned (.tuple #[R2 (makeN (sumI a b c d) (wrap64 (b * d))) (makeD (sumI a b c d) (wrap64 (b * d))), .int .i64 (makeE (sumI a b c d) (wrap64 (b * d)))]) ∧ Below w.heap.size w w') :=
    Lib.hid (fun w => make_any _ _ w (i64_wrap _) (i64_wrap _))
  generalize makeN (sumI a b c d) (wrap64 (b * d)) = X at *
  generalize makeD (sumI a b c d) (wrap64 (b * d)) = Y at *
  generalize makeE (sumI a b c d) (wrap64 (b * d)) = Z at *
  go_enter Tryd.func50, Tryd.ntmps50
  go_wp2_with (go_at_call 13; ((with_reducible refine (HM.out _).mono ?_); rintro e w1 ⟨rfl, hb1⟩); have hz1 := hb1.size; (try simp only [World.size_alloc, World.size_setCell, World.size_drew, size_drewN'] at hz1); have : w.heap.size < w1.heap.size := (by omega); have := hb1.cell (p := ⟨w.heap.size, 0, none⟩) (by go_size); simp [go_sem, *] at this; have := hb1.frozen (p := ⟨w.heap.size, 0, none⟩) (by go_size); simp [go_sem, *] at this; have := hb1.cell (p := ⟨w.heap.size, 1, none⟩) (by go_size); simp [go_sem, *] at this; have := hb1.frozen (p := ⟨w.heap.size, 1, none⟩) (by go_size); simp [go_sem, *] at this; have : w.heap.size + 1 < w1.heap.size := (by omega); have := hb1.cell (p := ⟨w.heap.size + 1, 0, none⟩) (by go_size); simp [go_sem, *] at this; have := hb1.frozen (p := ⟨w.heap.size + 1, 0, none⟩) (by go_size); simp [go_sem, *] at this; have := hb1.cell (p := ⟨w.heap.size + 1, 1, none⟩) (by go_size); simp [go_sem, *] at this; have := hb1.frozen (p := ⟨w.heap.size + 1, 1, none⟩) (by go_size); simp [go_sem, *] at this; have : w.heap.size + 1 + 1 < w1.heap.size := (by omega); have := hb1.cell (p := ⟨w.heap.size + 1 + 1, 0, none⟩) (by go_size); simp [go_sem, *] at this; have := hb1.frozen (p := ⟨w.heap.size + 1 + 1, 0, none⟩) (by go_size); simp [go_sem, *] at this; have := hb1.cell (p := ⟨w.heap.size + 1 + 1, 1, none⟩) (by go_size); simp [go_sem, *] at this; have := hb1.frozen (p := ⟨w.heap.size + 1 + 1, 1, none⟩) (by go_size); simp [go_sem, *] at this)
  refine bodyPost_ret (v := .tuple #[R2 X Y, .int .i64 Z]) (by simp [results, Tryd.results50, go_sem, *]) rfl ?_
  exact ⟨rfl, by (repeat' (first | (with_reducible exact Below.refl _ _) | (with_reducible refine Below.setCell ?_ ?_ _) | (with_reducible refine Below.alloc ?_ ?_ _) | (with_reducible refine Below.drew ?_) | (with_reducible refine belowN ?_ _) | (with_reducible refine below_step ?_ ?_ (by with_reducible assumption)) | go_size))⟩
end Go.Proofs.YtaabebmaobdofaaDoor
