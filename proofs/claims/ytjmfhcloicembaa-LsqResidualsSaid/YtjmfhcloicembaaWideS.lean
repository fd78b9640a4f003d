/- Contracts of the reference's absolute values in four parts of 32 bits: size, of. -/
import Derived.Test.YtjmfhcloicembaaWideR
import Derived.Laws.BitsAllLaws
set_option linter.unusedSimpArgs false
set_option linter.unusedVariables false
namespace Go.Proofs.Ytjmfhcloicembaa
open Go.RowKit

def l0 (x : Int) : Int := x % 4294967296
def l1 (x : Int) : Int := x / 4294967296 % 4294967296
def l2 (x : Int) : Int := x / 18446744073709551616 % 4294967296
def l3 (x : Int) : Int := x / 79228162514264337593543950336 % 4294967296
/-- An absolute value below 2^128 in four parts, the lowest first. -/
abbrev P4 (x : Int) : Value := .agg #[.int .u64 (l0 x), .int .u64 (l1 x), .int .u64 (l2 x), .int .u64 (l3 x)]

theorem not64 (x : Int) (h0 : 0 ≤ x) (h1 : x < 18446744073709551616) : bits .xor .u64 IntKind.u64.max x = 18446744073709551615 - x := by
  obtain ⟨x, rfl⟩ := Int.eq_ofNat_of_zero_le h0
  have h1 : x < 18446744073709551616 := by omega
  have h2 : IntKind.u64.max = ((18446744073709551615 : Nat) : Int) := by decide
  rw [h2, u64_xor_nat _ _ (by decide) h1]
  have h3 : 18446744073709551615 ^^^ x = 18446744073709551615 - x := by
    have : (BitVec.allOnes 64 ^^^ BitVec.ofNat 64 x).toNat = 18446744073709551615 - x := by
      rw [BitVec.allOnes_xor, BitVec.toNat_not, BitVec.toNat_ofNat, Nat.mod_eq_of_lt (by simpa using h1)]
    rw [BitVec.toNat_xor, BitVec.toNat_allOnes, BitVec.toNat_ofNat, Nat.mod_eq_of_lt (by simpa using h1)] at this
    simpa using this
  rw [h3]; omega
theorem and32 (x : Int) (h0 : 0 ≤ x) (h1 : x < 18446744073709551616) : bits .and .u64 x 4294967295 = x % 4294967296 := by
  rw [u64_and x _ h0 h1 (by decide) (by decide)]
  have : (4294967295 : Int).toNat = 4294967295 := rfl
  rw [this, nat_mask32]
  omega
theorem or32 (x y : Int) (h0 : 0 ≤ x) (h1 : x < 4294967296) (h2 : 0 ≤ y) (h3 : y < 4294967296) : bits .or .u64 (x * 4294967296) y = x * 4294967296 + y := by
  rw [u64_or _ y (by omega) (by omega) h2 (by omega), nat_join 32 _ _ (by omega) (by omega)]
  omega
theorem P4_size_lo (a : Int) (h : 0 ≤ a) (h2 : a < 340282366920938463463374607431768211456) : bits .and .u64 (wl a) 4294967295 = l0 a ∧ wl a / 4294967296 = l1 a ∧ bits .and .u64 (wh a) 4294967295 = l2 a ∧ wh a / 4294967296 = l3 a := by
  rw [and32 _ (by unfold wl; omega) (by unfold wl; omega), and32 _ (by unfold wh; omega) (by unfold wh; omega)]
  unfold wl wh l0 l1 l2 l3
  omega

set_option maxHeartbeats 1000000 in
theorem rsize_any (a : Int) (w : World) (ha : fits a) :
    Calls Try.prog 72 #[W a] w fun e w' => e = .returned (P4 (size a)) ∧ Below w.heap.size w w' := by
  have s0 : 0 ≤ size a := by unfold size; split <;> omega
  have s1 : size a ≤ 170141183460469231731687303715884105728 := by unfold fits lo127 hi127 at ha; unfold size; split <;> omega
  obtain ⟨p0, p1, p2, p3⟩ := P4_size_lo (size a) s0 (by omega)
  by_cases h : wh a < 0
  · have hn : a < 0 := (lt0_iff a).1 h
    have es : size a = -a := by unfold size; rw [if_pos hn]
    have u0 : 0 ≤ wl a ∧ wl a < 18446744073709551616 := ⟨wl_0 a, wl_1 a⟩
    have eh : IntKind.u64.wrap (wh a) = wh a + 18446744073709551616 := by rw [IntKind.wrap_u64]; unfold fits lo127 hi127 at ha; unfold wh at *; omega
    have uh : 0 ≤ wh a + 18446744073709551616 ∧ wh a + 18446744073709551616 < 18446744073709551616 := by unfold fits lo127 hi127 at ha; unfold wh at *; omega
    have E0 : IntKind.u64.wrap (bits .xor .u64 IntKind.u64.max (wl a) + 1) = wl (size a) := by
      rw [not64 _ u0.1 u0.2, IntKind.wrap_u64, es]; unfold wl; omega
    by_cases h2 : wl a = 0
    · have E1 : IntKind.u64.wrap (bits .xor .u64 IntKind.u64.max (IntKind.u64.wrap (wh a)) + 1) = wh (size a) := by
        rw [eh, not64 _ uh.1 uh.2, IntKind.wrap_u64, es]; unfold fits lo127 hi127 at ha; unfold wh wl at *; omega
      have E2 : (wl (size a) == 0) = true := by rw [beq_iff_eq, es]; unfold wl at *; omega
      have E3 : (IntKind.u64.wrap (bits BinOp.xor IntKind.u64 (if IntKind.u64.signed = true then -1 else IntKind.u64.max) (wl a) + 1) == 0) = true := by rw [if_neg (by decide), E0]; exact E2
      clear s0 s1 hn es u0 uh eh h2 ha
      go_enter Try.func72, Try.ntmps72
      go_wp2
      go_quiet (fail)
      go_wp2
      refine bodyPost_ret (v := P4 (size a)) (by simp [results, Try.results72, go_sem, *]) rfl ?_
      exact ⟨rfl, by (repeat' (first | (with_reducible exact Below.refl _ _) | (with_reducible refine Below.setCell ?_ ?_ _) | (with_reducible refine Below.alloc ?_ ?_ _) | (with_reducible refine Below.drew ?_) | (with_reducible refine belowN ?_ _) | (with_reducible refine below_step ?_ ?_ (by with_reducible assumption)) | go_size))⟩
    · have E1 : bits .xor .u64 IntKind.u64.max (IntKind.u64.wrap (wh a)) = wh (size a) := by
        rw [eh, not64 _ uh.1 uh.2, es]; unfold fits lo127 hi127 at ha; unfold wh wl at *; omega
      have E2 : (wl (size a) == 0) = false := by rw [beq_eq_false_iff_ne, es]; unfold wl at *; omega
      have E3 : (IntKind.u64.wrap (bits BinOp.xor IntKind.u64 (if IntKind.u64.signed = true then -1 else IntKind.u64.max) (wl a) + 1) == 0) = false := by rw [if_neg (by decide), E0]; exact E2
      clear s0 s1 hn es u0 uh eh h2 ha
      go_enter Try.func72, Try.ntmps72
      go_wp2
      go_quiet (fail)
      go_wp2
      refine bodyPost_ret (v := P4 (size a)) (by simp [results, Try.results72, go_sem, *]) rfl ?_
      exact ⟨rfl, by (repeat' (first | (with_reducible exact Below.refl _ _) | (with_reducible refine Below.setCell ?_ ?_ _) | (with_reducible refine Below.alloc ?_ ?_ _) | (with_reducible refine Below.drew ?_) | (with_reducible refine belowN ?_ _) | (with_reducible refine below_step ?_ ?_ (by with_reducible assumption)) | go_size))⟩
  · have hn : ¬ a < 0 := fun hx => h ((lt0_iff a).2 hx)
    have es : size a = a := by unfold size; rw [if_neg hn]
    rw [es] at p0 p1 p2 p3 ⊢
    have E1 : IntKind.u64.wrap (wh a) = wh a := by rw [IntKind.wrap_u64]; unfold fits lo127 hi127 at ha; unfold wh at *; omega
    clear s0 s1 hn es ha
    go_enter Try.func72, Try.ntmps72
    go_wp2
    go_quiet (fail)
    go_wp2
    refine bodyPost_ret (v := P4 a) (by simp [results, Try.results72, go_sem, *]) rfl ?_
    exact ⟨rfl, by (repeat' (first | (with_reducible exact Below.refl _ _) | (with_reducible refine Below.setCell ?_ ?_ _) | (with_reducible refine Below.alloc ?_ ?_ _) | (with_reducible refine Below.drew ?_) | (with_reducible refine belowN ?_ _) | (with_reducible refine below_step ?_ ?_ (by with_reducible assumption)) | go_size))⟩

theorem rofp_any (x : Int) (n : Bool) (w : World) (h0 : 0 ≤ x) (h1 : x < 340282366920938463463374607431768211456) :
    Calls Try.prog 73 #[P4 x, .bool n] w fun e w' => e = .returned (.tuple #[W (clip (if n then -x else x)), .bool (fitB (if n then -x else x))]) ∧ Below w.heap.size w w' := by
  have q3 : IntKind.u64.wrap (l3 x * 4294967296) = l3 x * 4294967296 := by rw [IntKind.wrap_u64]; unfold l3; omega
  have q1 : IntKind.u64.wrap (l1 x * 4294967296) = l1 x * 4294967296 := by rw [IntKind.wrap_u64]; unfold l1; omega
  have o1 : bits .or .u64 (l3 x * 4294967296) (l2 x) = wh x := by
    rw [or32 _ _ (by unfold l3; omega) (by unfold l3; omega) (by unfold l2; omega) (by unfold l2; omega)]; unfold l3 l2 wh; omega
  have o2 : bits .or .u64 (l1 x * 4294967296) (l0 x) = wl x := by
    rw [or32 _ _ (by unfold l1; omega) (by unfold l1; omega) (by unfold l0; omega) (by unfold l0; omega)]; unfold l1 l0 wl; omega
  by_cases hs : x < 170141183460469231731687303715884105728
  · have e1 : wrap64 (wh x) = wh x := by unfold wrap64 wh; omega
    have e2 : ¬ wh x < 0 := by unfold wh; omega
    cases n
    · have f : fits x := by unfold fits lo127 hi127; omega
      simp only [Bool.false_eq_true, if_false]
      rw [clip_yes f, fit_yes f]
      clear h0 h1 hs f
      go_enter Try.func73, Try.ntmps73
      go_wp2
      refine bodyPost_ret (v := .tuple #[W x, .bool true]) (by simp [results, Try.results73, go_sem, *]) rfl ?_
      exact ⟨rfl, by (repeat' (first | (with_reducible exact Below.refl _ _) | (with_reducible refine Below.setCell ?_ ?_ _) | (with_reducible refine Below.alloc ?_ ?_ _) | (with_reducible refine Below.drew ?_) | (with_reducible refine belowN ?_ _) | (with_reducible refine below_step ?_ ?_ (by with_reducible assumption)) | go_size))⟩
    · have f : fits x := by unfold fits lo127 hi127; omega
      have f2 : fits (-x) := by unfold fits lo127 hi127; omega
      have HN : Hid (∀ w, Calls Try.prog 74 #[W x] w fun e w' => e = .returned (.tuple #[W (-x), .bool true]) ∧ Below w.heap.size w w') := Lib.hid (fun w => by
        have h := rneg_any x w f
        rw [clip_yes f2, fit_yes f2] at h
        exact h)
      simp only [if_true]
      rw [clip_yes f2, fit_yes f2]
      clear h0 h1 hs f f2
      go_enter Try.func73, Try.ntmps73
      go_wp2_with (go_at_call 74; ((with_reducible refine (HN.out _).mono ?_); rintro e w1 ⟨rfl, hb1⟩); have hz1 := hb1.size; (try simp only [World.size_alloc, World.size_setCell, World.size_drew, size_drewN'] at hz1); have : w.heap.size + 1 < w1.heap.size := (by omega); have := hb1.cell (p := ⟨w.heap.size + 1, 0, none⟩) (by go_size); simp [go_sem, *] at this; have := hb1.frozen (p := ⟨w.heap.size + 1, 0, none⟩) (by go_size); simp [go_sem, *] at this; have := hb1.cell (p := ⟨w.heap.size + 1, 1, none⟩) (by go_size); simp [go_sem, *] at this; have := hb1.frozen (p := ⟨w.heap.size + 1, 1, none⟩) (by go_size); simp [go_sem, *] at this)
      refine bodyPost_ret (v := .tuple #[W (-x), .bool true]) (by simp [results, Try.results73, go_sem, *]) rfl ?_
      exact ⟨rfl, by (repeat' (first | (with_reducible exact Below.refl _ _) | (with_reducible refine Below.setCell ?_ ?_ _) | (with_reducible refine Below.alloc ?_ ?_ _) | (with_reducible refine Below.drew ?_) | (with_reducible refine belowN ?_ _) | (with_reducible refine below_step ?_ ?_ (by with_reducible assumption)) | go_size))⟩
  · have e2 : wrap64 (wh x) < 0 := by unfold wrap64 wh; omega
    by_cases hm : n = true ∧ x = 170141183460469231731687303715884105728
    · obtain ⟨rfl, rfl⟩ := hm
      have f2 : fits (-170141183460469231731687303715884105728) := by unfold fits lo127 hi127; omega
      simp only [if_true]
      rw [clip_yes f2, fit_yes f2]
      have e3 : wrap64 (wh 170141183460469231731687303715884105728) = -9223372036854775808 := by unfold wrap64 wh; omega
      have e4 : wl 170141183460469231731687303715884105728 = 0 := by unfold wl; omega
      have HW : Hid (W (-170141183460469231731687303715884105728) = .agg #[.int .i64 (-9223372036854775808), .int .u64 0]) := Lib.hid (by simp [W, wh, wl])
      clear h0 h1 hs f2 e2
      go_enter Try.func73, Try.ntmps73
      go_wp2
      rw [HW.out]
      refine bodyPost_ret (v := .tuple #[.agg #[.int .i64 (-9223372036854775808), .int .u64 0], .bool true]) (by simp [results, Try.results73, go_sem, *]) rfl ?_
      exact ⟨rfl, by (repeat' (first | (with_reducible exact Below.refl _ _) | (with_reducible refine Below.setCell ?_ ?_ _) | (with_reducible refine Below.alloc ?_ ?_ _) | (with_reducible refine Below.drew ?_) | (with_reducible refine belowN ?_ _) | (with_reducible refine below_step ?_ ?_ (by with_reducible assumption)) | go_size))⟩
    · have f : ¬ fits (if n then -x else x) := by
        intro hf; apply hm; unfold fits lo127 hi127 at hf
        cases n
        · simp at hf; omega
        · simp at hf; exact ⟨rfl, by omega⟩
      rw [clip_no f, fit_no f, W_0]
      cases n
      · clear h0 h1 hs f hm
        go_enter Try.func73, Try.ntmps73
        go_wp2
        refine bodyPost_ret (v := .tuple #[.agg #[.int .i64 0, .int .u64 0], .bool false]) (by simp [results, Try.results73, go_sem, *]) rfl ?_
        exact ⟨rfl, by (repeat' (first | (with_reducible exact Below.refl _ _) | (with_reducible refine Below.setCell ?_ ?_ _) | (with_reducible refine Below.alloc ?_ ?_ _) | (with_reducible refine Below.drew ?_) | (with_reducible refine belowN ?_ _) | (with_reducible refine below_step ?_ ?_ (by with_reducible assumption)) | go_size))⟩
      · have hx : x ≠ 170141183460469231731687303715884105728 := fun h => hm ⟨rfl, h⟩
        have e5 : ((wrap64 (wh x) == -9223372036854775808) && (wl x == 0)) = false := by
          rw [Bool.and_eq_false_iff, beq_eq_false_iff_ne, beq_eq_false_iff_ne]; unfold wrap64 wh wl; omega
        have e6 : (wrap64 (wh x) == -9223372036854775808) = false ∨ ((wrap64 (wh x) == -9223372036854775808) = true ∧ (wl x == 0) = false) := by
          revert e5; cases (wrap64 (wh x) == -9223372036854775808) <;> simp
        clear h0 h1 hs f hm hx e5
        rcases e6 with e6 | ⟨e6, e7⟩
        all_goals
          go_enter Try.func73, Try.ntmps73
          go_wp2
          refine bodyPost_ret (v := .tuple #[.agg #[.int .i64 0, .int .u64 0], .bool false]) (by simp [results, Try.results73, go_sem, *]) rfl ?_
          exact ⟨rfl, by (repeat' (first | (with_reducible exact Below.refl _ _) | (with_reducible refine Below.setCell ?_ ?_ _) | (with_reducible refine Below.alloc ?_ ?_ _) | (with_reducible refine Below.drew ?_) | (with_reducible refine belowN ?_ _) | (with_reducible refine below_step ?_ ?_ (by with_reducible assumption)) | go_size))⟩
end Go.Proofs.Ytjmfhcloicembaa
