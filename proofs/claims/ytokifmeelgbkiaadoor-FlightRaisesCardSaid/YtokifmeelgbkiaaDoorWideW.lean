/- Plain words for 128-bit integers: a value v stands as (wh v, wl v). -/
import Derived.Test.YtokifmeelgbkiaaDoorRows
import Derived.WalkKit
import Derived.WalkSpells
import Derived.WalkLawsBesides
import Derived.StillTactics
import Derived.Laws.Pointers
import Derived.Laws.Externs
import Derived.Shelf.Spec.BitsCarry
import Derived.Deep.RegionHeld3
import Derived.BigQuiet
import Derived.Deep.QuietTactic
import Derived.Outline
import Derived.Handy
import Derived.Lib.Hide
set_option linter.unusedSimpArgs false
set_option linter.unusedVariables false
namespace Go.Proofs.YtokifmeelgbkiaaDoor
open Go.RowKit

def wh (v : Int) : Int := v / 18446744073709551616
def wl (v : Int) : Int := v % 18446744073709551616
abbrev W (v : Int) : Value := .agg #[.int .i64 (wh v), .int .u64 (wl v)]
def lo127 : Int := -170141183460469231731687303715884105728
def hi127 : Int := 170141183460469231731687303715884105727

theorem add64 (x y c : Int) (hx : 0 ≤ x) (hy : 0 ≤ y) (hc0 : 0 ≤ c) (hc : c ≤ 1) (w : World) :
    (callFunc 54 #[.int .u64 x, .int .u64 y, .int .u64 c]).run Tryd.prog w = .ok (.value (.tuple #[.int .u64 (wl (x + y + c)), .int .u64 (wh (x + y + c))])) w := by
  rw [run_callFunc_extern Tryd.func54 (by kernel_rfl) (by kernel_rfl) (by kernel_rfl) (e := add64Entry) (by kernel_rfl), run_add64 x y c hx hy hc0 hc]
  rfl

theorem add64_0 (x y : Int) (hx : 0 ≤ x) (hy : 0 ≤ y) (w : World) :
    (callFunc 54 #[.int .u64 x, .int .u64 y, .int .u64 0]).run Tryd.prog w = .ok (.value (.tuple #[.int .u64 (wl (x + y)), .int .u64 (wh (x + y))])) w := by
  simpa using add64 x y 0 hx hy (Int.le_refl 0) (by decide) w
theorem wl_0 (v : Int) : 0 ≤ wl v := by unfold wl; omega
theorem wl_1 (v : Int) : wl v < 18446744073709551616 := by unfold wl; omega


def fits (v : Int) : Prop := lo127 ≤ v ∧ v ≤ hi127
def fitB (v : Int) : Bool := decide (lo127 ≤ v) && decide (v ≤ hi127)
def clip (v : Int) : Int := if fitB v = true then v else 0
theorem fit_yes {v : Int} (h : fits v) : fitB v = true := by unfold fits at h; simp [fitB, h.1, h.2]
theorem fit_no {v : Int} (h : ¬ fits v) : fitB v = false := by
  unfold fits at h; unfold fitB
  by_cases h1 : lo127 ≤ v <;> by_cases h2 : v ≤ hi127 <;> simp_all
theorem clip_yes {v : Int} (h : fits v) : clip v = v := by simp [clip, fit_yes h]
theorem clip_no {v : Int} (h : ¬ fits v) : clip v = 0 := by simp [clip, fit_no h]
theorem fits_clip (v : Int) : fits (clip v) := by
  by_cases h : fits v
  · rw [clip_yes h]; exact h
  · rw [clip_no h]; unfold fits lo127 hi127; omega
theorem W_0 : W 0 = .agg #[.int .i64 0, .int .u64 0] := by simp [W, wh, wl]
theorem lt0_iff (v : Int) : wh v < 0 ↔ v < 0 := by unfold wh; omega

theorem sub64 (x y b : Int) (hx : 0 ≤ x) (hy : 0 ≤ y) (hy' : y < 18446744073709551616) (hb0 : 0 ≤ b) (hb : b ≤ 1) (w : World) :
    (callFunc 68 #[.int .u64 x, .int .u64 y, .int .u64 b]).run Tryd.prog w = .ok (.value (.tuple #[.int .u64 (wl (x - y - b)), .int .u64 (if x < y + b then 1 else 0)])) w := by
  obtain ⟨x, rfl⟩ := Int.eq_ofNat_of_zero_le hx
  obtain ⟨y, rfl⟩ := Int.eq_ofNat_of_zero_le hy
  obtain ⟨b, rfl⟩ := Int.eq_ofNat_of_zero_le hb0
  have e1 : (((x + 18446744073709551616 - y - b) % 18446744073709551616 : Nat) : Int) = wl ((x : Int) - y - b) := by unfold wl; omega
  have e2 : ((if x < y + b then 1 else 0 : Nat) : Int) = if (x : Int) < y + b then 1 else 0 := by split <;> split <;> omega
  rw [← e1, ← e2]
  rw [run_callFunc_extern Tryd.func68 (by kernel_rfl) (by kernel_rfl) (by kernel_rfl) (e := Go.Proofs.sub64Entry) (by kernel_rfl), Go.Proofs.run_sub64 x y b (by omega)]
  rfl
def bor (x y : Int) : Int := if x < y then 1 else 0
theorem bor_0 (x y : Int) : 0 ≤ bor x y := by unfold bor; split <;> omega
theorem bor_1 (x y : Int) : bor x y ≤ 1 := by unfold bor; split <;> omega
theorem sub64_b (x y b : Int) (hx : 0 ≤ x) (hy : 0 ≤ y) (hy' : y < 18446744073709551616) (hb0 : 0 ≤ b) (hb : b ≤ 1) (w : World) :
    (callFunc 68 #[.int .u64 x, .int .u64 y, .int .u64 b]).run Tryd.prog w = .ok (.value (.tuple #[.int .u64 (wl (x - y - b)), .int .u64 (bor x (y + b))])) w := sub64 x y b hx hy hy' hb0 hb w
theorem sub64_0 (x y : Int) (hx : 0 ≤ x) (hy : 0 ≤ y) (hy' : y < 18446744073709551616) (w : World) :
    (callFunc 68 #[.int .u64 x, .int .u64 y, .int .u64 0]).run Tryd.prog w = .ok (.value (.tuple #[.int .u64 (wl (x - y)), .int .u64 (bor x y)])) w := by
  simpa using sub64_b x y 0 hx hy hy' (Int.le_refl 0) (by decide) w


/-- A size: an unsigned number of 128 bits. -/
abbrev M (m : Int) : Value := .agg #[.int .u64 (wh m), .int .u64 (wl m)]
def size (v : Int) : Int := if v < 0 then -v else v
theorem wh_u (m : Int) (h0 : 0 ≤ m) (h1 : m < 340282366920938463463374607431768211456) : 0 ≤ wh m ∧ wh m < 18446744073709551616 := by unfold wh; omega
theorem M_0 : M 0 = .agg #[.int .u64 0, .int .u64 0] := by simp [M, wh, wl]

/-- Behind a callee that leaves old memory alone. -/
theorem bcell {W w1 : World} (hb : Below W.heap.size W w1) : (∀ b o, b < W.heap.size → w1.cell? ⟨b, o, none⟩ = W.cell? ⟨b, o, none⟩) ∧ (∀ b o, b < W.heap.size → w1.frozen? ⟨b, o, none⟩ = W.frozen? ⟨b, o, none⟩) :=
  ⟨fun b o h => hb.cell (p := ⟨b, o, none⟩) h, fun b o h => hb.frozen (p := ⟨b, o, none⟩) h⟩
theorem belowN {B : Nat} {a w : World} (h : Below B a w) (n : Nat) : Below B a (w.drewN n) := ⟨h.os, h.tape, h.output, h.size, h.block⟩
theorem size_drewN' (w : World) (n : Nat) : (w.drewN n).heap.size = w.heap.size := rfl
theorem below_step {B : Nat} {W W1 w1 : World} (h : Below B W W1) (hB : B ≤ W1.heap.size) (hb : Below W1.heap.size W1 w1) : Below B W w1 := h.trans (hb.mono hB)
end Go.Proofs.YtokifmeelgbkiaaDoor
