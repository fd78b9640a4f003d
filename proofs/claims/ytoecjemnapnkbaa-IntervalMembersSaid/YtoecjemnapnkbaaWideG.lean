/- The contract of the reference's Fits, and contracts of wide numbers as the walker knows them. -/
import Derived.Test.YtoecjemnapnkbaaWideF
import Derived.Test.YtoecjemnapnkbaaWideQ
import Derived.Test.YtoecjemnapnkbaaVz
set_option linter.unusedSimpArgs false
set_option linter.unusedVariables false
namespace Go.Proofs.Ytoecjemnapnkbaa
open Go.RowKit

theorem rfits_any (a : Int) (w : World) (ha : fits a) :
    Calls Try.prog 64 #[W a] w fun e w' => e = .returned (.tuple #[.int .i64 (clip64 a), .bool (in64 a)]) ∧ Below w.heap.size w w' := by
  have e1 : IntKind.i64.wrap (wl a) = s64 a := by rw [IntKind.wrap_i64]; rfl
  have s0 : -9223372036854775808 ≤ s64 a := by unfold s64; omega
  have s1 : s64 a ≤ 9223372036854775807 := by unfold s64; omega
  by_cases h : I64 a
  · rw [(in64_yes h).1, (in64_yes h).2]
    have e2 : s64 a = a := by unfold I64 at h; unfold s64 wl; omega
    rw [e2] at e1 s0 s1
    have hU : U128 0 := by unfold U128; omega
    go_enter Try.func64, Try.ntmps64
    go_wp2_with fail
    go_region_held3 (fun w' => w'.cell? ⟨w.heap.size, 0, none⟩ = some (.int .i64 (wh a)) ∧ w'.cell? ⟨w.heap.size, 1, none⟩ = some (.int .u64 (wl a))) (simp [go_sem, *]) (first | (go_at_call 92; ((with_reducible refine (rof_any _ _ ⟨s0, s1⟩).mono ?_); rintro e w1 ⟨rfl, hb1⟩); have hz1 := hb1.size; (try simp only [World.size_alloc, World.size_setCell, World.size_drew, size_drewN'] at hz1); have : w.heap.size < w1.heap.size := (by omega); have := hb1.cell (p := ⟨w.heap.size, 0, none⟩) (by go_size); simp [go_sem, *] at this; have := hb1.frozen (p := ⟨w.heap.size, 0, none⟩) (by go_size); simp [go_sem, *] at this; have := hb1.cell (p := ⟨w.heap.size, 1, none⟩) (by go_size); simp [go_sem, *] at this; have := hb1.frozen (p := ⟨w.heap.size, 1, none⟩) (by go_size); simp [go_sem, *] at this))
    go_wp2
    go_ret2
    exact ⟨rfl, by (repeat' (first | (with_reducible exact Below.refl _ _) | (with_reducible refine Below.setCell ?_ ?_ _) | (with_reducible refine Below.alloc ?_ ?_ _) | (with_reducible refine Below.drew ?_) | (with_reducible refine belowN ?_ _) | (with_reducible refine below_step ?_ ?_ (by with_reducible assumption)) | go_size))⟩
  · rw [(in64_no h).1, (in64_no h).2]
    have e2 : (wh (s64 a) == wh a) = false := by rw [beq_eq_false_iff_ne]; unfold I64 at h; unfold fits lo127 hi127 at ha; unfold s64 wl wh; omega
    go_enter Try.func64, Try.ntmps64
    go_wp2_with fail
    go_region_held3 (fun w' => w'.cell? ⟨w.heap.size, 0, none⟩ = some (.int .i64 (wh a)) ∧ w'.cell? ⟨w.heap.size, 1, none⟩ = some (.int .u64 (wl a))) (simp [go_sem, *]) (first | (go_at_call 92; ((with_reducible refine (rof_any _ _ ⟨s0, s1⟩).mono ?_); rintro e w1 ⟨rfl, hb1⟩); have hz1 := hb1.size; (try simp only [World.size_alloc, World.size_setCell, World.size_drew, size_drewN'] at hz1); have : w.heap.size < w1.heap.size := (by omega); have := hb1.cell (p := ⟨w.heap.size, 0, none⟩) (by go_size); simp [go_sem, *] at this; have := hb1.frozen (p := ⟨w.heap.size, 0, none⟩) (by go_size); simp [go_sem, *] at this; have := hb1.cell (p := ⟨w.heap.size, 1, none⟩) (by go_size); simp [go_sem, *] at this; have := hb1.frozen (p := ⟨w.heap.size, 1, none⟩) (by go_size); simp [go_sem, *] at this))
    go_wp2
    go_ret2
    exact ⟨rfl, by (repeat' (first | (with_reducible exact Below.refl _ _) | (with_reducible refine Below.setCell ?_ ?_ _) | (with_reducible refine Below.alloc ?_ ?_ _) | (with_reducible refine Below.drew ?_) | (with_reducible refine belowN ?_ _) | (with_reducible refine below_step ?_ ?_ (by with_reducible assumption)) | go_size))⟩

theorem wgNil (b : Nat) (w : World) : OwnsL b [] [] w := ⟨rfl, fun i o h => by simp [obsOf] at h, fun i j o p k h => by simp [obsOf] at h⟩
theorem wgC {P : Program} {f : FuncId} {args : Array Value} {v : Value} (h : ∀ w, Calls P f args w fun e w' => e = .returned v ∧ Below w.heap.size w w') : SpecG P [] [] f args [] (fun _ => v) :=
  fun w _ _ => (h w).mono fun e w' ⟨he, hb⟩ => ⟨[], he, wgNil _ _, hb⟩
theorem wof_sp (n : Int) (hn : I64 n) : SpecG Try.prog [] [] 47 #[.int .i64 n] [] (fun _ => W n) := wgC fun w => of_any n w hn.1 hn.2
theorem wad_sp (a b : Int) (ha : fits a) (hb : fits b) : SpecG Try.prog [] [] 48 #[W a, W b] [] (fun _ => .tuple #[W (clip (a + b)), .bool (fitB (a + b))]) := wgC fun w => add_any a b w ha hb
theorem wmu_sp (a b : Int) (ha : I64 a) (hb : I64 b) : SpecG Try.prog [] [] 49 #[.int .i64 a, .int .i64 b] [] (fun _ => W (a * b)) := wgC fun w => mul_any a b w ha hb
theorem wft_sp (a : Int) (ha : fits a) : SpecG Try.prog [] [] 93 #[W a] [] (fun _ => .tuple #[.int .i64 (clip64 a), .bool (in64 a)]) := wgC fun w => fits_any a w ha
theorem wsg_sp (a : Int) (ha : fits a) : SpecG Try.prog [] [] 91 #[W a] [] (fun _ => .int .i64 (cmpI a 0)) := wgC fun w => sign_any a w ha
theorem rwof_sp (n : Int) (hn : I64 n) : SpecG Try.prog [] [] 92 #[.int .i64 n] [] (fun _ => W n) := wgC fun w => rof_any n w hn
theorem rwad_sp (a b : Int) (ha : fits a) (hb : fits b) : SpecG Try.prog [] [] 90 #[W a, W b] [] (fun _ => .tuple #[W (clip (a + b)), .bool (fitB (a + b))]) := wgC fun w => radd_any a b w ha hb
theorem rwmu_sp (a b : Int) (ha : I64 a) (hb : I64 b) : SpecG Try.prog [] [] 65 #[.int .i64 a, .int .i64 b] [] (fun _ => W (a * b)) := wgC fun w => rmul_any a b w ha hb
theorem rwft_sp (a : Int) (ha : fits a) : SpecG Try.prog [] [] 64 #[W a] [] (fun _ => .tuple #[.int .i64 (clip64 a), .bool (in64 a)]) := wgC fun w => rfits_any a w ha
/-! Numbers whose sums fit. -/
theorem fits64 {a : Int} (h : I64 a) : fits a := by unfold I64 at h; unfold fits lo127 hi127; omega
theorem fitsS {a b : Int} (ha : I64 a) (hb : I64 b) : fits (a + b) := by unfold I64 at *; unfold fits lo127 hi127; omega
theorem fitsP {a b : Int} (ha : I64 a) (hb : I64 b) : fits (a * b) := by
  unfold I64 at *
  have h1 : (a * b).natAbs = a.natAbs * b.natAbs := Int.natAbs_mul a b
  have h2 : a.natAbs * b.natAbs ≤ 9223372036854775808 * 9223372036854775808 := Nat.mul_le_mul (by omega) (by omega)
  unfold fits lo127 hi127
  omega
theorem i64w (n : Int) : I64 (IntKind.i64.wrap n) := by
  have e : IntKind.i64.wrap n = if n % 18446744073709551616 ≥ 9223372036854775808 then n % 18446744073709551616 - 18446744073709551616 else n % 18446744073709551616 := by
    simp [IntKind.wrap, IntKind.bits, IntKind.signed]
  rw [e]
  constructor <;> (split <;> omega)
theorem W_inj {a b : Int} (h : wh a = wh b) (h2 : wl a = wl b) : a = b := by unfold wh wl at *; omega
end Go.Proofs.Ytoecjemnapnkbaa
