/- The contract of the reference's Fits, and contracts of wide numbers as the walker knows them. -/
import Derived.Test.YtokifmeelgbkiaaDoorWideF
import Derived.Test.YtokifmeelgbkiaaDoorWideQ
import Derived.Test.YtokifmeelgbkiaaDoorVz
set_option linter.unusedSimpArgs false
set_option linter.unusedVariables false
namespace Go.Proofs.YtokifmeelgbkiaaDoor
open Go.RowKit

theorem wgNil (b : Nat) (w : World) : OwnsL b [] [] w := ⟨rfl, fun i o h => by simp [obsOf] at h, fun i j o p k h => by simp [obsOf] at h⟩
theorem wgC {P : Program} {f : FuncId} {args : Array Value} {v : Value} (h : ∀ w, Calls P f args w fun e w' => e = .returned v ∧ Below w.heap.size w w') : SpecG P [] [] f args [] (fun _ => v) :=
  fun w _ _ => (h w).mono fun e w' ⟨he, hb⟩ => ⟨[], he, wgNil _ _, hb⟩
theorem wof_sp (n : Int) (hn : I64 n) : SpecG Tryd.prog [] [] 39 #[.int .i64 n] [] (fun _ => W n) := wgC fun w => of_any n w hn.1 hn.2
theorem wad_sp (a b : Int) (ha : fits a) (hb : fits b) : SpecG Tryd.prog [] [] 38 #[W a, W b] [] (fun _ => .tuple #[W (clip (a + b)), .bool (fitB (a + b))]) := wgC fun w => add_any a b w ha hb
theorem wmu_sp (a b : Int) (ha : I64 a) (hb : I64 b) : SpecG Tryd.prog [] [] 40 #[.int .i64 a, .int .i64 b] [] (fun _ => W (a * b)) := wgC fun w => mul_any a b w ha hb
theorem wsg_sp (a : Int) (ha : fits a) : SpecG Tryd.prog [] [] 41 #[W a] [] (fun _ => .int .i64 (cmpI a 0)) := wgC fun w => sign_any a w ha
/-! Numbers whose sums fit. -/
theorem fits64 {a : Int} (h : I64 a) : fits a := by unfold I64 at h; unfold fits lo127 hi127; omega
theorem fitsS {a b : Int} (ha : I64 a) (hb : I64 b) : fits (a + b) := by unfold I64 at *; unfold fits lo127 hi127; omega
theorem fitsP {a b : Int} (ha : I64 a) (hb : I64 b) : fits (a * b) := by
  unfold I64 at *
  have h1 : (a * b).natAbs = a.natAbs * b.natAbs := Int.natAbs_mul a b
  have h2 : a.natAbs * b.natAbs ≤ 9223372036854775808 * 9223372036854775808 := Nat.mul_le_mul (by omega) (by omega)
  unfold fits lo127 hi127
  omega
theorem i64w (n : Int) : I64 (IntKind.i64.wrap n) := by
  have e : IntKind.i64.wrap n = if n % 18446744073709551616 ≥ 9223372036854775808 then n % 18446744073709551616 - 18446744073709551616 else n % 18446744073709551616 := by
    simp [IntKind.wrap, IntKind.bits, IntKind.signed]
  rw [e]
  constructor <;> (split <;> omega)
theorem W_inj {a b : Int} (h : wh a = wh b) (h2 : wl a = wl b) : a = b := by unfold wh wl at *; omega
end Go.Proofs.YtokifmeelgbkiaaDoor
