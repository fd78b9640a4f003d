/- The contract of the reference's Fits, and contracts of wide numbers as the walker knows them. -/
import Derived.Test.YtjmfhcloicembaaWideF
import Derived.Test.YtjmfhcloicembaaWideQ
import Derived.Test.YtjmfhcloicembaaVz
set_option linter.unusedSimpArgs false
set_option linter.unusedVariables false
namespace Go.Proofs.Ytjmfhcloicembaa
open Go.RowKit

theorem wgNil (b : Nat) (w : World) : OwnsL b [] [] w := ⟨rfl, fun i o h => by simp [obsOf] at h, fun i j o p k h => by simp [obsOf] at h⟩
theorem wgC {P : Program} {f : FuncId} {args : Array Value} {v : Value} (h : ∀ w, Calls P f args w fun e w' => e = .returned v ∧ Below w.heap.size w w') : SpecG P [] [] f args [] (fun _ => v) :=
  fun w _ _ => (h w).mono fun e w' ⟨he, hb⟩ => ⟨[], he, wgNil _ _, hb⟩
theorem wof_sp (n : Int) (hn : I64 n) : SpecG Try.prog [] [] 17 #[.int .i64 n] [] (fun _ => W n) := wgC fun w => of_any n w hn.1 hn.2
theorem wad_sp (a b : Int) (ha : fits a) (hb : fits b) : SpecG Try.prog [] [] 18 #[W a, W b] [] (fun _ => .tuple #[W (clip (a + b)), .bool (fitB (a + b))]) := wgC fun w => add_any a b w ha hb
theorem wmu_sp (a b : Int) (ha : I64 a) (hb : I64 b) : SpecG Try.prog [] [] 19 #[.int .i64 a, .int .i64 b] [] (fun _ => W (a * b)) := wgC fun w => mul_any a b w ha hb
theorem wsg_sp (a : Int) (ha : fits a) : SpecG Try.prog [] [] 56 #[W a] [] (fun _ => .int .i64 (cmpI a 0)) := wgC fun w => sign_any a w ha
theorem wsc_sp (a n : Int) (ha : fits a) (hn : I64 n) : SpecG Try.prog [] [] 30 #[W a, .int .i64 n] [] (fun _ => .tuple #[W (clip (a * n)), .bool (fitB (a * n))]) := wgC fun w => scale_any a n w ha hn
theorem rwof_sp (n : Int) (hn : I64 n) : SpecG Try.prog [] [] 57 #[.int .i64 n] [] (fun _ => W n) := wgC fun w => rof_any n w hn
theorem rwad_sp (a b : Int) (ha : fits a) (hb : fits b) : SpecG Try.prog [] [] 54 #[W a, W b] [] (fun _ => .tuple #[W (clip (a + b)), .bool (fitB (a + b))]) := wgC fun w => radd_any a b w ha hb
theorem rwmu_sp (a b : Int) (ha : I64 a) (hb : I64 b) : SpecG Try.prog [] [] 55 #[.int .i64 a, .int .i64 b] [] (fun _ => W (a * b)) := wgC fun w => rmul_any a b w ha hb
/-! Numbers whose sums fit. -/
theorem fits64 {a : Int} (h : I64 a) : fits a := by unfold I64 at h; unfold fits lo127 hi127; omega
theorem fitsS {a b : Int} (ha : I64 a) (hb : I64 b) : fits (a + b) := by unfold I64 at *; unfold fits lo127 hi127; omega
theorem fitsP {a b : Int} (ha : I64 a) (hb : I64 b) : fits (a * b) := by
  unfold I64 at *
  have h1 : (a * b).natAbs = a.natAbs * b.natAbs := Int.natAbs_mul a b
  have h2 : a.natAbs * b.natAbs ≤ 9223372036854775808 * 9223372036854775808 := Nat.mul_le_mul (by omega) (by omega)
  unfold fits lo127 hi127
  omega
theorem i64w (n : Int) : I64 (IntKind.i64.wrap n) := by
  have e : IntKind.i64.wrap n = if n % 18446744073709551616 ≥ 9223372036854775808 then n % 18446744073709551616 - 18446744073709551616 else n % 18446744073709551616 := by
    simp [IntKind.wrap, IntKind.bits, IntKind.signed]
  rw [e]
  constructor <;> (split <;> omega)
theorem W_inj {a b : Int} (h : wh a = wh b) (h2 : wl a = wl b) : a = b := by unfold wh wl at *; omega
end Go.Proofs.Ytjmfhcloicembaa
