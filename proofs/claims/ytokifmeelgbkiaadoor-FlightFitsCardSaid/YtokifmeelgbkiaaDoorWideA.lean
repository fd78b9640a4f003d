/- Contracts of the first functions of package wide: each returns what its value says, old memory unchanged. -/
import Derived.Test.YtokifmeelgbkiaaDoorWideW
set_option linter.unusedSimpArgs false
set_option linter.unusedVariables false
namespace Go.Proofs.YtokifmeelgbkiaaDoor
open Go.RowKit

set_option maxHeartbeats 1000000 in
theorem add_any (a b : Int) (w : World) (ha : fits a) (hb : fits b) :
    Calls Tryd.prog 38 #[W a, W b] w fun e w' => e = .returned (.tuple #[W (clip (a + b)), .bool (fitB (a + b))]) ∧ Below w.heap.size w w' := by
  have a0 := wl_0 a
  have b0 := wl_0 b
  have c0 : 0 ≤ wh (wl a + wl b) := by unfold wh wl; omega
  have c1 : wh (wl a + wl b) ≤ 1 := by unfold wh wl; omega
  have d0 : 0 ≤ IntKind.u64.wrap (wh a) := by rw [IntKind.wrap_u64]; omega
  have d1 : 0 ≤ IntKind.u64.wrap (wh b) := by rw [IntKind.wrap_u64]; omega
  have E1 : wl (wl a + wl b) = wl (a + b) := by unfold wl; omega
  by_cases hs : fits (a + b)
  · have E2 : IntKind.i64.wrap (wl (IntKind.u64.wrap (wh a) + IntKind.u64.wrap (wh b) + wh (wl a + wl b))) = wh (a + b) := by
      rw [IntKind.wrap_u64, IntKind.wrap_u64, IntKind.wrap_i64]; unfold fits wh wl lo127 hi127 at *; omega
    rw [clip_yes hs, fit_yes hs]
    have s : (wh a < 0 ∧ wh b < 0 ∧ wh (a + b) < 0) ∨ (¬ wh a < 0 ∧ ¬ wh b < 0 ∧ ¬ wh (a + b) < 0) ∨ (wh a < 0 ∧ ¬ wh b < 0) ∨ (¬ wh a < 0 ∧ wh b < 0) := by
      simp only [lt0_iff]; omega
    clear ha hb hs
    rcases s with ⟨s1, s2, s3⟩ | ⟨s1, s2, s3⟩ | ⟨s1, s2⟩ | ⟨s1, s2⟩
    all_goals
      go_enter Tryd.func38, Tryd.ntmps38
      go_wp2_with (first | simp only [add64_0 _ _ a0 b0] | simp only [add64 _ _ _ d0 d1 c0 c1])
      go_returns
      exact ⟨rfl, by go_grown⟩
  · have s : (wh a < 0 ∧ wh b < 0 ∧ ¬ wrap64 (wl (IntKind.u64.wrap (wh a) + IntKind.u64.wrap (wh b) + wh (wl a + wl b))) < 0) ∨
        (¬ wh a < 0 ∧ ¬ wh b < 0 ∧ wrap64 (wl (IntKind.u64.wrap (wh a) + IntKind.u64.wrap (wh b) + wh (wl a + wl b))) < 0) := by
      rw [IntKind.wrap_u64, IntKind.wrap_u64]; unfold wrap64 fits wh wl lo127 hi127 at *; omega
    rw [clip_no hs, fit_no hs, W_0]
    clear ha hb hs
    rcases s with ⟨s1, s2, s3⟩ | ⟨s1, s2, s3⟩
    all_goals
      go_enter Tryd.func38, Tryd.ntmps38
      go_wp2_with (first | simp only [add64_0 _ _ a0 b0] | simp only [add64 _ _ _ d0 d1 c0 c1])
      go_returns
      exact ⟨rfl, by go_grown⟩

end Go.Proofs.YtokifmeelgbkiaaDoor
