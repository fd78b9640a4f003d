/- Contracts of the reference's FloorDiv: the number or the error that its words say; the world is as it was. -/
import Derived.Test.YtaabebmaobdofaaDoorRatB
set_option linter.unusedSimpArgs false
set_option linter.unusedVariables false
namespace Go.Proofs.YtaabebmaobdofaaDoor
open Go.RowKit

theorem tdiv_below (n d : Int) (hn : I64 n) (hd : d ≠ 0) (hr : ¬ n.tmod d = 0) : n.tdiv d ≤ 9223372036854775806 := by
  have h1 := Int.natAbs_tdiv_le_natAbs n d
  have h2 := Int.mul_tdiv_add_tmod n d
  have h3 : (n.tmod d).natAbs < d.natAbs := by rw [Int.natAbs_tmod]; exact Nat.mod_lt _ (by omega)
  unfold I64 at hn
  generalize n.tmod d = r at *
  by_cases h : n.tdiv d = 9223372036854775807
  · rw [h] at h2; omega
  · by_cases h' : n.tdiv d = 9223372036854775808
    · rw [h'] at h2; omega
    · omega
theorem rsgn (n d : Int) (h : ¬ n.tmod d = 0) : (n.tmod d < 0 ↔ n < 0) := by
  by_cases hn : n < 0
  · have h1 : 0 ≤ (-n).tmod d := Int.tmod_nonneg _ (by omega)
    rw [Int.neg_tmod] at h1
    omega
  · have h1 : 0 ≤ n.tmod d := Int.tmod_nonneg _ (by omega)
    omega
theorem rfloor_any (n d : Int) (w : World) (hn : I64 n) (hd : I64 d) :
    Calls Tryd.prog 32 #[.int .i64 n, .int .i64 d] w fun e w' => e = .returned (.tuple #[.int .i64 (floorI n d), .int .i64 (quoE n d)]) ∧ ∃ k, w' = w.drewN k := by
  by_cases hz : d = 0
  · have e1 : quoE n d = 1 := by simp [quoE, hz]
    have e2 : floorI n d = 0 := by simp [floorI, e1]
    rw [e1, e2]
    subst hz
    clear e1 e2
    go_enter Tryd.func32, Tryd.ntmps32
    go_wp2
    go_returns
    exact ⟨rfl, 0, rfl⟩
  · have kz : (d == 0) = false := by simpa using hz
    by_cases hl : n = -9223372036854775808 ∧ d = -1
    · obtain ⟨rfl, rfl⟩ := hl
      have e1 : quoE (-9223372036854775808) (-1) = 2 := by decide
      have e2 : floorI (-9223372036854775808) (-1) = 0 := by simp [floorI, e1]
      rw [e1, e2]
      clear e1 e2
      go_enter Tryd.func32, Tryd.ntmps32
      go_wp2
      go_returns
      exact ⟨rfl, 0, rfl⟩
    · have hq : quoE n d = 0 := by unfold quoE; rw [if_neg hz]; exact if_neg (by unfold least; exact hl)
      have hf : floorI n d = Int.fdiv n d := by simp [floorI, hq]
      rw [hf, hq]
      obtain ⟨t0, t1, t2⟩ := tdiv_range n d hn hz hq
      have EW := w64_id t0 t1
      have hs0 : (n == -9223372036854775808) = false ∨ ((n == -9223372036854775808) = true ∧ (d == -1) = false) := by
        by_cases h : n = -9223372036854775808
        · right; exact ⟨by simp [h], by simp; intro h'; exact hl ⟨h, h'⟩⟩
        · left; simpa using h
      by_cases hr : n.tmod d = 0
      · have HF := Lib.hid (fdiv_0 n d hr)
        clear t0 t1 t2 hf hq hl hn hd
        rcases hs0 with h0 | ⟨h0, h0'⟩
        all_goals
          go_enter Tryd.func32, Tryd.ntmps32
          go_wp2
          go_quiet (fail)
          go_wp2
          rw [HF.out]
          go_returns
          exact ⟨by simp [EW], _, rfl⟩
      · have kr : (n.tmod d != 0) = true := by simpa using hr
        have hsg := rsgn n d hr
        by_cases hs : (n < 0 ∧ 0 < d) ∨ (¬ n < 0 ∧ d < 0)
        · have HF := Lib.hid (fdiv_1 n d hr hs)
          have EW2 : wrap64 (n.tdiv d - 1) = n.tdiv d - 1 := w64_id (by have := t2 hr; omega) (by omega)
          have kb : (decide (n.tmod d < 0) == decide (d < 0)) = false := by
            rw [show decide (n.tmod d < 0) = decide (n < 0) by simp [hsg]]
            rcases hs with ⟨h1, h2⟩ | ⟨h1, h2⟩
            · have : ¬ d < 0 := by omega
              simp [h1, this]
            · simp [h1, h2]
          clear t0 t1 t2 hs hf hq hl hn hd hsg
          rcases hs0 with h0 | ⟨h0, h0'⟩
          all_goals
            go_enter Tryd.func32, Tryd.ntmps32
            go_wp2
            go_quiet (fail)
            go_wp2
            rw [HF.out]
            go_returns
            exact ⟨by simp [EW, EW2], _, rfl⟩
        · have hs2 : (n < 0 ∧ d < 0) ∨ (¬ n < 0 ∧ 0 < d) := by omega
          have HF := Lib.hid (fdiv_2 n d hr hs2)
          have kb : (decide (n.tmod d < 0) == decide (d < 0)) = true := by
            rw [show decide (n.tmod d < 0) = decide (n < 0) by simp [hsg]]
            rcases hs2 with ⟨h1, h2⟩ | ⟨h1, h2⟩
            · simp [h1, h2]
            · have : ¬ d < 0 := by omega
              simp [h1, this]
          clear t0 t1 t2 hs hs2 hf hq hl hn hd hsg
          rcases hs0 with h0 | ⟨h0, h0'⟩
          all_goals
            go_enter Tryd.func32, Tryd.ntmps32
            go_wp2
            go_quiet (fail)
            go_wp2
            rw [HF.out]
            go_returns
            exact ⟨by simp [EW], _, rfl⟩
end Go.Proofs.YtaabebmaobdofaaDoor
