/- Contracts of CeilDiv of package exact and its reference: the number or the error that its words say. -/
import Derived.Test.YtaabebmaobdofaaDoorRatC
set_option linter.unusedSimpArgs false
set_option linter.unusedVariables false
namespace Go.Proofs.YtaabebmaobdofaaDoor
open Go.RowKit

theorem ceil_any (n d : Int) (w : World) (hn : I64 n) (hd : I64 d) :
    Calls Tryd.prog 33 #[.int .i64 n, .int .i64 d] w fun e w' => e = .returned (.tuple #[.int .i64 (ceilI n d), .int .i64 (quoE n d)]) ∧ w = w' := by
  by_cases hq : quoE n d = 0
  · have hf : ceilI n d = if n.tmod d = 0 then Int.fdiv n d else Int.fdiv n d + 1 := by simp [ceilI, hq]
    rw [hf]
    have hz : ¬ d = 0 := by intro h; simp [quoE, h] at hq
    obtain ⟨t0, t1, t2⟩ := tdiv_range n d hn hz hq
    have EW := w64_id t0 t1
    have HC : Hid (∀ w, Calls Tryd.prog 51 #[.int .i64 n, .int .i64 d] w fun e w' => e = .returned (.int .i64 0) ∧ w = w') := Lib.hid (fun w => by have h := quotient_any n d w; rw [hq] at h; exact h)
    rw [hq]
    have t3 := tdiv_below n d hn hz
    clear hq hf hn hd
    by_cases hr : n.tmod d = 0
    · have HF := Lib.hid (fdiv_0 n d hr)
      rw [if_pos hr]
      clear t0 t1 t2 t3
      go_enter Tryd.func33, Tryd.ntmps33
      go_wp2_with (go_at_call 51; refine (HC.out _).mono ?_; rintro e w' ⟨rfl, rfl⟩)
      rw [HF.out]
      go_returns
      exact ⟨by simp [EW], rfl⟩
    · have kr : (n.tmod d != 0) = true := by simpa using hr
      by_cases hs : (n < 0 ∧ 0 < d) ∨ (¬ n < 0 ∧ d < 0)
      · have HF : Hid (n.fdiv d + 1 = n.tdiv d) := Lib.hid (by rw [fdiv_1 n d hr hs]; omega)
        rw [if_neg hr]
        have kb : (decide (n < 0) == decide (d < 0)) = false := by
          rcases hs with ⟨h1, h2⟩ | ⟨h1, h2⟩
          · have : ¬ d < 0 := by omega
            simp [h1, this]
          · simp [h1, h2]
        clear t0 t1 t2 t3 hs
        go_enter Tryd.func33, Tryd.ntmps33
        go_wp2_with (go_at_call 51; refine (HC.out _).mono ?_; rintro e w' ⟨rfl, rfl⟩)
        rw [HF.out]
        go_returns
        exact ⟨by simp [EW], rfl⟩
      · have hs2 : (n < 0 ∧ d < 0) ∨ (¬ n < 0 ∧ 0 < d) := by omega
        have HF := Lib.hid (fdiv_2 n d hr hs2)
        have EW2 : wrap64 (n.tdiv d + 1) = n.tdiv d + 1 := w64_id (by omega) (by have := t3 hr; omega)
        rw [if_neg hr]
        have kb : (decide (n < 0) == decide (d < 0)) = true := by
          rcases hs2 with ⟨h1, h2⟩ | ⟨h1, h2⟩
          · simp [h1, h2]
          · have : ¬ d < 0 := by omega
            simp [h1, this]
        clear t0 t1 t2 t3 hs hs2
        go_enter Tryd.func33, Tryd.ntmps33
        go_wp2_with (go_at_call 51; refine (HC.out _).mono ?_; rintro e w' ⟨rfl, rfl⟩)
        rw [HF.out]
        go_returns
        exact ⟨by simp [EW, EW2], rfl⟩
  · have hf : ceilI n d = 0 := by simp [ceilI, hq]
    rw [hf]
    have kq : (quoE n d == 0) = false := by simpa using hq
    have kq' : (quoE n d != 0) = true := by simpa using hq
    have HQ := Lib.hid hq
    clear hq hf
    go_enter Tryd.func33, Tryd.ntmps33
    go_wp2_with (go_at_call 51; refine (quotient_any _ _ _).mono ?_; rintro e w' ⟨rfl, rfl⟩)
    go_returns
    exact ⟨rfl, rfl⟩

theorem rceil_any (n d : Int) (w : World) (hn : I64 n) (hd : I64 d) :
    Calls Tryd.prog 34 #[.int .i64 n, .int .i64 d] w fun e w' => e = .returned (.tuple #[.int .i64 (ceilI n d), .int .i64 (quoE n d)]) ∧ ∃ k, w' = w.drewN k := by
  have HC : Hid (∀ w, Calls Tryd.prog 32 #[.int .i64 n, .int .i64 d] w fun e w' => e = .returned (.tuple #[.int .i64 (floorI n d), .int .i64 (quoE n d)]) ∧ ∃ k, w' = w.drewN k) := Lib.hid (fun w => rfloor_any n d w hn hd)
  by_cases hq : quoE n d = 0
  · have hz : ¬ d = 0 := by intro h; simp [quoE, h] at hq
    have kz : (d == 0) = false := by simpa using hz
    have hf : floorI n d = Int.fdiv n d := by simp [floorI, hq]
    have hc : ceilI n d = if n.tmod d = 0 then Int.fdiv n d else Int.fdiv n d + 1 := by simp [ceilI, hq]
    obtain ⟨t0, t1, t2⟩ := tdiv_range n d hn hz hq
    have t3 := tdiv_below n d hn hz
    rw [hf, hq] at HC
    rw [hc, hq]
    by_cases hr : n.tmod d = 0
    · rw [if_pos hr]
      clear hq hf hc t0 t1 t2 t3 hn hd
      go_enter Tryd.func34, Tryd.ntmps34
      go_wp2_with (go_at_call 32; refine (HC.out _).mono ?_; rintro e w' ⟨rfl, k, rfl⟩)
      go_returns
      exact ⟨rfl, _, rfl⟩
    · rw [if_neg hr]
      have kr : (n.tmod d != 0) = true := by simpa using hr
      have EW : wrap64 (n.fdiv d + 1) = n.fdiv d + 1 := by
        by_cases hs : (n < 0 ∧ 0 < d) ∨ (¬ n < 0 ∧ d < 0)
        · rw [fdiv_1 n d hr hs]; have := t2 hr; exact w64_id (by omega) (by omega)
        · rw [fdiv_2 n d hr (by omega)]; have := t3 hr; exact w64_id (by omega) (by omega)
      clear hq hf hc t0 t1 t2 t3 hn hd
      go_enter Tryd.func34, Tryd.ntmps34
      go_wp2_with (go_at_call 32; refine (HC.out _).mono ?_; rintro e w' ⟨rfl, k, rfl⟩)
      go_returns
      exact ⟨by simp [EW], _, rfl⟩
  · have hf : floorI n d = 0 := by simp [floorI, hq]
    have hc : ceilI n d = 0 := by simp [ceilI, hq]
    have kq : (quoE n d == 0) = false := by simpa using hq
    rw [hf] at HC
    rw [hc]
    clear hf hc hq hn hd
    go_enter Tryd.func34, Tryd.ntmps34
    go_wp2_with (go_at_call 32; refine (HC.out _).mono ?_; rintro e w' ⟨rfl, k, rfl⟩)
    go_returns
    exact ⟨rfl, _, rfl⟩
end Go.Proofs.YtaabebmaobdofaaDoor
