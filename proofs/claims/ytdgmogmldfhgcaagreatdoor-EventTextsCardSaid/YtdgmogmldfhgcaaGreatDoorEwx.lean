/- Layer 8 (event): the line of any event, both. -/
import Derived.Test.YtdgmogmldfhgcaaGreatDoorVz
import Derived.KernelRfl
import Derived.Test.YtdgmogmldfhgcaaGreatDoorProg
import Derived.Test.YtdgmogmldfhgcaaGreatDoorEwt
import Derived.Test.YtdgmogmldfhgcaaGreatDoorEwr
set_option linter.unusedSimpArgs false
set_option linter.unusedVariables false
set_option maxRecDepth 100000
namespace Go.Proofs.YtdgmogmldfhgcaaGreatDoor
open Go.RowKit

theorem txp_sp (k : Int) (e : Ev) (d : Dl) (hw : Wf d) : SpecG Tryz.prog vE [] 10 #[evV k e d] [] (fun _ => .tuple #[.string (ewL k e d), .int .i64 (evC k e d)]) := by
  by_cases hb : (evC k e d != 0) = true
  · rw [ewL_bad hb]
    exact txb_sp k e d hb
  have hb : (evC k e d != 0) = false := by simpa using hb
  have hk : k = 1 ∨ k = 2 ∨ k = 3 ∨ k = 4 ∨ k = 5 ∨ k = 6 ∨ k = 7 ∨ k = 8 ∨ k = 9 ∨ k = 10 ∨ k = 11 ∨ k = 12 ∨ k = 13 ∨ k = 14 ∨ k = 15 ∨ k = 16 := by
    have h := evC_ok hb
    unfold evC at h
    split at h
    · omega
    · omega
  obtain ⟨sd, pl, ot, ys, rn, ov⟩ := e
  rcases hk with rfl | rfl | rfl | rfl | rfl | rfl | rfl | rfl | rfl | rfl | rfl | rfl | rfl | rfl | rfl | rfl
  · cases ys
    · have h := tx_1n_sp ⟨sd, pl, ot, false, rn, ov⟩ d hb
      rw [ewL_ok hb, evC_ok hb]
      exact h
    · have h := tx_1y_sp ⟨sd, pl, ot, true, rn, ov⟩ d hb
      rw [ewL_ok hb, evC_ok hb]
      exact h
  · cases ys
    · have h := tx_2n_sp ⟨sd, pl, ot, false, rn, ov⟩ d hb
      rw [ewL_ok hb, evC_ok hb]
      exact h
    · exact absurd (evC_R hb).2.1 (by simp [evU])
  · cases ys
    · have h := tx_3n_sp ⟨sd, pl, ot, false, rn, ov⟩ d hb
      rw [ewL_ok hb, evC_ok hb]
      exact h
    · exact absurd (evC_R hb).2.1 (by simp [evU])
  · cases ys
    · have h := tx_4n_sp ⟨sd, pl, ot, false, rn, ov⟩ d hw hb
      rw [ewL_ok hb, evC_ok hb]
      exact h
    · exact absurd (evC_R hb).2.1 (by simp [evU])
  · cases ys
    · have h := tx_5n_sp ⟨sd, pl, ot, false, rn, ov⟩ d hb
      rw [ewL_ok hb, evC_ok hb]
      exact h
    · have h := tx_5y_sp ⟨sd, pl, ot, true, rn, ov⟩ d hb
      rw [ewL_ok hb, evC_ok hb]
      exact h
  · cases ys
    · have h := tx_6n_sp ⟨sd, pl, ot, false, rn, ov⟩ d hb
      rw [ewL_ok hb, evC_ok hb]
      exact h
    · have h := tx_6y_sp ⟨sd, pl, ot, true, rn, ov⟩ d hb
      rw [ewL_ok hb, evC_ok hb]
      exact h
  · cases ys
    · have h := tx_7n_sp ⟨sd, pl, ot, false, rn, ov⟩ d hb
      rw [ewL_ok hb, evC_ok hb]
      exact h
    · exact absurd (evC_R hb).2.1 (by simp [evU])
  · cases ys
    · have h := tx_8n_sp ⟨sd, pl, ot, false, rn, ov⟩ d hb
      rw [ewL_ok hb, evC_ok hb]
      exact h
    · exact absurd (evC_R hb).2.1 (by simp [evU])
  · cases ys
    · have h := tx_9n_sp ⟨sd, pl, ot, false, rn, ov⟩ d hb
      rw [ewL_ok hb, evC_ok hb]
      exact h
    · have h := tx_9y_sp ⟨sd, pl, ot, true, rn, ov⟩ d hb
      rw [ewL_ok hb, evC_ok hb]
      exact h
  · cases ys
    · have h := tx_10n_sp ⟨sd, pl, ot, false, rn, ov⟩ d hb
      rw [ewL_ok hb, evC_ok hb]
      exact h
    · exact absurd (evC_R hb).2.1 (by simp [evU])
  · cases ys
    · have h := tx_11n_sp ⟨sd, pl, ot, false, rn, ov⟩ d hb
      rw [ewL_ok hb, evC_ok hb]
      exact h
    · exact absurd (evC_R hb).2.1 (by simp [evU])
  · cases ys
    · have h := tx_12n_sp ⟨sd, pl, ot, false, rn, ov⟩ d hb
      rw [ewL_ok hb, evC_ok hb]
      exact h
    · have h := tx_12y_sp ⟨sd, pl, ot, true, rn, ov⟩ d hb
      rw [ewL_ok hb, evC_ok hb]
      exact h
  · cases ys
    · have h := tx_13n_sp ⟨sd, pl, ot, false, rn, ov⟩ d hb
      rw [ewL_ok hb, evC_ok hb]
      exact h
    · exact absurd (evC_R hb).2.1 (by simp [evU])
  · cases ys
    · have h := tx_14n_sp ⟨sd, pl, ot, false, rn, ov⟩ d hb
      rw [ewL_ok hb, evC_ok hb]
      exact h
    · have h := tx_14y_sp ⟨sd, pl, ot, true, rn, ov⟩ d hb
      rw [ewL_ok hb, evC_ok hb]
      exact h
  · cases ys
    · have h := tx_15n_sp ⟨sd, pl, ot, false, rn, ov⟩ d hb
      rw [ewL_ok hb, evC_ok hb]
      exact h
    · exact absurd (evC_R hb).2.1 (by simp [evU])
  · cases ys
    · have h := tx_16n_sp ⟨sd, pl, ot, false, rn, ov⟩ d hb
      rw [ewL_ok hb, evC_ok hb]
      exact h
    · exact absurd (evC_R hb).2.1 (by simp [evU])
theorem rxp_sp (k : Int) (e : Ev) (d : Dl) (hw : Wf d) : SpecG Tryz.prog [] [] 11 #[evV k e d] [] (fun _ => .tuple #[.string (ewL k e d), .int .i64 (evC k e d)]) := by
  by_cases hb : (evC k e d != 0) = true
  · rw [ewL_bad hb]
    exact rxb_sp k e d hb
  have hb : (evC k e d != 0) = false := by simpa using hb
  have hk : k = 1 ∨ k = 2 ∨ k = 3 ∨ k = 4 ∨ k = 5 ∨ k = 6 ∨ k = 7 ∨ k = 8 ∨ k = 9 ∨ k = 10 ∨ k = 11 ∨ k = 12 ∨ k = 13 ∨ k = 14 ∨ k = 15 ∨ k = 16 := by
    have h := evC_ok hb
    unfold evC at h
    split at h
    · omega
    · omega
  obtain ⟨sd, pl, ot, ys, rn, ov⟩ := e
  rcases hk with rfl | rfl | rfl | rfl | rfl | rfl | rfl | rfl | rfl | rfl | rfl | rfl | rfl | rfl | rfl | rfl
  · cases ys
    · have h := rx_1n_sp ⟨sd, pl, ot, false, rn, ov⟩ d hb
      rw [ewL_ok hb, evC_ok hb]
      exact h
    · have h := rx_1y_sp ⟨sd, pl, ot, true, rn, ov⟩ d hb
      rw [ewL_ok hb, evC_ok hb]
      exact h
  · cases ys
    · have h := rx_2n_sp ⟨sd, pl, ot, false, rn, ov⟩ d hb
      rw [ewL_ok hb, evC_ok hb]
      exact h
    · exact absurd (evC_R hb).2.1 (by simp [evU])
  · cases ys
    · have h := rx_3n_sp ⟨sd, pl, ot, false, rn, ov⟩ d hb
      rw [ewL_ok hb, evC_ok hb]
      exact h
    · exact absurd (evC_R hb).2.1 (by simp [evU])
  · cases ys
    · have h := rx_4n_sp ⟨sd, pl, ot, false, rn, ov⟩ d hw hb
      rw [ewL_ok hb, evC_ok hb]
      exact h
    · exact absurd (evC_R hb).2.1 (by simp [evU])
  · cases ys
    · have h := rx_5n_sp ⟨sd, pl, ot, false, rn, ov⟩ d hb
      rw [ewL_ok hb, evC_ok hb]
      exact h
    · have h := rx_5y_sp ⟨sd, pl, ot, true, rn, ov⟩ d hb
      rw [ewL_ok hb, evC_ok hb]
      exact h
  · cases ys
    · have h := rx_6n_sp ⟨sd, pl, ot, false, rn, ov⟩ d hb
      rw [ewL_ok hb, evC_ok hb]
      exact h
    · have h := rx_6y_sp ⟨sd, pl, ot, true, rn, ov⟩ d hb
      rw [ewL_ok hb, evC_ok hb]
      exact h
  · cases ys
    · have h := rx_7n_sp ⟨sd, pl, ot, false, rn, ov⟩ d hb
      rw [ewL_ok hb, evC_ok hb]
      exact h
    · exact absurd (evC_R hb).2.1 (by simp [evU])
  · cases ys
    · have h := rx_8n_sp ⟨sd, pl, ot, false, rn, ov⟩ d hb
      rw [ewL_ok hb, evC_ok hb]
      exact h
    · exact absurd (evC_R hb).2.1 (by simp [evU])
  · cases ys
    · have h := rx_9n_sp ⟨sd, pl, ot, false, rn, ov⟩ d hb
      rw [ewL_ok hb, evC_ok hb]
      exact h
    · have h := rx_9y_sp ⟨sd, pl, ot, true, rn, ov⟩ d hb
      rw [ewL_ok hb, evC_ok hb]
      exact h
  · cases ys
    · have h := rx_10n_sp ⟨sd, pl, ot, false, rn, ov⟩ d hb
      rw [ewL_ok hb, evC_ok hb]
      exact h
    · exact absurd (evC_R hb).2.1 (by simp [evU])
  · cases ys
    · have h := rx_11n_sp ⟨sd, pl, ot, false, rn, ov⟩ d hb
      rw [ewL_ok hb, evC_ok hb]
      exact h
    · exact absurd (evC_R hb).2.1 (by simp [evU])
  · cases ys
    · have h := rx_12n_sp ⟨sd, pl, ot, false, rn, ov⟩ d hb
      rw [ewL_ok hb, evC_ok hb]
      exact h
    · have h := rx_12y_sp ⟨sd, pl, ot, true, rn, ov⟩ d hb
      rw [ewL_ok hb, evC_ok hb]
      exact h
  · cases ys
    · have h := rx_13n_sp ⟨sd, pl, ot, false, rn, ov⟩ d hb
      rw [ewL_ok hb, evC_ok hb]
      exact h
    · exact absurd (evC_R hb).2.1 (by simp [evU])
  · cases ys
    · have h := rx_14n_sp ⟨sd, pl, ot, false, rn, ov⟩ d hb
      rw [ewL_ok hb, evC_ok hb]
      exact h
    · have h := rx_14y_sp ⟨sd, pl, ot, true, rn, ov⟩ d hb
      rw [ewL_ok hb, evC_ok hb]
      exact h
  · cases ys
    · have h := rx_15n_sp ⟨sd, pl, ot, false, rn, ov⟩ d hb
      rw [ewL_ok hb, evC_ok hb]
      exact h
    · exact absurd (evC_R hb).2.1 (by simp [evU])
  · cases ys
    · have h := rx_16n_sp ⟨sd, pl, ot, false, rn, ov⟩ d hb
      rw [ewL_ok hb, evC_ok hb]
      exact h
    · exact absurd (evC_R hb).2.1 (by simp [evU])

end Go.Proofs.YtdgmogmldfhgcaaGreatDoor
