/- Contract of the law's sameLines on equal lists. -/
import Derived.Test.YtjekflpogafodaaDoorTxI
set_option linter.unusedSimpArgs false
set_option linter.unusedVariables false
namespace Go.Proofs.YtjekflpogafodaaDoor
open Go.RowKit

set_option maxRecDepth 100000 in
set_option maxHeartbeats 8000000 in
theorem sameL_any (D : List Lin) (b1 b2 : Nat) (vA vB : Value) (w : World) (hl : D.length ≤ 1000000) (hf : ∀ x ∈ D, x.flds.length ≤ 1000000) (hA : OwnL w b1 vA D) (hB : OwnL w b2 vB D) :
    Calls Tryd.prog 11 #[vA, vB] w fun e w' => e = .returned (.bool true) ∧ ∃ k, w' = w.drewN k := by
  have fA : (D.length = 0 ∧ vA = .slice none 0 0) ∨ ∃ g cap, vA = .slice (some ⟨g, 0, none⟩) D.length cap ∧ b1 ≤ g ∧ g < w.heap.size ∧ D.length ≤ cap ∧ cap ≤ 9223372036854775807 := by
    obtain ⟨vs, q1, q2, q3⟩ := hA; exact own_form q2
  have fB : (D.length = 0 ∧ vB = .slice none 0 0) ∨ ∃ g cap, vB = .slice (some ⟨g, 0, none⟩) D.length cap ∧ b2 ≤ g ∧ g < w.heap.size ∧ D.length ≤ cap ∧ cap ≤ 9223372036854775807 := by
    obtain ⟨vs, q1, q2, q3⟩ := hB; exact own_form q2
  by_cases h0 : D = []
  · subst h0
    rcases fA with ⟨_, rfl⟩ | ⟨ga, ca, rfl, ha1, ha2, ha3, ha4⟩
    all_goals
      rcases fB with ⟨_, rfl⟩ | ⟨gb, cb, rfl, hb1, hb2, hb3, hb4⟩
    all_goals
      clear hA hB hf
      go_enter Tryd.func11, Tryd.ntmps11
      go_wp2
      go_loopw [14] (fun t wr => t = .int .i64 0 ∧ wr = w) (fun t _ => 0)
      case atStart => exact ⟨rfl, rfl⟩
      case round =>
        obtain ⟨rfl, rfl⟩ := hrel
        go_wp2
        go_ret
        exact ⟨rfl, 0, rfl⟩
  · have hpos : 0 < D.length := by cases D with | nil => exact absurd rfl h0 | cons _ _ => simp
    rcases fA with ⟨h0, rfl⟩ | ⟨ga, ca, rfl, ha1, ha2, ha3, ha4⟩
    · omega
    rcases fB with ⟨h1, rfl⟩ | ⟨gb, cb, rfl, hb1, hb2, hb3, hb4⟩
    · omega
    have HA := Lib.hid hA
    have HB := Lib.hid hB
    have HF := Lib.hid hf
    clear hA hB h0 hf
    go_enter Tryd.func11, Tryd.ntmps11
    go_wp2
    go_loopw [14] (fun t wr => ∃ (k m : Nat), k ≤ D.length ∧ t = .int .i64 (k : Int) ∧ wr = w.drewN m) (fun t _ => D.length - (intOf t).toNat)
    case atStart => exact ⟨0, 0, Nat.zero_le _, rfl, rfl⟩
    case round =>
      obtain ⟨k, m, hk, rfl, rfl⟩ := hrel
      by_cases hlt : k < D.length
      · obtain ⟨ua, c0, c1, c2⟩ := ownL_at HA.out k D[k] (List.getElem?_eq_getElem hlt)
        obtain ⟨ub, d0, d1, d2⟩ := ownL_at HB.out k D[k] (List.getElem?_eq_getElem hlt)
        have hfl := HF.out D[k] (List.getElem_mem hlt)
        generalize D[k] = d at *
        obtain ⟨dn, fs⟩ := d
        simp only at c0 c2 d0 d2 hfl
        by_cases hfs : fs = []
        · subst hfs
          rcases own_form c2 with ⟨_, rfl⟩ | ⟨pa, ea, rfl, _, _, _, _⟩
          all_goals
            rcases own_form d2 with ⟨_, rfl⟩ | ⟨pb, eb, rfl, _, _, _, _⟩
          all_goals
            clear c2 d2
            go_wp2
            go_quiet (fail)
            go_wp2
            generalize m + nq = M at *
            go_loopw [49] (fun t wr => t = .int .i64 0 ∧ wr = w.drewN M) (fun t _ => 0)
            case atStart => exact ⟨rfl, rfl⟩
            case round =>
              obtain ⟨rfl, rfl⟩ := hrel
              go_wp2
              exact ⟨⟨k + 1, M, by omega, by go_num, rfl⟩, by simp [intOf]; omega⟩
        · have hfp : 0 < fs.length := by cases fs with | nil => exact absurd rfl hfs | cons _ _ => simp
          rcases own_form c2 with ⟨h0, _⟩ | ⟨pa, ea, rfl, pa1, pa2, pa3, pa4⟩
          · omega
          rcases own_form d2 with ⟨h0, _⟩ | ⟨pb, eb, rfl, pb1, pb2, pb3, pb4⟩
          · omega
          have C2 := Lib.hid c2
          have D2 := Lib.hid d2
          clear c2 d2 hfs
          go_wp2
          go_quiet (fail)
          go_wp2
          generalize m + nq = M at *
          go_loopw [49] (fun t wr => ∃ (j q : Nat), j ≤ fs.length ∧ t = .int .i64 (j : Int) ∧ wr = w.drewN q) (fun t _ => fs.length - (intOf t).toNat)
          case atStart => exact ⟨0, M, Nat.zero_le _, rfl, rfl⟩
          case round =>
            obtain ⟨j, q, hj, rfl, rfl⟩ := hrel
            by_cases hjl : j < fs.length
            · obtain ⟨x0, x1, x2⟩ := ownF_at C2.out j fs[j] (List.getElem?_eq_getElem hjl)
              obtain ⟨y0, y1, y2⟩ := ownF_at D2.out j fs[j] (List.getElem?_eq_getElem hjl)
              generalize fs[j] = f at *
              obtain ⟨ft, fc, fq⟩ := f
              simp only at x0 x1 x2 y0 y1 y2
              go_wp2
              go_quiet (fail)
              go_wp2
              exact ⟨⟨j + 1, _, by omega, by go_num, rfl⟩, by simp [intOf]; omega⟩
            · go_wp2
              exact ⟨⟨k + 1, q, by omega, by go_num, rfl⟩, by simp [intOf]; omega⟩
      · go_wp2
        go_ret
        exact ⟨rfl, m, rfl⟩
end Go.Proofs.YtjekflpogafodaaDoor
