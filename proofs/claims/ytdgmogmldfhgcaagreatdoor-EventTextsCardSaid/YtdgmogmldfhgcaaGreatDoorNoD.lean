/- Contracts of package notation's runsSign, fielderSign, wicketSign and Print. -/
import Derived.Test.YtdgmogmldfhgcaaGreatDoorNoC
set_option linter.unusedSimpArgs false
set_option linter.unusedVariables false
namespace Go.Proofs.YtdgmogmldfhgcaaGreatDoor
open Go.RowKit

theorem dg_get {n : Int} (h0 : 0 ≤ n) (h1 : n ≤ 9) : ∃ k : Nat, n = (k : Int) ∧ ∃ hk : k < tens.length, dg n = [tens[k]] := by
  refine ⟨n.toNat, by omega, by show n.toNat < 10; omega, ?_⟩
  rcases upto11 h0 (by omega) with rfl | rfl | rfl | rfl | rfl | rfl | rfl | rfl | rfl | rfl | rfl | rfl
  all_goals first | rfl | omega
theorem sgn_dg (n : Int) (h0 : 0 ≤ n) (h1 : n ≤ 9) (w : World) : Calls Tryz.prog 80 #[.string ⟨#[48, 49, 50, 51, 52, 53, 54, 55, 56, 57]⟩, .int .i64 n] w fun e w' => e = .returned (S (dg n)) ∧ w = w' := by
  obtain ⟨k, rfl, hk, e⟩ := dg_get h0 h1
  rw [e]
  exact sgn_any tens k hk (by decide) w
theorem sgn_how (h : Int) (h0 : 0 ≤ h) (h1 : h ≤ 10) (w : World) : Calls Tryz.prog 80 #[.string ⟨#[78, 66, 67, 76, 83, 72, 82, 84, 79, 77, 81]⟩, .int .i64 h] w fun e w' => e = .returned (S [hch h]) ∧ w = w' := by
  obtain ⟨k, rfl⟩ : ∃ k : Nat, h = (k : Int) := ⟨h.toNat, by omega⟩
  have hk : k < hows.length := by show k < 11; omega
  have e : hch (k : Int) = hows[k] := by unfold hch; simp [hk]
  rw [e]
  exact sgn_any hows k hk (by decide) w
theorem pR_cases (d : Dl) :
    ((d.t != 2) = false ∧ (d.r == 0) = true ∧ pR d = []) ∨ ((d.t != 2) = false ∧ (d.r == 0) = false ∧ pR d = dg d.r) ∨
    ((d.t != 2) = true ∧ (d.s == plS d.t) = false ∧ (d.r == 0) = true ∧ pR d = []) ∨ ((d.t != 2) = true ∧ (d.s == plS d.t) = false ∧ (d.r == 0) = false ∧ pR d = dg d.r) ∨
    ((d.t != 2) = true ∧ (d.s == plS d.t) = true ∧ (d.b == 0) = false ∧ (d.r == 0) = true ∧ pR d = []) ∨ ((d.t != 2) = true ∧ (d.s == plS d.t) = true ∧ (d.b == 0) = false ∧ (d.r == 0) = false ∧ pR d = dg d.r) ∨
    ((d.t != 2) = true ∧ (d.s == plS d.t) = true ∧ (d.b == 0) = true ∧ (d.r == 0) = true ∧ pR d = dg d.r) ∨ ((d.t != 2) = true ∧ (d.s == plS d.t) = true ∧ (d.b == 0) = true ∧ (d.r == 0) = false ∧ pR d = dg d.r) := by
  unfold pR
  simp only [bne_eq_false_iff_eq, bne_iff_ne, beq_iff_eq, beq_eq_false_iff_ne, ne_eq]
  by_cases h1 : d.t = 2 <;> by_cases h2 : d.s = plS d.t <;> by_cases h3 : d.b = 0 <;> by_cases h4 : d.r = 0 <;> simp [h1, h2, h3, h4]
set_option maxHeartbeats 2000000 in
theorem runsSign_any (d : Dl) (hr : 0 ≤ d.r ∧ d.r ≤ 7) (w : World) : Calls Tryz.prog 56 #[DV d] w fun e w' => e = .returned (S (pR d)) ∧ Below w.heap.size w w' := by
  have hc := pR_cases d
  have HP : ∀ w, Calls Tryz.prog 81 #[.int .u8 d.t] w fun e w' => e = .returned (.int .u8 (plS d.t)) ∧ w = w' := plS_any d.t
  have HS := Lib.hid (sgn_dg d.r hr.1 (by omega))
  have A1 := at_class (W := (w.alloc (.cells #[.int .u8 d.t, .int .u8 d.s, .int .i64 d.r, .int .i64 d.sh, .int .i64 d.b, .bool d.x, .int .u8 d.h, .int .i64 d.v, .int .i64 d.f, .int .i64 d.g, .bool d.u, .int .i64 d.z] DT))) (same_below HP)
  have hrow := box_row d w
  have k0 : (w.alloc (.cells #[.int .u8 d.t, .int .u8 d.s, .int .i64 d.r, .int .i64 d.sh, .int .i64 d.b, .bool d.x, .int .u8 d.h, .int .i64 d.v, .int .i64 d.f, .int .i64 d.g, .bool d.u, .int .i64 d.z] DT)).cell? ⟨w.heap.size, 0, none⟩ = some (.int .u8 d.t) := hrow.cell 0
  have k1 : (w.alloc (.cells #[.int .u8 d.t, .int .u8 d.s, .int .i64 d.r, .int .i64 d.sh, .int .i64 d.b, .bool d.x, .int .u8 d.h, .int .i64 d.v, .int .i64 d.f, .int .i64 d.g, .bool d.u, .int .i64 d.z] DT)).cell? ⟨w.heap.size, 1, none⟩ = some (.int .u8 d.s) := hrow.cell 1
  have k2 : (w.alloc (.cells #[.int .u8 d.t, .int .u8 d.s, .int .i64 d.r, .int .i64 d.sh, .int .i64 d.b, .bool d.x, .int .u8 d.h, .int .i64 d.v, .int .i64 d.f, .int .i64 d.g, .bool d.u, .int .i64 d.z] DT)).cell? ⟨w.heap.size, 2, none⟩ = some (.int .i64 d.r) := hrow.cell 2
  have k4 : (w.alloc (.cells #[.int .u8 d.t, .int .u8 d.s, .int .i64 d.r, .int .i64 d.sh, .int .i64 d.b, .bool d.x, .int .u8 d.h, .int .i64 d.v, .int .i64 d.f, .int .i64 d.g, .bool d.u, .int .i64 d.z] DT)).cell? ⟨w.heap.size, 4, none⟩ = some (.int .i64 d.b) := hrow.cell 4
  have g0 := cell_regrown k0
  have g1 := cell_regrown k1
  have g2 := cell_regrown k2
  have g4 := cell_regrown k4
  have hb7 := below_regrown (w.alloc (.cells #[.int .u8 d.t, .int .u8 d.s, .int .i64 d.r, .int .i64 d.sh, .int .i64 d.b, .bool d.x, .int .u8 d.h, .int .i64 d.v, .int .i64 d.f, .int .i64 d.g, .bool d.u, .int .i64 d.z] DT))
  generalize pR d = P at *
  generalize plS d.t = T at *
  generalize dg d.r = R at *
  obtain ⟨t, s, r, sh, b, x, h, v, f, g, u, z⟩ := d
  dsimp only at *
  clear HP hrow k0 k1 k2 k4 hr
  rcases hc with ⟨h1, h2, rfl⟩ | ⟨h1, h2, rfl⟩ | ⟨h1, h2, h3, rfl⟩ | ⟨h1, h2, h3, rfl⟩ | ⟨h1, h2, h3, h4, rfl⟩ | ⟨h1, h2, h3, h4, rfl⟩ | ⟨h1, h2, h3, h4, rfl⟩ | ⟨h1, h2, h3, h4, rfl⟩
  all_goals
    go_enter Tryz.func56, Tryz.ntmps56
    go_wp2
    refine wp_region_quiet_below (by kernel_rfl) (by kernel_rfl) ?_; (repeat (first | go_big_quiet_step (with_reducible exact A1 _ _) | quiet_step (with_reducible exact A1 _ _))); refine wpQuiet_nil ?_; intro _ hw'; obtain ⟨⟨dq, osq⟩, hw''⟩ := hw'; subst hw''
    have hb8 := hb7 dq osq
    clear A1
    go_wp2_with (go_at_call 80; ((with_reducible refine (HS.out _).mono ?_); rintro e w' ⟨rfl, rfl⟩))
    go_ret
    exact ⟨rfl, below_step (by (repeat' (first | (with_reducible exact Below.refl _ _) | (with_reducible refine Below.setCell ?_ ?_ _) | (with_reducible refine Below.alloc ?_ ?_ _) | (with_reducible refine Below.drew ?_) | (with_reducible refine belowN ?_ _) | (with_reducible refine below_step ?_ ?_ (by with_reducible assumption)) | go_size))) (by go_size) hb8⟩
theorem pF_cases (d : Dl) :
    ((d.f == 0) = true ∧ (d.g == 0) = true ∧ d.u = false ∧ pF d = []) ∨ ((d.f == 0) = true ∧ (d.g == 0) = true ∧ d.u = true ∧ pF d = [40] ++ dg d.f ++ nuL 44 d.g ++ flL 115 d.u ++ [41]) ∨
    ((d.f == 0) = true ∧ (d.g == 0) = false ∧ pF d = [40] ++ dg d.f ++ nuL 44 d.g ++ flL 115 d.u ++ [41]) ∨ ((d.f == 0) = false ∧ pF d = [40] ++ dg d.f ++ nuL 44 d.g ++ flL 115 d.u ++ [41]) := by
  have e : ¬ fdz d → pF d = [40] ++ dg d.f ++ nuL 44 d.g ++ flL 115 d.u ++ [41] := fun h => by unfold pF; rw [if_neg h]; simp [pG, pU, nuL, flL]
  by_cases h1 : d.f = 0
  · by_cases h2 : d.g = 0
    · cases h3 : d.u
      · left; exact ⟨by simpa using h1, by simpa using h2, rfl, by unfold pF; rw [if_pos ⟨h1, h2, h3⟩]⟩
      · have e2 := e (fun h => by have := h.2.2; rw [h3] at this; cases this)
        rw [h3] at e2
        right; left; exact ⟨by simpa using h1, by simpa using h2, rfl, e2⟩
    · right; right; left; exact ⟨by simpa using h1, by simpa using h2, e (fun h => h2 h.2.1)⟩
  · right; right; right; exact ⟨by simpa using h1, e (fun h => h1 h.1)⟩
theorem flL_len (c : UInt8) (x : Bool) : (flL c x).length ≤ 1 := by unfold flL; split <;> simp
set_option maxHeartbeats 2000000 in
theorem fielderSign_any (d : Dl) (hf : 0 ≤ d.f ∧ d.f ≤ 11) (hg : 0 ≤ d.g ∧ d.g ≤ 11) (w : World) : Calls Tryz.prog 82 #[DV d] w fun e w' => e = .returned (S (pF d)) ∧ Below w.heap.size w w' := by
  have hc := pF_cases d
  have A1 := at_class (W := (w.alloc (.cells #[.int .u8 d.t, .int .u8 d.s, .int .i64 d.r, .int .i64 d.sh, .int .i64 d.b, .bool d.x, .int .u8 d.h, .int .i64 d.v, .int .i64 d.f, .int .i64 d.g, .bool d.u, .int .i64 d.z] DT))) (same_below (decimal_dg d.f hf.1 hf.2))
  have HN : ∀ w, Calls Tryz.prog 58 #[.string ⟨#[44]⟩, .int .i64 d.g] w fun e w' => e = .returned (S (nuL 44 d.g)) ∧ w = w' := numberSign_any 44 d.g hg.1 hg.2
  have A2 := at_class (W := (w.alloc (.cells #[.int .u8 d.t, .int .u8 d.s, .int .i64 d.r, .int .i64 d.sh, .int .i64 d.b, .bool d.x, .int .u8 d.h, .int .i64 d.v, .int .i64 d.f, .int .i64 d.g, .bool d.u, .int .i64 d.z] DT))) (same_below HN)
  have HF : ∀ w, Calls Tryz.prog 59 #[.string ⟨#[115]⟩, .bool d.u] w fun e w' => e = .returned (S (flL 115 d.u)) ∧ w = w' := flagSign_any 115 d.u
  have A3 := at_class (W := (w.alloc (.cells #[.int .u8 d.t, .int .u8 d.s, .int .i64 d.r, .int .i64 d.sh, .int .i64 d.b, .bool d.x, .int .u8 d.h, .int .i64 d.v, .int .i64 d.f, .int .i64 d.g, .bool d.u, .int .i64 d.z] DT))) (same_below HF)
  have z1 := str_size_le (dg_len d.f)
  have z2 := str_size_le (nuL_len 44 d.g)
  have z3 := str_size_le (flL_len 115 d.u)
  have hrow := box_row d w
  have k8 : (w.alloc (.cells #[.int .u8 d.t, .int .u8 d.s, .int .i64 d.r, .int .i64 d.sh, .int .i64 d.b, .bool d.x, .int .u8 d.h, .int .i64 d.v, .int .i64 d.f, .int .i64 d.g, .bool d.u, .int .i64 d.z] DT)).cell? ⟨w.heap.size, 8, none⟩ = some (.int .i64 d.f) := hrow.cell 8
  have k9 : (w.alloc (.cells #[.int .u8 d.t, .int .u8 d.s, .int .i64 d.r, .int .i64 d.sh, .int .i64 d.b, .bool d.x, .int .u8 d.h, .int .i64 d.v, .int .i64 d.f, .int .i64 d.g, .bool d.u, .int .i64 d.z] DT)).cell? ⟨w.heap.size, 9, none⟩ = some (.int .i64 d.g) := hrow.cell 9
  have k10 : (w.alloc (.cells #[.int .u8 d.t, .int .u8 d.s, .int .i64 d.r, .int .i64 d.sh, .int .i64 d.b, .bool d.x, .int .u8 d.h, .int .i64 d.v, .int .i64 d.f, .int .i64 d.g, .bool d.u, .int .i64 d.z] DT)).cell? ⟨w.heap.size, 10, none⟩ = some (.bool d.u) := hrow.cell 10
  have g8 := cell_regrown k8
  have g9 := cell_regrown k9
  have g10 := cell_regrown k10
  have hb7 := below_regrown (w.alloc (.cells #[.int .u8 d.t, .int .u8 d.s, .int .i64 d.r, .int .i64 d.sh, .int .i64 d.b, .bool d.x, .int .u8 d.h, .int .i64 d.v, .int .i64 d.f, .int .i64 d.g, .bool d.u, .int .i64 d.z] DT))
  have E : Hid (((⟨#[40]⟩ : ByteArray) ++ str (dg d.f) ++ str (nuL 44 d.g) ++ str (flL 115 d.u) ++ ⟨#[41]⟩) = str ([40] ++ dg d.f ++ nuL 44 d.g ++ flL 115 d.u ++ [41])) := Lib.hid (by
    rw [show (⟨#[40]⟩ : ByteArray) = str [40] from rfl, show (⟨#[41]⟩ : ByteArray) = str [41] from rfl, str_app, str_app, str_app, str_app])
  generalize [40] ++ dg d.f ++ nuL 44 d.g ++ flL 115 d.u ++ [41] = X at *
  generalize pF d = P at *
  generalize dg d.f = L1 at *
  generalize nuL 44 d.g = L2 at *
  generalize flL 115 d.u = L3 at *
  obtain ⟨t, s, r, sh, b, x, h, v, f, g, u, z⟩ := d
  dsimp only at *
  clear HN HF hrow k8 k9 k10 hf hg
  rcases hc with ⟨h1, h2, rfl, rfl⟩ | ⟨h1, h2, rfl, rfl⟩ | ⟨h1, h2, rfl⟩ | ⟨h1, rfl⟩
  · go_enter Tryz.func82, Tryz.ntmps82
    go_wp2
    go_ret
    exact ⟨rfl, by (repeat' (first | (with_reducible exact Below.refl _ _) | (with_reducible refine Below.setCell ?_ ?_ _) | (with_reducible refine Below.alloc ?_ ?_ _) | (with_reducible refine Below.drew ?_) | (with_reducible refine belowN ?_ _) | (with_reducible refine below_step ?_ ?_ (by with_reducible assumption)) | go_size))⟩
  all_goals
    go_enter Tryz.func82, Tryz.ntmps82
    go_wp2
    refine wp_region_quiet_below (by kernel_rfl) (by kernel_rfl) ?_; (repeat (first | go_big_quiet_step (first | with_reducible exact A1 _ _ | with_reducible exact A2 _ _ | with_reducible exact A3 _ _) | quiet_step (first | with_reducible exact A1 _ _ | with_reducible exact A2 _ _ | with_reducible exact A3 _ _))); refine wpQuiet_nil ?_; intro _ hw'; obtain ⟨⟨dq, osq⟩, hw''⟩ := hw'; subst hw''
    have hb8 := hb7 dq osq
    clear A1 A2 A3
    go_wp2
    go_ret
    exact ⟨by show Ending.returned (Value.string _) = _; rw [E.out], below_step (by (repeat' (first | (with_reducible exact Below.refl _ _) | (with_reducible refine Below.setCell ?_ ?_ _) | (with_reducible refine Below.alloc ?_ ?_ _) | (with_reducible refine Below.drew ?_) | (with_reducible refine belowN ?_ _) | (with_reducible refine below_step ?_ ?_ (by with_reducible assumption)) | go_size))) (by go_size) hb8⟩
theorem pF_len (d : Dl) : (pF d).length ≤ 10 := by
  have h1 := dg_len d.f
  have h2 : (pG d).length ≤ 3 := by have := nuL_len 44 d.g; exact this
  have h3 : (pU d).length ≤ 1 := by have := flL_len 115 d.u; exact this
  unfold pF; split
  · simp
  · simp; omega
theorem pF_empty (d : Dl) : (fdz d ∧ (str (pF d)).toList.isEmpty = true ∧ pF d = []) ∨ (¬ fdz d ∧ (str (pF d)).toList.isEmpty = false) := by
  rw [str_toList]
  unfold pF
  by_cases h : fdz d
  · left; rw [if_pos h]; exact ⟨h, rfl, rfl⟩
  · right; rw [if_neg h]; exact ⟨h, rfl⟩
theorem pW_cases (d : Dl) :
    ((d.h == 0) = true ∧ (d.v == 0) = true ∧ (str (pF d)).toList.isEmpty = true ∧ pW d = []) ∨ ((d.h == 0) = true ∧ (d.v == 0) = true ∧ (str (pF d)).toList.isEmpty = false ∧ pW d = [47] ++ [hch d.h] ++ dg d.v ++ pF d) ∨
    ((d.h == 0) = true ∧ (d.v == 0) = false ∧ pW d = [47] ++ [hch d.h] ++ dg d.v ++ pF d) ∨ ((d.h == 0) = false ∧ pW d = [47] ++ [hch d.h] ++ dg d.v ++ pF d) := by
  have e : ¬ (d.h = 0 ∧ d.v = 0 ∧ fdz d) → pW d = [47] ++ [hch d.h] ++ dg d.v ++ pF d := fun h => by unfold pW; rw [if_neg h]; rfl
  by_cases h1 : d.h = 0
  · by_cases h2 : d.v = 0
    · rcases pF_empty d with ⟨h3, h4, _⟩ | ⟨h3, h4⟩
      · left; exact ⟨by simpa using h1, by simpa using h2, h4, by unfold pW; rw [if_pos ⟨h1, h2, h3⟩]⟩
      · right; left; exact ⟨by simpa using h1, by simpa using h2, h4, e (fun h => h3 h.2.2)⟩
    · right; right; left; exact ⟨by simpa using h1, by simpa using h2, e (fun h => h2 h.2.1)⟩
  · right; right; right; exact ⟨by simpa using h1, e (fun h => h1 h.1)⟩
set_option maxHeartbeats 2000000 in
theorem wicketSign_any (d : Dl) (hh : 0 ≤ d.h ∧ d.h ≤ 10) (hv : 0 ≤ d.v ∧ d.v ≤ 2) (hf : 0 ≤ d.f ∧ d.f ≤ 11) (hg : 0 ≤ d.g ∧ d.g ≤ 11) (w : World) : Calls Tryz.prog 60 #[DV d] w fun e w' => e = .returned (S (pW d)) ∧ Below w.heap.size w w' := by
  have hc := pW_cases d
  have HF : Hid (∀ w, Calls Tryz.prog 82 #[DV d] w fun e w' => e = .returned (S (pF d)) ∧ Below w.heap.size w w') := Lib.hid (fielderSign_any d hf hg)
  have A1 := Lib.hid (same_below (sgn_how d.h hh.1 hh.2))
  have A2 := Lib.hid (same_below (sgn_dg d.v hv.1 (by omega)))
  have z0 := str_size_le (pF_len d)
  have z1 := str_size_le (dg_len d.v)
  have z2 : (str [hch d.h]).size = 1 := str_size _
  have hrow := Lib.hid (box_row d w)
  have E : Hid (((⟨#[47]⟩ : ByteArray) ++ str [hch d.h] ++ str (dg d.v) ++ str (pF d)) = str ([47] ++ [hch d.h] ++ dg d.v ++ pF d)) := Lib.hid (by
    rw [show (⟨#[47]⟩ : ByteArray) = str [47] from rfl, str_app, str_app, str_app])
  generalize [47] ++ [hch d.h] ++ dg d.v ++ pF d = X at *
  generalize pW d = P at *
  generalize pF d = F at *
  generalize dg d.v = L1 at *
  generalize [hch d.h] = L2 at *
  obtain ⟨t, s, r, sh, b, x, h, v, f, g, u, z⟩ := d
  dsimp only at *
  have hwr : IntKind.i64.wrap h = h := by rw [IntKind.wrap_i64]; omega
  clear hv hf hg hh
  rcases hc with ⟨h1, h2, h3, rfl⟩ | ⟨h1, h2, h3, rfl⟩ | ⟨h1, h2, rfl⟩ | ⟨h1, rfl⟩
  · go_enter Tryz.func60, Tryz.ntmps60
    go_wp2_with (go_at_call 82; ((with_reducible refine (HF.out _).mono ?_); rintro e w1 ⟨rfl, hb1⟩); have hz1 := hb1.size; (try simp only [World.size_alloc, World.size_setCell, World.size_drew, size_drewN'] at hz1); (have k6 := (hb1.cell (p := ⟨w.heap.size, 6, none⟩) (by go_size)).trans (hrow.out.cell 6)); (have k7 := (hb1.cell (p := ⟨w.heap.size, 7, none⟩) (by go_size)).trans (hrow.out.cell 7)); simp only [DC, List.getElem?_cons_succ, List.getElem?_cons_zero] at k6 k7)
    go_ret
    exact ⟨rfl, below_step (by (repeat' (first | (with_reducible exact Below.refl _ _) | (with_reducible refine Below.setCell ?_ ?_ _) | (with_reducible refine Below.alloc ?_ ?_ _) | (with_reducible refine Below.drew ?_) | (with_reducible refine belowN ?_ _) | (with_reducible refine below_step ?_ ?_ (by with_reducible assumption)) | go_size))) (by go_size) hb1⟩
  all_goals
    go_enter Tryz.func60, Tryz.ntmps60
    go_wp2_with (go_at_call 82; ((with_reducible refine (HF.out _).mono ?_); rintro e w1 ⟨rfl, hb1⟩); have hz1 := hb1.size; (try simp only [World.size_alloc, World.size_setCell, World.size_drew, size_drewN'] at hz1); (have k6 := (hb1.cell (p := ⟨w.heap.size, 6, none⟩) (by go_size)).trans (hrow.out.cell 6)); (have k7 := (hb1.cell (p := ⟨w.heap.size, 7, none⟩) (by go_size)).trans (hrow.out.cell 7)); simp only [DC, List.getElem?_cons_succ, List.getElem?_cons_zero] at k6 k7)
    have g6 := cell_regrown k6
    have g7 := cell_regrown k7
    have B1 := at_class (W := w1) A1.out
    have B2 := at_class (W := w1) A2.out
    refine wp_region_quiet_below (by kernel_rfl) (by kernel_rfl) ?_; (repeat (first | go_big_quiet_step (first | with_reducible exact B1 _ _ | with_reducible exact B2 _ _) | quiet_step (first | with_reducible exact B1 _ _ | with_reducible exact B2 _ _))); refine wpQuiet_nil ?_; intro _ hw'; obtain ⟨⟨dq, osq⟩, hw''⟩ := hw'; subst hw''
    have hb8 := below_regrown w1 dq osq
    clear B1 B2
    go_wp2
    go_ret
    exact ⟨by show Ending.returned (Value.string _) = _; rw [E.out], below_step (below_step (by (repeat' (first | (with_reducible exact Below.refl _ _) | (with_reducible refine Below.setCell ?_ ?_ _) | (with_reducible refine Below.alloc ?_ ?_ _) | (with_reducible refine Below.drew ?_) | (with_reducible refine belowN ?_ _) | (with_reducible refine below_step ?_ ?_ (by with_reducible assumption)) | go_size))) (by go_size) hb1) (by go_size) hb8⟩

theorem pW_len (d : Dl) : (pW d).length ≤ 14 := by
  have h1 := dg_len d.v
  have h2 := pF_len d
  unfold pW; split
  · simp
  · simp; omega
theorem pR_len (d : Dl) : (pR d).length ≤ 2 := by
  have h1 := dg_len d.r
  unfold pR; split
  · simp
  · exact h1
theorem tyL_len (t : Int) : (tyL t).length ≤ 1 := by unfold tyL; split <;> (try split) <;> simp
theorem bdL_len (t : Int) : (bdL t).length ≤ 1 := by unfold bdL; split <;> (try split) <;> simp
theorem pS_len (d : Dl) : (pS d).length ≤ 1 := by unfold pS; split <;> simp
theorem sym_sum (d : Dl) : sym d = tyL d.t ++ pS d ++ pR d ++ bdL d.b ++ nuL 45 d.sh ++ flL 120 d.x ++ pW d ++ nuL 64 d.z := by
  have : pT d = tyL d.t ∧ pB d = bdL d.b ∧ pH d = nuL 45 d.sh ∧ pX d = flL 120 d.x ∧ pZ d = nuL 64 d.z := ⟨rfl, rfl, rfl, rfl, rfl⟩
  unfold sym
  rw [this.1, this.2.1, this.2.2.1, this.2.2.2.1, this.2.2.2.2]
  simp only [List.append_assoc]
/-- What Print gives. -/
def prL (d : Dl) : List UInt8 := if chk d = 0 then sym d else []
set_option maxHeartbeats 2000000 in
theorem print_any (d : Dl) (hw : Wf d) (w : World) : Calls Tryz.prog 28 #[DV d] w fun e w' => e = .returned (.tuple #[S (prL d), .int .i64 (chk d)]) ∧ Below w.heap.size w w' := by
  have HC := Lib.hid (noChk_any d)
  have hrow := Lib.hid (box_row d w)
  by_cases hk : chk d = 0
  · obtain ⟨hT, hR⟩ := chk_ok hk
    have e0 : prL d = sym d := by unfold prL; rw [if_pos hk]
    rw [e0, hk]
    rw [hk] at HC
    obtain ⟨r1, r2, r3, r4, r5, r6, r7⟩ := hR
    have A1 := Lib.hid (same_below (typeSign_any d.t hT.1 hT.2.1))
    have A2 := Lib.hid (sourceSign_any d hT hw)
    have A3 := Lib.hid (runsSign_any d r1)
    have A4 := Lib.hid (same_below (boundarySign_any d.b r3))
    have A5 : Hid (∀ w, Calls Tryz.prog 58 #[.string ⟨#[45]⟩, .int .i64 d.sh] w fun e w' => e = .returned (S (nuL 45 d.sh)) ∧ Below w.heap.size w w') := Lib.hid (same_below (numberSign_any 45 d.sh r2.1 (by omega)))
    have A6 : Hid (∀ w, Calls Tryz.prog 59 #[.string ⟨#[120]⟩, .bool d.x] w fun e w' => e = .returned (S (flL 120 d.x)) ∧ Below w.heap.size w w') := Lib.hid (same_below (flagSign_any 120 d.x))
    have A7 := Lib.hid (wicketSign_any d ⟨hw.2.2, hT.2.2.2⟩ r4 r5 r6)
    have A8 : Hid (∀ w, Calls Tryz.prog 58 #[.string ⟨#[64]⟩, .int .i64 d.z] w fun e w' => e = .returned (S (nuL 64 d.z)) ∧ Below w.heap.size w w') := Lib.hid (same_below (numberSign_any 64 d.z r7.1 (by omega)))
    have z1 := str_size_le (tyL_len d.t)
    have z2 := str_size_le (pS_len d)
    have z3 := str_size_le (pR_len d)
    have z4 := str_size_le (bdL_len d.b)
    have z5 := str_size_le (nuL_len 45 d.sh)
    have z6 := str_size_le (flL_len 120 d.x)
    have z7 := str_size_le (pW_len d)
    have z8 := str_size_le (nuL_len 64 d.z)
    have E : Hid (str (tyL d.t) ++ str (pS d) ++ str (pR d) ++ str (bdL d.b) ++ str (nuL 45 d.sh) ++ str (flL 120 d.x) ++ str (pW d) ++ str (nuL 64 d.z) = str (sym d)) := Lib.hid (by
      rw [sym_sum, str_app, str_app, str_app, str_app, str_app, str_app, str_app])
    generalize sym d = X at *
    generalize tyL d.t = L1 at *
    generalize pS d = L2 at *
    generalize pR d = L3 at *
    generalize bdL d.b = L4 at *
    generalize nuL 45 d.sh = L5 at *
    generalize flL 120 d.x = L6 at *
    generalize pW d = L7 at *
    generalize nuL 64 d.z = L8 at *
    clear e0 hk hT r1 r2 r3 r4 r5 r6 r7 hw
    obtain ⟨t, s, r, sh, b, x, h, v, f, g, u, z⟩ := d
    dsimp only at *
    go_enter Tryz.func28, Tryz.ntmps28
    go_wp2_with (go_at_call 34; ((with_reducible refine (HC.out _).mono ?_); rintro e w1 ⟨rfl, hb1⟩); have hz1 := hb1.size; (try simp only [World.size_alloc, World.size_setCell, World.size_drew, size_drewN'] at hz1))
    have hr1 := hrow.out.below hb1 (by go_size)
    have k0 : w1.cell? ⟨w.heap.size, 0, none⟩ = some (.int .u8 t) := hr1.cell 0
    have k1 : w1.cell? ⟨w.heap.size, 1, none⟩ = some (.int .u8 s) := hr1.cell 1
    have k2 : w1.cell? ⟨w.heap.size, 2, none⟩ = some (.int .i64 r) := hr1.cell 2
    have k3 : w1.cell? ⟨w.heap.size, 3, none⟩ = some (.int .i64 sh) := hr1.cell 3
    have k4 : w1.cell? ⟨w.heap.size, 4, none⟩ = some (.int .i64 b) := hr1.cell 4
    have k5 : w1.cell? ⟨w.heap.size, 5, none⟩ = some (.bool x) := hr1.cell 5
    have k6 : w1.cell? ⟨w.heap.size, 6, none⟩ = some (.int .u8 h) := hr1.cell 6
    have k7 : w1.cell? ⟨w.heap.size, 7, none⟩ = some (.int .i64 v) := hr1.cell 7
    have k8 : w1.cell? ⟨w.heap.size, 8, none⟩ = some (.int .i64 f) := hr1.cell 8
    have k9 : w1.cell? ⟨w.heap.size, 9, none⟩ = some (.int .i64 g) := hr1.cell 9
    have k10 : w1.cell? ⟨w.heap.size, 10, none⟩ = some (.bool u) := hr1.cell 10
    have k11 : w1.cell? ⟨w.heap.size, 11, none⟩ = some (.int .i64 z) := hr1.cell 11
    have g0 := cell_regrown k0
    have g1 := cell_regrown k1
    have g2 := cell_regrown k2
    have g3 := cell_regrown k3
    have g4 := cell_regrown k4
    have g5 := cell_regrown k5
    have g6 := cell_regrown k6
    have g7 := cell_regrown k7
    have g8 := cell_regrown k8
    have g9 := cell_regrown k9
    have g10 := cell_regrown k10
    have g11 := cell_regrown k11
    have B1 := at_class (W := w1) A1.out
    have B2 := at_class (W := w1) A2.out
    have B3 := at_class (W := w1) A3.out
    have B4 := at_class (W := w1) A4.out
    have B5 := at_class (W := w1) A5.out
    have B6 := at_class (W := w1) A6.out
    have B7 := at_class (W := w1) A7.out
    have B8 := at_class (W := w1) A8.out
    clear hr1
    refine wp_region_quiet_below (by kernel_rfl) (by kernel_rfl) ?_; (repeat (first | go_big_quiet_step (first | with_reducible exact B1 _ _ | with_reducible exact B2 _ _ | with_reducible exact B3 _ _ | with_reducible exact B4 _ _ | with_reducible exact B5 _ _ | with_reducible exact B6 _ _ | with_reducible exact B7 _ _ | with_reducible exact B8 _ _) | quiet_step (first | with_reducible exact B1 _ _ | with_reducible exact B2 _ _ | with_reducible exact B3 _ _ | with_reducible exact B4 _ _ | with_reducible exact B5 _ _ | with_reducible exact B6 _ _ | with_reducible exact B7 _ _ | with_reducible exact B8 _ _))); refine wpQuiet_nil ?_; intro _ hw'; obtain ⟨⟨dq, osq⟩, hw''⟩ := hw'; subst hw''
    have hb8 := below_regrown w1 dq osq
    clear B1 B2 B3 B4 B5 B6 B7 B8
    go_wp2
    go_returns
    exact ⟨by show Ending.returned (Value.tuple #[Value.string _, Value.int .i64 0]) = _; rw [E.out], below_step (below_step (by (repeat' (first | (with_reducible exact Below.refl _ _) | (with_reducible refine Below.setCell ?_ ?_ _) | (with_reducible refine Below.alloc ?_ ?_ _) | (with_reducible refine Below.drew ?_) | (with_reducible refine belowN ?_ _) | (with_reducible refine below_step ?_ ?_ (by with_reducible assumption)) | go_size))) (by go_size) hb1) (by go_size) hb8⟩
  · have e0 : prL d = [] := by unfold prL; rw [if_neg hk]
    have kk : (chk d != 0) = true := by simpa using hk
    rw [e0]
    generalize chk d = C at *
    obtain ⟨t, s, r, sh, b, x, h, v, f, g, u, z⟩ := d
    dsimp only at *
    clear hk e0
    go_enter Tryz.func28, Tryz.ntmps28
    go_wp2_with (go_at_call 34; ((with_reducible refine (HC.out _).mono ?_); rintro e w1 ⟨rfl, hb1⟩); have hz1 := hb1.size; (try simp only [World.size_alloc, World.size_setCell, World.size_drew, size_drewN'] at hz1))
    go_returns
    exact ⟨rfl, below_step (by (repeat' (first | (with_reducible exact Below.refl _ _) | (with_reducible refine Below.setCell ?_ ?_ _) | (with_reducible refine Below.alloc ?_ ?_ _) | (with_reducible refine Below.drew ?_) | (with_reducible refine belowN ?_ _) | (with_reducible refine below_step ?_ ?_ (by with_reducible assumption)) | go_size))) (by go_size) hb1⟩
end Go.Proofs.YtdgmogmldfhgcaaGreatDoor
