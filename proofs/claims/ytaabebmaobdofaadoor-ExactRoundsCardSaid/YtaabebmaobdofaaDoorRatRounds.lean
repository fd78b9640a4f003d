/- Floor, Ceil and Round of package exact give the numbers of the reference, in order, the nearest one at most one half away: ExactRounds returns true for every input, and old memory is as it was. Condition: the listed tables of the library are as the program's text lays them (the card ties them). -/
import Derived.Test.YtaabebmaobdofaaDoorRatK
import Derived.Test.YtaabebmaobdofaaDoorRatL
import Derived.Test.YtaabebmaobdofaaDoorRatI
set_option linter.unusedSimpArgs false
set_option linter.unusedVariables false
namespace Go.Proofs.YtaabebmaobdofaaDoor
open Go.ChangeShapes Go.WideShapes Go.ChangeAt Go.RowKit

theorem fdiv_lo (n d : Int) (h : 1 ≤ d) : n.fdiv d * d ≤ n ∧ n < n.fdiv d * d + d := by
  have h1 := Int.fmod_add_mul_fdiv n d
  have h2 := Int.fmod_nonneg_of_pos n (show 0 < d by omega)
  have h3 := Int.fmod_lt_of_pos n (show 0 < d by omega)
  rw [Int.mul_comm] at h1
  omega
theorem lt_or' (a b : Int) : a < b ∨ b ≤ a := by omega
theorem mul_le_of {a b d : Int} (h : 1 ≤ d) (hab : a ≤ b) : a * d ≤ b * d := Int.mul_le_mul_of_nonneg_right hab (by omega)
/-- The three numbers, in order; the products of the last test. -/
theorem rounds_in (n d : Int) (hv : validB n d = true) :
    loI n d ≤ midI n d ∧ midI n d ≤ hiI n d ∧ hiI n d - loI n d ≤ 1 ∧ -2147483648 ≤ loI n d ∧ hiI n d ≤ 2147483648 ∧
    2 * n < (2 * midI n d + 1) * d ∧ (2 * midI n d + 1) * d ≤ 17179869184 ∧ (2 * midI n d - 1) * d ≤ 2 * n ∧ -17179869184 ≤ (2 * midI n d - 1) * d := by
  obtain ⟨b1, b2, b3, b4⟩ := valid_bound hv
  have e1 : loI n d = n.fdiv d := by simp [loI, hv]
  have e2 : midI n d = (2 * n + d).fdiv (2 * d) := by simp [midI, hv]
  have e3 : hiI n d = ceilI n d := by simp [hiI, hv]
  have e4 : ceilI n d = if n.tmod d = 0 then n.fdiv d else n.fdiv d + 1 := by unfold ceilI; rw [if_pos (quoE_pos b1)]
  obtain ⟨p1, p2⟩ := fdiv_lo n d b1
  obtain ⟨q1, q2⟩ := fdiv_lo (2 * n + d) (2 * d) (by omega)
  rw [e1, e2, e3, e4]
  have hex : n.tmod d = 0 → n = n.fdiv d * d := by
    intro h
    have h5 := Int.mul_tdiv_add_tmod n d
    rw [h, ← fdiv_0 n d h, Int.mul_comm] at h5; omega
  generalize n.fdiv d = L at *
  generalize (2 * n + d).fdiv (2 * d) = M at *
  have m1 : M * (2 * d) = 2 * (M * d) := by grind
  have m2 : (2 * M + 1) * d = 2 * (M * d) + d := by grind
  have m3 : (2 * M - 1) * d = 2 * (M * d) - d := by grind
  rw [m1] at q1 q2
  rw [m2, m3]
  have lm : L ≤ M := by
    rcases lt_or' M L with h | h
    · have := mul_le_of b1 (show M + 1 ≤ L by omega)
      rw [Int.add_mul, Int.one_mul] at this; omega
    · exact h
  have ml : M ≤ L + 1 := by
    rcases lt_or' (L + 1) M with h | h
    · have := mul_le_of b1 (show L + 2 ≤ M by omega)
      rw [Int.add_mul] at this; omega
    · exact h
  have ll : -2147483648 ≤ L := by
    rcases lt_or' L (-2147483648) with h | h
    · have := mul_le_of b1 (show L + 1 ≤ -2147483648 by omega)
      rw [Int.add_mul, Int.one_mul] at this; omega
    · exact h
  have lu : L ≤ 2147483648 := by
    rcases lt_or' 2147483648 L with h | h
    · have := mul_le_of b1 (show 2147483649 ≤ L by omega)
      omega
    · exact h
  by_cases hr : n.tmod d = 0
  · have hx := hex hr
    rw [if_pos hr]
    have ml2 : M ≤ L := by
      rcases lt_or' L M with h | h
      · have := mul_le_of b1 (show L + 1 ≤ M by omega)
        rw [Int.add_mul, Int.one_mul] at this; omega
      · exact h
    omega
  · rw [if_neg hr]
    have hne : L + 1 ≤ 2147483648 := by
      rcases lt_or' 2147483647 L with h | h
      · have := mul_le_of b1 (show 2147483648 ≤ L by omega)
        have hd1 : d = 1 := by omega
        exfalso; apply hr; rw [hd1]; simp
      · omega
    omega

set_option maxHeartbeats 4000000 in
theorem exactRounds_walk (n d : Int) (w : World) (hn : I64 n) (hd : I64 d) :
    Calls Tryd.prog 8 #[R2 n d] w fun e w' => e = .returned (.bool true) ∧ Below w.heap.size w w' := by
  have HA : Hid (∀ w, Calls Tryd.prog 12 #[] w fun e w' => e = .returned (.bool true) ∧ Below w.heap.size w w') := Lib.hid awake_any
  have H1 : Hid (∀ w, Calls Tryd.prog 35 #[R2 n d] w fun e w' => e = .returned (.tuple #[.int .i64 (loI n d), .int .i64 (rdE n d)]) ∧ Below w.heap.size w w') := Lib.hid (fun w => floorQ_any n d w hn hd)
  have H2 : Hid (∀ w, Calls Tryd.prog 36 #[R2 n d] w fun e w' => e = .returned (.tuple #[.int .i64 (midI n d), .int .i64 (rdE n d)]) ∧ Below w.heap.size w w') := Lib.hid (fun w => roundQ_any n d w hn hd)
  have H3 : Hid (∀ w, Calls Tryd.prog 37 #[R2 n d] w fun e w' => e = .returned (.tuple #[.int .i64 (hiI n d), .int .i64 (rdE n d)]) ∧ Below w.heap.size w w') := Lib.hid (fun w => ceilQ_any n d w hn hd)
  have H4 : Hid (∀ w, Calls Tryd.prog 38 #[R2 n d] w fun e w' => e = .returned (.tuple #[.int .i64 (loI n d), .int .i64 (rdE n d)]) ∧ Below w.heap.size w w') := Lib.hid (fun w => rfloorQ_any n d w hn hd)
  have H5 : Hid (∀ w, Calls Tryd.prog 39 #[R2 n d] w fun e w' => e = .returned (.tuple #[.int .i64 (midI n d), .int .i64 (rdE n d)]) ∧ Below w.heap.size w w') := Lib.hid (fun w => rroundQ_any n d w hn hd)
  have H6 : Hid (∀ w, Calls Tryd.prog 40 #[R2 n d] w fun e w' => e = .returned (.tuple #[.int .i64 (hiI n d), .int .i64 (rdE n d)]) ∧ Below w.heap.size w w') := Lib.hid (fun w => rceilQ_any n d w hn hd)
  cases hv : validB n d
  · have e : rdE n d = 1 := by simp [rdE, hv]
    rw [e] at H1 H2 H3 H4 H5 H6
    clear e hv
    generalize loI n d = L at *
    generalize midI n d = M at *
    generalize hiI n d = U at *
    go_enter Tryd.func8, Tryd.ntmps8
    go_wp2_with (first | (go_at_call 12; ((with_reducible refine (HA.out _).mono ?_); rintro e w1 ⟨rfl, hb1⟩); have hz1 := hb1.size; (try simp only [World.size_alloc, World.size_setCell, World.size_drew, size_drewN'] at hz1); have : w.heap.size < w1.heap.size := (by omega); have := hb1.cell (p := ⟨w.heap.size, 0, none⟩) (by go_size); simp [go_sem, *] at this; have := hb1.frozen (p := ⟨w.heap.size, 0, none⟩) (by go_size); simp [go_sem, *] at this; have := hb1.cell (p := ⟨w.heap.size, 1, none⟩) (by go_size); simp [go_sem, *] at this; have := hb1.frozen (p := ⟨w.heap.size, 1, none⟩) (by go_size); simp [go_sem, *] at this) | (go_at_call 35; ((with_reducible refine (H1.out _).mono ?_); rintro e w2 ⟨rfl, hb2⟩); have hz2 := hb2.size; (try simp only [World.size_alloc, World.size_setCell, World.size_drew, size_drewN'] at hz2); have : w.heap.size < w2.heap.size := (by omega); have := hb2.cell (p := ⟨w.heap.size, 0, none⟩) (by go_size); simp [go_sem, *] at this; have := hb2.frozen (p := ⟨w.heap.size, 0, none⟩) (by go_size); simp [go_sem, *] at this; have := hb2.cell (p := ⟨w.heap.size, 1, none⟩) (by go_size); simp [go_sem, *] at this; have := hb2.frozen (p := ⟨w.heap.size, 1, none⟩) (by go_size); simp [go_sem, *] at this) | (go_at_call 36; ((with_reducible refine (H2.out _).mono ?_); rintro e w3 ⟨rfl, hb3⟩); have hz3 := hb3.size; (try simp only [World.size_alloc, World.size_setCell, World.size_drew, size_drewN'] at hz3); have : w.heap.size < w3.heap.size := (by omega); have := hb3.cell (p := ⟨w.heap.size, 0, none⟩) (by go_size); simp [go_sem, *] at this; have := hb3.frozen (p := ⟨w.heap.size, 0, none⟩) (by go_size); simp [go_sem, *] at this; have := hb3.cell (p := ⟨w.heap.size, 1, none⟩) (by go_size); simp [go_sem, *] at this; have := hb3.frozen (p := ⟨w.heap.size, 1, none⟩) (by go_size); simp [go_sem, *] at this) | (go_at_call 37; ((with_reducible refine (H3.out _).mono ?_); rintro e w4 ⟨rfl, hb4⟩); have hz4 := hb4.size; (try simp only [World.size_alloc, World.size_setCell, World.size_drew, size_drewN'] at hz4); have : w.heap.size < w4.heap.size := (by omega); have := hb4.cell (p := ⟨w.heap.size, 0, none⟩) (by go_size); simp [go_sem, *] at this; have := hb4.frozen (p := ⟨w.heap.size, 0, none⟩) (by go_size); simp [go_sem, *] at this; have := hb4.cell (p := ⟨w.heap.size, 1, none⟩) (by go_size); simp [go_sem, *] at this; have := hb4.frozen (p := ⟨w.heap.size, 1, none⟩) (by go_size); simp [go_sem, *] at this) | (go_at_call 38; ((with_reducible refine (H4.out _).mono ?_); rintro e w5 ⟨rfl, hb5⟩); have hz5 := hb5.size; (try simp only [World.size_alloc, World.size_setCell, World.size_drew, size_drewN'] at hz5); have : w.heap.size < w5.heap.size := (by omega); have := hb5.cell (p := ⟨w.heap.size, 0, none⟩) (by go_size); simp [go_sem, *] at this; have := hb5.frozen (p := ⟨w.heap.size, 0, none⟩) (by go_size); simp [go_sem, *] at this; have := hb5.cell (p := ⟨w.heap.size, 1, none⟩) (by go_size); simp [go_sem, *] at this; have := hb5.frozen (p := ⟨w.heap.size, 1, none⟩) (by go_size); simp [go_sem, *] at this) | (go_at_call 39; ((with_reducible refine (H5.out _).mono ?_); rintro e w6 ⟨rfl, hb6⟩); have hz6 := hb6.size; (try simp only [World.size_alloc, World.size_setCell, World.size_drew, size_drewN'] at hz6); have : w.heap.size < w6.heap.size := (by omega); have := hb6.cell (p := ⟨w.heap.size, 0, none⟩) (by go_size); simp [go_sem, *] at this; have := hb6.frozen (p := ⟨w.heap.size, 0, none⟩) (by go_size); simp [go_sem, *] at this; have := hb6.cell (p := ⟨w.heap.size, 1, none⟩) (by go_size); simp [go_sem, *] at this; have := hb6.frozen (p := ⟨w.heap.size, 1, none⟩) (by go_size); simp [go_sem, *] at this) | (go_at_call 40; ((with_reducible refine (H6.out _).mono ?_); rintro e w7 ⟨rfl, hb7⟩); have hz7 := hb7.size; (try simp only [World.size_alloc, World.size_setCell, World.size_drew, size_drewN'] at hz7); have : w.heap.size < w7.heap.size := (by omega); have := hb7.cell (p := ⟨w.heap.size, 0, none⟩) (by go_size); simp [go_sem, *] at this; have := hb7.frozen (p := ⟨w.heap.size, 0, none⟩) (by go_size); simp [go_sem, *] at this; have := hb7.cell (p := ⟨w.heap.size, 1, none⟩) (by go_size); simp [go_sem, *] at this; have := hb7.frozen (p := ⟨w.heap.size, 1, none⟩) (by go_size); simp [go_sem, *] at this))
    go_ret
    exact ⟨rfl, by (repeat' (first | (with_reducible exact Below.refl _ _) | (with_reducible refine Below.setCell ?_ ?_ _) | (with_reducible refine Below.alloc ?_ ?_ _) | (with_reducible refine Below.drew ?_) | (with_reducible refine belowN ?_ _) | (with_reducible refine below_step ?_ ?_ (by with_reducible assumption)) | go_size))⟩
  · have e : rdE n d = 0 := by simp [rdE, hv]
    rw [e] at H1 H2 H3 H4 H5 H6
    obtain ⟨r1, r2, r3, r4, r5, r6, r7, r8, r9⟩ := rounds_in n d hv
    obtain ⟨b1, b2, b3, b4⟩ := valid_bound hv
    clear e hv
    generalize loI n d = L at *
    generalize midI n d = M at *
    generalize hiI n d = U at *
    obtain ⟨P, hP⟩ : ∃ P, (2 * M + 1) * d = P := ⟨_, rfl⟩
    obtain ⟨Q, hQ⟩ : ∃ Q, (2 * M - 1) * d = Q := ⟨_, rfl⟩
    rw [hP] at r6 r7
    rw [hQ] at r8 r9
    have hP2 : wrap64 ((2 * M + 1) * d) = P := by rw [hP]; exact w64_id (by omega) (by omega)
    have hQ2 : wrap64 ((2 * M - 1) * d) = Q := by rw [hQ]; exact w64_id (by omega) (by omega)
    have t1 : ¬ U - L > 1 := by omega
    go_enter Tryd.func8, Tryd.ntmps8
    go_wp2_with (first | (go_at_call 12; ((with_reducible refine (HA.out _).mono ?_); rintro e w1 ⟨rfl, hb1⟩); have hz1 := hb1.size; (try simp only [World.size_alloc, World.size_setCell, World.size_drew, size_drewN'] at hz1); have : w.heap.size < w1.heap.size := (by omega); have := hb1.cell (p := ⟨w.heap.size, 0, none⟩) (by go_size); simp [go_sem, *] at this; have := hb1.frozen (p := ⟨w.heap.size, 0, none⟩) (by go_size); simp [go_sem, *] at this; have := hb1.cell (p := ⟨w.heap.size, 1, none⟩) (by go_size); simp [go_sem, *] at this; have := hb1.frozen (p := ⟨w.heap.size, 1, none⟩) (by go_size); simp [go_sem, *] at this) | (go_at_call 35; ((with_reducible refine (H1.out _).mono ?_); rintro e w2 ⟨rfl, hb2⟩); have hz2 := hb2.size; (try simp only [World.size_alloc, World.size_setCell, World.size_drew, size_drewN'] at hz2); have : w.heap.size < w2.heap.size := (by omega); have := hb2.cell (p := ⟨w.heap.size, 0, none⟩) (by go_size); simp [go_sem, *] at this; have := hb2.frozen (p := ⟨w.heap.size, 0, none⟩) (by go_size); simp [go_sem, *] at this; have := hb2.cell (p := ⟨w.heap.size, 1, none⟩) (by go_size); simp [go_sem, *] at this; have := hb2.frozen (p := ⟨w.heap.size, 1, none⟩) (by go_size); simp [go_sem, *] at this) | (go_at_call 36; ((with_reducible refine (H2.out _).mono ?_); rintro e w3 ⟨rfl, hb3⟩); have hz3 := hb3.size; (try simp only [World.size_alloc, World.size_setCell, World.size_drew, size_drewN'] at hz3); have : w.heap.size < w3.heap.size := (by omega); have := hb3.cell (p := ⟨w.heap.size, 0, none⟩) (by go_size); simp [go_sem, *] at this; have := hb3.frozen (p := ⟨w.heap.size, 0, none⟩) (by go_size); simp [go_sem, *] at this; have := hb3.cell (p := ⟨w.heap.size, 1, none⟩) (by go_size); simp [go_sem, *] at this; have := hb3.frozen (p := ⟨w.heap.size, 1, none⟩) (by go_size); simp [go_sem, *] at this) | (go_at_call 37; ((with_reducible refine (H3.out _).mono ?_); rintro e w4 ⟨rfl, hb4⟩); have hz4 := hb4.size; (try simp only [World.size_alloc, World.size_setCell, World.size_drew, size_drewN'] at hz4); have : w.heap.size < w4.heap.size := (by omega); have := hb4.cell (p := ⟨w.heap.size, 0, none⟩) (by go_size); simp [go_sem, *] at this; have := hb4.frozen (p := ⟨w.heap.size, 0, none⟩) (by go_size); simp [go_sem, *] at this; have := hb4.cell (p := ⟨w.heap.size, 1, none⟩) (by go_size); simp [go_sem, *] at this; have := hb4.frozen (p := ⟨w.heap.size, 1, none⟩) (by go_size); simp [go_sem, *] at this) | (go_at_call 38; ((with_reducible refine (H4.out _).mono ?_); rintro e w5 ⟨rfl, hb5⟩); have hz5 := hb5.size; (try simp only [World.size_alloc, World.size_setCell, World.size_drew, size_drewN'] at hz5); have : w.heap.size < w5.heap.size := (by omega); have := hb5.cell (p := ⟨w.heap.size, 0, none⟩) (by go_size); simp [go_sem, *] at this; have := hb5.frozen (p := ⟨w.heap.size, 0, none⟩) (by go_size); simp [go_sem, *] at this; have := hb5.cell (p := ⟨w.heap.size, 1, none⟩) (by go_size); simp [go_sem, *] at this; have := hb5.frozen (p := ⟨w.heap.size, 1, none⟩) (by go_size); simp [go_sem, *] at this) | (go_at_call 39; ((with_reducible refine (H5.out _).mono ?_); rintro e w6 ⟨rfl, hb6⟩); have hz6 := hb6.size; (try simp only [World.size_alloc, World.size_setCell, World.size_drew, size_drewN'] at hz6); have : w.heap.size < w6.heap.size := (by omega); have := hb6.cell (p := ⟨w.heap.size, 0, none⟩) (by go_size); simp [go_sem, *] at this; have := hb6.frozen (p := ⟨w.heap.size, 0, none⟩) (by go_size); simp [go_sem, *] at this; have := hb6.cell (p := ⟨w.heap.size, 1, none⟩) (by go_size); simp [go_sem, *] at this; have := hb6.frozen (p := ⟨w.heap.size, 1, none⟩) (by go_size); simp [go_sem, *] at this) | (go_at_call 40; ((with_reducible refine (H6.out _).mono ?_); rintro e w7 ⟨rfl, hb7⟩); have hz7 := hb7.size; (try simp only [World.size_alloc, World.size_setCell, World.size_drew, size_drewN'] at hz7); have : w.heap.size < w7.heap.size := (by omega); have := hb7.cell (p := ⟨w.heap.size, 0, none⟩) (by go_size); simp [go_sem, *] at this; have := hb7.frozen (p := ⟨w.heap.size, 0, none⟩) (by go_size); simp [go_sem, *] at this; have := hb7.cell (p := ⟨w.heap.size, 1, none⟩) (by go_size); simp [go_sem, *] at this; have := hb7.frozen (p := ⟨w.heap.size, 1, none⟩) (by go_size); simp [go_sem, *] at this))
    go_ret
    exact ⟨by simp, by (repeat' (first | (with_reducible exact Below.refl _ _) | (with_reducible refine Below.setCell ?_ ?_ _) | (with_reducible refine Below.alloc ?_ ?_ _) | (with_reducible refine Below.drew ?_) | (with_reducible refine belowN ?_ _) | (with_reducible refine below_step ?_ ?_ (by with_reducible assumption)) | go_size))⟩


set_option maxRecDepth 100000 in
theorem exactRounds_lifted (os : Os) (started : os.Started) (H : Type) (enc : TypeId × Value → H) :
    ReturnsInHanded {} Tryd.checked os 8 .any (fun w args => (Rows.exactRoundsSpec.pre enc Tryd.prog Tryd.f8 [] false w args ∧ laidMetH Tryd.prog laidE w) ∧ sizedMet enc Tryd.prog Tryd.f8 (OpenSpec.ofChange Rows.exactRoundsSpec) false w args)
      (Rows.exactRoundsSpec.post enc Tryd.prog Tryd.f8 false true false false) := by
  refine returnsInHanded_of_change_and (C := Tryd.checked) (X := fun w _ => laidMetH Tryd.prog laidE w) (fun _ _ _ hh h => h.of_heap hh) own started (by kernel_rfl) Tryd.func8
    (ChangeSpec.witness_shaped (enc := enc) (C := Tryd.checked) (os := os) (X := fun w _ => laidMetH Tryd.prog laidE w) false (World.doorLaid Tryd.prog 400 os) #[.agg #[.int .i64 0, .int .i64 0]] 8 rfl (World.shaped_of_RefB (by kernel_rfl) (by kernel_rfl)) (by kernel_rfl) (by kernel_rfl) (by kernel_rfl) (laidE_met os _)) ?_
  intro WW base args ds gs before hval hW _ _ hL _
  have hpost := fun (W' : World) (hb : Below WW.heap.size WW W') (hfn : Rows.exactRoundsSpec.fn H (ds ++ []) = { results := [.lit (.bool true)], args := ds }) =>
    post_of_law (fresh := true) (handsOn := false) laidOut (by rw [Tryd.params8]; intro t ht; simp at ht; (try subst ht) <;> (try (rcases ht with rfl | rfl)) <;> exact ⟨by kernel_rfl, of_decide_eq_true (by kernel_rfl)⟩) rfl hW (tb := 4) (by kernel_rfl) Tryd.underlying4 hfn hb
  obtain ⟨p, q, hA, hV, rfl, hfz, hnd⟩ := hW
  rw [Tryd.params8] at hA hval
  obtain ⟨v0, vs0, d0, ds0, p0, q0, hargs, rfl, rfl, h0, r0⟩ := trodAll_cons hA
  obtain ⟨rfl, rfl, rfl⟩ := trodAll_nil r0
  obtain rfl : args = #[v0] := by cases args; simp_all
  obtain ⟨a0, b0, rfl, g0, e0⟩ := open_ratio (hval 0 _ v0 rfl rfl) h0
  refine (exactRounds_walk a0 b0 WW g0 e0).mono fun e W' ⟨he, hg⟩ => ?_
  exact ⟨_, he, hpost W' hg rfl⟩

theorem exactRounds_holds : Rows.ExactRoundsSaid :=
  OpenClaim.holds_of_wide 8 Tryd.f8 rfl rfl rfl rfl rfl rfl rfl ⟨rfl, rfl, rfl, rfl, rfl⟩ rfl rfl rfl rfl rfl (by kernel_rfl) Tryd.func8 (by kernel_rfl)
    (of_decide_eq_true (by kernel_rfl)) (by unfold Func.isWrapper; first | (rw [if_pos (by decide +kernel)]; kernel_rfl) | (rw [if_neg (by decide +kernel)]; exact ⟨rfl, rfl⟩))
    (fun os started H enc _ => exactRounds_lifted os started H enc)

theorem exactRounds_card : Rows.ExactRoundsCardSaid :=
  Claim7.holds_tied_plain_at .later [] [.data, .data, .data] true Rows.exactRoundsCard.stood.harness Rows.exactRoundsCard.stood.looks
    exactRounds_holds (fun _ h => by cases h) (by kernel_rfl) (fun _ h => by cases h) exactRounds_row_tie rfl ⟨rfl, rfl⟩ (by kernel_rfl) rfl
    (fun f fn hf hfn => by
      obtain rfl : f = 8 := Option.some.inj ((show Tryd.prog.funcNamed "scorebook/scorebooklaw01.ExactRounds" = some 8 by kernel_rfl).symm.trans hf) |>.symm
      obtain rfl : fn = Tryd.f8 := (Option.some.inj (Tryd.func8.symm.trans hfn)).symm
      exact ⟨by kernel_rfl, fun j t ht => by
        rw [Tryd.params8] at ht
        have hm : t ∈ [24] := by simpa using Array.mem_of_getElem? ht
        have hall : ([24].all fun u => !Tryd.prog.wantsStandIn u) = true := by kernel_rfl
        exact (show Tryd.prog.wantsStandIn t = false by simpa using List.all_eq_true.1 hall t hm)⟩)
    (by kernel_rfl)
#print axioms exactRounds_card

end Go.Proofs.YtaabebmaobdofaaDoor
