/- Mul and Scale of package wide give what the reference gives: WideProducts returns true for every input, and old memory is as it was. No condition. -/
import Derived.Test.YtnglagdididkbaaWideK
import Derived.Test.YtnglagdididkbaaWideQ
import Derived.Test.YtnglagdididkbaaWideOpen
set_option linter.unusedSimpArgs false
set_option linter.unusedVariables false
namespace Go.Proofs.Ytnglagdididkbaa
open Go.ChangeShapes Go.WideShapes Go.ChangeAt Go.RowKit

set_option maxHeartbeats 4000000 in
theorem wideProducts_walk (a n m : Int) (w : World) (ha : fits a) (hn : I64 n) (hm : I64 m) :
    Calls Try.prog 4 #[W a, .int .i64 n, .int .i64 m] w fun e w' => e = .returned (.bool true) ∧ Below w.heap.size w w' := by
  go_enter Try.func4, Try.ntmps4
  go_wp2_with (first | (go_at_call 11; ((with_reducible refine (awake_any _).mono ?_); rintro e w1 ⟨rfl, hb1⟩); have hz1 := hb1.size; (try simp only [World.size_alloc, World.size_setCell, World.size_drew, size_drewN'] at hz1); have : w.heap.size < w1.heap.size := (by omega); have := hb1.cell (p := ⟨w.heap.size, 0, none⟩) (by go_size); simp [go_sem, *] at this; have := hb1.frozen (p := ⟨w.heap.size, 0, none⟩) (by go_size); simp [go_sem, *] at this; have := hb1.cell (p := ⟨w.heap.size, 1, none⟩) (by go_size); simp [go_sem, *] at this; have := hb1.frozen (p := ⟨w.heap.size, 1, none⟩) (by go_size); simp [go_sem, *] at this) | (go_at_call 20; ((with_reducible refine (scale_any _ _ _ ha hn).mono ?_); rintro e w2 ⟨rfl, hb2⟩); have hz2 := hb2.size; (try simp only [World.size_alloc, World.size_setCell, World.size_drew, size_drewN'] at hz2); have : w.heap.size < w2.heap.size := (by omega); have := hb2.cell (p := ⟨w.heap.size, 0, none⟩) (by go_size); simp [go_sem, *] at this; have := hb2.frozen (p := ⟨w.heap.size, 0, none⟩) (by go_size); simp [go_sem, *] at this; have := hb2.cell (p := ⟨w.heap.size, 1, none⟩) (by go_size); simp [go_sem, *] at this; have := hb2.frozen (p := ⟨w.heap.size, 1, none⟩) (by go_size); simp [go_sem, *] at this) | (go_at_call 21; ((with_reducible refine (rscale_any _ _ _ ha hn).mono ?_); rintro e w3 ⟨rfl, hb3⟩); have hz3 := hb3.size; (try simp only [World.size_alloc, World.size_setCell, World.size_drew, size_drewN'] at hz3); have : w.heap.size < w3.heap.size := (by omega); have := hb3.cell (p := ⟨w.heap.size, 0, none⟩) (by go_size); simp [go_sem, *] at this; have := hb3.frozen (p := ⟨w.heap.size, 0, none⟩) (by go_size); simp [go_sem, *] at this; have := hb3.cell (p := ⟨w.heap.size, 1, none⟩) (by go_size); simp [go_sem, *] at this; have := hb3.frozen (p := ⟨w.heap.size, 1, none⟩) (by go_size); simp [go_sem, *] at this; have : w2.heap.size < w3.heap.size := (by omega); have := hb3.cell (p := ⟨w2.heap.size, 0, none⟩) (by go_size); simp [go_sem, *] at this; have := hb3.frozen (p := ⟨w2.heap.size, 0, none⟩) (by go_size); simp [go_sem, *] at this; have := hb3.cell (p := ⟨w2.heap.size, 1, none⟩) (by go_size); simp [go_sem, *] at this; have := hb3.frozen (p := ⟨w2.heap.size, 1, none⟩) (by go_size); simp [go_sem, *] at this) |
    (go_at_call 22; ((with_reducible refine (mul_any _ _ _ hn hm).mono ?_); rintro e w4 ⟨rfl, hb4⟩); have hz4 := hb4.size; (try simp only [World.size_alloc, World.size_setCell, World.size_drew, size_drewN'] at hz4)) | (go_at_call 23; ((with_reducible refine (rmul_any _ _ _ hn hm).mono ?_); rintro e w5 ⟨rfl, hb5⟩); have hz5 := hb5.size; (try simp only [World.size_alloc, World.size_setCell, World.size_drew, size_drewN'] at hz5)))
  go_ret
  exact ⟨rfl, by (repeat' (first | (with_reducible exact Below.refl _ _) | (with_reducible refine Below.setCell ?_ ?_ _) | (with_reducible refine Below.alloc ?_ ?_ _) | (with_reducible refine Below.drew ?_) | (with_reducible refine belowN ?_ _) | (with_reducible refine below_step ?_ ?_ (by with_reducible assumption)) | go_size))⟩

set_option maxRecDepth 100000 in
theorem wideProducts_lifted (os : Os) (started : os.Started) (H : Type) (enc : TypeId × Value → H) :
    ReturnsInHanded {} Try.checked os 4 .any (Rows.wideProductsSpec.pre6 enc Try.prog Try.f4 Rows.wideProductsRow.domain false) (Rows.wideProductsSpec.post enc Try.prog Try.f4 false true false false) := by
  refine returnsInHanded_of_change (C := Try.checked) own started (by kernel_rfl) Try.func4
    (ChangeSpec.witness6 (enc := enc) (C := Try.checked) false ⟨#[], #[.agg #[.int .i64 0, .int .u64 0], .int .i64 0, .int .i64 0], []⟩ 8 (by kernel_rfl) (by kernel_rfl) (by kernel_rfl) (by kernel_rfl)) ?_
  intro W base args ds gs before hval hW _ _
  have hpost := fun (W' : World) (hb : Below W.heap.size W W') (hfn : Rows.wideProductsSpec.fn H (ds ++ []) = { results := [.lit (.bool true)], args := ds }) =>
    post_of_law (fresh := true) (handsOn := false) laidOut (by rw [Try.params4]; intro t ht; simp at ht; (try rcases ht with rfl | rfl) <;> exact ⟨by kernel_rfl, of_decide_eq_true (by kernel_rfl)⟩) rfl hW (tb := 4) (by kernel_rfl) Try.underlying4 hfn hb
  obtain ⟨p, q, hA, hV, rfl, hfz, hnd⟩ := hW
  rw [Try.params4] at hA hval
  obtain ⟨v0, vs0, d0, ds0, p0, q0, hargs, rfl, rfl, h0, r0⟩ := trodAll_cons hA
  obtain ⟨v1, vs1, d1, ds1, p1, q1, rfl, rfl, rfl, h1, r1⟩ := trodAll_cons r0
  obtain ⟨v2, vs2, d2, ds2, p2, q2, rfl, rfl, rfl, h2, r2⟩ := trodAll_cons r1
  obtain ⟨rfl, rfl, rfl⟩ := trodAll_nil r2
  obtain rfl : args = #[v0, v1, v2] := by cases args; simp_all
  obtain ⟨a, rfl, ha⟩ := open_wide (hval 0 _ v0 rfl rfl) h0
  obtain ⟨b, rfl, hb⟩ := open_i64 (hval 1 _ v1 rfl rfl) h1
  obtain ⟨n, rfl, hn⟩ := open_i64 (hval 2 _ v2 rfl rfl) h2
  refine (wideProducts_walk a b n W ha hb hn).mono fun e W' ⟨he, hg⟩ => ?_
  exact ⟨_, he, hpost W' hg rfl⟩

theorem wideProducts_holds : Rows.WideProductsSaid :=
  OpenClaim.holds_of_wide 4 Try.f4 rfl rfl rfl rfl rfl rfl rfl ⟨rfl, rfl, rfl, rfl, rfl⟩ rfl rfl rfl rfl rfl (by kernel_rfl) Try.func4 (by kernel_rfl)
    (of_decide_eq_true (by kernel_rfl)) (by unfold Func.isWrapper; first | (rw [if_pos (by decide +kernel)]; kernel_rfl) | (rw [if_neg (by decide +kernel)]; exact ⟨rfl, rfl⟩))
    (fun os started H enc _ => wideProducts_lifted os started H enc)
#print axioms wideProducts_holds
end Go.Proofs.Ytnglagdididkbaa
