/- Div of package wide gives what the reference gives: WideQuotients returns true for every input, and old memory is as it was. No condition. -/
import Derived.Test.YtnglagdididkbaaWideK
import Derived.Test.YtnglagdididkbaaWideX
import Derived.Test.YtnglagdididkbaaWideY
import Derived.Test.YtnglagdididkbaaWideOpen
set_option linter.unusedSimpArgs false
set_option linter.unusedVariables false
namespace Go.Proofs.Ytnglagdididkbaa
open Go.ChangeShapes Go.WideShapes Go.ChangeAt Go.RowKit

theorem rdiv_any (a d : Int) (w : World) (ha : fits a) (hd : I64 d) :
    Calls Try.prog 25 #[W a, .int .i64 d] w fun e w' =>
      e = .returned (.tuple #[W (divQ a d), .int .u64 (divR a d), .bool (divB a d)]) ∧ Below w.heap.size w w' := by
  unfold divQ divR divB
  by_cases hz : d = 0
  · subst hz
    simp only [if_true]
    rw [W_0]
    go_enter Try.func25, Try.ntmps25
    go_wp2
    refine bodyPost_ret (v := .tuple #[.agg #[.int .i64 0, .int .u64 0], .int .u64 0, .bool false]) (by simp [results, Try.results25, go_sem, *]) rfl ?_
    exact ⟨rfl, by (repeat' (first | (with_reducible exact Below.refl _ _) | (with_reducible refine Below.setCell ?_ ?_ _) | (with_reducible refine Below.alloc ?_ ?_ _) | (with_reducible refine Below.drew ?_) | (with_reducible refine belowN ?_ _) | (with_reducible refine below_step ?_ ?_ (by with_reducible assumption)) | go_size))⟩
  · simp only [if_neg hz]
    by_cases c1 : a < 0
    · by_cases c3 : size a % size d = 0
      · by_cases c2 : d < 0
        · exact rdiv_plain a d w false ha hd hz (fun h => h.2 c3) (by simp [c1, c2]) (.inr (.inr (.inr ⟨c1, c2, rfl⟩)))
        · exact rdiv_plain a d w true ha hd hz (fun h => h.2 c3) (by simp [c1, c2]) (.inr (.inr (.inl ⟨c1, c2, rfl⟩)))
      · by_cases c2 : d < 0
        · exact rdiv_fix a d w false ha hd hz c1 c3 (by simp [c1, c2]) (.inr ⟨c2, rfl⟩)
        · exact rdiv_fix a d w true ha hd hz c1 c3 (by simp [c1, c2]) (.inl ⟨c2, rfl⟩)
    · by_cases c2 : d < 0
      · exact rdiv_plain a d w true ha hd hz (fun h => c1 h.1) (by simp [c1, c2]) (.inr (.inl ⟨c1, c2, rfl⟩))
      · exact rdiv_plain a d w false ha hd hz (fun h => c1 h.1) (by simp [c1, c2]) (.inl ⟨c1, c2, rfl⟩)

set_option maxHeartbeats 4000000 in
theorem wideQuotients_walk (a d : Int) (w : World) (ha : fits a) (hd : I64 d) :
    Calls Try.prog 5 #[W a, .int .i64 d] w fun e w' => e = .returned (.bool true) ∧ Below w.heap.size w w' := by
  go_enter Try.func5, Try.ntmps5
  go_wp2_with (first | (go_at_call 11; ((with_reducible refine (awake_any _).mono ?_); rintro e w1 ⟨rfl, hb1⟩); have hz1 := hb1.size; (try simp only [World.size_alloc, World.size_setCell, World.size_drew, size_drewN'] at hz1); have : w.heap.size < w1.heap.size := (by omega); have := hb1.cell (p := ⟨w.heap.size, 0, none⟩) (by go_size); simp [go_sem, *] at this; have := hb1.frozen (p := ⟨w.heap.size, 0, none⟩) (by go_size); simp [go_sem, *] at this; have := hb1.cell (p := ⟨w.heap.size, 1, none⟩) (by go_size); simp [go_sem, *] at this; have := hb1.frozen (p := ⟨w.heap.size, 1, none⟩) (by go_size); simp [go_sem, *] at this) | (go_at_call 24; ((with_reducible refine (div_any _ _ _ ha hd).mono ?_); rintro e w2 ⟨rfl, hb2⟩); have hz2 := hb2.size; (try simp only [World.size_alloc, World.size_setCell, World.size_drew, size_drewN'] at hz2); have : w.heap.size < w2.heap.size := (by omega); have := hb2.cell (p := ⟨w.heap.size, 0, none⟩) (by go_size); simp [go_sem, *] at this; have := hb2.frozen (p := ⟨w.heap.size, 0, none⟩) (by go_size); simp [go_sem, *] at this; have := hb2.cell (p := ⟨w.heap.size, 1, none⟩) (by go_size); simp [go_sem, *] at this; have := hb2.frozen (p := ⟨w.heap.size, 1, none⟩) (by go_size); simp [go_sem, *] at this) | (go_at_call 25; ((with_reducible refine (rdiv_any _ _ _ ha hd).mono ?_); rintro e w3 ⟨rfl, hb3⟩); have hz3 := hb3.size; (try simp only [World.size_alloc, World.size_setCell, World.size_drew, size_drewN'] at hz3); have : w.heap.size < w3.heap.size := (by omega); have := hb3.cell (p := ⟨w.heap.size, 0, none⟩) (by go_size); simp [go_sem, *] at this; have := hb3.frozen (p := ⟨w.heap.size, 0, none⟩) (by go_size); simp [go_sem, *] at this; have := hb3.cell (p := ⟨w.heap.size, 1, none⟩) (by go_size); simp [go_sem, *] at this; have := hb3.frozen (p := ⟨w.heap.size, 1, none⟩) (by go_size); simp [go_sem, *] at this; have : w2.heap.size < w3.heap.size := (by omega); have := hb3.cell (p := ⟨w2.heap.size, 0, none⟩) (by go_size); simp [go_sem, *] at this; have := hb3.frozen (p := ⟨w2.heap.size, 0, none⟩) (by go_size); simp [go_sem, *] at this; have := hb3.cell (p := ⟨w2.heap.size, 1, none⟩) (by go_size); simp [go_sem, *] at this; have := hb3.frozen (p := ⟨w2.heap.size, 1, none⟩) (by go_size); simp [go_sem, *] at this))
  go_ret
  exact ⟨rfl, by (repeat' (first | (with_reducible exact Below.refl _ _) | (with_reducible refine Below.setCell ?_ ?_ _) | (with_reducible refine Below.alloc ?_ ?_ _) | (with_reducible refine Below.drew ?_) | (with_reducible refine belowN ?_ _) | (with_reducible refine below_step ?_ ?_ (by with_reducible assumption)) | go_size))⟩

set_option maxRecDepth 100000 in
theorem wideQuotients_lifted (os : Os) (started : os.Started) (H : Type) (enc : TypeId × Value → H) :
    ReturnsInHanded {} Try.checked os 5 .any (Rows.wideQuotientsSpec.pre6 enc Try.prog Try.f5 Rows.wideQuotientsRow.domain false) (Rows.wideQuotientsSpec.post enc Try.prog Try.f5 false true false false) := by
  refine returnsInHanded_of_change (C := Try.checked) own started (by kernel_rfl) Try.func5
    (ChangeSpec.witness6 (enc := enc) (C := Try.checked) false ⟨#[], #[.agg #[.int .i64 0, .int .u64 0], .int .i64 0], []⟩ 8 (by kernel_rfl) (by kernel_rfl) (by kernel_rfl) (by kernel_rfl)) ?_
  intro WW base args ds gs before hval hW _ _
  have hpost := fun (W' : World) (hb : Below WW.heap.size WW W') (hfn : Rows.wideQuotientsSpec.fn H (ds ++ []) = { results := [.lit (.bool true)], args := ds }) =>
    post_of_law (fresh := true) (handsOn := false) laidOut (by rw [Try.params5]; intro t ht; simp at ht; (try rcases ht with rfl | rfl) <;> exact ⟨by kernel_rfl, of_decide_eq_true (by kernel_rfl)⟩) rfl hW (tb := 4) (by kernel_rfl) Try.underlying4 hfn hb
  obtain ⟨p, q, hA, hV, rfl, hfz, hnd⟩ := hW
  rw [Try.params5] at hA hval
  obtain ⟨v0, vs0, d0, ds0, p0, q0, hargs, rfl, rfl, h0, r0⟩ := trodAll_cons hA
  obtain ⟨v1, vs1, d1, ds1, p1, q1, rfl, rfl, rfl, h1, r1⟩ := trodAll_cons r0
  obtain ⟨rfl, rfl, rfl⟩ := trodAll_nil r1
  obtain rfl : args = #[v0, v1] := by cases args; simp_all
  obtain ⟨a0, rfl, g0⟩ := open_wide (hval 0 _ v0 rfl rfl) h0
  obtain ⟨a1, rfl, g1⟩ := open_i64 (hval 1 _ v1 rfl rfl) h1
  refine (wideQuotients_walk a0 a1 WW g0 g1).mono fun e W' ⟨he, hg⟩ => ?_
  exact ⟨_, he, hpost W' hg rfl⟩

theorem wideQuotients_holds : Rows.WideQuotientsSaid :=
  OpenClaim.holds_of_wide 5 Try.f5 rfl rfl rfl rfl rfl rfl rfl ⟨rfl, rfl, rfl, rfl, rfl⟩ rfl rfl rfl rfl rfl (by kernel_rfl) Try.func5 (by kernel_rfl)
    (of_decide_eq_true (by kernel_rfl)) (by unfold Func.isWrapper; first | (rw [if_pos (by decide +kernel)]; kernel_rfl) | (rw [if_neg (by decide +kernel)]; exact ⟨rfl, rfl⟩))
    (fun os started H enc _ => wideQuotients_lifted os started H enc)
#print axioms wideQuotients_holds
end Go.Proofs.Ytnglagdididkbaa
