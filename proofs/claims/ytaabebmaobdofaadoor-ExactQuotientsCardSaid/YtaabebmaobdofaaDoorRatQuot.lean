/- FloorDiv and CeilDiv of package exact give what the reference gives: ExactQuotients returns true for every input, and old memory is as it was. Condition: the listed tables of the library are as the program's text lays them (the card ties them). -/
import Derived.Test.YtaabebmaobdofaaDoorRatK
import Derived.Test.YtaabebmaobdofaaDoorRatL
set_option linter.unusedSimpArgs false
set_option linter.unusedVariables false
namespace Go.Proofs.YtaabebmaobdofaaDoor
open Go.ChangeShapes Go.WideShapes Go.ChangeAt Go.RowKit

set_option maxHeartbeats 4000000 in
theorem exactQuotients_walk (n d : Int) (w : World) (hn : I64 n) (hd : I64 d) :
    Calls Tryd.prog 7 #[.int .i64 n, .int .i64 d] w fun e w' => e = .returned (.bool true) ∧ Below w.heap.size w w' := by
  go_enter Tryd.func7, Tryd.ntmps7
  go_wp2_with (first | (go_at_call 12; ((with_reducible refine (awake_any _).mono ?_); rintro e w1 ⟨rfl, hb1⟩); have hz1 := hb1.size; (try simp only [World.size_alloc, World.size_setCell, World.size_drew, size_drewN'] at hz1)) | (go_at_call 31; ((with_reducible refine (floor_any _ _ _ hn hd).mono ?_); rintro e w' ⟨rfl, rfl⟩)) | (go_at_call 32; ((with_reducible refine (rfloor_any _ _ _ hn hd).mono ?_); rintro e w' ⟨rfl, k1, rfl⟩)) |
    (go_at_call 33; ((with_reducible refine (ceil_any _ _ _ hn hd).mono ?_); rintro e w' ⟨rfl, rfl⟩)) | (go_at_call 34; ((with_reducible refine (rceil_any _ _ _ hn hd).mono ?_); rintro e w' ⟨rfl, k2, rfl⟩)))
  go_ret
  exact ⟨rfl, by (repeat' (first | (with_reducible exact Below.refl _ _) | (with_reducible refine Below.setCell ?_ ?_ _) | (with_reducible refine Below.alloc ?_ ?_ _) | (with_reducible refine Below.drew ?_) | (with_reducible refine belowN ?_ _) | (with_reducible refine below_step ?_ ?_ (by with_reducible assumption)) | go_size))⟩


set_option maxRecDepth 100000 in
theorem exactQuotients_lifted (os : Os) (started : os.Started) (H : Type) (enc : TypeId × Value → H) :
    ReturnsInHanded {} Tryd.checked os 7 .any (fun w args => (Rows.exactQuotientsSpec.pre enc Tryd.prog Tryd.f7 [] false w args ∧ laidMetH Tryd.prog laidE w) ∧ sizedMet enc Tryd.prog Tryd.f7 (OpenSpec.ofChange Rows.exactQuotientsSpec) false w args)
      (Rows.exactQuotientsSpec.post enc Tryd.prog Tryd.f7 false true false false) := by
  refine returnsInHanded_of_change_and (C := Tryd.checked) (X := fun w _ => laidMetH Tryd.prog laidE w) (fun _ _ _ hh h => h.of_heap hh) own started (by kernel_rfl) Tryd.func7
    (ChangeSpec.witness_shaped (enc := enc) (C := Tryd.checked) (os := os) (X := fun w _ => laidMetH Tryd.prog laidE w) false (World.doorLaid Tryd.prog 400 os) #[.int .i64 0, .int .i64 0] 8 rfl (World.shaped_of_RefB (by kernel_rfl) (by kernel_rfl)) (by kernel_rfl) (by kernel_rfl) (by kernel_rfl) (laidE_met os _)) ?_
  intro WW base args ds gs before hval hW _ _ hL _
  have hpost := fun (W' : World) (hb : Below WW.heap.size WW W') (hfn : Rows.exactQuotientsSpec.fn H (ds ++ []) = { results := [.lit (.bool true)], args := ds }) =>
    post_of_law (fresh := true) (handsOn := false) laidOut (by rw [Tryd.params7]; intro t ht; simp at ht; (try subst ht) <;> (try (rcases ht with rfl | rfl)) <;> exact ⟨by kernel_rfl, of_decide_eq_true (by kernel_rfl)⟩) rfl hW (tb := 4) (by kernel_rfl) Tryd.underlying4 hfn hb
  obtain ⟨p, q, hA, hV, rfl, hfz, hnd⟩ := hW
  rw [Tryd.params7] at hA hval
  obtain ⟨v0, vs0, d0, ds0, p0, q0, hargs, rfl, rfl, h0, r0⟩ := trodAll_cons hA
  obtain ⟨v1, vs1, d1, ds1, p1, q1, rfl, rfl, rfl, h1, r1⟩ := trodAll_cons r0
  obtain ⟨rfl, rfl, rfl⟩ := trodAll_nil r1
  obtain rfl : args = #[v0, v1] := by cases args; simp_all
  obtain ⟨a0, rfl, g0⟩ := open_i64 (hval 0 _ v0 rfl rfl) h0
  obtain ⟨a1, rfl, g1⟩ := open_i64 (hval 1 _ v1 rfl rfl) h1
  refine (exactQuotients_walk a0 a1 WW g0 g1).mono fun e W' ⟨he, hg⟩ => ?_
  exact ⟨_, he, hpost W' hg rfl⟩

theorem exactQuotients_holds : Rows.ExactQuotientsSaid :=
  OpenClaim.holds_of_wide 7 Tryd.f7 rfl rfl rfl rfl rfl rfl rfl ⟨rfl, rfl, rfl, rfl, rfl⟩ rfl rfl rfl rfl rfl (by kernel_rfl) Tryd.func7 (by kernel_rfl)
    (of_decide_eq_true (by kernel_rfl)) (by unfold Func.isWrapper; first | (rw [if_pos (by decide +kernel)]; kernel_rfl) | (rw [if_neg (by decide +kernel)]; exact ⟨rfl, rfl⟩))
    (fun os started H enc _ => exactQuotients_lifted os started H enc)

theorem exactQuotients_card : Rows.ExactQuotientsCardSaid :=
  Claim7.holds_tied_plain_at .later [] [.data, .data, .data] true Rows.exactQuotientsCard.stood.harness Rows.exactQuotientsCard.stood.looks
    exactQuotients_holds (fun _ h => by cases h) (by kernel_rfl) (fun _ h => by cases h) exactQuotients_row_tie rfl ⟨rfl, rfl⟩ (by kernel_rfl) rfl
    (fun f fn hf hfn => by
      obtain rfl : f = 7 := Option.some.inj ((show Tryd.prog.funcNamed "scorebook/scorebooklaw01.ExactQuotients" = some 7 by kernel_rfl).symm.trans hf) |>.symm
      obtain rfl : fn = Tryd.f7 := (Option.some.inj (Tryd.func7.symm.trans hfn)).symm
      exact ⟨by kernel_rfl, fun j t ht => by
        rw [Tryd.params7] at ht
        have hm : t ∈ [2, 2] := by simpa using Array.mem_of_getElem? ht
        have hall : ([2, 2].all fun u => !Tryd.prog.wantsStandIn u) = true := by kernel_rfl
        exact (show Tryd.prog.wantsStandIn t = false by simpa using List.all_eq_true.1 hall t hm)⟩)
    (by kernel_rfl)
#print axioms exactQuotients_card

end Go.Proofs.YtaabebmaobdofaaDoor
