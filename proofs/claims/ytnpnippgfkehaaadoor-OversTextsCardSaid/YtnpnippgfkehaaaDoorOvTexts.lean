/- Of, Text and Parse of package overs give what the reference gives: OversTexts returns true for every input, and old memory is as it was. Condition: the listed variables of the library are as the program's text lays them (the card ties them). -/
import Derived.Test.YtnpnippgfkehaaaDoorOvK
import Derived.Test.YtnpnippgfkehaaaDoorLift
import Derived.Test.YtnpnippgfkehaaaDoorParO
import Derived.ChangeMaps5
set_option linter.unusedSimpArgs false
set_option linter.unusedVariables false
namespace Go.Proofs.YtnpnippgfkehaaaDoor
open Go.ChangeShapes Go.WideShapes Go.ChangeAt Go.RowKit

section
variable {H : Type} {enc : TypeId × Value → H} {w : World} {base b0 : Nat} {spare : Nat → Bool} {held : Bool} {r : Reach}
set_option maxRecDepth 20000 in
theorem open_str {v : Value} {d : DataW H} {p : List MemPlace} (hv : Value.okWide Tryd.prog w r b0 9 v) (h : DataW.Trod enc Tryd.prog w base spare held 9 v d p) : ∃ s : ByteArray, v = .string s ∧ s.size ≤ maxLen := by
  obtain ⟨s, rfl, _, _, hs⟩ := Go.ChangeMaps.open_string (P := Tryd.prog) Tryd.underlying9 hv h
  exact ⟨s, rfl, hs⟩
end

theorem ext_take (l : List UInt8) (n : Nat) : (str l).extract 0 n = str (l.take n) := by
  apply ByteArray.ext
  apply Array.toList_inj.1
  rw [ByteArray.data_extract, Array.toList_extract, str_list, str_list, List.extract_eq_take_drop]
  simp

set_option maxHeartbeats 4000000 in
theorem oversTexts_walk (b p : Int) (s : ByteArray) (w : World) (hb : I64 b) (hp : I64 p) (hs : s.size ≤ maxLen) (henv : Env w) :
    Calls Tryd.prog 3 #[.int .i64 b, .int .i64 p, .string s] w fun e w' => e = .returned (.bool true) ∧ Below w.heap.size w w' := by
  have HE := Lib.hid henv
  have HA := Lib.hid awake_any
  have HO := Lib.hid (of_any b p)
  have HRO := Lib.hid (rof_any b p)
  have HT := Lib.hid (text_any b p)
  have HRT := Lib.hid (rtext_any b p)
  obtain ⟨l, rfl⟩ : ∃ l, s = str l := ⟨s.data.toList, (str_of s).symm⟩
  have z := str_size l
  obtain ⟨m, hm⟩ : ∃ m, m = l.take 40 := ⟨_, rfl⟩
  have hl : m.length ≤ 40 := by rw [hm, List.length_take]; omega
  have HP : Hid (∀ w', Env w' → Calls Tryd.prog 15 #[S m, .int .i64 p] w' fun e w'' => e = .returned (.tuple #[.int .i64 (prV m p), .int .i64 (prE m p)]) ∧ Below w'.heap.size w' w'') := Lib.hid (fun w' h => parse_any _ p w' (by omega) h)
  have HRP : Hid (∀ w', Calls Tryd.prog 16 #[S m, .int .i64 p] w' fun e w'' => e = .returned (.tuple #[.int .i64 (prV m p), .int .i64 (prE m p)]) ∧ Below w'.heap.size w' w'') := Lib.hid (fun w' => rparse_any _ p w' (by omega) hp)
  clear hl henv hb hp hs
  generalize prV m p = V at *
  generalize prE m p = F at *
  generalize ofQ b p = q at *
  generalize ofR b p = r at *
  generalize txL b p = T at *
  generalize txE b p = E at *
  by_cases h40 : l.length ≤ 40
  · have hx : (str l).extract 0 l.length = str m := by rw [ext_take, hm, List.take_of_length_le (Nat.le_refl _), List.take_of_length_le h40]
    unfold S at *
    have hmi : min (l.length : Int) 40 = (l.length : Int) := by omega
    clear hm
    generalize str m = t at *
    go_enter Tryd.func3, Tryd.ntmps3
    go_wp2_with (first | (go_at_call 10; (with_reducible refine (HA.out _ ?_).mono ?_); (focus (exact HE.out.stays (by (repeat' (first | (with_reducible exact Below.refl _ _) | (with_reducible refine Below.setCell ?_ ?_ _) | (with_reducible refine Below.alloc ?_ ?_ _) | (with_reducible refine Below.drew ?_) | (with_reducible refine belowN ?_ _) | (with_reducible refine below_step ?_ ?_ (by with_reducible assumption)) | go_size))))); rintro e w1 ⟨rfl, hb1⟩; have hz1 := hb1.size; (try simp only [World.size_alloc, World.size_setCell, World.size_drew, size_drewN'] at hz1)) | (go_at_call 11; ((with_reducible refine (HO.out _).mono ?_); rintro e w' ⟨rfl, k1, rfl⟩)) | (go_at_call 12; ((with_reducible refine (HRO.out _).mono ?_); rintro e w' ⟨rfl, k2, rfl⟩)) | (go_at_call 13; (with_reducible refine (HT.out _ ?_).mono ?_); (focus (exact HE.out.stays (by (repeat' (first | (with_reducible exact Below.refl _ _) | (with_reducible refine Below.setCell ?_ ?_ _) | (with_reducible refine Below.alloc ?_ ?_ _) | (with_reducible refine Below.drew ?_) | (with_reducible refine belowN ?_ _) | (with_reducible refine below_step ?_ ?_ (by with_reducible assumption)) | go_size))))); rintro e w2 ⟨rfl, hb2⟩; have hz2 := hb2.size; (try simp only [World.size_alloc, World.size_setCell, World.size_drew, size_drewN'] at hz2)) | (go_at_call 14; ((with_reducible refine (HRT.out _).mono ?_); rintro e w3 ⟨rfl, hb3⟩); have hz3 := hb3.size; (try simp only [World.size_alloc, World.size_setCell, World.size_drew, size_drewN'] at hz3)) | (go_at_call 15; (with_reducible refine (HP.out _ ?_).mono ?_); (focus (exact HE.out.stays (by (repeat' (first | (with_reducible exact Below.refl _ _) | (with_reducible refine Below.setCell ?_ ?_ _) | (with_reducible refine Below.alloc ?_ ?_ _) | (with_reducible refine Below.drew ?_) | (with_reducible refine belowN ?_ _) | (with_reducible refine below_step ?_ ?_ (by with_reducible assumption)) | go_size))))); rintro e w4 ⟨rfl, hb4⟩; have hz4 := hb4.size; (try simp only [World.size_alloc, World.size_setCell, World.size_drew, size_drewN'] at hz4)) | (go_at_call 16; ((with_reducible refine (HRP.out _).mono ?_); rintro e w5 ⟨rfl, hb5⟩); have hz5 := hb5.size; (try simp only [World.size_alloc, World.size_setCell, World.size_drew, size_drewN'] at hz5)))
    go_ret
    exact ⟨by simp, by (repeat' (first | (with_reducible exact Below.refl _ _) | (with_reducible refine Below.setCell ?_ ?_ _) | (with_reducible refine Below.alloc ?_ ?_ _) | (with_reducible refine Below.drew ?_) | (with_reducible refine belowN ?_ _) | (with_reducible refine below_step ?_ ?_ (by with_reducible assumption)) | go_size))⟩
  · have hx : (str l).extract 0 40 = str m := by rw [ext_take, hm]
    unfold S at *
    have hmi : min (l.length : Int) 40 = 40 := by omega
    have h41 : (40 : Int) ≤ (l.length : Int) := by omega
    clear hm
    generalize str m = t at *
    go_enter Tryd.func3, Tryd.ntmps3
    go_wp2_with (first | (go_at_call 10; (with_reducible refine (HA.out _ ?_).mono ?_); (focus (exact HE.out.stays (by (repeat' (first | (with_reducible exact Below.refl _ _) | (with_reducible refine Below.setCell ?_ ?_ _) | (with_reducible refine Below.alloc ?_ ?_ _) | (with_reducible refine Below.drew ?_) | (with_reducible refine belowN ?_ _) | (with_reducible refine below_step ?_ ?_ (by with_reducible assumption)) | go_size))))); rintro e w1 ⟨rfl, hb1⟩; have hz1 := hb1.size; (try simp only [World.size_alloc, World.size_setCell, World.size_drew, size_drewN'] at hz1)) | (go_at_call 11; ((with_reducible refine (HO.out _).mono ?_); rintro e w' ⟨rfl, k1, rfl⟩)) | (go_at_call 12; ((with_reducible refine (HRO.out _).mono ?_); rintro e w' ⟨rfl, k2, rfl⟩)) | (go_at_call 13; (with_reducible refine (HT.out _ ?_).mono ?_); (focus (exact HE.out.stays (by (repeat' (first | (with_reducible exact Below.refl _ _) | (with_reducible refine Below.setCell ?_ ?_ _) | (with_reducible refine Below.alloc ?_ ?_ _) | (with_reducible refine Below.drew ?_) | (with_reducible refine belowN ?_ _) | (with_reducible refine below_step ?_ ?_ (by with_reducible assumption)) | go_size))))); rintro e w2 ⟨rfl, hb2⟩; have hz2 := hb2.size; (try simp only [World.size_alloc, World.size_setCell, World.size_drew, size_drewN'] at hz2)) | (go_at_call 14; ((with_reducible refine (HRT.out _).mono ?_); rintro e w3 ⟨rfl, hb3⟩); have hz3 := hb3.size; (try simp only [World.size_alloc, World.size_setCell, World.size_drew, size_drewN'] at hz3)) | (go_at_call 15; (with_reducible refine (HP.out _ ?_).mono ?_); (focus (exact HE.out.stays (by (repeat' (first | (with_reducible exact Below.refl _ _) | (with_reducible refine Below.setCell ?_ ?_ _) | (with_reducible refine Below.alloc ?_ ?_ _) | (with_reducible refine Below.drew ?_) | (with_reducible refine belowN ?_ _) | (with_reducible refine below_step ?_ ?_ (by with_reducible assumption)) | go_size))))); rintro e w4 ⟨rfl, hb4⟩; have hz4 := hb4.size; (try simp only [World.size_alloc, World.size_setCell, World.size_drew, size_drewN'] at hz4)) | (go_at_call 16; ((with_reducible refine (HRP.out _).mono ?_); rintro e w5 ⟨rfl, hb5⟩); have hz5 := hb5.size; (try simp only [World.size_alloc, World.size_setCell, World.size_drew, size_drewN'] at hz5)))
    go_ret
    exact ⟨by simp, by (repeat' (first | (with_reducible exact Below.refl _ _) | (with_reducible refine Below.setCell ?_ ?_ _) | (with_reducible refine Below.alloc ?_ ?_ _) | (with_reducible refine Below.drew ?_) | (with_reducible refine belowN ?_ _) | (with_reducible refine below_step ?_ ?_ (by with_reducible assumption)) | go_size))⟩


set_option maxRecDepth 100000 in
theorem oversTexts_lifted (os : Os) (started : os.Started) (H : Type) (enc : TypeId × Value → H) :
    ReturnsInHanded {} Tryd.checked os 3 .any (fun w args => (Rows.oversTextsSpec.pre enc Tryd.prog Tryd.f3 [] false w args ∧ laidMetH Tryd.prog laidA w) ∧ sizedMet enc Tryd.prog Tryd.f3 (OpenSpec.ofChange Rows.oversTextsSpec) false w args)
      (Rows.oversTextsSpec.post enc Tryd.prog Tryd.f3 false true false false) := by
  refine law_lift (C := Tryd.checked) (X := fun w _ => laidMetH Tryd.prog laidA w) (tb := 4) (fun _ _ _ hh h => h.of_heap hh) own started (by kernel_rfl) Tryd.func3 laidOut
    (by rw [Tryd.params3]; intro t ht; simp at ht; (try subst ht) <;> (try (rcases ht with rfl | rfl)) <;> exact ⟨by kernel_rfl, of_decide_eq_true (by kernel_rfl)⟩) rfl (by kernel_rfl) Tryd.underlying4
    (ChangeSpec.witness_shaped (enc := enc) (C := Tryd.checked) (os := os) (X := fun w _ => laidMetH Tryd.prog laidA w) false (World.doorLaid Tryd.prog 400 os) #[.int .i64 0, .int .i64 0, .string ⟨#[]⟩] 8 rfl (World.shaped_of_RefB (by kernel_rfl) (by kernel_rfl)) (by kernel_rfl) (by kernel_rfl) (by kernel_rfl) (laidA_met os _)) ?_
  intro WW base args ds gs p hval hA hreach hL hS
  rw [Tryd.params3] at hA hval
  obtain ⟨v0, vs0, d0, ds0, p0, q0, hargs, rfl, rfl, h0, r0⟩ := trodAll_cons hA
  obtain ⟨v1, vs1, d1, ds1, p1, q1, rfl, rfl, rfl, h1, r1⟩ := trodAll_cons r0
  obtain ⟨v2, vs2, d2, ds2, p2, q2, rfl, rfl, rfl, h2, r2⟩ := trodAll_cons r1
  obtain ⟨rfl, rfl, rfl⟩ := trodAll_nil r2
  obtain rfl : args = #[v0, v1, v2] := by cases args; simp_all
  obtain ⟨a0, rfl, g0⟩ := open_int64 (hval 0 _ v0 rfl rfl) h0
  obtain ⟨a1, rfl, g1⟩ := open_int64 (hval 1 _ v1 rfl rfl) h1
  obtain ⟨a2, rfl, g2⟩ := open_str (hval 2 _ v2 rfl rfl) h2
  exact ⟨rfl, oversTexts_walk a0 a1 a2 WW g0 g1 g2 (env_of_laid hL hS)⟩

theorem oversTexts_holds : Rows.OversTextsSaid :=
  OpenClaim.holds_of_wide 3 Tryd.f3 rfl rfl rfl rfl rfl rfl rfl ⟨rfl, rfl, rfl, rfl, rfl⟩ rfl rfl rfl rfl rfl (by kernel_rfl) Tryd.func3 (by kernel_rfl)
    (of_decide_eq_true (by kernel_rfl)) (by unfold Func.isWrapper; first | (rw [if_pos (by decide +kernel)]; kernel_rfl) | (rw [if_neg (by decide +kernel)]; exact ⟨rfl, rfl⟩))
    (fun os started H enc _ => oversTexts_lifted os started H enc)

theorem oversTexts_card : Rows.OversTextsCardSaid :=
  Claim7.holds_tied_plain_at .later [] [.data, .data, .data, .sentinel, .sentinel] true Rows.oversTextsCard.stood.harness Rows.oversTextsCard.stood.looks
    oversTexts_holds (fun _ h => by cases h) (by kernel_rfl) (fun _ h => by cases h) oversTexts_row_tie rfl ⟨rfl, rfl⟩ (by kernel_rfl) rfl
    (fun f fn hf hfn => by
      obtain rfl : f = 3 := Option.some.inj ((show Tryd.prog.funcNamed "scorebook/scorebooklaw04.OversTexts" = some 3 by kernel_rfl).symm.trans hf) |>.symm
      obtain rfl : fn = Tryd.f3 := (Option.some.inj (Tryd.func3.symm.trans hfn)).symm
      exact ⟨by kernel_rfl, fun j t ht => by
        rw [Tryd.params3] at ht
        have hm : t ∈ [3, 3, 9] := by simpa using Array.mem_of_getElem? ht
        have hall : ([3, 3, 9].all fun u => !Tryd.prog.wantsStandIn u) = true := by kernel_rfl
        exact (show Tryd.prog.wantsStandIn t = false by simpa using List.all_eq_true.1 hall t hm)⟩)
    (by kernel_rfl)
#print axioms oversTexts_card

end Go.Proofs.YtnpnippgfkehaaaDoor
