/- Quoting and unquoting of any string are those of the reference, and Unquote of Quote gives a printable string back: TextQuotes returns true for every input of bulk at most 1048576, and old memory is as it was. Condition: the listed variables of the library are as the program's text lays them (the card ties them). -/
import Derived.Test.YtjekflpogafodaaDoorTxK
import Derived.Test.YtjekflpogafodaaDoorTxQ
import Derived.Test.YtjekflpogafodaaDoorLiftU
set_option linter.unusedSimpArgs false
set_option linter.unusedVariables false
namespace Go.Proofs.YtjekflpogafodaaDoor
open Go.ChangeShapes Go.WideShapes Go.ChangeAt Go.RowKit Go.Joins

set_option maxRecDepth 100000 in
set_option maxHeartbeats 8000000 in
theorem textQuotes_walk (s : ByteArray) (w : World) (hs : s.size ≤ maxLen) (henv : Env w) (hk : s.size ≤ 1048576) :
    Calls Tryd.prog 6 #[.string s] w fun e w' => e = .returned (.bool true) ∧ Below w.heap.size w w' := by
  have hA := Lib.hid awake_any
  have HE := Lib.hid henv
  obtain ⟨l, rfl⟩ : ∃ l, s = str l := ⟨s.data.toList, (str_of s).symm⟩
  rw [str_size] at hk
  have z := str_size l
  obtain ⟨Q, hQ⟩ : ∃ Q, Q = 34 :: (dbl l ++ [34]) := ⟨_, rfl⟩
  have hql : Q.length ≤ 2 * l.length + 2 := by rw [hQ]; have := dbl_length l; simp; omega
  have H1 : Hid (∀ w, Env w → Calls Tryd.prog 15 #[S l] w fun e w' => e = .returned (.tuple #[S (uqT l), .int .i64 (uqE l)]) ∧ Below w.heap.size w w') := Lib.hid (fun w h => unquote_any l w (by omega) h)
  have H2 : Hid (∀ w, Calls Tryd.prog 16 #[S l] w fun e w' => e = .returned (.tuple #[S (uqT l), .int .i64 (uqE l)]) ∧ w = w') := Lib.hid (fun w => runquote_any l w (by omega))
  have H3 : Hid (∀ w, Env w → Calls Tryd.prog 17 #[S l] w fun e w' => e = .returned (S Q) ∧ Below w.heap.size w w') := Lib.hid (fun w h => by rw [hQ]; exact quote_any l w (by omega) h)
  have H4 : Hid (∀ w, Calls Tryd.prog 18 #[S l] w fun e w' => e = .returned (S Q) ∧ w = w') := Lib.hid (fun w => by rw [hQ]; exact rquote_any l w (by omega))
  have H5 : Hid (∀ w, Env w → Calls Tryd.prog 15 #[S Q] w fun e w' => e = .returned (.tuple #[S (uqT Q), .int .i64 (uqE Q)]) ∧ Below w.heap.size w w') := Lib.hid (fun w h => unquote_any Q w (by omega) h)
  have hU := uq_quote l
  rw [← hQ] at hU
  have HU := Lib.hid hU
  clear hU hQ hs henv
  generalize uqT Q = U1 at *
  generalize uqE Q = U2 at *
  generalize uqT l = V1 at *
  generalize uqE l = V2 at *
  go_enter Tryd.func6, Tryd.ntmps6
  go_wp2_with (first
    | (go_at_call 8; (with_reducible refine (hA.out _ ?_).mono ?_); (focus (exact HE.out.stays (by (repeat' (first | (with_reducible exact Below.refl _ _) | (with_reducible refine Below.setCell ?_ ?_ _) | (with_reducible refine Below.alloc ?_ ?_ _) | (with_reducible refine Below.drew ?_) | (with_reducible refine belowN ?_ _) | (with_reducible refine below_step ?_ ?_ (by with_reducible assumption)) | go_size))))); rintro e w1 ⟨rfl, hb1⟩; have hz1 := hb1.size; (try simp only [World.size_alloc, World.size_setCell, World.size_drew, size_drewN'] at hz1))
    | (go_at_call 15; (with_reducible refine (H1.out _ ?_).mono ?_); (focus (exact HE.out.stays (by (repeat' (first | (with_reducible exact Below.refl _ _) | (with_reducible refine Below.setCell ?_ ?_ _) | (with_reducible refine Below.alloc ?_ ?_ _) | (with_reducible refine Below.drew ?_) | (with_reducible refine belowN ?_ _) | (with_reducible refine below_step ?_ ?_ (by with_reducible assumption)) | go_size))))); rintro e w2 ⟨rfl, hb2⟩; have hz2 := hb2.size; (try simp only [World.size_alloc, World.size_setCell, World.size_drew, size_drewN'] at hz2))
    | (go_at_call 16; ((with_reducible refine (H2.out _).mono ?_); rintro e w' ⟨rfl, rfl⟩))
    | (go_at_call 17; (with_reducible refine (H3.out _ ?_).mono ?_); (focus (exact HE.out.stays (by (repeat' (first | (with_reducible exact Below.refl _ _) | (with_reducible refine Below.setCell ?_ ?_ _) | (with_reducible refine Below.alloc ?_ ?_ _) | (with_reducible refine Below.drew ?_) | (with_reducible refine belowN ?_ _) | (with_reducible refine below_step ?_ ?_ (by with_reducible assumption)) | go_size))))); rintro e w3 ⟨rfl, hb3⟩; have hz3 := hb3.size; (try simp only [World.size_alloc, World.size_setCell, World.size_drew, size_drewN'] at hz3))
    | (go_at_call 18; ((with_reducible refine (H4.out _).mono ?_); rintro e w' ⟨rfl, rfl⟩)))
  go_loop [7, 40] (fun b t => ∃ k : Nat, k ≤ l.length ∧ t = .int .i64 (k : Int) ∧ b = .bool ((l.take k).all prn)) (fun _ t => l.length - (intOf t).toNat)
  case atStart => exact ⟨0, Nat.zero_le _, rfl, by simp⟩
  case round =>
    obtain ⟨k, hkl, rfl, rfl⟩ := hrel
    by_cases hlt : k < l.length
    · have hlt2 : k < (str l).size := by omega
      have hg := str_get l k hlt2 hlt
      have ht : (l.take (k + 1)).all prn = ((l.take k).all prn && prn l[k]) := by rw [List.take_succ_eq_append_getElem hlt, List.all_append]; simp only [List.all_cons, List.all_nil, Bool.and_true]; rfl
      cases hb : (l.take k).all prn
      · have E : Hid ((l.take (k + 1)).all prn = false) := Lib.hid (by rw [ht, hb]; rfl)
        clear hg ht hb
        go_wp2
        go_round
        case rel => exact ⟨k + 1, by omega, by go_num, by rw [E.out]⟩
        case measure => simp [intOf]; omega
      · cases hp : prn l[k]
        · have E : Hid ((l.take (k + 1)).all prn = false) := Lib.hid (by rw [ht, hp, Bool.and_false])
          have hc : ((((str l)[k]'hlt2).toNat : Int) < 32) ∨ (¬ (((str l)[k]'hlt2).toNat : Int) < 32 ∧ ¬ (((str l)[k]'hlt2).toNat : Int) ≤ 126) := by
            rw [hg]
            have : ¬ (32 ≤ l[k].toNat ∧ l[k].toNat ≤ 126) := fun h => by rw [(prn_iff _).2 h] at hp; cases hp
            omega
          clear hg ht hb hp
          rcases hc with hc | ⟨hc, hc2⟩
          all_goals
            go_wp2
            go_round
            case rel => exact ⟨k + 1, by omega, by go_num, by rw [E.out]⟩
            case measure => simp [intOf]; omega
        · have E : Hid ((l.take (k + 1)).all prn = true) := Lib.hid (by rw [ht, hb, hp]; rfl)
          have hc : 32 ≤ (((str l)[k]'hlt2).toNat : Int) ∧ (((str l)[k]'hlt2).toNat : Int) ≤ 126 := by
            rw [hg]
            rw [prn_iff] at hp
            omega
          obtain ⟨hc, hc2⟩ := hc
          clear hg ht hb hp
          go_wp2
          go_round
          case rel => exact ⟨k + 1, by omega, by go_num, by rw [E.out]⟩
          case measure => simp [intOf]; omega
    · have ht : l.take k = l := List.take_of_length_le (by omega)
      rw [ht]
      cases hb : l.all prn
      · obtain ⟨rfl, rfl⟩ := HU.out.2 hb
        clear hb ht
        have k0 : (str []).toList.isEmpty = true := by rw [str_toList]; rfl
        go_wp2_with (first | (go_at_call 17; (with_reducible refine (H3.out _ ?_).mono ?_); (focus (exact HE.out.stays (by (repeat' (first | (with_reducible exact Below.refl _ _) | (with_reducible refine Below.setCell ?_ ?_ _) | (with_reducible refine Below.alloc ?_ ?_ _) | (with_reducible refine Below.drew ?_) | (with_reducible refine belowN ?_ _) | (with_reducible refine below_step ?_ ?_ (by with_reducible assumption)) | go_size))))); rintro e w6 ⟨rfl, hb6⟩; have hz6 := hb6.size; (try simp only [World.size_alloc, World.size_setCell, World.size_drew, size_drewN'] at hz6)) | (go_at_call 15; (with_reducible refine (H5.out _ ?_).mono ?_); (focus (exact HE.out.stays (by (repeat' (first | (with_reducible exact Below.refl _ _) | (with_reducible refine Below.setCell ?_ ?_ _) | (with_reducible refine Below.alloc ?_ ?_ _) | (with_reducible refine Below.drew ?_) | (with_reducible refine belowN ?_ _) | (with_reducible refine below_step ?_ ?_ (by with_reducible assumption)) | go_size))))); rintro e w7 ⟨rfl, hb7⟩; have hz7 := hb7.size; (try simp only [World.size_alloc, World.size_setCell, World.size_drew, size_drewN'] at hz7)))
        go_ret
        exact ⟨rfl, by (repeat' (first | (with_reducible exact Below.refl _ _) | (with_reducible refine Below.setCell ?_ ?_ _) | (with_reducible refine Below.alloc ?_ ?_ _) | (with_reducible refine Below.drew ?_) | (with_reducible refine belowN ?_ _) | (with_reducible refine below_step ?_ ?_ (by with_reducible assumption)) | go_size))⟩
      · obtain ⟨rfl, rfl⟩ := HU.out.1 hb
        clear hb ht
        go_wp2_with (first | (go_at_call 17; (with_reducible refine (H3.out _ ?_).mono ?_); (focus (exact HE.out.stays (by (repeat' (first | (with_reducible exact Below.refl _ _) | (with_reducible refine Below.setCell ?_ ?_ _) | (with_reducible refine Below.alloc ?_ ?_ _) | (with_reducible refine Below.drew ?_) | (with_reducible refine belowN ?_ _) | (with_reducible refine below_step ?_ ?_ (by with_reducible assumption)) | go_size))))); rintro e w6 ⟨rfl, hb6⟩; have hz6 := hb6.size; (try simp only [World.size_alloc, World.size_setCell, World.size_drew, size_drewN'] at hz6)) | (go_at_call 15; (with_reducible refine (H5.out _ ?_).mono ?_); (focus (exact HE.out.stays (by (repeat' (first | (with_reducible exact Below.refl _ _) | (with_reducible refine Below.setCell ?_ ?_ _) | (with_reducible refine Below.alloc ?_ ?_ _) | (with_reducible refine Below.drew ?_) | (with_reducible refine belowN ?_ _) | (with_reducible refine below_step ?_ ?_ (by with_reducible assumption)) | go_size))))); rintro e w7 ⟨rfl, hb7⟩; have hz7 := hb7.size; (try simp only [World.size_alloc, World.size_setCell, World.size_drew, size_drewN'] at hz7)))
        go_ret
        exact ⟨rfl, by (repeat' (first | (with_reducible exact Below.refl _ _) | (with_reducible refine Below.setCell ?_ ?_ _) | (with_reducible refine Below.alloc ?_ ?_ _) | (with_reducible refine Below.drew ?_) | (with_reducible refine belowN ?_ _) | (with_reducible refine below_step ?_ ?_ (by with_reducible assumption)) | go_size))⟩


theorem textQuotes_reads (os : Os) {H : Type} (enc : TypeId × Value → H) : ∃ places, DataW.whole enc Tryd.prog ((World.laidAll Tryd.prog os laidA).forCall (fun _ _ => 0) ⟨#[], #[.string ⟨#[]⟩], []⟩).memory Tryd.f6.params.toList Rows.textQuotesSpec.vars false #[.string ⟨#[]⟩].toList 8 = some ([.lit (.string [])], [], places) := ⟨[], by kernel_rfl⟩
set_option maxRecDepth 100000 in
theorem textQuotes_liftedU (os : Os) (started : os.Started) (H : Type) (enc : TypeId × Value → H) (F : Stop.Interp) :
    ReturnsInHanded {} Tryd.checked os 6 .any ((Rows.OpenSpec.upto Rows.textQuotesSpec).preRow enc Tryd.prog Tryd.f6 Rows.textQuotesUptoRow.domain false Rows.textQuotesUptoRow.laid) (((Rows.OpenSpec.upto Rows.textQuotesSpec).at F).post enc Tryd.prog Tryd.f6 false true false false) := by
  obtain ⟨places, hx⟩ := textQuotes_reads os enc
  refine returnsInHanded_of_row (C := Tryd.checked) (s := Rows.OpenSpec.upto Rows.textQuotesSpec) own started (by kernel_rfl) Tryd.func6
    (upto_witness (World.laidAll Tryd.prog os laidA) #[.string ⟨#[]⟩] rfl (laidA_shaped os) (by kernel_rfl) (OpenSpec.preRow_of_cond 8 hx (by kernel_rfl) (fun k hk => by cases hk; kernel_rfl) (by kernel_rfl) (laidA_met os _))) ?_
  intro WW base args ds gs before hval hW _ hcond _ hL hS _
  have hpost := fun (W' : World) (hb : Below WW.heap.size WW W') (hfn : Rows.textQuotesSpec.fn H (ds ++ []) = { results := [.lit (.bool true)], args := ds }) =>
    post_of_law (s := Rows.textQuotesSpec) (fresh := true) (handsOn := false) laidOut (by rw [Tryd.params6]; intro t ht; simp at ht; (try subst ht) <;> (try (rcases ht with rfl | rfl)) <;> exact ⟨by kernel_rfl, of_decide_eq_true (by kernel_rfl)⟩) rfl hW (tb := 4) (by kernel_rfl) Tryd.underlying4 hfn hb
  have hbulk : Rows.uptoBulkAll (ds ++ gs) ≤ 1048576 := of_decide_eq_true (hcond _ rfl)
  obtain ⟨p, q, hA, hV, rfl, hfz, hnd⟩ := hW
  obtain ⟨rfl, rfl⟩ := trodVars_none hV
  rw [Tryd.params6] at hA hval
  obtain ⟨v0, vs0, d0, ds0, p0, q0, hargs, rfl, rfl, h0, r0⟩ := trodAll_cons hA
  obtain ⟨rfl, rfl, rfl⟩ := trodAll_nil r0
  obtain rfl : args = #[v0] := by cases args; simp_all
  obtain ⟨a0, rfl, e0, g0⟩ := open_strD (hval 0 _ v0 rfl rfl) h0
  refine (textQuotes_walk a0 WW g0 (env_of_laid hL hS) (by subst e0; simp only [List.append_nil, Rows.uptoBulkAll, Rows.uptoBulk] at hbulk; have e : a0.size = a0.data.toList.length := (show a0.data.size = a0.data.toList.length from (Array.length_toList).symm); omega)).mono fun e W' ⟨he, hg⟩ => ?_
  exact ⟨_, he, hpost W' hg rfl⟩

theorem textQuotes_holdsU : Rows.TextQuotesUptoSaid :=
  OpenClaim.holds_of_cond 6 Tryd.f6 rfl rfl rfl rfl rfl rfl rfl ⟨rfl, rfl, rfl, rfl, rfl⟩ rfl rfl rfl rfl rfl (by kernel_rfl) Tryd.func6 (by kernel_rfl)
    (of_decide_eq_true (by kernel_rfl)) (by unfold Func.isWrapper; first | (rw [if_pos (by decide +kernel)]; kernel_rfl) | (rw [if_neg (by decide +kernel)]; exact ⟨rfl, rfl⟩))
    (fun os started H enc _ F => by rw [OpenClaim.pre_eq_preRow]; exact textQuotes_liftedU os started H enc F)

theorem textQuotes_cardU : Rows.TextQuotesUptoCardSaid :=
  Claim7.holds_tied_plain_at .later [] [.data, .data, .data, .data, .sentinel, .sentinel, .pinned] true Rows.textQuotesUptoCard.stood.harness Rows.textQuotesUptoCard.stood.looks
    textQuotes_holdsU (fun _ h => by cases h) (by kernel_rfl) (fun _ h => by cases h) textQuotesUpto_row_tie rfl ⟨rfl, rfl⟩ (by kernel_rfl) rfl
    (fun f fn hf hfn => by
      obtain rfl : f = 6 := Option.some.inj ((show Tryd.prog.funcNamed "scorebook/scorebooklaw03.TextQuotes" = some 6 by kernel_rfl).symm.trans hf) |>.symm
      obtain rfl : fn = Tryd.f6 := (Option.some.inj (Tryd.func6.symm.trans hfn)).symm
      exact ⟨by kernel_rfl, fun j t ht => by
        rw [Tryd.params6] at ht
        have hm : t ∈ [9] := by simpa using Array.mem_of_getElem? ht
        have hall : ([9].all fun u => !Tryd.prog.wantsStandIn u) = true := by kernel_rfl
        exact (show Tryd.prog.wantsStandIn t = false by simpa using List.all_eq_true.1 hall t hm)⟩)
    (by kernel_rfl)
#print axioms textQuotes_cardU

end Go.Proofs.YtjekflpogafodaaDoor
