/- The text of any lines is that of the reference, and the text of split lines is split into lines with the same fields, numbered from 1 on: TextWrites returns true for every input of bulk at most 1048576, and old memory is as it was. Condition: the listed variables of the library are as the program's text lays them (the card ties them). -/
import Derived.Test.YtjekflpogafodaaDoorWrw
import Derived.Test.YtjekflpogafodaaDoorOpL
set_option linter.unusedSimpArgs false
set_option linter.unusedVariables false
namespace Go.Proofs.YtjekflpogafodaaDoor
open Go.ChangeShapes Go.WideShapes Go.ChangeAt Go.RowKit Go.Joins

section
variable {H : Type} {enc : TypeId × Value → H} {w : World} {base b0 : Nat} {spare : Nat → Bool} {held : Bool} {r : Reach}
set_option maxRecDepth 100000 in
theorem open_linesD {v : Value} {d : DataW H} {p : List MemPlace} (hv : Value.okWide Tryd.prog w r b0 23 v) (h : DataW.Trod enc Tryd.prog w base spare held 23 v d p) :
    ∃ x : Option Addr × List Lin × Nat, v = .slice x.1 x.2.1.length x.2.2 ∧ (x.2.1.map lwt).sum ≤ Rows.uptoBulk d ∧ RdL w (.slice x.1 x.2.1.length x.2.2) x.2.1 := by
  obtain ⟨A, raw, c, rfl, h1, h2⟩ := open_lines hv h
  exact ⟨(A, raw, c), rfl, h2, h1⟩
end
set_option maxRecDepth 100000 in
theorem textWrites_walk (s : ByteArray) (x : Option Addr × List Lin × Nat) (w : World) (hs : s.size ≤ maxLen) (hr : RdL w (.slice x.1 x.2.1.length x.2.2) x.2.1) (henv : Env w) (hk : (x.2.1.map lwt).sum ≤ 1048576) :
    Calls Tryd.prog 5 #[.string s, .slice x.1 x.2.1.length x.2.2] w fun e w' => e = .returned (.bool true) ∧ Below w.heap.size w w' :=
  textWrites_walkR s x.2.1 _ w hs ⟨_, _, rfl⟩ (fun _ => ⟨hr, fine_of_bulk _ hk⟩) henv


theorem textWrites_reads (os : Os) {H : Type} (enc : TypeId × Value → H) : ∃ places, DataW.whole enc Tryd.prog ((World.laidAll Tryd.prog os laidA).forCall (fun _ _ => 0) ⟨#[], #[.string ⟨#[]⟩, .slice none 0 0], []⟩).memory Tryd.f5.params.toList Rows.textWritesSpec.vars false #[.string ⟨#[]⟩, .slice none 0 0].toList 8 = some ([.lit (.string []), .nil], [], places) := ⟨[], by kernel_rfl⟩
set_option maxRecDepth 100000 in
theorem textWrites_liftedU (os : Os) (started : os.Started) (H : Type) (enc : TypeId × Value → H) (F : Stop.Interp) :
    ReturnsInHanded {} Tryd.checked os 5 .any ((Rows.OpenSpec.upto Rows.textWritesSpec).preRow enc Tryd.prog Tryd.f5 Rows.textWritesUptoRow.domain false Rows.textWritesUptoRow.laid) (((Rows.OpenSpec.upto Rows.textWritesSpec).at F).post enc Tryd.prog Tryd.f5 false true false false) := by
  obtain ⟨places, hx⟩ := textWrites_reads os enc
  refine returnsInHanded_of_row (C := Tryd.checked) (s := Rows.OpenSpec.upto Rows.textWritesSpec) own started (by kernel_rfl) Tryd.func5
    (upto_witness (World.laidAll Tryd.prog os laidA) #[.string ⟨#[]⟩, .slice none 0 0] rfl (laidA_shaped os) (by kernel_rfl) (OpenSpec.preRow_of_cond 8 hx (by kernel_rfl) (fun k hk => by cases hk; kernel_rfl) (by kernel_rfl) (laidA_met os _))) ?_
  intro WW base args ds gs before hval hW _ hcond _ hL hS _
  have hpost := fun (W' : World) (hb : Below WW.heap.size WW W') (hfn : Rows.textWritesSpec.fn H (ds ++ []) = { results := [.lit (.bool true)], args := ds }) =>
    post_of_law (s := Rows.textWritesSpec) (fresh := true) (handsOn := false) laidOut (by rw [Tryd.params5]; intro t ht; simp at ht; (try subst ht) <;> (try (rcases ht with rfl | rfl)) <;> exact ⟨by kernel_rfl, of_decide_eq_true (by kernel_rfl)⟩) rfl hW (tb := 4) (by kernel_rfl) Tryd.underlying4 hfn hb
  have hbulk : Rows.uptoBulkAll (ds ++ gs) ≤ 1048576 := of_decide_eq_true (hcond _ rfl)
  obtain ⟨p, q, hA, hV, rfl, hfz, hnd⟩ := hW
  obtain ⟨rfl, rfl⟩ := trodVars_none hV
  rw [Tryd.params5] at hA hval
  obtain ⟨v0, vs0, d0, ds0, p0, q0, hargs, rfl, rfl, h0, r0⟩ := trodAll_cons hA
  obtain ⟨v1, vs1, d1, ds1, p1, q1, rfl, rfl, rfl, h1, r1⟩ := trodAll_cons r0
  obtain ⟨rfl, rfl, rfl⟩ := trodAll_nil r1
  obtain rfl : args = #[v0, v1] := by cases args; simp_all
  obtain ⟨a0, rfl, e0, g0⟩ := open_strD (hval 0 _ v0 rfl rfl) h0
  obtain ⟨a1, rfl, e1, g1⟩ := open_linesD (hval 1 _ v1 rfl rfl) h1
  refine (textWrites_walk a0 a1 WW g0 g1 (env_of_laid hL hS) (by simp only [List.append_nil, Rows.uptoBulkAll] at hbulk; omega)).mono fun e W' ⟨he, hg⟩ => ?_
  exact ⟨_, he, hpost W' hg rfl⟩

theorem textWrites_holdsU : Rows.TextWritesUptoSaid :=
  OpenClaim.holds_of_cond 5 Tryd.f5 rfl rfl rfl rfl rfl rfl rfl ⟨rfl, rfl, rfl, rfl, rfl⟩ rfl rfl rfl rfl rfl (by kernel_rfl) Tryd.func5 (by kernel_rfl)
    (of_decide_eq_true (by kernel_rfl)) (by unfold Func.isWrapper; first | (rw [if_pos (by decide +kernel)]; kernel_rfl) | (rw [if_neg (by decide +kernel)]; exact ⟨rfl, rfl⟩))
    (fun os started H enc _ F => by rw [OpenClaim.pre_eq_preRow]; exact textWrites_liftedU os started H enc F)

theorem textWrites_cardU : Rows.TextWritesUptoCardSaid :=
  Claim7.holds_tied_plain_at .later [] [.data, .data, .data, .data, .sentinel, .sentinel, .pinned] true Rows.textWritesUptoCard.stood.harness Rows.textWritesUptoCard.stood.looks
    textWrites_holdsU (fun _ h => by cases h) (by kernel_rfl) (fun _ h => by cases h) textWritesUpto_row_tie rfl ⟨rfl, rfl⟩ (by kernel_rfl) rfl
    (fun f fn hf hfn => by
      obtain rfl : f = 5 := Option.some.inj ((show Tryd.prog.funcNamed "scorebook/scorebooklaw03.TextWrites" = some 5 by kernel_rfl).symm.trans hf) |>.symm
      obtain rfl : fn = Tryd.f5 := (Option.some.inj (Tryd.func5.symm.trans hfn)).symm
      exact ⟨by kernel_rfl, fun j t ht => by
        rw [Tryd.params5] at ht
        have hm : t ∈ [9, 23] := by simpa using Array.mem_of_getElem? ht
        have hall : ([9, 23].all fun u => !Tryd.prog.wantsStandIn u) = true := by kernel_rfl
        exact (show Tryd.prog.wantsStandIn t = false by simpa using List.all_eq_true.1 hall t hm)⟩)
    (by kernel_rfl)
#print axioms textWrites_cardU

end Go.Proofs.YtjekflpogafodaaDoor
