/- The lines and the diagnostics of any source are those of the reference: TextSplits returns true for every input, and old memory is as it was. Condition: the listed variables of the library are as the program's text lays them (the card ties them). -/
import Derived.Test.YtjekflpogafodaaDoorTxK
import Derived.Test.YtjekflpogafodaaDoorTxH
import Derived.Test.YtjekflpogafodaaDoorTxJ
import Derived.Test.YtjekflpogafodaaDoorLiftT
set_option linter.unusedSimpArgs false
set_option linter.unusedVariables false
namespace Go.Proofs.YtjekflpogafodaaDoor
open Go.ChangeShapes Go.WideShapes Go.ChangeAt Go.RowKit Go.Joins

theorem scn_len (l : List UInt8) : ∀ (n i : Nat) (xs : List Fld), l.length - i ≤ n → scn l i = .ok xs → xs.length ≤ l.length - i := by
  intro n
  induction n with
  | zero => intro i xs hn h; rw [scn_end l i (by omega)] at h; injection h with h; subst h; simp
  | succ n ih =>
    intro i xs hn h
    by_cases hi : i < l.length
    · by_cases h59 : l[i].toNat = 59
      · rw [scn_semi l i hi h59] at h; injection h with h; subst h; simp
      · cases hw : wht l[i]
        · cases hb : fldB l i
          · rw [scn_bad l i hi h59 hw hb] at h; cases h
          · rw [scn_field l i hi h59 hw hb] at h
            have h3 := fldE_lt l i hi hb h59 hw
            cases hq : scn l (fldE l i) with
            | ok ys =>
              rw [hq] at h
              simp only [pre, Except.ok.injEq] at h
              have := ih (fldE l i) ys (by omega) hq
              rw [← h]; simp; omega
            | error e => rw [hq] at h; simp [pre] at h
        · rw [scn_white l i hi hw] at h
          have := ih (i + 1) xs (by omega) h
          omega
    · rw [scn_end l i (by omega)] at h; injection h with h; subst h; simp
theorem linV_len (p : List UInt8) : (linV p).length ≤ p.length := by
  unfold linV linR
  by_cases h : 1000 < p.length
  · rw [if_pos h]; simp
  · rw [if_neg h]
    cases hs : scn p 0 with
    | ok xs => have := scn_len p _ 0 xs (Nat.le_refl _) hs; simpa using this
    | error e => simp
theorem linesF_len : ∀ (ps : List (List UInt8)) (n : Nat), (linesF n ps).length ≤ ps.length := by
  intro ps
  induction ps with
  | nil => intro n; simp [linesF]
  | cons p r ih => intro n; rw [linesF]; have := ih (n + 1); split <;> simp <;> omega
theorem diasF_len : ∀ (ps : List (List UInt8)) (n : Nat), (diasF n ps).length ≤ ps.length := by
  intro ps
  induction ps with
  | nil => intro n; simp [diasF]
  | cons p r ih => intro n; rw [diasF]; have := ih (n + 1); split <;> simp <;> omega
theorem linesF_flds (m : Nat) : ∀ (ps : List (List UInt8)) (n : Nat), (∀ p ∈ ps, p.length ≤ m) → ∀ x ∈ linesF n ps, x.flds.length ≤ m := by
  intro ps
  induction ps with
  | nil => intro n _ x hx; simp [linesF] at hx
  | cons p r ih =>
    intro n h x hx
    rw [linesF] at hx
    have h1 := ih (n + 1) (fun q hq => h q (by simp [hq])) x
    split at hx
    · rcases List.mem_cons.1 hx with rfl | hx
      · have := linV_len p; have := h p (by simp); simp; omega
      · exact h1 hx
    · exact h1 hx
theorem spL_len (l : List UInt8) : (spL l).length ≤ 262145 := by
  unfold spL
  split
  · simp
  · have := linesF_len (pcs l) 1; have := (pcs_len l).2.1; omega
theorem spD_len (l : List UInt8) : (spD l).length ≤ 262145 := by
  unfold spD
  split
  · simp
  · rw [List.length_take]; omega
theorem spL_flds (l : List UInt8) : ∀ x ∈ spL l, x.flds.length ≤ 262144 := by
  unfold spL
  split
  · intro x hx; simp at hx
  · intro x hx
    exact linesF_flds 262144 (pcs l) 1 (fun p hp => by have := (pcs_len l).2.2 p hp; omega) x hx
set_option maxRecDepth 100000 in
set_option maxHeartbeats 4000000 in
theorem textSplits_walk (s : ByteArray) (w : World) (hs : s.size ≤ maxLen) (henv : Env w) :
    Calls Tryd.prog 3 #[.string s] w fun e w' => e = .returned (.bool true) ∧ Below w.heap.size w w' := by
  have hA := Lib.hid awake_any
  have HE := Lib.hid henv
  by_cases h2 : 5000 < s.size
  · have z2 : (5000 : Int) < (s.size : Int) := by omega
    clear h2 hs henv
    go_enter Tryd.func3, Tryd.ntmps3
    go_wp2_with (go_at_call 8; (with_reducible refine (hA.out _ ?_).mono ?_); (focus (exact HE.out.stays (by (repeat' (first | (with_reducible exact Below.refl _ _) | (with_reducible refine Below.setCell ?_ ?_ _) | (with_reducible refine Below.alloc ?_ ?_ _) | (with_reducible refine Below.drew ?_) | (with_reducible refine belowN ?_ _) | (with_reducible refine below_step ?_ ?_ (by with_reducible assumption)) | go_size))))); rintro e w1 ⟨rfl, hb1⟩; have hz1 := hb1.size; (try simp only [World.size_alloc, World.size_setCell, World.size_drew, size_drewN'] at hz1))
    go_ret
    exact ⟨rfl, by (repeat' (first | (with_reducible exact Below.refl _ _) | (with_reducible refine Below.setCell ?_ ?_ _) | (with_reducible refine Below.alloc ?_ ?_ _) | (with_reducible refine Below.drew ?_) | (with_reducible refine belowN ?_ _) | (with_reducible refine below_step ?_ ?_ (by with_reducible assumption)) | go_size))⟩
  · obtain ⟨l, rfl⟩ : ∃ l, s = str l := ⟨s.data.toList, (str_of s).symm⟩
    rw [str_size] at h2
    have HP : Hid (∀ w, Env w → Calls Tryd.prog 9 #[S l] w (SpPost l w)) := Lib.hid (fun w h => split_any l w (by omega) h)
    have HR : Hid (∀ w, Calls Tryd.prog 10 #[S l] w (SpPost l w)) := Lib.hid (fun w => rsplit_any l w (by omega))
    have z := str_size l
    have z2 : ¬ (5000 : Int) < ((str l).size : Int) := by omega
    have n1 := spL_len l
    have n2 := spD_len l
    have n3 := Lib.hid (spL_flds l)
    unfold SpPost S at *
    generalize spL l = L at *
    generalize spD l = D at *
    generalize str l = t at *
    clear z h2 hs henv
    go_enter Tryd.func3, Tryd.ntmps3
    go_wp2_with (first
      | (go_at_call 8; (with_reducible refine (hA.out _ ?_).mono ?_); (focus (exact HE.out.stays (by (repeat' (first | (with_reducible exact Below.refl _ _) | (with_reducible refine Below.setCell ?_ ?_ _) | (with_reducible refine Below.alloc ?_ ?_ _) | (with_reducible refine Below.drew ?_) | (with_reducible refine belowN ?_ _) | (with_reducible refine below_step ?_ ?_ (by with_reducible assumption)) | go_size))))); rintro e w1 ⟨rfl, hb1⟩; have hz1 := hb1.size; (try simp only [World.size_alloc, World.size_setCell, World.size_drew, size_drewN'] at hz1))
      | (go_at_call 9; (with_reducible refine (HP.out _ ?_).mono ?_); (focus (exact HE.out.stays (by (repeat' (first | (with_reducible exact Below.refl _ _) | (with_reducible refine Below.setCell ?_ ?_ _) | (with_reducible refine Below.alloc ?_ ?_ _) | (with_reducible refine Below.drew ?_) | (with_reducible refine belowN ?_ _) | (with_reducible refine below_step ?_ ?_ (by with_reducible assumption)) | go_size))))); rintro e w2 ⟨vL, vD, rfl, hL, hD, hb2⟩; have hz2 := hb2.size; (try simp only [World.size_alloc, World.size_setCell, World.size_drew, size_drewN'] at hz2))
      | (go_at_call 10; (with_reducible refine (HR.out _).mono ?_); rintro e w3 ⟨xL, xD, rfl, rL, rD, hb3⟩; have hz3 := hb3.size; (try simp only [World.size_alloc, World.size_setCell, World.size_drew, size_drewN'] at hz3))
      | (go_at_call 11; (refine (sameL_any L _ _ _ _ _ (by omega) (fun x hx => by have := n3.out x hx; omega) (hL.below hb3) rL).mono ?_); rintro e w' ⟨rfl, k, rfl⟩)
      | (go_at_call 12; (refine (sameD_any D _ _ _ _ _ (by omega) (own_drewN (own_below hD hb3) k) (own_drewN rD k)).mono ?_); rintro e w' ⟨rfl, k2, rfl⟩))
    go_ret
    exact ⟨rfl, by (repeat' (first | (with_reducible exact Below.refl _ _) | (with_reducible refine Below.setCell ?_ ?_ _) | (with_reducible refine Below.alloc ?_ ?_ _) | (with_reducible refine Below.drew ?_) | (with_reducible refine belowN ?_ _) | (with_reducible refine below_step ?_ ?_ (by with_reducible assumption)) | go_size))⟩


set_option maxRecDepth 100000 in
theorem textSplits_lifted (os : Os) (started : os.Started) (H : Type) (enc : TypeId × Value → H) :
    ReturnsInHanded {} Tryd.checked os 3 .any (fun w args => (Rows.textSplitsSpec.pre enc Tryd.prog Tryd.f3 [] false w args ∧ laidMetH Tryd.prog laidA w) ∧ sizedMet enc Tryd.prog Tryd.f3 (OpenSpec.ofChange Rows.textSplitsSpec) false w args)
      (Rows.textSplitsSpec.post enc Tryd.prog Tryd.f3 false true false false) := by
  refine law_lift (C := Tryd.checked) (X := fun w _ => laidMetH Tryd.prog laidA w) (tb := 4) (fun _ _ _ hh h => h.of_heap hh) own started (by kernel_rfl) Tryd.func3 laidOut
    (by rw [Tryd.params3]; intro t ht; simp at ht; (try subst ht) <;> (try (rcases ht with rfl | rfl)) <;> exact ⟨by kernel_rfl, of_decide_eq_true (by kernel_rfl)⟩) rfl (by kernel_rfl) Tryd.underlying4
    (ChangeSpec.witness_shaped (enc := enc) (C := Tryd.checked) (os := os) (X := fun w _ => laidMetH Tryd.prog laidA w) false (World.laidAll Tryd.prog os laidA) #[.string ⟨#[]⟩] 8 rfl (laidA_shaped os) (by kernel_rfl) (by kernel_rfl) (by kernel_rfl) (laidA_met os _)) ?_
  intro WW base args ds gs p hval hA hreach hL hS
  rw [Tryd.params3] at hA hval
  obtain ⟨v0, vs0, d0, ds0, p0, q0, hargs, rfl, rfl, h0, r0⟩ := trodAll_cons hA
  obtain ⟨rfl, rfl, rfl⟩ := trodAll_nil r0
  obtain rfl : args = #[v0] := by cases args; simp_all
  obtain ⟨a0, rfl, g0⟩ := open_str (hval 0 _ v0 rfl rfl) h0
  exact ⟨rfl, textSplits_walk a0 WW g0 (env_of_laid hL hS)⟩

theorem textSplits_holds : Rows.TextSplitsSaid :=
  OpenClaim.holds_of_wide 3 Tryd.f3 rfl rfl rfl rfl rfl rfl rfl ⟨rfl, rfl, rfl, rfl, rfl⟩ rfl rfl rfl rfl rfl (by kernel_rfl) Tryd.func3 (by kernel_rfl)
    (of_decide_eq_true (by kernel_rfl)) (by unfold Func.isWrapper; first | (rw [if_pos (by decide +kernel)]; kernel_rfl) | (rw [if_neg (by decide +kernel)]; exact ⟨rfl, rfl⟩))
    (fun os started H enc _ => textSplits_lifted os started H enc)

theorem textSplits_card : Rows.TextSplitsCardSaid :=
  Claim7.holds_tied_plain_at .later [] [.data, .data, .data, .data, .sentinel, .sentinel, .pinned] true Rows.textSplitsCard.stood.harness Rows.textSplitsCard.stood.looks
    textSplits_holds (fun _ h => by cases h) (by kernel_rfl) (fun _ h => by cases h) textSplits_row_tie rfl ⟨rfl, rfl⟩ (by kernel_rfl) rfl
    (fun f fn hf hfn => by
      obtain rfl : f = 3 := Option.some.inj ((show Tryd.prog.funcNamed "scorebook/scorebooklaw03.TextSplits" = some 3 by kernel_rfl).symm.trans hf) |>.symm
      obtain rfl : fn = Tryd.f3 := (Option.some.inj (Tryd.func3.symm.trans hfn)).symm
      exact ⟨by kernel_rfl, fun j t ht => by
        rw [Tryd.params3] at ht
        have hm : t ∈ [9] := by simpa using Array.mem_of_getElem? ht
        have hall : ([9].all fun u => !Tryd.prog.wantsStandIn u) = true := by kernel_rfl
        exact (show Tryd.prog.wantsStandIn t = false by simpa using List.all_eq_true.1 hall t hm)⟩)
    (by kernel_rfl)
#print axioms textSplits_card

end Go.Proofs.YtjekflpogafodaaDoor
