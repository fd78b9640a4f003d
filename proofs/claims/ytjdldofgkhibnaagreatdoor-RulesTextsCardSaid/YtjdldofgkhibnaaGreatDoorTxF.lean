/- Contract of package text's Split. -/
import Derived.Test.YtjdldofgkhibnaaGreatDoorTxE
set_option linter.unusedSimpArgs false
set_option linter.unusedVariables false
namespace Go.Proofs.YtjdldofgkhibnaaGreatDoor
open Go.RowKit

theorem pcs_len : ∀ l : List UInt8, 1 ≤ (pcs l).length ∧ (pcs l).length ≤ l.length + 1 ∧ ∀ p ∈ pcs l, p.length ≤ l.length := by
  intro l
  induction l with
  | nil => simp [pcs]
  | cons c r ih =>
    obtain ⟨h1, h2, h3⟩ := ih
    rw [pcs]
    by_cases hc : c.toNat = 10
    · rw [if_pos hc]
      refine ⟨by simp, by simp; omega, ?_⟩
      intro p hp
      rcases List.mem_cons.1 hp with rfl | hp
      · simp
      · have := h3 p hp; simp; omega
    · rw [if_neg hc]
      cases hq : pcs r with
      | nil => rw [hq] at h1; simp at h1
      | cons q qs =>
        rw [hq] at h2 h3
        refine ⟨by simp, by simp at h2 ⊢; omega, ?_⟩
        intro p hp
        rcases List.mem_cons.1 hp with rfl | hp
        · have := h3 q (by simp); simp; omega
        · have := h3 p (by simp [hp]); simp; omega
theorem pcs_split (l : List UInt8) : (Lib.splitB (str [10]) 0 (Lib.countB (str l) (str [10])) (str l)).map Value.string = (pcs l).map S ∧ Lib.countB (str l) (str [10]) + 1 = (pcs l).length := by
  have h1 := Lib.splitB_data (str [10]) 0 (Lib.countB (str l) (str [10])) (str l)
  have h2 : Lib.splitK (str [10]).data.toList 0 (Lib.countB (str l) (str [10])) (str l).data.toList = pcs l := by
    rw [← sp_pcs]
    show Lib.splitK (str [10]).data.toList 0 (Lib.count (str l).data.toList (str [10]).data.toList) (str l).data.toList = _
    rw [str_list, str_list]; rfl
  rw [h2] at h1
  refine ⟨?_, ?_⟩
  · rw [← h1, List.map_map]
    apply List.map_congr_left
    intro x _
    show Value.string x = S x.data.toList
    unfold S; rw [str_of]
  · rw [← h1, List.length_map]
    exact (Lib.splitB_all (str [10]) (by rw [str_size]; simp) 0 _ (str l) rfl).symm
theorem sp_any (l : List UInt8) (w : World) (hl : l.length < 4294967281) (h : Env w) :
    Calls Tryz.prog 45 #[S l, .string ⟨#[10]⟩] w fun e w' => e = .returned (.slice (some ⟨w.heap.size, 0, none⟩) (pcs l).length (pcs l).length) ∧ w' = w.alloc (.cells ((pcs l).map S).toArray 9) := by
  obtain ⟨m, hm⟩ := h.max
  have h1 := Tryz.strings_Split (str l) (str [10]) m w (by rw [str_size]; exact hl) hm (by rw [str_size]; simp)
  rw [(pcs_split l).1, (pcs_split l).2] at h1
  exact h1

structure PInv (l : List UInt8) (w : World) (k : Nat) (L : List Lin) (D : List Dia) (vL vD : Value) (wr : World) : Prop where
  k0 : k ≤ (pcs l).length
  lin : L ++ linesF (k + 1) ((pcs l).drop k) = linesF 1 (pcs l)
  dia : D ++ diasF (k + 1) ((pcs l).drop k) = diasF 1 (pcs l)
  len : L.length ≤ k
  prow : Row wr w.heap.size 9 ((pcs l).map S)
  ownL : OwnL wr w.heap.size vL L
  ownD : OwnD wr w.heap.size vD (D.take 50)
  bel : Below w.heap.size w wr
section
variable {l : List UInt8} {w : World} {k : Nat} {L : List Lin} {D : List Dia} {vL vD : Value} {wr : World}
theorem PInv.below {W : World} (h : PInv l w k L D vL vD wr) (hb : Below wr.heap.size wr W) : PInv l w k L D vL vD W :=
  ⟨h.k0, h.lin, h.dia, h.len, h.prow.below hb h.prow.lt, h.ownL.below hb, own_below h.ownD hb, below_step h.bel h.bel.size hb⟩
theorem PInv.skip (h : PInv l w k L D vL vD wr) (hk : k < (pcs l).length) (hn : linE (pcs l)[k] = 0) (hv : linV (pcs l)[k] = []) : PInv l w (k + 1) L D vL vD wr := by
  have hd : (pcs l).drop k = (pcs l)[k] :: (pcs l).drop (k + 1) := List.drop_eq_getElem_cons hk
  have h1 := h.lin
  have h2 := h.dia
  rw [hd, linesF, if_neg (by simp [hv])] at h1
  rw [hd, diasF, if_pos hn] at h2
  exact ⟨hk, h1, h2, by have := h.len; omega, h.prow, h.ownL, h.ownD, h.bel⟩
theorem PInv.full (h : PInv l w k L D vL vD wr) (hk : k < (pcs l).length) (hn : linE (pcs l)[k] ≠ 0) (hf : 50 ≤ (D.take 50).length) : PInv l w (k + 1) L (D ++ [⟨(k : Int) + 1, linC (pcs l)[k], linE (pcs l)[k]⟩]) vL vD wr := by
  have ek : (k : Int) + 1 = ((k + 1 : Nat) : Int) := by omega
  rw [ek] at *
  have hd : (pcs l).drop k = (pcs l)[k] :: (pcs l).drop (k + 1) := List.drop_eq_getElem_cons hk
  have h1 := h.lin
  have h2 := h.dia
  rw [hd, linesF, if_neg (by simp [hn])] at h1
  rw [hd, diasF, if_neg hn] at h2
  refine ⟨hk, h1, by rw [List.append_assoc]; exact h2, by have := h.len; omega, h.prow, h.ownL, ?_, h.bel⟩
  have := h.ownD
  rw [List.length_take] at hf
  rw [List.take_append_of_le_length (by omega)]
  exact this
theorem PInv.dnew {W w5 : World} {v5 : Value} (h : PInv l w k L D vL vD wr) (hk : k < (pcs l).length) (hn : linE (pcs l)[k] ≠ 0) (hf : (D.take 50).length < 50) (hb : Below wr.heap.size wr W)
    (ho : w5.ownsRow w.heap.size 59 3 v5 ((D.take 50).length + 1) ((D.take 50).flatMap DgC ++ DgC ⟨(k : Int) + 1, linC (pcs l)[k], linE (pcs l)[k]⟩)) (hg : W.grownBy w5 vD.ownBlock) :
    PInv l w (k + 1) L (D ++ [⟨(k : Int) + 1, linC (pcs l)[k], linE (pcs l)[k]⟩]) vL v5 w5 := by
  have ek : (k : Int) + 1 = ((k + 1 : Nat) : Int) := by omega
  rw [ek] at *
  have hd : (pcs l).drop k = (pcs l)[k] :: (pcs l).drop (k + 1) := List.drop_eq_getElem_cons hk
  have hW := h.below hb
  have h1 := h.lin
  have h2 := h.dia
  rw [hd, linesF, if_neg (by simp [hn])] at h1
  rw [hd, diasF, if_neg hn] at h2
  have hlt : D.length < 50 := by rw [List.length_take] at hf; omega
  have e1 : D.take 50 = D := List.take_of_length_le (by omega)
  rw [e1] at ho
  refine ⟨hk, h1, by rw [List.append_assoc]; exact h2, by have := h.len; omega, ?_, ?_, ?_, ?_⟩
  · exact hW.prow.grown hg (fun e => own_row_ne hW.ownD hW.prow (by decide) e.symm)
  · obtain ⟨vs, q1, q2, q3⟩ := hW.ownL
    exact ⟨vs, q1, q2.kept hg (own_ne q2 hW.ownD (by decide)), fun i u x hu hx => (q3 i u x hu hx).kept hg (own_ne (q3 i u x hu hx) hW.ownD (by decide))⟩
  · rw [List.take_of_length_le (by simp; omega)]
    unfold OwnD
    rw [List.length_append, List.flatMap_append]
    simpa using ho
  · exact hW.bel.grown hg (hW.bel.size) (fun k hk => (World.ownsRow.lt hW.ownD k hk).1)
theorem PInv.lnew {W w5 : World} {v5 v : Value} {vs : List Value} (h : PInv l w k L D vL vD wr) (hk : k < (pcs l).length) (hn : linE (pcs l)[k] = 0) (hv : linV (pcs l)[k] ≠ []) (hb : Below wr.heap.size wr W)
    (hF : OwnF W w.heap.size v (linV (pcs l)[k])) (q1 : vs.length = L.length) (q2 : W.ownsRow w.heap.size 43 2 vL L.length (((L.map (·.num)).zip vs).flatMap LC))
    (q3 : ∀ (i : Nat) (u : Value) (x : Lin), vs[i]? = some u → L[i]? = some x → OwnF W w.heap.size u x.flds)
    (ho : w5.ownsRow w.heap.size 43 2 v5 (L.length + 1) (((L.map (·.num)).zip vs).flatMap LC ++ LC ((k : Int) + 1, v))) (hg : W.grownBy w5 vL.ownBlock) :
    PInv l w (k + 1) (L ++ [⟨(k : Int) + 1, linV (pcs l)[k]⟩]) D v5 vD w5 := by
  have ek : (k : Int) + 1 = ((k + 1 : Nat) : Int) := by omega
  rw [ek] at *
  have hd : (pcs l).drop k = (pcs l)[k] :: (pcs l).drop (k + 1) := List.drop_eq_getElem_cons hk
  have hW := h.below hb
  have h1 := h.lin
  have h2 := h.dia
  rw [hd, linesF, if_pos ⟨hn, hv⟩] at h1
  rw [hd, diasF, if_pos hn] at h2
  refine ⟨hk, by rw [List.append_assoc]; exact h1, h2, by have := h.len; simp; omega, ?_, ?_, ?_, ?_⟩
  · exact hW.prow.grown hg (fun e => own_row_ne q2 hW.prow (by decide) e.symm)
  · refine ⟨vs ++ [v], by simp [q1], ?_, ?_⟩
    · rw [List.length_append, List.map_append, List.zip_append (by simp [q1]), List.flatMap_append]
      simpa using ho
    · intro i u x hu hx
      rcases Nat.lt_or_ge i L.length with hi | hi
      · rw [List.getElem?_append_left (by omega)] at hu
        rw [List.getElem?_append_left hi] at hx
        exact (q3 i u x hu hx).kept hg (own_ne (q3 i u x hu hx) q2 (by decide))
      · rw [List.getElem?_append_right (by omega)] at hu
        rw [List.getElem?_append_right hi] at hx
        have hi0 : i - L.length = 0 := by
          rcases Nat.eq_zero_or_pos (i - L.length) with h0 | h0
          · exact h0
          · rw [List.getElem?_eq_none (by simp; omega)] at hx; cases hx
        rw [q1, hi0] at hu
        rw [hi0] at hx
        simp at hu hx
        subst hu hx
        exact hF.kept hg (own_ne hF q2 (by decide))
  · exact hW.ownD.kept hg (own_ne hW.ownD q2 (by decide))
  · exact hW.bel.grown hg (hW.bel.size) (fun k hk => (World.ownsRow.lt q2 k hk).1)
end
/-- What Split answers. -/
def SpPost (l : List UInt8) (w : World) (e : Ending) (w' : World) : Prop :=
  ∃ vL vD, e = .returned (.tuple #[vL, vD]) ∧ OwnL w' w.heap.size vL (spL l) ∧ OwnD w' w.heap.size vD (spD l) ∧ Below w.heap.size w w'
set_option maxRecDepth 100000 in
set_option maxHeartbeats 8000000 in
theorem split_any (l : List UInt8) (w : World) (hl : l.length < 4294967281) (henv : Env w) :
    Calls Tryz.prog 24 #[S l] w (SpPost l w) := by
  have z := str_size l
  by_cases hb : 262144 < l.length
  · have HQ : Hid (SpPost l w = fun e w' => ∃ vL vD, e = .returned (.tuple #[vL, vD]) ∧ OwnL w' w.heap.size vL [] ∧ OwnD w' w.heap.size vD [⟨1, 1, 9⟩] ∧ Below w.heap.size w w') := Lib.hid (by unfold SpPost spL spD; rw [if_pos hb, if_pos hb])
    have k1 : (262144 : Int) < (l.length : Int) := by omega
    clear henv
    generalize SpPost l w = Q at *
    go_enter Tryz.func24, Tryz.ntmps24
    go_wp2
    rw [HQ.out]
    exact ⟨_, _, rfl, ownL_nil _ _, World.ownsRow_lit w #[.int .i64 1, .int .i64 1, .int .i64 9] 1 (Nat.le_refl _) (by unfold maxLen; omega) rfl, by (repeat' (first | (with_reducible exact Below.refl _ _) | (with_reducible refine Below.setCell ?_ ?_ _) | (with_reducible refine Below.alloc ?_ ?_ _) | (with_reducible refine Below.drew ?_) | (with_reducible refine belowN ?_ _) | (with_reducible refine below_step ?_ ?_ (by with_reducible assumption)) | go_size))⟩
  · have HQ : Hid (SpPost l w = fun e w' => ∃ vL vD, e = .returned (.tuple #[vL, vD]) ∧ OwnL w' w.heap.size vL (linesF 1 (pcs l)) ∧ OwnD w' w.heap.size vD ((diasF 1 (pcs l)).take 50) ∧ Below w.heap.size w w') := Lib.hid (by unfold SpPost spL spD; rw [if_neg hb, if_neg hb])
    have k1 : ¬ (262144 : Int) < (l.length : Int) := by omega
    have HS : Hid (∀ w, Env w → Calls Tryz.prog 45 #[S l, .string ⟨#[10]⟩] w fun e w' => e = .returned (.slice (some ⟨w.heap.size, 0, none⟩) (pcs l).length (pcs l).length) ∧ w' = w.alloc (.cells ((pcs l).map S).toArray 9)) := Lib.hid (fun w h => sp_any l w hl h)
    have HE := Lib.hid henv
    obtain ⟨n1, n2, n3⟩ := pcs_len l
    have N3 := Lib.hid n3
    obtain ⟨i1, qi1, qy0, qy1, qy2⟩ := info_parts infoL
    obtain ⟨i0, qi0, qz0, qz1, qz2⟩ := info_parts infoD
    clear henv n3
    generalize SpPost l w = Q at *
    go_enter Tryz.func24, Tryz.ntmps24
    go_wp2_with (go_at_call 45; (with_reducible refine (HS.out _ HE.out).mono ?_); rintro e w1 ⟨rfl, rfl⟩)
    go_loopw [4, 5, 19] (fun vL vD t wr => ∃ (k : Nat) (L : List Lin) (D : List Dia), PInv l w k L D vL vD wr ∧ t = .int .i64 (k : Int)) (fun _ _ t _ => (pcs l).length - (intOf t).toNat)
    case atStart => exact ⟨0, [], [], ⟨Nat.zero_le _, by simp, by simp, by simp, Row.new w _ _, ownL_nil _ _, ownD_nil _ _, (Below.refl _ _).alloc (Nat.le_refl _) _⟩, rfl⟩
    case round =>
      obtain ⟨k, L, D, hi, rfl⟩ := hrel
      have HI := Lib.hid hi
      have hk := hi.k0
      have hrl := Row.lt hi.prow
      have hbel := hi.bel
      have hLl := hi.len
      have hfz := hi.prow.free k
      by_cases hlt : k < (pcs l).length
      · obtain ⟨p, hp⟩ : ∃ p, p = (pcs l)[k] := ⟨_, rfl⟩
        have hpl : p.length < 4294967281 := by have := N3.out p (by rw [hp]; exact List.getElem_mem hlt); omega
        have hc : wr.cell? ⟨w.heap.size, k, none⟩ = some (S p) := by rw [hi.prow.cell, List.getElem?_map, List.getElem?_eq_getElem hlt, hp]; rfl
        have HSL : Hid (∀ w, Env w → Calls Tryz.prog 46 #[S p] w (SplPost p w)) := Lib.hid (fun w h => splitLine_any p w hpl h)
        have HP := Lib.hid hp
        have hkn : (k : Int) < ((pcs l).length : Int) := by omega
        by_cases hE : linE p = 0
        · have k2 : (linE p == 0) = true := beq_iff_eq.2 hE
          have k3 : (linE p != 0) = false := by simp only [bne, k2]; rfl
          by_cases hV : linV p = []
          · have HStep : Hid (PInv l w (k + 1) L D u4 u5 wr) := Lib.hid (hi.skip hlt (by rw [← hp]; exact hE) (by rw [← hp]; exact hV))
            have HV := Lib.hid hV
            clear hp hpl hE hi hV
            go_wp2_with fail
            refine (HSL.out _ (HE.out.stays hbel)).mono ?_
            rintro e w2 ⟨v, rfl, hF, hb2⟩
            have hz2 := hb2.size
            have hF2 := own_form hF
            rw [HV.out] at hF2
            rcases hF2 with ⟨_, rfl⟩ | ⟨g, cap, rfl, _, _, _, _⟩
            all_goals
              clear hF
              go_wp2
              exact ⟨⟨k + 1, L, D, HStep.out.below (by (repeat' (first | (with_reducible exact Below.refl _ _) | (with_reducible refine Below.setCell ?_ ?_ _) | (with_reducible refine Below.alloc ?_ ?_ _) | (with_reducible refine Below.drew ?_) | (with_reducible refine belowN ?_ _) | (with_reducible refine below_step ?_ ?_ (by with_reducible assumption)) | go_size))), by go_num⟩, by simp [intOf]; omega⟩
          · obtain ⟨vs, q1, q2, q3⟩ := hi.ownL
            have HStep : Hid (∀ (W w5 : World) (v v5 : Value), Below wr.heap.size wr W → OwnF W w.heap.size v (linV p) → w5.ownsRow w.heap.size 43 2 v5 (L.length + 1) (((L.map (·.num)).zip vs).flatMap LC ++ LC ((k : Int) + 1, v)) → W.grownBy w5 u4.ownBlock → PInv l w (k + 1) (L ++ [⟨(k : Int) + 1, linV p⟩]) D v5 u5 w5) :=
              Lib.hid (fun W w5 v v5 h1 h2 h3 h4 => by
                have := hi.lnew hlt (by rw [← hp]; exact hE) (by rw [← hp]; exact hV) h1 (by rw [← hp]; exact h2) q1 (own_below q2 h1) (fun i u x hu hx => own_below (q3 i u x hu hx) h1) h3 h4
                rw [← hp] at this; exact this)
            have HV := Lib.hid hV
            have Q2 := Lib.hid q2
            have hL0 : 0 < (linV p).length := by cases h : linV p with | nil => exact absurd h hV | cons _ _ => simp
            have hge : (0 : Int) < ((linV p).length : Int) := by omega
            clear hp hpl hE hi hV q1 q2 q3
            go_wp2_with fail
            refine (HSL.out _ (HE.out.stays hbel)).mono ?_
            rintro e w2 ⟨v, rfl, hF, hb2⟩
            have hz2 := hb2.size
            rcases own_form hF with ⟨h0, _⟩ | ⟨g, cap, rfl, hg1, hg2, hg3, hg4⟩
            · omega
            · have HF := Lib.hid (own_base hF hbel.size)
              clear hF hL0
              go_wp2_with (at_builtin; (refine wpList_append_own_at _ rfl _ _ 47 rfl w.heap.size 43 i1 _ 2 32 Tryz.underlying47 qi1 qy0 qy1 qy2 rfl (by omega) u4 L.length (((L.map (·.num)).zip vs).flatMap LC) rfl (own_below Q2.out (by (repeat' (first | (with_reducible exact Below.refl _ _) | (with_reducible refine Below.setCell ?_ ?_ _) | (with_reducible refine Below.alloc ?_ ?_ _) | (with_reducible refine Below.drew ?_) | (with_reducible refine belowN ?_ _) | (with_reducible refine below_step ?_ ?_ (by with_reducible assumption)) | go_size)))) _ 1 1 (LC ((k : Int) + 1, .slice (some ⟨g, 0, none⟩) (linV p).length cap)) rfl rfl (cells_at _ (LC ((k : Int) + 1, .slice (some ⟨g, 0, none⟩) (linV p).length cap)) 43 _ (by simp only [World.size_alloc])) (by intro u hu; simp [LC] at hu; rcases hu with rfl | rfl <;> rfl) (by unfold maxLen; omega) (by omega) (by go_size) ?_); intro v5 w5 hown5 hgrow5 _ _)
              have hst := HStep.out _ w5 _ v5 (by (repeat' (first | (with_reducible exact Below.refl _ _) | (with_reducible refine Below.setCell ?_ ?_ _) | (with_reducible refine Below.alloc ?_ ?_ _) | (with_reducible refine Below.drew ?_) | (with_reducible refine belowN ?_ _) | (with_reducible refine below_step ?_ ?_ (by with_reducible assumption)) | go_size))) (own_below HF.out (by (repeat' (first | (with_reducible exact Below.refl _ _) | (with_reducible refine Below.setCell ?_ ?_ _) | (with_reducible refine Below.alloc ?_ ?_ _) | (with_reducible refine Below.drew ?_) | (with_reducible refine belowN ?_ _) | (with_reducible refine below_step ?_ ?_ (by with_reducible assumption)) | go_size)))) hown5 hgrow5
              exact ⟨⟨_, _, _, hst, by go_num⟩, by simp [intOf]; omega⟩
        · have k2 : (linE p == 0) = false := beq_eq_false_iff_ne.2 hE
          have k3 : (linE p != 0) = true := by simp only [bne, k2]; rfl
          by_cases hf : (D.take 50).length < 50
          · have HStep : Hid (∀ (W w5 : World) (v5 : Value), Below wr.heap.size wr W → w5.ownsRow w.heap.size 59 3 v5 ((D.take 50).length + 1) ((D.take 50).flatMap DgC ++ DgC ⟨(k : Int) + 1, linC p, linE p⟩) → W.grownBy w5 u5.ownBlock → PInv l w (k + 1) L (D ++ [⟨(k : Int) + 1, linC p, linE p⟩]) u4 v5 w5) :=
              Lib.hid (fun W w5 v5 h1 h2 h3 => by
                have := hi.dnew hlt (by rw [← hp]; exact hE) hf h1 (by rw [← hp]; exact h2) h3
                rw [← hp] at this; exact this)
            have Q2 := Lib.hid hi.ownD
            have hdf := own_form hi.ownD
            clear hp hpl hE hi
            generalize D.take 50 = D5 at *
            have hge : (D5.length : Int) < 50 := by omega
            rcases hdf with ⟨hn0, rfl⟩ | ⟨g, cap, rfl, _, _, _, _⟩
            · have hn1 := Lib.hid hn0
              clear hn0
              go_wp2_with fail
              refine (HSL.out _ (HE.out.stays hbel)).mono ?_
              rintro e w2 ⟨v, rfl, hF, hb2⟩
              have hz2 := hb2.size
              clear hF
              go_wp2_with (at_builtin; (refine wpList_append_own_at _ rfl _ _ 33 rfl w.heap.size 59 i0 _ 3 24 Tryz.underlying33 qi0 qz0 qz1 qz2 rfl (by omega) (.slice none 0 0) D5.length (D5.flatMap DgC) rfl (own_below Q2.out (by (repeat' (first | (with_reducible exact Below.refl _ _) | (with_reducible refine Below.setCell ?_ ?_ _) | (with_reducible refine Below.alloc ?_ ?_ _) | (with_reducible refine Below.drew ?_) | (with_reducible refine belowN ?_ _) | (with_reducible refine below_step ?_ ?_ (by with_reducible assumption)) | go_size)))) _ 1 1 (DgC ⟨(k : Int) + 1, linC p, linE p⟩) rfl rfl (cells_at _ (DgC ⟨(k : Int) + 1, linC p, linE p⟩) 59 _ (by simp only [World.size_alloc])) (DC_one _) (by unfold maxLen; omega) (by omega) (by go_size) ?_); intro v5 w5 hown5 hgrow5 _ _)
              have hst := HStep.out _ w5 v5 (by (repeat' (first | (with_reducible exact Below.refl _ _) | (with_reducible refine Below.setCell ?_ ?_ _) | (with_reducible refine Below.alloc ?_ ?_ _) | (with_reducible refine Below.drew ?_) | (with_reducible refine belowN ?_ _) | (with_reducible refine below_step ?_ ?_ (by with_reducible assumption)) | go_size))) hown5 hgrow5
              exact ⟨⟨_, _, _, hst, by go_num⟩, by simp [intOf]; omega⟩
            · go_wp2_with fail
              refine (HSL.out _ (HE.out.stays hbel)).mono ?_
              rintro e w2 ⟨v, rfl, hF, hb2⟩
              have hz2 := hb2.size
              clear hF
              go_wp2_with (at_builtin; (refine wpList_append_own_at _ rfl _ _ 33 rfl w.heap.size 59 i0 _ 3 24 Tryz.underlying33 qi0 qz0 qz1 qz2 rfl (by omega) (.slice (some ⟨g, 0, none⟩) D5.length cap) D5.length (D5.flatMap DgC) rfl (own_below Q2.out (by (repeat' (first | (with_reducible exact Below.refl _ _) | (with_reducible refine Below.setCell ?_ ?_ _) | (with_reducible refine Below.alloc ?_ ?_ _) | (with_reducible refine Below.drew ?_) | (with_reducible refine belowN ?_ _) | (with_reducible refine below_step ?_ ?_ (by with_reducible assumption)) | go_size)))) _ 1 1 (DgC ⟨(k : Int) + 1, linC p, linE p⟩) rfl rfl (cells_at _ (DgC ⟨(k : Int) + 1, linC p, linE p⟩) 59 _ (by simp only [World.size_alloc])) (DC_one _) (by unfold maxLen; omega) (by omega) (by go_size) ?_); intro v5 w5 hown5 hgrow5 _ _)
              have hst := HStep.out _ w5 v5 (by (repeat' (first | (with_reducible exact Below.refl _ _) | (with_reducible refine Below.setCell ?_ ?_ _) | (with_reducible refine Below.alloc ?_ ?_ _) | (with_reducible refine Below.drew ?_) | (with_reducible refine belowN ?_ _) | (with_reducible refine below_step ?_ ?_ (by with_reducible assumption)) | go_size))) hown5 hgrow5
              exact ⟨⟨_, _, _, hst, by go_num⟩, by simp [intOf]; omega⟩
          · have HStep : Hid (PInv l w (k + 1) L (D ++ [⟨(k : Int) + 1, linC p, linE p⟩]) u4 u5 wr) := Lib.hid (by
              have := hi.full hlt (by rw [← hp]; exact hE) (by omega)
              rw [← hp] at this; exact this)
            have hdf := own_form hi.ownD
            clear hp hpl hE hi
            generalize D.take 50 = D5 at *
            have hge : ¬ (D5.length : Int) < 50 := by omega
            rcases hdf with ⟨hn0, rfl⟩ | ⟨g, cap, rfl, _, _, _, _⟩
            · omega
            · go_wp2_with fail
              refine (HSL.out _ (HE.out.stays hbel)).mono ?_
              rintro e w2 ⟨v, rfl, hF, hb2⟩
              have hz2 := hb2.size
              clear hF
              go_wp2
              exact ⟨⟨k + 1, L, _, HStep.out.below (by (repeat' (first | (with_reducible exact Below.refl _ _) | (with_reducible refine Below.setCell ?_ ?_ _) | (with_reducible refine Below.alloc ?_ ?_ _) | (with_reducible refine Below.drew ?_) | (with_reducible refine belowN ?_ _) | (with_reducible refine below_step ?_ ?_ (by with_reducible assumption)) | go_size))), by go_num⟩, by simp [intOf]; omega⟩
      · have e1 : (pcs l).drop k = [] := List.drop_eq_nil_of_le (by omega)
        have h1 := hi.lin
        have h2 := hi.dia
        rw [e1] at h1 h2
        have HL : Hid (linesF 1 (pcs l) = L) := Lib.hid (by rw [← h1]; simp [linesF])
        have HD : Hid (diasF 1 (pcs l) = D) := Lib.hid (by rw [← h2]; simp [diasF])
        have hkn : ¬ (k : Int) < ((pcs l).length : Int) := by omega
        clear hi h1 h2 e1
        go_wp2
        rw [HQ.out, HL.out, HD.out]
        exact ⟨_, _, rfl, HI.out.ownL, HI.out.ownD, hbel⟩
end Go.Proofs.YtjdldofgkhibnaaGreatDoor
