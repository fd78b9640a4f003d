/- Contract of the reference's Split. -/
import Derived.Test.YtjekflpogafodaaDoorTxG
import Derived.RegionTactic
import Derived.BigRegion
set_option linter.unusedSimpArgs false
set_option linter.unusedVariables false
namespace Go.Proofs.YtjekflpogafodaaDoor
open Go.RowKit

theorem pcs_no (a : List UInt8) (h : ∀ c ∈ a, c.toNat ≠ 10) : pcs a = [a] := by
  induction a with
  | nil => rfl
  | cons c r ih =>
    rw [pcs, if_neg (h c (by simp)), ih (fun x hx => h x (by simp [hx]))]
theorem pcs_nl (a : List UInt8) (c : UInt8) (r : List UInt8) (h : ∀ c ∈ a, c.toNat ≠ 10) (hc : c.toNat = 10) : pcs (a ++ c :: r) = a :: pcs r := by
  induction a with
  | nil => simp [pcs, hc]
  | cons d s ih =>
    rw [List.cons_append, pcs, if_neg (h d (by simp)), ih (fun x hx => h x (by simp [hx]))]
def QMain (l : List UInt8) (i st n : Nat) (L : List Lin) (D : List Dia) : Prop :=
  (i ≤ l.length ∧ (∀ c ∈ (l.drop st).take (i - st), c.toNat ≠ 10) ∧ L ++ linesF n (pcs (l.drop st)) = linesF 1 (pcs l) ∧ D ++ diasF n (pcs (l.drop st)) = diasF 1 (pcs l)) ∨
  (i = l.length + 1 ∧ L = linesF 1 (pcs l) ∧ D = diasF 1 (pcs l))
theorem QMain.next {l : List UInt8} {i st n : Nat} {L : List Lin} {D : List Dia} (h : QMain l i st n L D) (hs : st ≤ i) (hi : i < l.length) (hc : l[i].toNat ≠ 10) : QMain l (i + 1) st n L D := by
  rcases h with ⟨h1, h2, h3, h4⟩ | ⟨h1, _⟩
  · refine Or.inl ⟨hi, ?_, h3, h4⟩
    intro c hcm
    have e : (l.drop st).take (i + 1 - st) = (l.drop st).take (i - st) ++ [l[i]] := by
      rw [show i + 1 - st = (i - st) + 1 by omega, List.take_succ_eq_append_getElem (by rw [List.length_drop]; omega), List.getElem_drop]
      congr 3; omega
    rw [e, List.mem_append] at hcm
    rcases hcm with h | h
    · exact h2 c h
    · simp at h; subst h; exact hc
  · omega
theorem QMain.piece {l : List UInt8} {i st n : Nat} {L : List Lin} {D : List Dia} (h : QMain l i st n L D) (hs : st ≤ i) (hi : i ≤ l.length) (hc : ∀ h : i < l.length, l[i].toNat = 10) :
    ∃ R, (∀ L' D', L' ++ linesF (n + 1) R = linesF 1 (pcs l) → D' ++ diasF (n + 1) R = diasF 1 (pcs l) → QMain l (i + 1) (i + 1) (n + 1) L' D') ∧
      L ++ linesF n ((l.drop st).take (i - st) :: R) = linesF 1 (pcs l) ∧ D ++ diasF n ((l.drop st).take (i - st) :: R) = diasF 1 (pcs l) := by
  rcases h with ⟨h1, h2, h3, h4⟩ | ⟨h1, _⟩
  · by_cases hlt : i < l.length
    · have e : l.drop st = (l.drop st).take (i - st) ++ l[i] :: l.drop (i + 1) := by
        have e2 : (l.drop st).drop (i - st) = l[i] :: l.drop (i + 1) := by rw [List.drop_drop, show st + (i - st) = i by omega]; exact List.drop_eq_getElem_cons hlt
        rw [← e2]; exact (List.take_append_drop _ _).symm
      have e3 : pcs (l.drop st) = (l.drop st).take (i - st) :: pcs (l.drop (i + 1)) := by
        conv => lhs; rw [e]
        exact pcs_nl _ _ _ h2 (hc hlt)
      rw [e3] at h3 h4
      refine ⟨pcs (l.drop (i + 1)), fun L' D' q1 q2 => Or.inl ⟨hlt, by simp, q1, q2⟩, h3, h4⟩
    · have e : (l.drop st).take (i - st) = l.drop st := List.take_of_length_le (by rw [List.length_drop]; omega)
      have e3 : pcs (l.drop st) = [(l.drop st).take (i - st)] := by
        rw [e] at h2 ⊢
        exact pcs_no _ h2
      rw [e3] at h3 h4
      refine ⟨[], fun L' D' q1 q2 => Or.inr ⟨by omega, by simpa [linesF] using q1, by simpa [diasF] using q2⟩, h3, h4⟩
  · omega
theorem QMain.done {l : List UInt8} {i st n : Nat} {L : List Lin} {D : List Dia} (h : QMain l i st n L D) (hi : ¬ i ≤ l.length) : L = linesF 1 (pcs l) ∧ D = diasF 1 (pcs l) := by
  rcases h with ⟨h1, _⟩ | ⟨_, h⟩
  · exact absurd h1 hi
  · exact h
structure QInv (l : List UInt8) (w : World) (i st n : Nat) (L : List Lin) (D : List Dia) (vL vD : Value) (wr : World) : Prop where
  i0 : i ≤ l.length + 1
  s0 : st ≤ i
  n0 : n ≤ i + 1
  main : QMain l i st n L D
  lenL : L.length ≤ i
  lenD : D.length ≤ i
  ownL : OwnL wr w.heap.size vL L
  ownD : OwnD wr w.heap.size vD D
  bel : Below w.heap.size w wr
theorem lin_rf (p : List UInt8) : (1000 < p.length ∧ linE p = 9 ∧ linC p = 1001) ∨ (¬ 1000 < p.length ∧ 0 ≤ rfB p ∧ rfB p ≤ p.length ∧ linE p = 4 ∧ linC p = rfB p + 1) ∨ (¬ 1000 < p.length ∧ rfB p = -1 ∧ linE p = 0 ∧ linV p = rfV p) := by
  by_cases h : 1000 < p.length
  · have := lin_long p h; exact Or.inl ⟨h, this.2.2, this.2.1⟩
  · cases hs : scn p 0 with
    | ok xs =>
      have h1 := lin_ok p h xs hs
      have h2 := rf_ok p xs hs
      exact Or.inr (Or.inr ⟨h, h2.2, h1.2.2, by rw [h1.1, h2.1]⟩)
    | error e =>
      have h1 := lin_bad p h e hs
      have h2 := rf_bad p e hs
      have he : ∀ (n i : Nat) (e : Nat), p.length - i ≤ n → i ≤ p.length → scn p i = .error e → e ≤ p.length := by
        intro n
        induction n with
        | zero => intro i e hn hi he; rw [scn_end p i (by omega)] at he; cases he
        | succ n ih =>
          intro i e hn hi he
          by_cases hlt : i < p.length
          · by_cases h59 : p[i].toNat = 59
            · rw [scn_semi p i hlt h59] at he; cases he
            · cases hw : wht p[i]
              · cases hb : fldB p i
                · rw [scn_bad p i hlt h59 hw hb] at he; injection he with he; have := fldE_le p i hlt; omega
                · rw [scn_field p i hlt h59 hw hb] at he
                  have h3 := fldE_lt p i hlt hb h59 hw
                  have h4 := fldE_le p i hlt
                  cases hq : scn p (fldE p i) with
                  | ok ys => rw [hq] at he; simp [pre] at he
                  | error e2 =>
                    rw [hq] at he
                    simp only [pre, Except.error.injEq] at he
                    have := ih (fldE p i) e2 (by omega) h4.2 hq
                    omega
              · rw [scn_white p i hlt hw] at he; exact ih (i + 1) e (by omega) (by omega) he
          · rw [scn_end p i (by omega)] at he; cases he
      have := he _ 0 e (Nat.le_refl _) (by omega) hs
      exact Or.inr (Or.inl ⟨h, by omega, by omega, h1.2.2, by rw [h1.2.1, h2.2]⟩)
section
variable {l : List UInt8} {w : World} {i st n : Nat} {L : List Lin} {D : List Dia} {vL vD : Value} {wr : World}
theorem QInv.skip (h : QInv l w i st n L D vL vD wr) (hi : i ≤ l.length) (hc : ∀ h : i < l.length, l[i].toNat = 10) (hn : linE ((l.drop st).take (i - st)) = 0) (hv : linV ((l.drop st).take (i - st)) = []) (W : World) (hb : Below wr.heap.size wr W) : QInv l w (i + 1) (i + 1) (n + 1) L D vL vD W := by
  obtain ⟨R, r1, r2, r3⟩ := h.main.piece h.s0 hi hc
  rw [linesF, if_neg (by simp [hv])] at r2
  rw [diasF, if_pos hn] at r3
  exact ⟨by omega, Nat.le_refl _, by have := h.n0; omega, r1 L D r2 r3, by have := h.lenL; omega, by have := h.lenD; omega, h.ownL.below hb, own_below h.ownD hb, below_step h.bel h.bel.size hb⟩
theorem QInv.next (h : QInv l w i st n L D vL vD wr) (hi : i < l.length) (hc : l[i].toNat ≠ 10) : QInv l w (i + 1) st n L D vL vD wr :=
  ⟨by omega, by have := h.s0; omega, by have := h.n0; omega, h.main.next h.s0 hi hc, by have := h.lenL; omega, by have := h.lenD; omega, h.ownL, h.ownD, h.bel⟩
theorem QInv.dnew {W w5 : World} {v5 : Value} (h : QInv l w i st n L D vL vD wr) (hi : i ≤ l.length) (hc : ∀ h : i < l.length, l[i].toNat = 10) (p : List UInt8) (hp : p = (l.drop st).take (i - st)) (hn : linE p ≠ 0) (hb : Below wr.heap.size wr W)
    (ho : w5.ownsRow w.heap.size 33 3 v5 (D.length + 1) (D.flatMap DC ++ DC ⟨(n : Int), linC p, linE p⟩)) (hg : W.grownBy w5 vD.ownBlock) :
    QInv l w (i + 1) (i + 1) (n + 1) L (D ++ [⟨(n : Int), linC p, linE p⟩]) vL v5 w5 := by
  obtain ⟨R, r1, r2, r3⟩ := h.main.piece h.s0 hi hc
  rw [← hp] at r2 r3
  rw [linesF, if_neg (by simp [hn])] at r2
  rw [diasF, if_neg hn] at r3
  have hD := own_below h.ownD hb
  refine ⟨by omega, Nat.le_refl _, by have := h.n0; omega, r1 _ _ r2 (by rw [List.append_assoc]; exact r3), by have := h.lenL; omega, by have := h.lenD; simp; omega, ?_, ?_, ?_⟩
  · obtain ⟨vs, q1, q2, q3⟩ := h.ownL.below hb
    exact ⟨vs, q1, q2.kept hg (own_ne q2 hD (by decide)), fun i u x hu hx => (q3 i u x hu hx).kept hg (own_ne (q3 i u x hu hx) hD (by decide))⟩
  · unfold OwnD
    rw [List.length_append, List.flatMap_append]
    simpa using ho
  · exact (below_step h.bel h.bel.size hb).grown hg (by have := h.bel.size; have := hb.size; omega) (fun k hk => (World.ownsRow.lt hD k hk).1)
theorem QInv.lnew {W w5 : World} {v5 v : Value} {vs : List Value} (h : QInv l w i st n L D vL vD wr) (hi : i ≤ l.length) (hc : ∀ h : i < l.length, l[i].toNat = 10) (p : List UInt8) (hp : p = (l.drop st).take (i - st)) (hn : linE p = 0) (hv : linV p ≠ []) (hb : Below wr.heap.size wr W)
    (hF : OwnF W w.heap.size v (linV p)) (q1 : vs.length = L.length) (q2 : W.ownsRow w.heap.size 38 2 vL L.length (((L.map (·.num)).zip vs).flatMap LC))
    (q3 : ∀ (i : Nat) (u : Value) (x : Lin), vs[i]? = some u → L[i]? = some x → OwnF W w.heap.size u x.flds)
    (ho : w5.ownsRow w.heap.size 38 2 v5 (L.length + 1) (((L.map (·.num)).zip vs).flatMap LC ++ LC ((n : Int), v))) (hg : W.grownBy w5 vL.ownBlock) :
    QInv l w (i + 1) (i + 1) (n + 1) (L ++ [⟨(n : Int), linV p⟩]) D v5 vD w5 := by
  obtain ⟨R, r1, r2, r3⟩ := h.main.piece h.s0 hi hc
  rw [← hp] at r2 r3
  rw [linesF, if_pos ⟨hn, hv⟩] at r2
  rw [diasF, if_pos hn] at r3
  have hD := own_below h.ownD hb
  refine ⟨by omega, Nat.le_refl _, by have := h.n0; omega, r1 _ _ (by rw [List.append_assoc]; exact r2) r3, by have := h.lenL; simp; omega, by have := h.lenD; omega, ?_, ?_, ?_⟩
  · refine ⟨vs ++ [v], by simp [q1], ?_, ?_⟩
    · rw [List.length_append, List.map_append, List.zip_append (by simp [q1]), List.flatMap_append]
      simpa using ho
    · intro i u x hu hx
      rcases Nat.lt_or_ge i L.length with hi | hi
      · rw [List.getElem?_append_left (by omega)] at hu
        rw [List.getElem?_append_left hi] at hx
        exact (q3 i u x hu hx).kept hg (own_ne (q3 i u x hu hx) q2 (by decide))
      · rw [List.getElem?_append_right (by omega)] at hu
        rw [List.getElem?_append_right hi] at hx
        have hi0 : i - L.length = 0 := by
          rcases Nat.eq_zero_or_pos (i - L.length) with h0 | h0
          · exact h0
          · rw [List.getElem?_eq_none (by simp; omega)] at hx; cases hx
        rw [q1, hi0] at hu
        rw [hi0] at hx
        simp at hu hx
        subst hu hx
        exact hF.kept hg (own_ne hF q2 (by decide))
  · exact hD.kept hg (own_ne hD q2 (by decide))
  · exact (below_step h.bel h.bel.size hb).grown hg (by have := h.bel.size; have := hb.size; omega) (fun k hk => (World.ownsRow.lt q2 k hk).1)
end
theorem flat_take {α : Type} (f : α → List Value) (k : Nat) (hf : ∀ x, (f x).length = k) : ∀ (m : Nat) (D : List α), (D.flatMap f).take (m * k) = (D.take m).flatMap f := by
  intro m
  induction m with
  | zero => intro D; simp
  | succ m ih =>
    intro D
    cases D with
    | nil => simp
    | cons d r =>
      rw [List.flatMap_cons, List.take_succ_cons, List.flatMap_cons, ← ih r, List.take_append, List.take_of_length_le (by rw [hf, Nat.succ_mul]; omega), hf]
      congr 2
      rw [Nat.succ_mul]; omega
theorem own_cut {w : World} {base n sz g cap : Nat} {e : TypeId} {xs : List Value} (h : w.ownsRow base e sz (.slice (some ⟨g, 0, none⟩) n cap) n xs) (m : Nat) (hm : m ≤ n) : w.ownsRow base e sz (.slice (some ⟨g, 0, none⟩) m cap) m (xs.take (m * sz)) := by
  have hle : m * sz ≤ n * sz := Nat.mul_le_mul_right _ hm
  refine ⟨by rw [List.length_take, h.1]; omega, ?_⟩
  rcases h.2 with ⟨h', _⟩ | ⟨g', cap', cur, h', hb, hg, hn, hc, hs, ht⟩
  · simp at h'
  · simp only [Value.slice.injEq, Option.some.injEq, Addr.mk.injEq, and_true, true_and] at h'
    obtain ⟨rfl, rfl⟩ := h'
    exact .inr ⟨g, cap, cur, rfl, hb, hg, by omega, hc, hs, by rw [← ht, List.take_take, Nat.min_eq_left hle]⟩
theorem ownD_cut {w : World} {base g cap : Nat} {D : List Dia} (h : OwnD w base (.slice (some ⟨g, 0, none⟩) D.length cap) D) (m : Nat) (hm : m ≤ D.length) : OwnD w base (.slice (some ⟨g, 0, none⟩) m cap) (D.take m) := by
  have := own_cut h m hm
  rw [flat_take DC 3 (fun _ => rfl)] at this
  unfold OwnD
  rw [List.length_take, Nat.min_eq_left hm]
  exact this
theorem ownD_50 {w : World} {base g cap : Nat} {D : List Dia} (h : OwnD w base (.slice (some ⟨g, 0, none⟩) D.length cap) D) : OwnD w base (.slice (some ⟨g, 0, none⟩) (min (D.length : Int) 50).toNat cap) (D.take 50) := by
  rcases Nat.le_total D.length 50 with hl | hl
  · have e : (min (D.length : Int) 50).toNat = D.length := by omega
    rw [e, List.take_of_length_le hl]; exact h
  · have e : (min (D.length : Int) 50).toNat = 50 := by omega
    rw [e]; exact ownD_cut h 50 hl
set_option maxRecDepth 100000 in
set_option maxHeartbeats 16000000 in
theorem rsplit_any (l : List UInt8) (w : World) (hl : l.length ≤ 4611686018427387904) :
    Calls Tryd.prog 10 #[S l] w (SpPost l w) := by
  have z := str_size l
  by_cases hb : 262144 < l.length
  · have HQ : Hid (SpPost l w = fun e w' => ∃ vL vD, e = .returned (.tuple #[vL, vD]) ∧ OwnL w' w.heap.size vL [] ∧ OwnD w' w.heap.size vD [⟨1, 1, 9⟩] ∧ Below w.heap.size w w') := Lib.hid (by unfold SpPost spL spD; rw [if_pos hb, if_pos hb])
    have k1 : (262144 : Int) < (l.length : Int) := by omega
    generalize SpPost l w = Q at *
    go_enter Tryd.func10, Tryd.ntmps10
    go_wp2
    rw [HQ.out]
    exact ⟨_, _, rfl, ownL_nil _ _, World.ownsRow_lit w #[.int .i64 1, .int .i64 1, .int .i64 9] 1 (Nat.le_refl _) (by unfold maxLen; omega) rfl, by (repeat' (first | (with_reducible exact Below.refl _ _) | (with_reducible refine Below.setCell ?_ ?_ _) | (with_reducible refine Below.alloc ?_ ?_ _) | (with_reducible refine Below.drew ?_) | (with_reducible refine belowN ?_ _) | (with_reducible refine below_step ?_ ?_ (by with_reducible assumption)) | go_size))⟩
  · have HQ : Hid (SpPost l w = fun e w' => ∃ vL vD, e = .returned (.tuple #[vL, vD]) ∧ OwnL w' w.heap.size vL (linesF 1 (pcs l)) ∧ OwnD w' w.heap.size vD ((diasF 1 (pcs l)).take 50) ∧ Below w.heap.size w w') := Lib.hid (by unfold SpPost spL spD; rw [if_neg hb, if_neg hb])
    have k1 : ¬ (262144 : Int) < (l.length : Int) := by omega
    have hl2 : l.length ≤ 262144 := by omega
    obtain ⟨i1, qi1, qy0, qy1, qy2⟩ := info_parts infoL
    obtain ⟨i0, qi0, qz0, qz1, qz2⟩ := info_parts infoD
    clear hb
    generalize SpPost l w = Q at *
    go_enter Tryd.func10, Tryd.ntmps10
    go_wp2
    go_loopw [4, 5, 6, 7, 8] (fun vL vD tn ts ti wr => ∃ (i st n : Nat) (L : List Lin) (D : List Dia), QInv l w i st n L D vL vD wr ∧ tn = .int .i64 (n : Int) ∧ ts = .int .i64 (st : Int) ∧ ti = .int .i64 (i : Int)) (fun _ _ _ _ t _ => l.length + 1 - (intOf t).toNat)
    case atStart => exact ⟨0, 0, 1, [], [], ⟨by omega, by omega, by omega, Or.inl ⟨by omega, by simp, by simp, by simp⟩, by simp, by simp, ownL_nil _ _, ownD_nil _ _, Below.refl _ _⟩, rfl, rfl, rfl⟩
    case round =>
      obtain ⟨i, st, n, L, D, hi, rfl, rfl, rfl⟩ := hrel
      have HI := Lib.hid hi
      have hk := hi.i0
      have hst := hi.s0
      have hn := hi.n0
      have hbel := hi.bel
      have hbs := hi.bel.size
      have hLl := hi.lenL
      have hDl := hi.lenD
      by_cases hle : i ≤ l.length
      · by_cases hgo : ∃ h : i < l.length, l[i].toNat ≠ 10
        · obtain ⟨hlt, hc⟩ := hgo
          have hlt2 : i < (str l).size := by omega
          have hg := str_get l i hlt2 hlt
          have k2 : ((((str l)[i]'hlt2).toNat : Int) == 10) = false := by rw [hg]; exact beq_eq_false_iff_ne.2 (by omega)
          have k3 : ((((str l)[i]'hlt2).toNat : Int) != 10) = true := by simp only [bne, k2]; rfl
          have HN := Lib.hid (hi.next hlt hc)
          clear hi hg hc
          go_wp2
          exact ⟨⟨i + 1, st, n, L, D, HN.out, by first | rfl | go_num | simp⟩, by simp [intOf]; omega⟩
        · have hc : ∀ h : i < l.length, l[i].toNat = 10 := fun h => by
            rcases Nat.decEq l[i].toNat 10 with h1 | h1
            · exact absurd ⟨h, h1⟩ hgo
            · exact h1
          obtain ⟨p, hp⟩ : ∃ p, p = (l.drop st).take (i - st) := ⟨_, rfl⟩
          have hx : (str l).extract st i = str p := by rw [hp]; exact str_ext l st i
          have hpl : p.length ≤ 262144 := by rw [hp, List.length_take, List.length_drop]; omega
          have hRF : Hid (∀ w, Calls Tryd.prog 23 #[S p] w (RfPost p w)) := Lib.hid (fun w => rfields_any p w hpl)
          have hcase : Hid ((i = l.length) ∨ ∃ h : i < (str l).size, ((((str l)[i]'h).toNat : Int) == 10) = true) := Lib.hid (by
            by_cases hlt : i < l.length
            · right; refine ⟨by omega, ?_⟩; rw [str_get l i (by omega) hlt]; exact beq_iff_eq.2 (by have := hc hlt; omega)
            · left; omega)
          rcases lin_rf p with ⟨hA, e1, e2⟩ | ⟨hA, hB1, hB2, e1, e2⟩ | ⟨hA, hB, e1, e2⟩
          · have HStep : Hid (∀ (W w5 : World) (v5 : Value), Below wr.heap.size wr W → w5.ownsRow w.heap.size 33 3 v5 (D.length + 1) (D.flatMap DC ++ DC ⟨(n : Int), 1001, 9⟩) → W.grownBy w5 u5.ownBlock → QInv l w (i + 1) (i + 1) (n + 1) L (D ++ [⟨(n : Int), 1001, 9⟩]) u4 v5 w5) :=
              Lib.hid (fun W w5 v5 h1 h2 h3 => by
                have := hi.dnew (w5 := w5) (v5 := v5) hle hc p hp (by rw [e1]; omega) h1 (by rw [e1, e2]; exact h2) h3
                rw [e1, e2] at this; exact this)
            have hA2 : (1000 : Int) < (p.length : Int) := by omega
            have zp := str_size p
            clear hp hi hc hgo e1 e2
            rcases hcase.out with hil | ⟨h1, k2⟩
            · have hnl : ¬ ((i : Int) < (l.length : Int)) := by omega
              clear hil
              go_wp2_with fail
              refine (hRF.out _).mono ?_
              rintro e w2 ⟨v, rfl, hF, hb2⟩
              have hz2 := hb2.size
              clear hF
              go_wp2_with (at_builtin; (refine wpList_append_own_at _ rfl _ _ 24 rfl w.heap.size 33 i0 _ 3 24 Tryd.underlying24 qi0 qz0 qz1 qz2 rfl (by omega) u5 D.length (D.flatMap DC) rfl (own_below HI.out.ownD (by (repeat' (first | (with_reducible exact Below.refl _ _) | (with_reducible refine Below.setCell ?_ ?_ _) | (with_reducible refine Below.alloc ?_ ?_ _) | (with_reducible refine Below.drew ?_) | (with_reducible refine belowN ?_ _) | (with_reducible refine below_step ?_ ?_ (by with_reducible assumption)) | go_size)))) _ 1 1 (DC ⟨(n : Int), 1001, 9⟩) rfl rfl (cells_at _ (DC ⟨(n : Int), 1001, 9⟩) 33 _ (by first | rfl | simp only [World.size_alloc] | go_size)) (DC_one _) (by unfold maxLen; omega) (by omega) (by go_size) ?_); intro v5 w5 hown5 hgrow5 _ _)
              have hst := HStep.out _ w5 v5 (by (repeat' (first | (with_reducible exact Below.refl _ _) | (with_reducible refine Below.setCell ?_ ?_ _) | (with_reducible refine Below.alloc ?_ ?_ _) | (with_reducible refine Below.drew ?_) | (with_reducible refine belowN ?_ _) | (with_reducible refine below_step ?_ ?_ (by with_reducible assumption)) | go_size))) hown5 hgrow5
              exact ⟨⟨_, _, _, _, _, hst, by first | (refine ⟨?_, ?_, ?_⟩ <;> first | rfl | go_num) | go_num⟩, by simp [intOf]; omega⟩
            · have hnl : (i : Int) < (l.length : Int) := by omega
              have k3 : ((((str l)[i]'h1).toNat : Int) != 10) = false := by simp only [bne, k2]; rfl
              go_wp2_with fail
              refine (hRF.out _).mono ?_
              rintro e w2 ⟨v, rfl, hF, hb2⟩
              have hz2 := hb2.size
              clear hF
              go_wp2_with (at_builtin; (refine wpList_append_own_at _ rfl _ _ 24 rfl w.heap.size 33 i0 _ 3 24 Tryd.underlying24 qi0 qz0 qz1 qz2 rfl (by omega) u5 D.length (D.flatMap DC) rfl (own_below HI.out.ownD (by (repeat' (first | (with_reducible exact Below.refl _ _) | (with_reducible refine Below.setCell ?_ ?_ _) | (with_reducible refine Below.alloc ?_ ?_ _) | (with_reducible refine Below.drew ?_) | (with_reducible refine belowN ?_ _) | (with_reducible refine below_step ?_ ?_ (by with_reducible assumption)) | go_size)))) _ 1 1 (DC ⟨(n : Int), 1001, 9⟩) rfl rfl (cells_at _ (DC ⟨(n : Int), 1001, 9⟩) 33 _ (by first | rfl | simp only [World.size_alloc] | go_size)) (DC_one _) (by unfold maxLen; omega) (by omega) (by go_size) ?_); intro v5 w5 hown5 hgrow5 _ _)
              have hst := HStep.out _ w5 v5 (by (repeat' (first | (with_reducible exact Below.refl _ _) | (with_reducible refine Below.setCell ?_ ?_ _) | (with_reducible refine Below.alloc ?_ ?_ _) | (with_reducible refine Below.drew ?_) | (with_reducible refine belowN ?_ _) | (with_reducible refine below_step ?_ ?_ (by with_reducible assumption)) | go_size))) hown5 hgrow5
              exact ⟨⟨_, _, _, _, _, hst, by first | (refine ⟨?_, ?_, ?_⟩ <;> first | rfl | go_num) | go_num⟩, by simp [intOf]; omega⟩
          · have HStep : Hid (∀ (W w5 : World) (v5 : Value), Below wr.heap.size wr W → w5.ownsRow w.heap.size 33 3 v5 (D.length + 1) (D.flatMap DC ++ DC ⟨(n : Int), rfB p + 1, 4⟩) → W.grownBy w5 u5.ownBlock → QInv l w (i + 1) (i + 1) (n + 1) L (D ++ [⟨(n : Int), rfB p + 1, 4⟩]) u4 v5 w5) :=
              Lib.hid (fun W w5 v5 h1 h2 h3 => by
                have := hi.dnew (w5 := w5) (v5 := v5) hle hc p hp (by rw [e1]; omega) h1 (by rw [e1, e2]; exact h2) h3
                rw [e1, e2] at this; exact this)
            have hA2 : ¬ (1000 : Int) < (p.length : Int) := by omega
            have zp := str_size p
            clear hp hi hc hgo e1 e2
            rcases hcase.out with hil | ⟨h1, k2⟩
            · have hnl : ¬ ((i : Int) < (l.length : Int)) := by omega
              clear hil
              go_wp2_with fail
              refine (hRF.out _).mono ?_
              rintro e w2 ⟨v, rfl, hF, hb2⟩
              have hz2 := hb2.size
              clear hF
              go_wp2_with (at_builtin; (refine wpList_append_own_at _ rfl _ _ 24 rfl w.heap.size 33 i0 _ 3 24 Tryd.underlying24 qi0 qz0 qz1 qz2 rfl (by omega) u5 D.length (D.flatMap DC) rfl (own_below HI.out.ownD (by (repeat' (first | (with_reducible exact Below.refl _ _) | (with_reducible refine Below.setCell ?_ ?_ _) | (with_reducible refine Below.alloc ?_ ?_ _) | (with_reducible refine Below.drew ?_) | (with_reducible refine belowN ?_ _) | (with_reducible refine below_step ?_ ?_ (by with_reducible assumption)) | go_size)))) _ 1 1 (DC ⟨(n : Int), rfB p + 1, 4⟩) rfl rfl (cells_at _ (DC ⟨(n : Int), rfB p + 1, 4⟩) 33 _ (by first | rfl | simp only [World.size_alloc] | go_size)) (DC_one _) (by unfold maxLen; omega) (by omega) (by go_size) ?_); intro v5 w5 hown5 hgrow5 _ _)
              have hst := HStep.out _ w5 v5 (by (repeat' (first | (with_reducible exact Below.refl _ _) | (with_reducible refine Below.setCell ?_ ?_ _) | (with_reducible refine Below.alloc ?_ ?_ _) | (with_reducible refine Below.drew ?_) | (with_reducible refine belowN ?_ _) | (with_reducible refine below_step ?_ ?_ (by with_reducible assumption)) | go_size))) hown5 hgrow5
              exact ⟨⟨_, _, _, _, _, hst, by first | (refine ⟨?_, ?_, ?_⟩ <;> first | rfl | go_num) | go_num⟩, by simp [intOf]; omega⟩
            · have hnl : (i : Int) < (l.length : Int) := by omega
              have k3 : ((((str l)[i]'h1).toNat : Int) != 10) = false := by simp only [bne, k2]; rfl
              go_wp2_with fail
              refine (hRF.out _).mono ?_
              rintro e w2 ⟨v, rfl, hF, hb2⟩
              have hz2 := hb2.size
              clear hF
              go_wp2_with (at_builtin; (refine wpList_append_own_at _ rfl _ _ 24 rfl w.heap.size 33 i0 _ 3 24 Tryd.underlying24 qi0 qz0 qz1 qz2 rfl (by omega) u5 D.length (D.flatMap DC) rfl (own_below HI.out.ownD (by (repeat' (first | (with_reducible exact Below.refl _ _) | (with_reducible refine Below.setCell ?_ ?_ _) | (with_reducible refine Below.alloc ?_ ?_ _) | (with_reducible refine Below.drew ?_) | (with_reducible refine belowN ?_ _) | (with_reducible refine below_step ?_ ?_ (by with_reducible assumption)) | go_size)))) _ 1 1 (DC ⟨(n : Int), rfB p + 1, 4⟩) rfl rfl (cells_at _ (DC ⟨(n : Int), rfB p + 1, 4⟩) 33 _ (by first | rfl | simp only [World.size_alloc] | go_size)) (DC_one _) (by unfold maxLen; omega) (by omega) (by go_size) ?_); intro v5 w5 hown5 hgrow5 _ _)
              have hst := HStep.out _ w5 v5 (by (repeat' (first | (with_reducible exact Below.refl _ _) | (with_reducible refine Below.setCell ?_ ?_ _) | (with_reducible refine Below.alloc ?_ ?_ _) | (with_reducible refine Below.drew ?_) | (with_reducible refine belowN ?_ _) | (with_reducible refine below_step ?_ ?_ (by with_reducible assumption)) | go_size))) hown5 hgrow5
              exact ⟨⟨_, _, _, _, _, hst, by first | (refine ⟨?_, ?_, ?_⟩ <;> first | rfl | go_num) | go_num⟩, by simp [intOf]; omega⟩
          · have hA2 : ¬ (1000 : Int) < (p.length : Int) := by omega
            have zp := str_size p
            by_cases hV : rfV p = []
            · have HStep : Hid (∀ W, Below wr.heap.size wr W → QInv l w (i + 1) (i + 1) (n + 1) L D u4 u5 W) := Lib.hid (fun W h1 => hi.skip hle hc (by rw [← hp]; exact e1) (by rw [← hp, e2]; exact hV) W h1)
              have HV := Lib.hid hV
              have HRF2 : Hid (∀ w, Calls Tryd.prog 23 #[S p] w fun e w' => ∃ v, e = .returned (.tuple #[v, .int .i64 (-1)]) ∧ OwnF w' w.heap.size v (rfV p) ∧ Below w.heap.size w w') := Lib.hid (fun w => by have h := hRF.out w; unfold RfPost at h; rw [hB] at h; exact h)
              clear hRF
              have hRF := HRF2
              clear hp hi hc hgo e1 e2 hV HRF2 hB
              rcases hcase.out with hil | ⟨h1, k2⟩
              · have hnl : ¬ ((i : Int) < (l.length : Int)) := by omega
                clear hil
                go_wp2_with fail
                refine (hRF.out _).mono ?_
                rintro e w2 ⟨v, rfl, hF, hb2⟩
                have hz2 := hb2.size
                have hF2 := own_form hF
                rw [HV.out] at hF2
                rcases hF2 with ⟨_, rfl⟩ | ⟨g, cap, rfl, _, _, _, _⟩
                all_goals
                  clear hF
                  go_wp2
                  have hst := HStep.out w2 (by (repeat' (first | (with_reducible exact Below.refl _ _) | (with_reducible refine Below.setCell ?_ ?_ _) | (with_reducible refine Below.alloc ?_ ?_ _) | (with_reducible refine Below.drew ?_) | (with_reducible refine belowN ?_ _) | (with_reducible refine below_step ?_ ?_ (by with_reducible assumption)) | go_size)))
                  exact ⟨⟨_, _, _, _, _, hst, by first | (refine ⟨?_, ?_, ?_⟩ <;> first | rfl | go_num) | go_num⟩, by simp [intOf]; omega⟩
              · have hnl : (i : Int) < (l.length : Int) := by omega
                have k3 : ((((str l)[i]'h1).toNat : Int) != 10) = false := by simp only [bne, k2]; rfl
                go_wp2_with fail
                refine (hRF.out _).mono ?_
                rintro e w2 ⟨v, rfl, hF, hb2⟩
                have hz2 := hb2.size
                have hF2 := own_form hF
                rw [HV.out] at hF2
                rcases hF2 with ⟨_, rfl⟩ | ⟨g, cap, rfl, _, _, _, _⟩
                all_goals
                  clear hF
                  go_wp2
                  have hst := HStep.out w2 (by (repeat' (first | (with_reducible exact Below.refl _ _) | (with_reducible refine Below.setCell ?_ ?_ _) | (with_reducible refine Below.alloc ?_ ?_ _) | (with_reducible refine Below.drew ?_) | (with_reducible refine belowN ?_ _) | (with_reducible refine below_step ?_ ?_ (by with_reducible assumption)) | go_size)))
                  exact ⟨⟨_, _, _, _, _, hst, by first | (refine ⟨?_, ?_, ?_⟩ <;> first | rfl | go_num) | go_num⟩, by simp [intOf]; omega⟩
            · obtain ⟨vs, q1, q2, q3⟩ := hi.ownL
              have HStep : Hid (∀ (W w5 : World) (v v5 : Value), Below wr.heap.size wr W → OwnF W w.heap.size v (rfV p) → w5.ownsRow w.heap.size 38 2 v5 (L.length + 1) (((L.map (·.num)).zip vs).flatMap LC ++ LC ((n : Int), v)) → W.grownBy w5 u4.ownBlock → QInv l w (i + 1) (i + 1) (n + 1) (L ++ [⟨(n : Int), rfV p⟩]) D v5 u5 w5) :=
                Lib.hid (fun W w5 v v5 h1 h2 h3 h4 => by
                  have := hi.lnew (w5 := w5) (v5 := v5) (v := v) hle hc p hp e1 (by rw [e2]; exact hV) h1 (by rw [e2]; exact h2) q1 (own_below q2 h1) (fun i u x hu hx => own_below (q3 i u x hu hx) h1) h3 h4
                  rw [e2] at this; exact this)
              have Q2 := Lib.hid q2
              have hL0 : 0 < (rfV p).length := by cases h : rfV p with | nil => exact absurd h hV | cons _ _ => simp
              have hge : (0 : Int) < ((rfV p).length : Int) := by omega
              have HRF2 : Hid (∀ w, Calls Tryd.prog 23 #[S p] w fun e w' => ∃ v, e = .returned (.tuple #[v, .int .i64 (-1)]) ∧ OwnF w' w.heap.size v (rfV p) ∧ Below w.heap.size w w') := Lib.hid (fun w => by have h := hRF.out w; unfold RfPost at h; rw [hB] at h; exact h)
              clear hRF
              have hRF := HRF2
              clear hp hi hc hgo e1 e2 hV HRF2 hB q1 q2 q3
              rcases hcase.out with hil | ⟨h1, k2⟩
              · have hnl : ¬ ((i : Int) < (l.length : Int)) := by omega
                clear hil
                go_wp2_with fail
                refine (hRF.out _).mono ?_
                rintro e w2 ⟨v, rfl, hF, hb2⟩
                have hz2 := hb2.size
                rcases own_form hF with ⟨h0, _⟩ | ⟨g, cap, rfl, hg1, hg2, hg3, hg4⟩
                · omega
                · have HF := Lib.hid (own_base hF hbel.size)
                  clear hF hL0
                  go_wp2_with (at_builtin; (refine wpList_append_own_at _ rfl _ _ 23 rfl w.heap.size 38 i1 _ 2 32 Tryd.underlying23 qi1 qy0 qy1 qy2 rfl (by omega) u4 L.length (((L.map (·.num)).zip vs).flatMap LC) rfl (own_below Q2.out (by (repeat' (first | (with_reducible exact Below.refl _ _) | (with_reducible refine Below.setCell ?_ ?_ _) | (with_reducible refine Below.alloc ?_ ?_ _) | (with_reducible refine Below.drew ?_) | (with_reducible refine belowN ?_ _) | (with_reducible refine below_step ?_ ?_ (by with_reducible assumption)) | go_size)))) _ 1 1 (LC ((n : Int), .slice (some ⟨g, 0, none⟩) (rfV p).length cap)) rfl rfl (cells_at _ (LC ((n : Int), .slice (some ⟨g, 0, none⟩) (rfV p).length cap)) 38 _ (by first | rfl | simp only [World.size_alloc] | go_size)) (by intro u hu; simp [LC] at hu; rcases hu with rfl | rfl <;> rfl) (by unfold maxLen; omega) (by omega) (by go_size) ?_); intro v5 w5 hown5 hgrow5 _ _)
                  have hst := HStep.out _ w5 _ v5 (by (repeat' (first | (with_reducible exact Below.refl _ _) | (with_reducible refine Below.setCell ?_ ?_ _) | (with_reducible refine Below.alloc ?_ ?_ _) | (with_reducible refine Below.drew ?_) | (with_reducible refine belowN ?_ _) | (with_reducible refine below_step ?_ ?_ (by with_reducible assumption)) | go_size))) (own_below HF.out (by (repeat' (first | (with_reducible exact Below.refl _ _) | (with_reducible refine Below.setCell ?_ ?_ _) | (with_reducible refine Below.alloc ?_ ?_ _) | (with_reducible refine Below.drew ?_) | (with_reducible refine belowN ?_ _) | (with_reducible refine below_step ?_ ?_ (by with_reducible assumption)) | go_size)))) hown5 hgrow5
                  exact ⟨⟨_, _, _, _, _, hst, by first | (refine ⟨?_, ?_, ?_⟩ <;> first | rfl | go_num) | go_num⟩, by simp [intOf]; omega⟩
              · have hnl : (i : Int) < (l.length : Int) := by omega
                have k3 : ((((str l)[i]'h1).toNat : Int) != 10) = false := by simp only [bne, k2]; rfl
                go_wp2_with fail
                refine (hRF.out _).mono ?_
                rintro e w2 ⟨v, rfl, hF, hb2⟩
                have hz2 := hb2.size
                rcases own_form hF with ⟨h0, _⟩ | ⟨g, cap, rfl, hg1, hg2, hg3, hg4⟩
                · omega
                · have HF := Lib.hid (own_base hF hbel.size)
                  clear hF hL0
                  go_wp2_with (at_builtin; (refine wpList_append_own_at _ rfl _ _ 23 rfl w.heap.size 38 i1 _ 2 32 Tryd.underlying23 qi1 qy0 qy1 qy2 rfl (by omega) u4 L.length (((L.map (·.num)).zip vs).flatMap LC) rfl (own_below Q2.out (by (repeat' (first | (with_reducible exact Below.refl _ _) | (with_reducible refine Below.setCell ?_ ?_ _) | (with_reducible refine Below.alloc ?_ ?_ _) | (with_reducible refine Below.drew ?_) | (with_reducible refine belowN ?_ _) | (with_reducible refine below_step ?_ ?_ (by with_reducible assumption)) | go_size)))) _ 1 1 (LC ((n : Int), .slice (some ⟨g, 0, none⟩) (rfV p).length cap)) rfl rfl (cells_at _ (LC ((n : Int), .slice (some ⟨g, 0, none⟩) (rfV p).length cap)) 38 _ (by first | rfl | simp only [World.size_alloc] | go_size)) (by intro u hu; simp [LC] at hu; rcases hu with rfl | rfl <;> rfl) (by unfold maxLen; omega) (by omega) (by go_size) ?_); intro v5 w5 hown5 hgrow5 _ _)
                  have hst := HStep.out _ w5 _ v5 (by (repeat' (first | (with_reducible exact Below.refl _ _) | (with_reducible refine Below.setCell ?_ ?_ _) | (with_reducible refine Below.alloc ?_ ?_ _) | (with_reducible refine Below.drew ?_) | (with_reducible refine belowN ?_ _) | (with_reducible refine below_step ?_ ?_ (by with_reducible assumption)) | go_size))) (own_below HF.out (by (repeat' (first | (with_reducible exact Below.refl _ _) | (with_reducible refine Below.setCell ?_ ?_ _) | (with_reducible refine Below.alloc ?_ ?_ _) | (with_reducible refine Below.drew ?_) | (with_reducible refine belowN ?_ _) | (with_reducible refine below_step ?_ ?_ (by with_reducible assumption)) | go_size)))) hown5 hgrow5
                  exact ⟨⟨_, _, _, _, _, hst, by first | (refine ⟨?_, ?_, ?_⟩ <;> first | rfl | go_num) | go_num⟩, by simp [intOf]; omega⟩
      · have HM := Lib.hid (hi.main.done hle)
        have hdf := own_form hi.ownD
        have hle2 : ¬ (i : Int) ≤ (l.length : Int) := by omega
        clear hi
        rcases hdf with ⟨hn0, rfl⟩ | ⟨g, cap, rfl, hg1, hg2, hg3, hg4⟩
        · have HN0 := Lib.hid (List.eq_nil_of_length_eq_zero hn0)
          clear hn0
          go_wp2
          go_region
          all_goals
            go_wp2
            rw [HQ.out, ← HM.out.1, ← HM.out.2, HN0.out]
            exact ⟨_, _, rfl, HI.out.ownL, ownD_nil _ _, by (repeat' (first | (with_reducible exact Below.refl _ _) | (with_reducible refine Below.setCell ?_ ?_ _) | (with_reducible refine Below.alloc ?_ ?_ _) | (with_reducible refine Below.drew ?_) | (with_reducible refine belowN ?_ _) | (with_reducible refine below_step ?_ ?_ (by with_reducible assumption)) | go_size))⟩
        · go_wp2
          go_region
          all_goals
            go_wp2
            rw [HQ.out, ← HM.out.1, ← HM.out.2]
            exact ⟨_, _, rfl, HI.out.ownL, ownD_50 HI.out.ownD, by (repeat' (first | (with_reducible exact Below.refl _ _) | (with_reducible refine Below.setCell ?_ ?_ _) | (with_reducible refine Below.alloc ?_ ?_ _) | (with_reducible refine Below.drew ?_) | (with_reducible refine belowN ?_ _) | (with_reducible refine below_step ?_ ?_ (by with_reducible assumption)) | go_size))⟩
end Go.Proofs.YtjekflpogafodaaDoor
