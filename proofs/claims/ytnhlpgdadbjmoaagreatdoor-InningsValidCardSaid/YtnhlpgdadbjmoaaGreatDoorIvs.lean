/- Layer 14 (innings): both Valids are one. -/
import Derived.Test.YtnhlpgdadbjmoaaGreatDoorVz
import Derived.KernelRfl
import Derived.Test.YtnhlpgdadbjmoaaGreatDoorProg
import Derived.Test.YtnhlpgdadbjmoaaGreatDoorFda
import Derived.Test.YtnhlpgdadbjmoaaGreatDoorFdb
import Derived.Test.YtnhlpgdadbjmoaaGreatDoorFdf
import Derived.Test.YtnhlpgdadbjmoaaGreatDoorRua
import Derived.Test.YtnhlpgdadbjmoaaGreatDoorCra
import Derived.Test.YtnhlpgdadbjmoaaGreatDoorSpa
import Derived.Test.YtnhlpgdadbjmoaaGreatDoorIva
import Derived.Test.YtnhlpgdadbjmoaaGreatDoorIvb
import Derived.Test.YtnhlpgdadbjmoaaGreatDoorIvr
set_option linter.unusedSimpArgs false
set_option linter.unusedVariables false
set_option maxRecDepth 100000
namespace Go.Proofs.YtnhlpgdadbjmoaaGreatDoor
open Go.RowKit


theorem c1_zero {l : List Int} {n : Nat} : c1 l n = 0 ↔ ∀ k, k < n → l.getD k 0 ≠ 1 := by
  induction n with
  | zero => simp [c1]
  | succ n ih =>
    simp only [c1]
    constructor
    · intro h k hk
      by_cases e : k = n
      · subst e
        intro h1
        rw [if_pos h1] at h
        omega
      · exact ih.1 (by omega) k (by omega)
    · intro h
      rw [ih.2 (fun k hk => h k (by omega)), if_neg (h n (by omega))]
theorem pl_iff {s : Inn} {k : Nat} : plB s k = true ↔ ((s.st = (k : Int) + 1 ∨ s.ot = (k : Int) + 1) ↔ s.bts.getD k 0 = 1) := by
  unfold plB
  rw [beq_iff_eq, Bool.eq_iff_iff]
  simp only [Bool.or_eq_true, beq_iff_eq]
theorem gtB_iff {l : List Int} : gtB l = false ↔ ∀ k, k < l.length → ¬ l.getD k 0 > 3 := by
  unfold gtB
  rw [List.any_eq_false]
  constructor
  · intro h k hk hg
    refine h l[k] (List.getElem_mem _) ?_
    rw [List.getD_eq_getElem?_getD, List.getElem?_eq_getElem hk] at hg
    simpa using hg
  · intro h x hx
    obtain ⟨k, hk, rfl⟩ := List.getElem_of_mem hx
    have := h k hk
    rw [List.getD_eq_getElem?_getD, List.getElem?_eq_getElem hk] at this
    simpa using this
theorem c1_pl {s : Inn} {n : Nat} (hp : ∀ k, k < n → plB s k = true) (h1 : 0 ≤ s.st ∧ s.st ≤ n) (h2 : 0 ≤ s.ot ∧ s.ot ≤ n) : c1 s.bts n = 0 ↔ s.st = 0 ∧ s.ot = 0 := by
  rw [c1_zero]
  constructor
  · intro h
    constructor
    · by_cases e : s.st = 0
      · exact e
      · exfalso
        have hk : (s.st - 1).toNat < n := by omega
        exact h _ hk ((pl_iff.1 (hp _ hk)).1 (Or.inl (by omega)))
    · by_cases e : s.ot = 0
      · exact e
      · exfalso
        have hk : (s.ot - 1).toNat < n := by omega
        exact h _ hk ((pl_iff.1 (hp _ hk)).1 (Or.inr (by omega)))
  · rintro ⟨a, b⟩ k hk hg
    have := (pl_iff.1 (hp k hk)).2 hg
    omega
theorem ba_eq {s : Inn} (h1 : 0 ≤ s.st ∧ s.st ≤ s.bts.length) (h2 : 0 ≤ s.ot ∧ s.ot ≤ s.bts.length) : rbB s = (baB s && !gtB s.bts) := by
  unfold rbB baB
  by_cases hp : plA2 s s.bts.length = true
  · by_cases hg : gtB s.bts = false
    · have ha : rbA s s.bts.length = true := rbA_all.2 fun k hk => ⟨gtB_iff.1 hg k hk, plA2_all.1 hp k hk⟩
      have hc := c1_pl (plA2_all.1 hp) h1 h2
      have e1 : decide ((c1 s.bts s.bts.length : Int) < 1) = (s.st == 0 && s.ot == 0) := by
        rw [Bool.eq_iff_iff]
        simp only [decide_eq_true_eq, Bool.and_eq_true, beq_iff_eq]
        rw [← hc]
        omega
      rw [ha, hp, hg, e1]
      generalize (s.wk == (c2 s.bts s.bts.length : Int)) = w
      generalize beg s = z
      have e2 : (s.st != 0 && s.st == s.ot) = (s.st == s.ot && !(s.st == 0 && s.ot == 0)) := by
        rw [Bool.eq_iff_iff]
        simp only [Bool.and_eq_true, bne_iff_ne, beq_iff_eq, ne_eq, Bool.not_eq_true', Bool.and_eq_false_iff, beq_eq_false_iff_ne]
        omega
      rw [e2]
      generalize (s.st == s.ot && !(s.st == 0 && s.ot == 0)) = a
      generalize (s.st == 0 && s.ot == 0) = b
      cases w <;> cases z <;> cases a <;> cases b <;> rfl
    · have ha : rbA s s.bts.length = false := by
        cases e : rbA s s.bts.length with
        | false => rfl
        | true => exact absurd (gtB_iff.2 fun k hk => (rbA_all.1 e k hk).1) hg
      have hg : gtB s.bts = true := by simpa using hg
      rw [ha, hg]
      simp
  · have ha : rbA s s.bts.length = false := by
      cases e : rbA s s.bts.length with
      | false => rfl
      | true => exact absurd (plA2_all.2 fun k hk => (rbA_all.1 e k hk).2) hp
    have hp : plA2 s s.bts.length = false := by simpa using hp
    rw [ha, hp]
    simp
theorem rck_in {r : Rul} (h : rck r = 0) : (2 ≤ r.q1 ∧ r.q1 ≤ 11) ∧ (1 ≤ r.q2 ∧ r.q2 ≤ 2) ∧ (0 ≤ r.q3 ∧ r.q3 ≤ 90) ∧ (4 ≤ r.q4 ∧ r.q4 ≤ 8) ∧ (0 ≤ r.q5 ∧ r.q5 ≤ 90) ∧ (1 ≤ r.q6 ∧ r.q6 ≤ 5) ∧ (1 ≤ r.q7 ∧ r.q7 ≤ 5) ∧ (0 ≤ r.q8 ∧ r.q8 ≤ 200) ∧ (0 ≤ r.q9 ∧ r.q9 ≤ 1000) ∧ (0 ≤ r.qa ∧ r.qa ≤ 9) ∧ (0 ≤ r.qo ∧ r.qo ≤ 11) := by
  unfold rck at h
  split at h
  · omega
  · split at h
    · omega
    · rename_i h1
      have h2 : inr r = true := by simpa using h1
      unfold inr at h2
      exact of_decide_eq_true h2
theorem ov_eq {r : Rul} {s : Inn} (h : rck r = 0) : ovR r s = ovB r s := by
  have h1 := rck_in h
  have e : IntKind.i64.wrap (r.q4 - 1) = r.q4 - 1 := IntWalk.i64_in _ (by omega)
  unfold ovR ovB wiB
  rw [e, Bool.eq_iff_iff]
  simp only [Bool.not_eq_true', Bool.or_eq_false_iff, Bool.and_eq_false_iff, Bool.and_eq_true, Bool.not_eq_false', decide_eq_true_eq, decide_eq_false_iff_not, beq_eq_false_iff_ne, bne_eq_false_iff_eq, ne_eq]
  split <;> omega
theorem rv_eq (r : Rul) (s : Inn) : rvB r s = vlB r s := by
  by_cases h0 : rck r = 0
  · by_cases hb : (s.bts.length : Int) = r.q1
    · by_cases hs : 0 ≤ s.st ∧ s.st ≤ r.q1
      · by_cases ht : 0 ≤ s.ot ∧ s.ot ≤ r.q1
        · have e1 := ba_eq (s := s) (by omega) (by omega)
          unfold rvB vlB knB cfB
          rw [e1, ov_eq h0, Bool.eq_iff_iff]
          simp only [cnB, List.all_cons, List.all_nil, Bool.and_true, Bool.and_eq_true]
          constructor
          · rintro ⟨a1, a2, a3, a4, a5, a6, a7, a8, a9, b1, b2, b3, ⟨b4, b5⟩, b6, ⟨c1, c2, c3, c4, c5, c6, c7, c8, c9, d1, d2, d3⟩, d4⟩
            exact ⟨a1, ⟨a2, a6, a3, a4, a5, a7, a8, a9, b1, b5⟩, b4, ⟨b2, b3⟩, b6, ⟨c1, c2, c8, c9, d1, d2, d3⟩, ⟨c3, c4, c5, c6, c7⟩, d4⟩
          · rintro ⟨a1, ⟨a2, a6, a3, a4, a5, a7, a8, a9, b1, b5⟩, b4, ⟨b2, b3⟩, b6, ⟨c1, c2, c8, c9, d1, d2, d3⟩, ⟨c3, c4, c5, c6, c7⟩, d4⟩
            exact ⟨a1, a2, a3, a4, a5, a6, a7, a8, a9, b1, b2, b3, ⟨b4, b5⟩, b6, ⟨c1, c2, c3, c4, c5, c6, c7, c8, c9, d1, d2, d3⟩, d4⟩
        · have : wiB s.ot 0 r.q1 = false := by unfold wiB; rw [← Bool.decide_and]; exact decide_eq_false ht
          unfold rvB vlB knB
          rw [this]
          simp only [Bool.false_and, Bool.and_false]
      · have : wiB s.st 0 r.q1 = false := by unfold wiB; rw [← Bool.decide_and]; exact decide_eq_false hs
        unfold rvB vlB knB
        rw [this]
        simp only [Bool.false_and, Bool.and_false]
    · have : ((s.bts.length : Int) == r.q1) = false := beq_eq_false_iff_ne.2 hb
      unfold rvB vlB knB
      rw [this]
      simp only [Bool.false_and, Bool.and_false]
  · have : (rck r == 0) = false := beq_eq_false_iff_ne.2 h0
    unfold rvB vlB
    rw [this]
    simp only [Bool.false_and]
theorem rvl_sp (r : Rul) (B : RAd) (s : Inn) (A : Adr) (hB : AOK B.a r.pw.length) (hl : r.pw.length ≤ 1000000) (hn : r.nm.size ≤ 1000000) (hA : OkI s A) (hc : CapI s A) : SpecG Tryz.prog [] ((B.a, cP r.pw) :: rdI s A) 13 #[ruV r B, inV s A] [] (fun _ => .bool (vlB r s)) := by
  rw [← rv_eq]
  exact rvl0_sp r B s A hB hl hn hA hc

end Go.Proofs.YtnhlpgdadbjmoaaGreatDoor
