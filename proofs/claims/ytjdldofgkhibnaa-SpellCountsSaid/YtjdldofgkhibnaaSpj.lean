/- Layer 13 (spell): what the bowlers' balls come to: the plain words. -/
import Derived.Test.YtjdldofgkhibnaaVz
import Derived.KernelRfl
import Derived.Test.YtjdldofgkhibnaaProg
import Derived.Test.YtjdldofgkhibnaaFda
import Derived.Test.YtjdldofgkhibnaaFdb
import Derived.Test.YtjdldofgkhibnaaFdf
import Derived.Test.YtjdldofgkhibnaaFdh
import Derived.Test.YtjdldofgkhibnaaFdk
import Derived.Test.YtjdldofgkhibnaaRua
import Derived.Test.YtjdldofgkhibnaaSpa
import Derived.Test.YtjdldofgkhibnaaSpb
set_option linter.unusedSimpArgs false
set_option linter.unusedVariables false
set_option maxRecDepth 100000
namespace Go.Proofs.Ytjdldofgkhibnaa
open Go.RowKit


/-- A bowler who is taken, and the balls. -/
structure AcR where
  p : Int
  n : Int
  w : Bool
/-- The element with an index. -/
def gAc (l : List AcR) (m : Nat) : AcR := l.getD m ⟨0, 0, false⟩
def cAc (l : List AcR) : List Value := l.flatMap fun p => [.int .i64 p.p, .int .u8 p.n, .bool p.w]
def cAc_rd (l : List AcR) (m : Nat) : Nat → Value
  | 0 => .int .i64 (gAc l m).p
  | 1 => .int .u8 (gAc l m).n
  | _ => .bool (gAc l m).w
theorem cAc_len (l : List AcR) : (cAc l).length = l.length * 3 := by
  induction l with
  | nil => rfl
  | cons p l ih => simp only [cAc, List.flatMap_cons, List.length_append] at *; rw [ih]; simp; omega
theorem cAc_at {l : List AcR} {m j : Nat} (h : m < l.length) (hj : j < 3) : (cAc l)[m * 3 + j]? = some (cAc_rd l m j) := by
  induction l generalizing m with
  | nil => simp at h
  | cons p l ih =>
    have e : cAc (p :: l) = [.int .i64 p.p, .int .u8 p.n, .bool p.w] ++ cAc l := rfl
    rw [e]
    cases m with
    | zero =>
      rw [List.getElem?_append_left (by simp; omega)]
      have : j = 0 ∨ j = 1 ∨ j = 2 := by omega
      rcases this with rfl | rfl | rfl <;> rfl
    | succ m =>
      rw [List.getElem?_append_right (by simp; omega)]
      have e2 : (m + 1) * 3 + j - ([.int .i64 p.p, .int .u8 p.n, .bool p.w] : List Value).length = m * 3 + j := by simp; omega
      rw [e2, ih (by simpa using h)]
      have : j = 0 ∨ j = 1 ∨ j = 2 := by omega
      rcases this with rfl | rfl | rfl <;> simp [cAc_rd, gAc]
theorem cAc_one (l : List AcR) : ∀ u ∈ cAc l, u.oneCell' = true := by
  intro u hu
  simp only [cAc, List.mem_flatMap, List.mem_cons, List.not_mem_nil, or_false] at hu
  obtain ⟨p, _, h | h | h⟩ := hu <;> (rw [h]; rfl)
theorem cAc_app (l : List AcR) (d : AcR) : lapp (cAc l) [.int .i64 d.p, .int .u8 d.n, .bool d.w] = cAc (l ++ [d]) := by
  rw [lapp_eq]
  unfold cAc
  rw [List.flatMap_append]
  rfl
theorem cAc_get0 {l : List AcR} {m : Nat} (h : m < l.length) : lgo (cAc l) (m * 3) = some (.int .i64 (gAc l m).p) := by rw [lgo_eq]; exact cAc_at (j := 0) h (by omega)
theorem cAc_get1 {l : List AcR} {m : Nat} (h : m < l.length) : lgo (cAc l) (m * 3 + 1) = some (.int .u8 (gAc l m).n) := by rw [lgo_eq]; exact cAc_at (j := 1) h (by omega)
theorem cAc_get2 {l : List AcR} {m : Nat} (h : m < l.length) : lgo (cAc l) (m * 3 + 2) = some (.bool (gAc l m).w) := by rw [lgo_eq]; exact cAc_at (j := 2) h (by omega)

/-- The bowlers of an over, and where they lie. -/
structure OvR where
  a : Option Addr
  c : Nat
  l : List Int
def ovG (o : List OvR) (m : Nat) : OvR := o.getD m ⟨none, 0, []⟩
def ovA (o : List OvR) (m : Nat) : Option Addr := (ovG o m).a
def ovC (o : List OvR) (m : Nat) : Nat := (ovG o m).c
def ovL (o : List OvR) (m : Nat) : List Int := (ovG o m).l
def ovA_cells (o : List OvR) (m : Nat) : List Value := cI (ovL o m)
def cS (o : List OvR) : List Value := o.map fun r => .slice r.a r.l.length r.c
def cS_rd (o : List OvR) (m _ : Nat) : Value := .slice (ovA o m) (ovL o m).length (ovC o m)
def frO (o : List OvR) : List FR := o.map fun r => ⟨r.a, r.l.length, r.c, cI r.l⟩
theorem cS_len (o : List OvR) : (cS o).length = o.length * 1 := by simp [cS]
theorem cS_get {o : List OvR} {k : Nat} (h : k < o.length) : lgo (cS o) (k * 1) = some (.slice (ovA o k) (ovL o k).length (ovC o k)) := by
  rw [lgo_eq]
  simp [cS, ovA, ovL, ovC, ovG, h]
theorem cS_app (o : List OvR) (r : OvR) : lapp (cS o) [.slice r.a r.l.length r.c] = cS (o ++ [r]) := by rw [lapp_eq]; simp [cS]
theorem frO_at {o : List OvR} {k : Nat} (h : k < o.length) : (frO o)[k]? = some ⟨ovA o k, (ovL o k).length, ovC o k, cI (ovL o k)⟩ := by
  simp [frO, ovA, ovL, ovC, ovG, h]
theorem frO_app (o : List OvR) (r : OvR) : frO o ++ [⟨r.a, r.l.length, r.c, cI r.l⟩] = frO (o ++ [r]) := by simp [frO]
theorem ovL_app (o : List OvR) (r : OvR) (m : Nat) : ovL (o ++ [r]) m = if m < o.length then ovL o m else if m = o.length then r.l else [] := by
  unfold ovL ovG
  rw [List.getD_eq_getElem?_getD, List.getElem?_append]
  split
  · rw [List.getD_eq_getElem?_getD]
  · split
    · rename_i h1 h2; subst h2; simp
    · rename_i h1 h2
      rw [List.getElem?_eq_none (by simp; omega)]
      rfl
/-- The sum of the first balls. -/
def sumT (l : List Int) (k : Nat) : Int := (l.take k).foldr (· + ·) 0
/-- What holds of the state, the overs and the number of balls so far. -/
structure Jn (s : Inn) (ov : List OvR) (c : Nat) : Prop where
  l4 : s.bwd.length = 4
  io : 0 ≤ s.io ∧ s.io < 6
  cm : s.cm = ov.length
  sm : s.bwd.foldr (· + ·) 0 = 6 * s.cm + s.io
  ba : s.ba = s.bwd.foldr (· + ·) 0
  el : ∀ i, 0 ≤ s.bwd.getD i 0 ∧ s.bwd.getD i 0 ≤ 12
  bw : s.bw = 0 ∨ (1 ≤ s.bw ∧ s.bw ≤ 4 ∧ s.bw ∉ s.bfs ∧ s.bwd.getD (s.bw - 1).toNat 0 + (6 - s.io) ≤ 12)
  nb : ∀ p, p ∈ s.bws → p ∉ s.bfs
  bf : s.bfs = ovL ov (ov.length - 1)
  cs : ∀ i b, i + 1 < ov.length → b ∈ ovL ov (i + 1) → b ∉ ovL ov i
  n1 : s.bws.length ≤ c
  n2 : s.bfs.length ≤ c
  n3 : ov.length ≤ c
  n4 : s.bts.length ≤ 0
  n5 : s.sbs.length ≤ 4
  n6 : ∀ m, (ovL ov m).length ≤ c
def in0 (k : Int) : Inn := ⟨0, 0, 0, 0, 0, 0, 0, 0, 0, 0, 0, 0, 0, 0, [], 0, [], [], false, [0, 0, 0, 0], false, 0, k, 0, [false, false, false, false], 0, 0, 0⟩
theorem jn_0 (k : Int) (c : Nat) : Jn (in0 k) [] c := by
  refine ⟨rfl, (by show (0 : Int) ≤ 0 ∧ (0 : Int) < 6; omega), rfl, rfl, rfl, fun i => ?_, Or.inl rfl, (fun p hp => by cases hp), rfl, (fun i b h => by simp at h), Nat.zero_le _, Nat.zero_le _, Nat.zero_le _, Nat.le_refl _, Nat.le_refl _, fun m => Nat.zero_le _⟩
  match i with
  | 0 => show (0 : Int) ≤ 0 ∧ (0 : Int) ≤ 12; omega
  | 1 => show (0 : Int) ≤ 0 ∧ (0 : Int) ≤ 12; omega
  | 2 => show (0 : Int) ≤ 0 ∧ (0 : Int) ≤ 12; omega
  | 3 => show (0 : Int) ≤ 0 ∧ (0 : Int) ≤ 12; omega
  | n + 4 => simp [in0]
theorem rck_q : rck quR = 0 := by decide
theorem w64 {n : Int} (h : -1000000 ≤ n ∧ n ≤ 1000000) : IntKind.i64.wrap n = n := IntWalk.i64_in _ (by omega)
theorem rm_q {s : Inn} {p : Int} (he : exs s p = true) (hb : 0 ≤ bqd s p ∧ bqd s p ≤ 12) : rmV quR s p = 12 - bqd s p := by
  have h : rmE quR s p = 12 - bqd s p := by
    have e1 : IntKind.i64.wrap (quR.q5 * quR.q4) = 12 := by decide
    have e2 : (if 0 > bqd s p then 0 else bqd s p) = bqd s p := if_neg (by omega)
    unfold rmE
    rw [e1, e2, w64 (by omega), if_neg (by omega)]
  unfold rmV
  rw [if_neg (by simp [he, rck_q]), if_neg (by decide), h]
theorem jn_take {s : Inn} {ov : List OvR} {c : Nat} (h : Jn s ov c) (p : Int) : Jn (taS quR s p) ov c := by
  have e : (taS quR s p) = { s with bw := if maL quR s p = 0 then p else s.bw } := rfl
  by_cases hm : maL quR s p = 0
  · have hx : exs s p = true := by
      cases hx : exs s p with
      | true => rfl
      | false => unfold maL at hm; rw [if_pos (Or.inl hx)] at hm; omega
    have hq := hm
    unfold maL at hq
    rw [if_neg (by simp [hx, rck_q])] at hq
    split at hq
    · omega
    · split at hq
      · omega
      · rename_i h8
        split at hq
        · omega
        · rename_i h9
          have hp := exs_in hx
          rw [h.l4] at hp
          have hel := h.el (p - 1).toNat
          have hr := rm_q hx (by unfold bqd; exact hel)
          have hf : s.bwd.getD (p - 1).toNat 0 + (6 - s.io) ≤ 12 := by
            have h9 : fnO quR s (rmV quR s p) = true := by simpa using h9
            rw [hr] at h9
            unfold fnO at h9
            rw [Bool.or_eq_true, beq_iff_eq, decide_eq_true_eq] at h9
            unfold bqd at h9
            have hio := h.io
            rw [show quR.q4 = 6 from rfl, w64 (by omega)] at h9
            omega
          rw [e, if_pos hm]
          refine ⟨h.l4, h.io, h.cm, h.sm, h.ba, h.el, Or.inr ⟨hp.1, hp.2, fun hin => h8 ?_, hf⟩, h.nb, h.bf, h.cs, h.n1, h.n2, h.n3, h.n4, h.n5, h.n6⟩
          unfold hasL
          rw [List.any_eq_true]
          exact ⟨p, hin, by simp⟩
  · rw [e, if_neg hm]
    exact ⟨h.l4, h.io, h.cm, h.sm, h.ba, h.el, h.bw, h.nb, h.bf, h.cs, h.n1, h.n2, h.n3, h.n4, h.n5, h.n6⟩
/-- The bowlers of the over with the present one. -/
theorem blB_in (s : Inn) : s.bw ∈ blB s := by
  unfold blB
  split
  · rename_i h
    unfold hasL at h
    rw [List.any_eq_true] at h
    obtain ⟨x, hx, he⟩ := h
    simp at he
    rw [← he]; exact hx
  · simp
theorem blB_mem {s : Inn} {p : Int} (h : p ∈ blB s) : p ∈ s.bws ∨ p = s.bw := by
  unfold blB at h
  split at h
  · exact Or.inl h
  · simpa using h
theorem hasL_in {l : List Int} {p : Int} (h : p ∈ l) : hasL l p = true := by
  unfold hasL
  rw [List.any_eq_true]
  exact ⟨p, h, by simp⟩
theorem jn_exs {s : Inn} {ov : List OvR} {c : Nat} (h : Jn s ov c) (hb : ¬ s.bw = 0) : exs s s.bw = true ∧ blX quR s = true := by
  have hx : exs s s.bw = true := by
    unfold exs
    rw [decide_eq_true_eq, h.l4]
    rcases h.bw with h1 | h1
    · exact absurd h1 hb
    · exact ⟨h1.1, h1.2.1⟩
  refine ⟨hx, ?_⟩
  unfold blX
  rw [hx, rck_q]
  rfl
theorem jn_wide {s : Inn} {ov : List OvR} {c : Nat} (h : Jn s ov c) (hb : ¬ s.bw = 0) : Jn (blS quR s false) ov (c + 1) ∧ (blS quR s false).bw = s.bw ∧ (blS quR s false).bws = blB s := by
  obtain ⟨hx, hX⟩ := jn_exs h hb
  have ho : blO quR s false = false := by
    unfold blO blI
    rw [hX, show quR.q4 = 6 from rfl]
    have := h.io
    simp
    omega
  have e : blS quR s false = { s with bws := blB s } := by
    unfold blS
    simp [hX, ho]
  rw [e]
  refine ⟨⟨h.l4, h.io, h.cm, h.sm, h.ba, h.el, h.bw, fun p hp => ?_, h.bf, h.cs, ?_, Nat.le_succ_of_le h.n2, Nat.le_succ_of_le h.n3, h.n4, h.n5, fun m => Nat.le_succ_of_le (h.n6 m)⟩, rfl, rfl⟩
  · rcases blB_mem hp with h1 | h1
    · exact h.nb p h1
    · rcases h.bw with h2 | h2
      · exact absurd h2 hb
      · rw [h1]; exact h2.2.2.1
  · have := h.n1
    show (blB s).length ≤ c + 1
    unfold blB
    split
    · omega
    · simp; omega
theorem sum_set (l : List Int) (k : Nat) (hk : k < l.length) (v : Int) : (l.set k v).foldr (· + ·) 0 = l.foldr (· + ·) 0 - l.getD k 0 + v := by
  induction l generalizing k with
  | nil => simp at hk
  | cons a l ih =>
    cases k with
    | zero => simp; omega
    | succ k =>
      simp only [List.set_cons_succ, List.foldr_cons, List.getD_cons_succ]
      rw [ih k (by simpa using hk)]
      omega
theorem jn_ball {s : Inn} {ov : List OvR} {c : Nat} (h : Jn s ov c) (hb : ¬ s.bw = 0) (hc : c ≤ 1000) :
    (blO quR s true = false → Jn (blS quR s true) ov (c + 1) ∧ (blS quR s true).bws = blB s) ∧
    (blO quR s true = true → (∀ a cap, Jn (blS quR s true) (ov ++ [⟨a, cap, blB s⟩]) (c + 1)) ∧ (blS quR s true).bws = []) := by
  obtain ⟨hx, hX⟩ := jn_exs h hb
  have hbw : 1 ≤ s.bw ∧ s.bw ≤ 4 ∧ s.bw ∉ s.bfs ∧ s.bwd.getD (s.bw - 1).toNat 0 + (6 - s.io) ≤ 12 := by
    rcases h.bw with h2 | h2
    · exact absurd h2 hb
    · exact h2
  have hio := h.io
  have hk : (s.bw - 1).toNat < s.bwd.length := by rw [h.l4]; omega
  have hel := h.el (s.bw - 1).toNat
  have hcm := h.cm
  have hn3 := h.n3
  have hn1 := h.n1
  have hn2 := h.n2
  have w1 : IntKind.i64.wrap (bqd s s.bw + 1) = s.bwd.getD (s.bw - 1).toNat 0 + 1 := by unfold bqd; exact w64 (by omega)
  have w2 : IntKind.i64.wrap (s.io + 1) = s.io + 1 := w64 (by omega)
  have w3 : IntKind.i64.wrap (s.ba + 1) = s.ba + 1 := w64 (by rw [h.ba, h.sm]; omega)
  have w4 : IntKind.i64.wrap (s.cm + 1) = s.cm + 1 := w64 (by omega)
  have hB : (blB s).length ≤ c + 1 := by unfold blB; split; omega; (simp; omega)
  have hnb : ∀ p, p ∈ blB s → p ∉ s.bfs := by
    intro p hp
    rcases blB_mem hp with h1 | h1
    · exact h.nb p h1
    · rw [h1]; exact hbw.2.2.1
  have hsum : (s.bwd.set (s.bw - 1).toNat (s.bwd.getD (s.bw - 1).toNat 0 + 1)).foldr (· + ·) 0 = s.bwd.foldr (· + ·) 0 + 1 := by rw [sum_set _ _ hk]; omega
  have hget : ∀ i, (s.bwd.set (s.bw - 1).toNat (s.bwd.getD (s.bw - 1).toNat 0 + 1)).getD i 0 = if i = (s.bw - 1).toNat then s.bwd.getD (s.bw - 1).toNat 0 + 1 else s.bwd.getD i 0 := by
    intro i
    rw [List.getD_eq_getElem?_getD, List.getElem?_set]
    by_cases hi : (s.bw - 1).toNat = i
    · subst hi; rw [if_pos rfl, if_pos hk, if_pos rfl]; rfl
    · rw [if_neg hi, if_neg (fun e => hi e.symm), List.getD_eq_getElem?_getD]
  have hee : ∀ i, 0 ≤ (s.bwd.set (s.bw - 1).toNat (s.bwd.getD (s.bw - 1).toNat 0 + 1)).getD i 0 ∧ (s.bwd.set (s.bw - 1).toNat (s.bwd.getD (s.bw - 1).toNat 0 + 1)).getD i 0 ≤ 12 := by
    intro i
    rw [hget]
    split
    · omega
    · exact h.el i
  constructor
  · intro ho
    have h6 : s.io + 1 < 6 := by
      unfold blO blI at ho
      rw [hX, if_pos rfl, w2, show quR.q4 = 6 from rfl] at ho
      simpa using ho
    have e : blS quR s true = { s with bws := blB s, bwd := s.bwd.set (s.bw - 1).toNat (s.bwd.getD (s.bw - 1).toNat 0 + 1), io := s.io + 1, ba := s.ba + 1 } := by
      unfold blS
      simp [hX, ho, w1, w2, w3]
    rw [e]
    refine ⟨⟨by simp [h.l4], (by show 0 ≤ s.io + 1 ∧ s.io + 1 < 6; omega), h.cm, ?_, ?_, hee, Or.inr ⟨hbw.1, hbw.2.1, hbw.2.2.1, ?_⟩, hnb, h.bf, h.cs, hB, Nat.le_succ_of_le h.n2, Nat.le_succ_of_le h.n3, h.n4, h.n5, fun m => Nat.le_succ_of_le (h.n6 m)⟩, rfl⟩
    · show (s.bwd.set _ _).foldr (· + ·) 0 = 6 * s.cm + (s.io + 1)
      rw [hsum, h.sm]; omega
    · show s.ba + 1 = (s.bwd.set _ _).foldr (· + ·) 0
      rw [hsum, h.ba]
    · show (s.bwd.set _ _).getD (s.bw - 1).toNat 0 + (6 - (s.io + 1)) ≤ 12
      rw [hget, if_pos rfl]; omega
  · intro ho
    have h6 : ¬ s.io + 1 < 6 := by
      unfold blO blI at ho
      rw [hX, if_pos rfl, w2, show quR.q4 = 6 from rfl] at ho
      simpa using ho
    have e : blS quR s true = { s with bws := [], bfs := blB s, bwd := s.bwd.set (s.bw - 1).toNat (s.bwd.getD (s.bw - 1).toNat 0 + 1), io := 0, ba := s.ba + 1, cm := s.cm + 1, bw := 0 } := by
      unfold blS
      simp [hX, ho, w1, w3, w4]
    refine ⟨fun a cap => ?_, by rw [e]⟩
    rw [e]
    refine ⟨by simp [h.l4], (by show (0 : Int) ≤ 0 ∧ (0 : Int) < 6; omega), ?_, ?_, ?_, hee, Or.inl rfl, (fun p hp => by cases hp), ?_, ?_, Nat.zero_le _, hB, ?_, h.n4, h.n5, fun m => ?_⟩
    · show s.cm + 1 = _
      rw [h.cm]; simp
    · show (s.bwd.set _ _).foldr (· + ·) 0 = 6 * (s.cm + 1) + 0
      rw [hsum, h.sm]; omega
    · show s.ba + 1 = (s.bwd.set _ _).foldr (· + ·) 0
      rw [hsum, h.ba]
    · show blB s = _
      rw [ovL_app]
      simp
    · intro i b hi hm hn
      rw [ovL_app] at hm hn
      simp at hi
      rw [if_pos (by omega : i < ov.length)] at hn
      split at hm
      · rename_i h7
        exact h.cs i b h7 hm hn
      · rename_i h7
        rw [if_pos (by omega : i + 1 = ov.length)] at hm
        have : i = ov.length - 1 := by omega
        rw [this, ← h.bf] at hn
        exact hnb b hm hn
    · simp; omega
    · rw [ovL_app]
      split
      · exact Nat.le_succ_of_le (h.n6 m)
      · split
        · exact hB
        · exact Nat.zero_le _
structure OX where
  i : Nat
  b : Nat
  A : Adr
  s : Inn
  na : Option Addr
  nc : Nat
  nl : List Int
  oa : Option Addr
  oc : Nat
  ov : List OvR
structure IX where
  j : Nat
  b : Nat
  A : Adr
  s : Inn
  na : Option Addr
  nc : Nat
  nl : List Int
  oa : Option Addr
  oc : Nat
  ov : List OvR
/-- The rows of the state, of the over and of the overs. -/
def rowsX (b : Nat) (A : Adr) (s : Inn) (na : Option Addr) (nc : Nat) (nl : List Int) (oa : Option Addr) (oc : Nat) (ov : List OvR) : List Ob :=
  [⟨b, inL s A, 36, none⟩] ++ roE s A ++ [⟨0, cI nl, 3, some ⟨na, nl.length, nc, 1⟩⟩, ⟨0, cS ov, 28, some ⟨oa, ov.length, oc, 1⟩⟩, ghOb 0 (famG 3 1 true (frO ov))]
structure Kn (A : Adr) (s : Inn) (na : Option Addr) (nl : List Int) (oa : Option Addr) (ov : List OvR) (c : Nat) : Prop where
  J : Jn s ov c
  e : nl = s.bws
  A : OkI s A
  n : AOK na nl.length
  o : AOK oa ov.length
  r : ∀ m, m < ov.length → AOK (ovA ov m) (ovL ov m).length
def oI (l : List AcR) (x : OX) : Prop := x.i ≤ l.length ∧ x.i ≤ 20 ∧ Kn x.A x.s x.na x.nl x.oa x.ov (20 * x.i)
def nBl (l : List AcR) (i : Nat) : Nat := ((gAc l i).n.tmod 8).toNat
def iI (l : List AcR) (x : OX) (y : IX) : Prop := y.j ≤ nBl l x.i ∧ Kn y.A y.s y.na y.nl y.oa y.ov (20 * x.i + 2 * y.j)
@[reducible] def outL (l : List AcR) (_ : Int) : LoopR := ⟨OX, fun x => [(9, .int .i64 x.i), (6, .pointer (some ⟨x.b, 0, none⟩)), (7, .slice x.oa x.ov.length x.oc), (8, .slice x.na x.nl.length x.nc)], [4, 5, 6, 7, 2, 3, 8, 9, 10], fun x => rowsX x.b x.A x.s x.na x.nc x.nl x.oa x.oc x.ov, oI l, fun x => 20 - x.i, [(61, 1), (3, 1), (3, 1), (3, 1), (28, 1), (0, 1)]⟩
@[reducible] def inL2 (l : List AcR) (_ : Int) (x : OX) : LoopR := ⟨IX, fun y => [(54, .int .u8 y.j), (6, .pointer (some ⟨y.b, 0, none⟩)), (7, .slice y.oa y.ov.length y.oc), (8, .slice y.na y.nl.length y.nc)], [4, 11, 12, 13, 14, 15, 8, 9, 10], fun y => rowsX y.b y.A y.s y.na y.nc y.nl y.oa y.oc y.ov, iI l x, fun y => nBl l x.i - y.j, []⟩
def sI (x : OX) (i : Nat) : Prop := i ≤ x.s.bwd.length
@[reducible] def sumL (x : OX) : LoopR := ⟨Nat, fun i => [(95, .int .i64 i), (12, .int .i64 (sumT x.s.bwd i))], [], fun _ => [], sI x, fun i => x.s.bwd.length - i, []⟩
def dI (x : OX) (i : Nat) : Prop := 1 ≤ i ∧ (i ≤ x.ov.length ∨ i = 1)
@[reducible] def difL (x : OX) (_ : Nat) : LoopR := ⟨Nat, fun i => [(15, .int .i64 i)], [], fun _ => [], dI x, fun i => x.ov.length + 1 - i, []⟩
def e5I (x : OX) (i : Nat) (m : Nat) : Prop := m ≤ (ovL x.ov i).length
@[reducible] def difM (x : OX) (_ : Nat) (i : Nat) : LoopR := ⟨Nat, fun m => [(116, .int .i64 m)], [], fun _ => [], e5I x i, fun m => (ovL x.ov i).length - m, []⟩

end Go.Proofs.Ytjdldofgkhibnaa
