/- Contract of the reference's Read. -/
import Derived.Test.YtaabebmaobdofaaDoorReadE
set_option linter.unusedSimpArgs false
set_option linter.unusedVariables false
namespace Go.Proofs.YtaabebmaobdofaaDoor
open Go.RowKit

def readG (l : List UInt8) : Bool := !(body l).isEmpty && (decide ((body l).length ≤ 18) && (body l).all isDig)
def readV (l : List UInt8) : Int := if readG l then valI l else 0
def readB (l : List UInt8) : Bool := readG l && (Lib.itoa (valI l) == l)
theorem digF_lt (l : List UInt8) : ∀ acc, l.all isDig = true → digF acc l < (acc + 1) * 10 ^ l.length := by
  induction l with
  | nil => intro acc _; show acc < (acc + 1) * 10 ^ 0; omega
  | cons c r ih =>
    intro acc h
    simp only [List.all_cons, Bool.and_eq_true] at h
    have h1 := (isDig_iff c).1 h.1
    have e : digF acc (c :: r) = digF (acc * 10 + (c.toNat - 48)) r := rfl
    have h2 := ih (acc * 10 + (c.toNat - 48)) h.2
    rw [e, List.length_cons, Nat.pow_succ]
    refine Nat.lt_of_lt_of_le h2 ?_
    have h3 : acc * 10 + (c.toNat - 48) + 1 ≤ (acc + 1) * 10 := by omega
    calc (acc * 10 + (c.toNat - 48) + 1) * 10 ^ r.length ≤ ((acc + 1) * 10) * 10 ^ r.length := Nat.mul_le_mul_right _ h3
      _ = (acc + 1) * (10 ^ r.length * 10) := by rw [Nat.mul_assoc, Nat.mul_comm 10]
theorem digF_18 (l : List UInt8) (h : l.all isDig = true) (hl : l.length ≤ 18) : digF 0 l < 1000000000000000000 := by
  have h1 := digF_lt l 0 h
  have h2 : 10 ^ l.length ≤ 10 ^ 18 := Nat.pow_le_pow_right (by omega) hl
  have h3 : (10 : Nat) ^ 18 = 1000000000000000000 := by decide
  omega
theorem digF_17 (l : List UInt8) (h : l.all isDig = true) (hl : l.length ≤ 17) : digF 0 l < 100000000000000000 := by
  have h1 := digF_lt l 0 h
  have h2 : 10 ^ l.length ≤ 10 ^ 17 := Nat.pow_le_pow_right (by omega) hl
  have h3 : (10 : Nat) ^ 17 = 100000000000000000 := by decide
  omega
theorem take_all (d : List UInt8) (k : Nat) (hk : k < d.length) (h : (d.take k).all isDig = true) (h2 : isDig d[k] = true) : (d.take (k + 1)).all isDig = true := by
  rw [List.take_succ_eq_append_getElem hk, List.all_append, h]; simp [h2]
theorem not_all (d : List UInt8) (k : Nat) (hk : k < d.length) (h2 : isDig d[k] = false) : d.all isDig = false := by
  cases h : d.all isDig
  · rfl
  · have := List.all_eq_true.1 h d[k] (List.getElem_mem hk); rw [this] at h2; cases h2
theorem digF_take (d : List UInt8) (k : Nat) (hk : k < d.length) : digF 0 (d.take (k + 1)) = digF 0 (d.take k) * 10 + (d[k].toNat - 48) := by
  rw [List.take_succ_eq_append_getElem hk, digF_snoc]
theorem ext_tail (r : List UInt8) (c : UInt8) (n : Nat) (hn : n = (str (c :: r)).size) : (str (c :: r)).extract 1 n = str r := by
  have := ext_to [] r c 1 n rfl (by simpa using hn)
  simpa using this
theorem str_cons_ne (r : List UInt8) (c : UInt8) : str r ≠ str (c :: r) := fun h => by
  have := congrArg List.length (str_inj h)
  simp at this
theorem str_beq (a b : List UInt8) : ((str a).toList == (str b).toList) = (a == b) := by rw [str_toList, str_toList]
theorem read_nil (w : World) : Calls Tryd.prog 58 #[S []] w fun e w' => e = .returned (.tuple #[.int .i64 (readV []), .bool (readB [])]) ∧ Below w.heap.size w w' := by
  have e1 : readV [] = 0 := by decide
  have e2 : readB [] = false := by rfl
  rw [e1, e2]
  have z := str_size []
  have z2 : (str []).size = 0 := z
  unfold S
  generalize str [] = t at *
  clear e1 e2 z
  go_enter Tryd.func58, Tryd.ntmps58
  go_wp2
  go_returns
  exact ⟨rfl, by (repeat' (first | (with_reducible exact Below.refl _ _) | (with_reducible refine Below.setCell ?_ ?_ _) | (with_reducible refine Below.alloc ?_ ?_ _) | (with_reducible refine Below.drew ?_) | (with_reducible refine belowN ?_ _) | (with_reducible refine below_step ?_ ?_ (by with_reducible assumption)) | go_size))⟩

set_option maxHeartbeats 2000000 in
theorem read_plus (d : List UInt8) (w : World) (hl : d.length ≤ 1000) (hm : minus d = false) (hne : d ≠ []) : Calls Tryd.prog 58 #[S d] w fun e w' => e = .returned (.tuple #[.int .i64 (readV d), .bool (readB d)]) ∧ Below w.heap.size w w' := by
  have hbd : body d = d := by unfold body; rw [hm]; rfl
  have hvl : valI d = (digF 0 d : Int) := by unfold valI; rw [hm, hbd]; rfl
  have HG : Hid (readG d = (!d.isEmpty && (decide (d.length ≤ 18) && d.all isDig))) := Lib.hid (by unfold readG; rw [hbd])
  have HVL := Lib.hid hvl
  have zl := str_size d
  have zd := str_size d
  have zl2 : 1 ≤ d.length := by cases d with | nil => exact absurd rfl hne | cons a r => simp
  have hlt0 : 0 < (str d).size := by omega
  have h45 : ((((str d)[0]'hlt0).toNat : Int) == 45) = false := by
    rw [str_get _ 0 hlt0 (by omega)]
    cases d with
    | nil => exact absurd rfl hne
    | cons a r => simp [minus] at hm ⊢; omega
  have HBQ : Hid (∀ x, ((str x).toList == (str d).toList) = (x == d)) := Lib.hid (fun x => str_beq x _)
  have HB1 : Hid (readG d = false → readV d = 0 ∧ readB d = false) := Lib.hid (fun h => ⟨by unfold readV; rw [h]; rfl, by unfold readB; rw [h]; rfl⟩)
  have HB2 : Hid (readG d = true → readV d = valI d ∧ readB d = (Lib.itoa (valI d) == d)) := Lib.hid (fun h => ⟨by unfold readV; rw [h]; rfl, by unfold readB; rw [h]; rfl⟩)
  clear hbd hvl hm hne
  by_cases h18 : 18 < d.length
  · obtain ⟨e1, e2⟩ := HB1.out (by rw [HG.out]; have : decide (d.length ≤ 18) = false := by simp; omega
                                   rw [this]; simp)
    rw [e1, e2]
    have k18 : (18 : Int) < (d.length : Int) := by omega
    have kd0 : ((d.length : Int) == 0) = false := beq_eq_false_iff_ne.2 (by omega)
    clear HB1 HB2 HG HVL HBQ e1 e2
    go_enter Tryd.func58, Tryd.ntmps58
    go_wp2
    go_returns
    exact ⟨rfl, by (repeat' (first | (with_reducible exact Below.refl _ _) | (with_reducible refine Below.setCell ?_ ?_ _) | (with_reducible refine Below.alloc ?_ ?_ _) | (with_reducible refine Below.drew ?_) | (with_reducible refine belowN ?_ _) | (with_reducible refine below_step ?_ ?_ (by with_reducible assumption)) | go_size))⟩
  · have HEM : Hid (d.isEmpty = false) := Lib.hid (by cases d with | nil => simp at * | cons a r => rfl)
    have k18 : ¬ (18 : Int) < (d.length : Int) := by omega
    have kd0 : ((d.length : Int) == 0) = false := beq_eq_false_iff_ne.2 (by omega)
    go_enter Tryd.func58, Tryd.ntmps58
    go_wp2
    go_loop [5, 6] (fun s i => ∃ k : Nat, k ≤ d.length ∧ i = .int .i64 k ∧ s = .int .i64 (digF 0 (d.take k) : Int) ∧ Hid ((d.take k).all isDig = true)) (fun _ i => d.length - (intOf i).toNat)
    case atStart => exact ⟨0, Nat.zero_le _, rfl, rfl, Lib.hid rfl⟩
    case round =>
      obtain ⟨k, hk, rfl, rfl, hall⟩ := hrel
      have hbd := digF_18 _ hall.out (by rw [List.length_take]; omega)
      by_cases hlt : k < d.length
      · have hlt2 : k < (str d).size := by omega
        have hg := str_get d k hlt2 hlt
        have hbd7 := digF_17 _ hall.out (by rw [List.length_take]; omega)
        have HTK : Hid (digF 0 (d.take (k + 1)) = digF 0 (d.take k) * 10 + (((str d)[k]'hlt2).toNat - 48)) := Lib.hid (by rw [hg]; exact digF_take d k hlt)
        cases hdg : isDig d[k]
        · obtain ⟨e1, e2⟩ := HB1.out (by rw [HG.out, not_all d k hlt hdg]; simp)
          have E := Lib.hid (And.intro e1 e2)
          have hc : ((((str d)[k]'hlt2).toNat : Int)) < 48 ∨ (¬ ((((str d)[k]'hlt2).toNat : Int)) < 48 ∧ 57 < ((((str d)[k]'hlt2).toNat : Int))) := by
            rw [hg]
            have : ¬ (48 ≤ d[k].toNat ∧ d[k].toNat ≤ 57) := fun h => by rw [(isDig_iff _).2 h] at hdg; cases hdg
            omega
          clear hg hdg HTK e1 e2 HB1 HB2
          rcases hc with hc | ⟨hc, hc2⟩
          all_goals
            go_wp2
            go_returns
            exact ⟨by rw [E.out.1, E.out.2]; rfl, by (repeat' (first | (with_reducible exact Below.refl _ _) | (with_reducible refine Below.setCell ?_ ?_ _) | (with_reducible refine Below.alloc ?_ ?_ _) | (with_reducible refine Below.drew ?_) | (with_reducible refine belowN ?_ _) | (with_reducible refine below_step ?_ ?_ (by with_reducible assumption)) | go_size))⟩
        · have hc : 48 ≤ ((str d)[k]'hlt2).toNat ∧ ((str d)[k]'hlt2).toNat ≤ 57 := by rw [hg]; exact (isDig_iff _).1 hdg
          have hc1 : ¬ ((((str d)[k]'hlt2).toNat : Int)) < 48 := by omega
          have hc2 : ¬ 57 < ((((str d)[k]'hlt2).toNat : Int)) := by omega
          have hw1 : IntKind.u8.wrap ((((str d)[k]'hlt2).toNat : Int) - 48) = (((str d)[k]'hlt2).toNat : Int) - 48 := by rw [IntKind.wrap_u8]; omega
          have HA2 : Hid ((d.take (k + 1)).all isDig = true) := Lib.hid (take_all d k hlt hall.out hdg)
          clear hg hdg
          generalize digF 0 (d.take k) = x at *
          have hw2 : wrap64 (10 * (x : Int)) = 10 * (x : Int) := w64_id (by omega) (by omega)
          have hw3 : wrap64 (10 * (x : Int) + ((((str d)[k]'hlt2).toNat : Int) - 48)) = 10 * (x : Int) + ((((str d)[k]'hlt2).toNat : Int) - 48) := w64_id (by omega) (by omega)
          go_wp2
          go_round
          case rel => exact ⟨k + 1, by omega, by go_num, congrArg (Value.int IntKind.i64) (by have := HTK.out; omega), HA2⟩
          case measure => simp [intOf]; omega
      · obtain rfl : k = d.length := by omega
        have hfull : d.take d.length = d := List.take_of_length_le (Nat.le_refl _)
        have hall2 : d.all isDig = true := by have h := hall.out; rw [hfull] at h; exact h
        obtain ⟨e1, e2⟩ := HB2.out (by rw [HG.out, HEM.out, hall2]; have : decide (d.length ≤ 18) = true := by simp; omega
                                       rw [this]; rfl)
        rw [HVL.out] at e1 e2
        rw [hfull] at hbd
        rw [hfull]
        generalize digF 0 d = x at *
        have E := Lib.hid (And.intro e1 e2)
        clear e1 e2 hfull hall hall2 HB1 HB2 HG HVL
        have HN : Hid (∀ w, Calls Tryd.prog 54 #[.int .i64 ((x : Int))] w fun e w' => e = .returned (.string (str (Lib.itoa ((x : Int))))) ∧ Below w.heap.size w w') := Lib.hid (fun w => rnum_any _ w (by omega) (by omega))
        have HQ := Lib.hid (HBQ.out (Lib.itoa ((x : Int))))
        have hneg : IntKind.i64.wrap (-(x : Int)) = -(x : Int) := by rw [IntKind.wrap_i64]; omega
        generalize Lib.itoa ((x : Int)) = T at *
        go_wp2_with (go_at_call 54; ((with_reducible refine (HN.out _).mono ?_); rintro e w1 ⟨rfl, hb1⟩); have hz1 := hb1.size; (try simp only [World.size_alloc, World.size_setCell, World.size_drew, size_drewN'] at hz1))
        go_returns
        exact ⟨by rw [E.out.1, E.out.2, ← HQ.out]; rfl, by (repeat' (first | (with_reducible exact Below.refl _ _) | (with_reducible refine Below.setCell ?_ ?_ _) | (with_reducible refine Below.alloc ?_ ?_ _) | (with_reducible refine Below.drew ?_) | (with_reducible refine belowN ?_ _) | (with_reducible refine below_step ?_ ?_ (by with_reducible assumption)) | go_size))⟩

set_option maxHeartbeats 2000000 in
theorem read_minus (d : List UInt8) (w : World) (hl : d.length ≤ 1000) : Calls Tryd.prog 58 #[S (45 :: d)] w fun e w' => e = .returned (.tuple #[.int .i64 (readV (45 :: d)), .bool (readB (45 :: d))]) ∧ Below w.heap.size w w' := by
  have hbd : body (45 :: d) = d := rfl
  have hvl : valI (45 :: d) = -(digF 0 d : Int) := by
    have : minus (45 :: d) = true := rfl
    unfold valI; rw [if_pos this, hbd]
  have HG : Hid (readG (45 :: d) = (!d.isEmpty && (decide (d.length ≤ 18) && d.all isDig))) := Lib.hid (by unfold readG; rw [hbd])
  have HVL := Lib.hid hvl
  have zl := str_size (45 :: d)
  have zd := str_size d
  have zl2 : (str (45 :: d)).size = d.length + 1 := by rw [zl]; rfl
  have hlt0 : 0 < (str (45 :: d)).size := by omega
  have h45 : ((((str (45 :: d))[0]'hlt0).toNat : Int)) = 45 := by rw [str_get _ 0 hlt0 (by simp)]; rfl
  have HX : Hid (∀ n, n = (str (45 :: d)).size → (str (45 :: d)).extract 1 n = str d) := Lib.hid (fun n h => ext_tail d 45 n h)
  have HNE : ((str d).toList == (str (45 :: d)).toList) = false := by rw [str_beq]; exact beq_eq_false_iff_ne.2 (fun h => by have := congrArg List.length h; simp at this)
  have HBQ : Hid (∀ x, ((str x).toList == (str (45 :: d)).toList) = (x == 45 :: d)) := Lib.hid (fun x => str_beq x _)
  have HB1 : Hid (readG (45 :: d) = false → readV (45 :: d) = 0 ∧ readB (45 :: d) = false) := Lib.hid (fun h => ⟨by unfold readV; rw [h]; rfl, by unfold readB; rw [h]; rfl⟩)
  have HB2 : Hid (readG (45 :: d) = true → readV (45 :: d) = valI (45 :: d) ∧ readB (45 :: d) = (Lib.itoa (valI (45 :: d)) == (45 :: d))) := Lib.hid (fun h => ⟨by unfold readV; rw [h]; rfl, by unfold readB; rw [h]; rfl⟩)
  clear hbd hvl
  have hx1 : (str (45 :: d)).extract 1 (d.length + 1) = str d := HX.out _ zl2.symm
  by_cases h0 : d.length = 0
  · obtain rfl : d = [] := List.length_eq_zero_iff.1 h0
    obtain ⟨e1, e2⟩ := HB1.out (by rw [HG.out]; rfl)
    rw [e1, e2]
    clear HB1 HB2 HG HVL HBQ HX HNE e1 e2
    go_enter Tryd.func58, Tryd.ntmps58
    go_wp2
    go_returns
    exact ⟨rfl, by (repeat' (first | (with_reducible exact Below.refl _ _) | (with_reducible refine Below.setCell ?_ ?_ _) | (with_reducible refine Below.alloc ?_ ?_ _) | (with_reducible refine Below.drew ?_) | (with_reducible refine belowN ?_ _) | (with_reducible refine below_step ?_ ?_ (by with_reducible assumption)) | go_size))⟩
  by_cases h18 : 18 < d.length
  · obtain ⟨e1, e2⟩ := HB1.out (by rw [HG.out]; have : decide (d.length ≤ 18) = false := by simp; omega
                                   rw [this]; simp)
    rw [e1, e2]
    have k18 : (18 : Int) < (d.length : Int) := by omega
    have kd0 : ((d.length : Int) == 0) = false := beq_eq_false_iff_ne.2 (by omega)
    clear HB1 HB2 HG HVL HBQ HX HNE e1 e2
    go_enter Tryd.func58, Tryd.ntmps58
    go_wp2
    go_returns
    exact ⟨rfl, by (repeat' (first | (with_reducible exact Below.refl _ _) | (with_reducible refine Below.setCell ?_ ?_ _) | (with_reducible refine Below.alloc ?_ ?_ _) | (with_reducible refine Below.drew ?_) | (with_reducible refine belowN ?_ _) | (with_reducible refine below_step ?_ ?_ (by with_reducible assumption)) | go_size))⟩
  · have HEM : Hid (d.isEmpty = false) := Lib.hid (by cases d with | nil => simp at * | cons a r => rfl)
    have k18 : ¬ (18 : Int) < (d.length : Int) := by omega
    have kd0 : ((d.length : Int) == 0) = false := beq_eq_false_iff_ne.2 (by omega)
    go_enter Tryd.func58, Tryd.ntmps58
    go_wp2
    go_loop [5, 6] (fun s i => ∃ k : Nat, k ≤ d.length ∧ i = .int .i64 k ∧ s = .int .i64 (digF 0 (d.take k) : Int) ∧ Hid ((d.take k).all isDig = true)) (fun _ i => d.length - (intOf i).toNat)
    case atStart => exact ⟨0, Nat.zero_le _, rfl, rfl, Lib.hid rfl⟩
    case round =>
      obtain ⟨k, hk, rfl, rfl, hall⟩ := hrel
      have hbd := digF_18 _ hall.out (by rw [List.length_take]; omega)
      by_cases hlt : k < d.length
      · have hlt2 : k < (str d).size := by omega
        have hg := str_get d k hlt2 hlt
        have hbd7 := digF_17 _ hall.out (by rw [List.length_take]; omega)
        have HTK : Hid (digF 0 (d.take (k + 1)) = digF 0 (d.take k) * 10 + (((str d)[k]'hlt2).toNat - 48)) := Lib.hid (by rw [hg]; exact digF_take d k hlt)
        cases hdg : isDig d[k]
        · obtain ⟨e1, e2⟩ := HB1.out (by rw [HG.out, not_all d k hlt hdg]; simp)
          have E := Lib.hid (And.intro e1 e2)
          have hc : ((((str d)[k]'hlt2).toNat : Int)) < 48 ∨ (¬ ((((str d)[k]'hlt2).toNat : Int)) < 48 ∧ 57 < ((((str d)[k]'hlt2).toNat : Int))) := by
            rw [hg]
            have : ¬ (48 ≤ d[k].toNat ∧ d[k].toNat ≤ 57) := fun h => by rw [(isDig_iff _).2 h] at hdg; cases hdg
            omega
          clear hg hdg HTK e1 e2 HB1 HB2
          rcases hc with hc | ⟨hc, hc2⟩
          all_goals
            go_wp2
            go_returns
            exact ⟨by rw [E.out.1, E.out.2]; rfl, by (repeat' (first | (with_reducible exact Below.refl _ _) | (with_reducible refine Below.setCell ?_ ?_ _) | (with_reducible refine Below.alloc ?_ ?_ _) | (with_reducible refine Below.drew ?_) | (with_reducible refine belowN ?_ _) | (with_reducible refine below_step ?_ ?_ (by with_reducible assumption)) | go_size))⟩
        · have hc : 48 ≤ ((str d)[k]'hlt2).toNat ∧ ((str d)[k]'hlt2).toNat ≤ 57 := by rw [hg]; exact (isDig_iff _).1 hdg
          have hc1 : ¬ ((((str d)[k]'hlt2).toNat : Int)) < 48 := by omega
          have hc2 : ¬ 57 < ((((str d)[k]'hlt2).toNat : Int)) := by omega
          have hw1 : IntKind.u8.wrap ((((str d)[k]'hlt2).toNat : Int) - 48) = (((str d)[k]'hlt2).toNat : Int) - 48 := by rw [IntKind.wrap_u8]; omega
          have HA2 : Hid ((d.take (k + 1)).all isDig = true) := Lib.hid (take_all d k hlt hall.out hdg)
          clear hg hdg
          generalize digF 0 (d.take k) = x at *
          have hw2 : wrap64 (10 * (x : Int)) = 10 * (x : Int) := w64_id (by omega) (by omega)
          have hw3 : wrap64 (10 * (x : Int) + ((((str d)[k]'hlt2).toNat : Int) - 48)) = 10 * (x : Int) + ((((str d)[k]'hlt2).toNat : Int) - 48) := w64_id (by omega) (by omega)
          go_wp2
          go_round
          case rel => exact ⟨k + 1, by omega, by go_num, congrArg (Value.int IntKind.i64) (by have := HTK.out; omega), HA2⟩
          case measure => simp [intOf]; omega
      · obtain rfl : k = d.length := by omega
        have hfull : d.take d.length = d := List.take_of_length_le (Nat.le_refl _)
        have hall2 : d.all isDig = true := by have h := hall.out; rw [hfull] at h; exact h
        obtain ⟨e1, e2⟩ := HB2.out (by rw [HG.out, HEM.out, hall2]; have : decide (d.length ≤ 18) = true := by simp; omega
                                       rw [this]; rfl)
        rw [HVL.out] at e1 e2
        rw [hfull] at hbd
        rw [hfull]
        generalize digF 0 d = x at *
        have E := Lib.hid (And.intro e1 e2)
        clear e1 e2 hfull hall hall2 HB1 HB2 HG HVL
        have HN : Hid (∀ w, Calls Tryd.prog 54 #[.int .i64 (-(x : Int))] w fun e w' => e = .returned (.string (str (Lib.itoa (-(x : Int))))) ∧ Below w.heap.size w w') := Lib.hid (fun w => rnum_any _ w (by omega) (by omega))
        have HQ := Lib.hid (HBQ.out (Lib.itoa (-(x : Int))))
        have hneg : IntKind.i64.wrap (-(x : Int)) = -(x : Int) := by rw [IntKind.wrap_i64]; omega
        generalize Lib.itoa (-(x : Int)) = T at *
        go_wp2_with (go_at_call 54; ((with_reducible refine (HN.out _).mono ?_); rintro e w1 ⟨rfl, hb1⟩); have hz1 := hb1.size; (try simp only [World.size_alloc, World.size_setCell, World.size_drew, size_drewN'] at hz1))
        go_returns
        exact ⟨by rw [E.out.1, E.out.2, ← HQ.out]; rfl, by (repeat' (first | (with_reducible exact Below.refl _ _) | (with_reducible refine Below.setCell ?_ ?_ _) | (with_reducible refine Below.alloc ?_ ?_ _) | (with_reducible refine Below.drew ?_) | (with_reducible refine belowN ?_ _) | (with_reducible refine below_step ?_ ?_ (by with_reducible assumption)) | go_size))⟩

theorem read_any (l : List UInt8) (w : World) (hl : l.length ≤ 1000) : Calls Tryd.prog 58 #[S l] w fun e w' => e = .returned (.tuple #[.int .i64 (readV l), .bool (readB l)]) ∧ Below w.heap.size w w' := by
  cases l with
  | nil => exact read_nil w
  | cons c r =>
    by_cases hm : c = 45
    · subst hm
      exact read_minus r w (by simp at hl; omega)
    · refine read_plus (c :: r) w hl ?_ (by simp)
      have : c.toNat ≠ 45 := fun e => hm (UInt8.toNat_inj.1 (by rw [e]; rfl))
      simp [minus, this]
end Go.Proofs.YtaabebmaobdofaaDoor
