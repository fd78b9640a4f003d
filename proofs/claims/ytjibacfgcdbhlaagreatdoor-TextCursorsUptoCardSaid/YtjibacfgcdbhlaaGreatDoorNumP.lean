/- Contract of the reference's Number. -/
import Derived.Test.YtjibacfgcdbhlaaGreatDoorTxS
import Derived.Test.YtjibacfgcdbhlaaGreatDoorNumA
import Derived.Test.YtjibacfgcdbhlaaGreatDoorNumB
set_option linter.unusedSimpArgs false
set_option linter.unusedVariables false
namespace Go.Proofs.YtjibacfgcdbhlaaGreatDoor
open Go.RowKit

theorem digF_take (d : List UInt8) (k : Nat) (hk : k < d.length) : digF 0 (d.take (k + 1)) = digF 0 (d.take k) * 10 + (d[k].toNat - 48) := by
  rw [List.take_succ_eq_append_getElem hk, digF_snoc]
theorem ext_from (A B : List UInt8) (c : UInt8) (k n : Nat) (hk : k = A.length + 1) (hn : n = (str (A ++ c :: B)).size) : (str (A ++ c :: B)).extract k n = str B := by
  subst hk hn
  apply ByteArray.ext
  apply Array.toList_inj.1
  rw [ByteArray.data_extract]
  simp [str, Array.toList_extract, List.extract_eq_take_drop, ByteArray.size, List.drop_append, List.drop_of_length_le]
  try rw [List.take_of_length_le (by omega)]
theorem ext_tail (r : List UInt8) (c : UInt8) (n : Nat) (hn : n = (str (c :: r)).size) : (str (c :: r)).extract 1 n = str r := by
  have := ext_from [] r c 1 n rfl (by simpa using hn)
  simpa using this
/-- The words of the loop: the number so far, and whether it has grown too big. -/
def accI (bg : Bool) (nn : Int) (x : Nat) : Prop := (bg = false ∧ nn = (x : Int)) ∨ (bg = true ∧ 9223372036854775808 < x)

set_option maxHeartbeats 4000000 in
theorem rnum_plus (d : List UInt8) (lo hi : Int) (w : World) (hl : d.length ≤ 2000000) (hlo : I64 lo) (hhi : I64 hi) (hm : minus d = false) :
    Calls Tryz.prog 47 #[S d, .int .i64 lo, .int .i64 hi] w fun e w' => e = .returned (.tuple #[.int .i64 (numV d lo hi), .int .i64 (numE d lo hi)]) ∧ Below w.heap.size w w' := by
  have hbd : body d = d := by unfold body; rw [hm]; rfl
  have hvl : valI d = (digF 0 d : Int) := by unfold valI; rw [hm, hbd]; rfl
  have hdec : decimalB d = (!d.isEmpty && (d.all isDig && ((d.headD 0).toNat != 48 || d == [48]))) := by unfold decimalB; rw [hbd]
  have HDEC := Lib.hid hdec
  have HVL := Lib.hid hvl
  have zl := str_size d
  have zd := str_size d
  have HN4 : Hid (decimalB d = false → numE d lo hi = 4 ∧ numV d lo hi = 0) := Lib.hid (fun h => by
    have e1 : numE d lo hi = 4 := by unfold numE; rw [h]; rfl
    exact ⟨e1, by unfold numV; rw [if_neg (by omega)]⟩)
  have HN2 : Hid (decimalB d = true → (in64B (valI d) && (decide (lo ≤ valI d) && decide (valI d ≤ hi))) = false → numE d lo hi = 2 ∧ numV d lo hi = 0) := Lib.hid (fun h h2 => by
    have e1 : numE d lo hi = 2 := by unfold numE; rw [if_pos h, h2]; rfl
    exact ⟨e1, by unfold numV; rw [if_neg (by omega)]⟩)
  have HN0 : Hid (decimalB d = true → (in64B (valI d) && (decide (lo ≤ valI d) && decide (valI d ≤ hi))) = true → numE d lo hi = 0 ∧ numV d lo hi = valI d) := Lib.hid (fun h h2 => by
    have e1 : numE d lo hi = 0 := by unfold numE; rw [if_pos h, h2]; rfl
    exact ⟨e1, by unfold numV; rw [if_pos e1]⟩)
  clear hbd hvl hdec
  by_cases h0 : d = []
  · subst h0
    obtain ⟨e1, e2⟩ := HN4.out (by rw [HDEC.out]; rfl)
    rw [e1, e2]
    have hed : ((str []).toList == []) = true := by rw [str_toList]; rfl
    clear e1 e2 HN4 HN2 HN0 HDEC HVL hm
    go_enter Tryz.func47, Tryz.ntmps47
    go_wp2
    go_returns
    exact ⟨rfl, by (repeat' (first | (with_reducible exact Below.refl _ _) | (with_reducible refine Below.setCell ?_ ?_ _) | (with_reducible refine Below.alloc ?_ ?_ _) | (with_reducible refine Below.drew ?_) | (with_reducible refine belowN ?_ _) | (with_reducible refine below_step ?_ ?_ (by with_reducible assumption)) | go_size))⟩
  have hed : ((str d).toList == []) = false := by rw [str_toList]; simpa using h0
  have hpos : 0 < d.length := by cases d with | nil => exact absurd rfl h0 | cons a r => simp
  have hpos2 : 0 < (str d).size := by omega
  have HEM : Hid (d.isEmpty = false) := Lib.hid (by simpa using h0)
  have hh : d.headD 0 = d[0]'hpos := by
    cases d with
    | nil => exact absurd rfl h0
    | cons c r => rfl
  have hg0 := str_get d 0 hpos2 hpos
  have h45 : ((((str d)[0]'hpos2).toNat : Int) == 45) = false := by
    rw [hg0]
    cases d with
    | nil => exact absurd rfl h0
    | cons a r => simp [minus] at hm ⊢; omega
  clear hm
  have H0 := Lib.hid h0
  clear h0
  by_cases hz : (d.headD 0).toNat = 48 ∧ 1 < d.length
  · obtain ⟨hz, hz2⟩ := hz
    obtain ⟨e1, e2⟩ := HN4.out (by
      rw [HDEC.out, hz]
      have : (d == [48]) = false := beq_eq_false_iff_ne.2 (fun h => by rw [h] at hz2; simp at hz2)
      rw [this]; simp)
    rw [e1, e2]
    have k48 : (((str d)[0]'hpos2).toNat : Int) = 48 := by rw [hg0, ← hh, hz]; rfl
    have kl1 : (1 : Int) < (d.length : Int) := by omega
    clear e1 e2 HN4 HN2 HN0 HDEC HVL hz hh hg0
    go_enter Tryz.func47, Tryz.ntmps47
    go_wp2
    go_returns
    exact ⟨rfl, by (repeat' (first | (with_reducible exact Below.refl _ _) | (with_reducible refine Below.setCell ?_ ?_ _) | (with_reducible refine Below.alloc ?_ ?_ _) | (with_reducible refine Below.drew ?_) | (with_reducible refine belowN ?_ _) | (with_reducible refine below_step ?_ ?_ (by with_reducible assumption)) | go_size))⟩
  have HOK : Hid (d.all isDig = true → decimalB d = true) := Lib.hid (fun h => by
    rw [HDEC.out, HEM.out, h]
    by_cases h48 : (d.headD 0).toNat = 48
    · have h1 : d.length = 1 := by omega
      obtain ⟨c, rfl⟩ : ∃ c, d = [c] := List.length_eq_one_iff.1 h1
      have : c = 48 := UInt8.toNat_inj.1 (by simpa using h48)
      rw [this]; rfl
    · have : ((d.headD 0).toNat != 48) = true := by simpa using h48
      rw [this]; rfl)
  have hcs : ((((str d)[0]'hpos2).toNat : Int) == 48) = false ∨ ((((str d)[0]'hpos2).toNat : Int) = 48 ∧ ¬ (1 : Int) < (d.length : Int)) := by
    rw [hg0, ← hh]
    by_cases h48 : (d.headD 0).toNat = 48
    · right; exact ⟨by omega, by omega⟩
    · left; exact beq_eq_false_iff_ne.2 (by omega)
  clear hz hh hg0
  rcases hcs with k48 | ⟨k48, kl1⟩
  all_goals
    go_enter Tryz.func47, Tryz.ntmps47
    go_wp2
    go_loop [10, 11, 12] (fun n b i => ∃ (k : Nat) (nn : Int) (bg : Bool), k ≤ d.length ∧ i = .int .i64 (k : Int) ∧ n = .int .u64 nn ∧ b = .bool bg ∧ 0 ≤ nn ∧ nn < 18446744073709551616 ∧ Hid ((d.take k).all isDig = true) ∧ Hid (accI bg nn (digF 0 (d.take k)))) (fun _ _ i => d.length - (intOf i).toNat)
    case atStart => exact ⟨0, 0, false, Nat.zero_le _, rfl, rfl, rfl, by omega, by omega, Lib.hid rfl, Lib.hid (Or.inl ⟨rfl, rfl⟩)⟩
    case round =>
      obtain ⟨k, nn, bg, hk, rfl, rfl, rfl, n0, n1, hall, hacc⟩ := hrel
      by_cases hlt : k < d.length
      · have hlt2 : k < (str d).size := by omega
        have hg := str_get d k hlt2 hlt
        have HTK : Hid (digF 0 (d.take (k + 1)) = digF 0 (d.take k) * 10 + (((str d)[k]'hlt2).toNat - 48)) := Lib.hid (by rw [hg]; exact digF_take d k hlt)
        cases hdg : isDig d[k]
        · obtain ⟨e1, e2⟩ := HN4.out (by rw [HDEC.out, not_all d k hlt hdg]; simp)
          have E := Lib.hid (And.intro e1 e2)
          have hc : ((((str d)[k]'hlt2).toNat : Int)) < 48 ∨ (¬ ((((str d)[k]'hlt2).toNat : Int)) < 48 ∧ 57 < ((((str d)[k]'hlt2).toNat : Int))) := by
            rw [hg]
            have : ¬ (48 ≤ d[k].toNat ∧ d[k].toNat ≤ 57) := fun h => by rw [(isDig_iff _).2 h] at hdg; cases hdg
            omega
          clear hg hdg HTK e1 e2 HN4 HN2 HN0 HDEC HOK
          rcases hc with hc | ⟨hc, hc2⟩
          all_goals
            go_wp2
            go_returns
            exact ⟨by rw [E.out.1, E.out.2]; rfl, by (repeat' (first | (with_reducible exact Below.refl _ _) | (with_reducible refine Below.setCell ?_ ?_ _) | (with_reducible refine Below.alloc ?_ ?_ _) | (with_reducible refine Below.drew ?_) | (with_reducible refine belowN ?_ _) | (with_reducible refine below_step ?_ ?_ (by with_reducible assumption)) | go_size))⟩
        · have hc : 48 ≤ ((str d)[k]'hlt2).toNat ∧ ((str d)[k]'hlt2).toNat ≤ 57 := by rw [hg]; exact (isDig_iff _).1 hdg
          have hc1 : ¬ ((((str d)[k]'hlt2).toNat : Int)) < 48 := by omega
          have hc2 : ¬ 57 < ((((str d)[k]'hlt2).toNat : Int)) := by omega
          have hw1 : IntKind.u8.wrap ((((str d)[k]'hlt2).toNat : Int) - 48) = (((str d)[k]'hlt2).toNat : Int) - 48 := by rw [IntKind.wrap_u8]; omega
          have hw9 : IntKind.u64.wrap ((((str d)[k]'hlt2).toNat : Int) - 48) = (((str d)[k]'hlt2).toNat : Int) - 48 := by rw [IntKind.wrap_u64]; omega
          have HA2 : Hid ((d.take (k + 1)).all isDig = true) := Lib.hid (take_all d k hlt hall.out hdg)
          clear hg hdg HN4 HN2 HN0 HDEC HOK
          by_cases hbig : (1152921504606846976 : Int) < nn
          · have HS : Hid (∀ z : Int, accI true z (digF 0 (d.take (k + 1)))) := Lib.hid (fun z => by
              have h1 := HTK.out
              right
              refine ⟨rfl, ?_⟩
              rcases hacc.out with ⟨_, h⟩ | ⟨_, h⟩ <;> omega)
            generalize digF 0 (d.take k) = x at *
            go_wp2
            go_round
            case rel => exact ⟨k + 1, _, true, by omega, by go_num, rfl, rfl, by first | omega | (go_num; omega) | go_num | (rw [IntKind.wrap_u64]; omega), by first | omega | (go_num; omega) | go_num | (rw [IntKind.wrap_u64]; omega), HA2, Lib.hid (HS.out _)⟩
            case measure => simp [intOf]; omega
          · have hw2 : IntKind.u64.wrap (nn * 10) = nn * 10 := by rw [IntKind.wrap_u64]; omega
            have hw3 : IntKind.u64.wrap (nn * 10 + ((((str d)[k]'hlt2).toNat : Int) - 48)) = nn * 10 + ((((str d)[k]'hlt2).toNat : Int) - 48) := by rw [IntKind.wrap_u64]; omega
            have HS : Hid (accI bg (nn * 10 + ((((str d)[k]'hlt2).toNat : Int) - 48)) (digF 0 (d.take (k + 1)))) := Lib.hid (by
              have h1 := HTK.out
              rcases hacc.out with ⟨h, h2⟩ | ⟨h, h2⟩
              · left; exact ⟨h, by omega⟩
              · right; exact ⟨h, by omega⟩)
            generalize digF 0 (d.take k) = x at *
            go_wp2
            go_round
            case rel => exact ⟨k + 1, _, bg, by omega, by go_num, rfl, rfl, by first | omega | (go_num; omega) | go_num | (rw [IntKind.wrap_u64]; omega), by first | omega | (go_num; omega) | go_num | (rw [IntKind.wrap_u64]; omega), HA2, HS⟩
            case measure => simp [intOf]; omega
      · obtain rfl : k = d.length := by omega
        have hfull : d.take d.length = d := List.take_of_length_le (Nat.le_refl _)
        have hall2 : d.all isDig = true := by have h := hall.out; rw [hfull] at h; exact h
        have hac := hacc.out
        rw [hfull] at hac
        have hd1 := HOK.out hall2
        have hv1 := HVL.out
        clear hall hall2 hacc HOK HDEC HN4 hfull
        rcases hac with ⟨rfl, rfl⟩ | ⟨rfl, hbig⟩
        · have HN2' := HN2.out hd1
          have HN0' := HN0.out hd1
          rw [hv1] at HN2' HN0'
          have HP2 := Lib.hid HN2'
          have HP0 := Lib.hid HN0'
          clear HN2 HN0 HN2' HN0' hd1 hv1 HVL
          generalize digF 0 d = x at *
          by_cases hx : (9223372036854775808 : Int) < (x : Int)
          · obtain ⟨e1, e2⟩ := HP2.out (by have : in64B ((x : Int)) = false := by simp [in64B]; omega
                                           rw [this]; rfl)
            have E := Lib.hid (And.intro e1 e2)
            clear e1 e2 HP2 HP0
            go_wp2
            go_returns
            exact ⟨by rw [E.out.1, E.out.2]; rfl, by (repeat' (first | (with_reducible exact Below.refl _ _) | (with_reducible refine Below.setCell ?_ ?_ _) | (with_reducible refine Below.alloc ?_ ?_ _) | (with_reducible refine Below.drew ?_) | (with_reducible refine belowN ?_ _) | (with_reducible refine below_step ?_ ?_ (by with_reducible assumption)) | go_size))⟩
          · by_cases hx2 : (x : Int) = 9223372036854775808
            · obtain ⟨e1, e2⟩ := HP2.out (by have : in64B (x : Int) = false := by simp [in64B]; omega
                                             rw [this]; rfl)
              have E := Lib.hid (And.intro e1 e2)
              have hx3 : ((x : Int) == 9223372036854775808) = true := by simpa using hx2
              clear e1 e2 HP2 HP0
              go_wp2
              go_returns
              exact ⟨by rw [E.out.1, E.out.2]; rfl, by (repeat' (first | (with_reducible exact Below.refl _ _) | (with_reducible refine Below.setCell ?_ ?_ _) | (with_reducible refine Below.alloc ?_ ?_ _) | (with_reducible refine Below.drew ?_) | (with_reducible refine belowN ?_ _) | (with_reducible refine below_step ?_ ?_ (by with_reducible assumption)) | go_size))⟩
            have hx3 : ((x : Int) == 9223372036854775808) = false := by simpa using hx2
            have hcv : IntKind.i64.wrap (x : Int) = (x : Int) := by rw [IntKind.wrap_i64]; omega
            have hin : in64B (x : Int) = true := by simp [in64B]; omega
            have ht : ((x : Int) < lo ∧ numE d lo hi = 2 ∧ numV d lo hi = 0) ∨ (¬ (x : Int) < lo ∧ hi < (x : Int) ∧ numE d lo hi = 2 ∧ numV d lo hi = 0) ∨ (¬ (x : Int) < lo ∧ ¬ hi < (x : Int) ∧ numE d lo hi = 0 ∧ numV d lo hi = (x : Int)) := by
              by_cases h1 : (x : Int) < lo
              · left
                have h2 : decide (lo ≤ (x : Int)) = false := by simp; omega
                exact ⟨h1, HP2.out (by rw [h2, hin]; rfl)⟩
              · by_cases h2 : hi < (x : Int)
                · right; left
                  have h3 : decide ((x : Int) ≤ hi) = false := by simp; omega
                  exact ⟨h1, h2, HP2.out (by rw [h3, hin]; simp)⟩
                · right; right
                  have h3 : decide ((x : Int) ≤ hi) = true := by simp; omega
                  have h4 : decide (lo ≤ (x : Int)) = true := by simp; omega
                  exact ⟨h1, h2, HP0.out (by rw [h3, h4, hin]; rfl)⟩
            clear HP2 HP0 hin
            rcases ht with ⟨h1, e1, e2⟩ | ⟨h1, h2, e1, e2⟩ | ⟨h1, h2, e1, e2⟩
            all_goals
              have E := Lib.hid (And.intro e1 e2)
              clear e1 e2
              go_wp2
              go_returns
              exact ⟨by rw [E.out.1, E.out.2]; rfl, by (repeat' (first | (with_reducible exact Below.refl _ _) | (with_reducible refine Below.setCell ?_ ?_ _) | (with_reducible refine Below.alloc ?_ ?_ _) | (with_reducible refine Below.drew ?_) | (with_reducible refine belowN ?_ _) | (with_reducible refine below_step ?_ ?_ (by with_reducible assumption)) | go_size))⟩
        · obtain ⟨e1, e2⟩ := HN2.out hd1 (by rw [hv1]; have : in64B ((digF 0 d : Int)) = false := by simp [in64B]; omega
                                             rw [this]; rfl)
          have E := Lib.hid (And.intro e1 e2)
          clear e1 e2 HN2 HN0 hd1 hv1 HVL
          go_wp2
          go_returns
          exact ⟨by rw [E.out.1, E.out.2]; rfl, by (repeat' (first | (with_reducible exact Below.refl _ _) | (with_reducible refine Below.setCell ?_ ?_ _) | (with_reducible refine Below.alloc ?_ ?_ _) | (with_reducible refine Below.drew ?_) | (with_reducible refine belowN ?_ _) | (with_reducible refine below_step ?_ ?_ (by with_reducible assumption)) | go_size))⟩

set_option maxHeartbeats 4000000 in
theorem rnum_minus (d : List UInt8) (lo hi : Int) (w : World) (hl : d.length ≤ 2000000) (hlo : I64 lo) (hhi : I64 hi) :
    Calls Tryz.prog 47 #[S (45 :: d), .int .i64 lo, .int .i64 hi] w fun e w' => e = .returned (.tuple #[.int .i64 (numV (45 :: d) lo hi), .int .i64 (numE (45 :: d) lo hi)]) ∧ Below w.heap.size w w' := by
  have hbd : body (45 :: d) = d := rfl
  have hvl : valI (45 :: d) = -(digF 0 d : Int) := by
    have : minus (45 :: d) = true := rfl
    unfold valI; rw [if_pos this, hbd]
  have hdec : decimalB (45 :: d) = (!d.isEmpty && (d.all isDig && ((d.headD 0).toNat != 48))) := by
    unfold decimalB; rw [hbd]
    have : ((45 :: d : List UInt8) == [48]) = false := by simp
    rw [this, Bool.or_false]
  have HDEC := Lib.hid hdec
  have HVL := Lib.hid hvl
  have zl := str_size (45 :: d)
  have zd := str_size d
  have HN4 : Hid (decimalB (45 :: d) = false → numE (45 :: d) lo hi = 4 ∧ numV (45 :: d) lo hi = 0) := Lib.hid (fun h => by
    have e1 : numE (45 :: d) lo hi = 4 := by unfold numE; rw [h]; rfl
    exact ⟨e1, by unfold numV; rw [if_neg (by omega)]⟩)
  have HN2 : Hid (decimalB (45 :: d) = true → (in64B (valI (45 :: d)) && (decide (lo ≤ valI (45 :: d)) && decide (valI (45 :: d) ≤ hi))) = false → numE (45 :: d) lo hi = 2 ∧ numV (45 :: d) lo hi = 0) := Lib.hid (fun h h2 => by
    have e1 : numE (45 :: d) lo hi = 2 := by unfold numE; rw [if_pos h, h2]; rfl
    exact ⟨e1, by unfold numV; rw [if_neg (by omega)]⟩)
  have HN0 : Hid (decimalB (45 :: d) = true → (in64B (valI (45 :: d)) && (decide (lo ≤ valI (45 :: d)) && decide (valI (45 :: d) ≤ hi))) = true → numE (45 :: d) lo hi = 0 ∧ numV (45 :: d) lo hi = valI (45 :: d)) := Lib.hid (fun h h2 => by
    have e1 : numE (45 :: d) lo hi = 0 := by unfold numE; rw [if_pos h, h2]; rfl
    exact ⟨e1, by unfold numV; rw [if_pos e1]⟩)
  have zl2 : (str (45 :: d)).size = d.length + 1 := by rw [zl]; rfl
  have hlt0 : 0 < (str (45 :: d)).size := by omega
  have h45 : ((((str (45 :: d))[0]'hlt0).toNat : Int)) = 45 := by rw [str_get _ 0 hlt0 (by simp)]; rfl
  have hx1 : (str (45 :: d)).extract 1 (d.length + 1) = str d := ext_tail d 45 _ zl2.symm
  have hem : ((str (45 :: d)).toList == []) = false := by rw [str_toList]; simp
  clear hbd hvl hdec
  by_cases h0 : d = []
  · subst h0
    obtain ⟨e1, e2⟩ := HN4.out (by rw [HDEC.out]; rfl)
    rw [e1, e2]
    have hed : ((str []).toList == []) = true := by rw [str_toList]; rfl
    clear e1 e2 HN4 HN2 HN0 HDEC HVL
    go_enter Tryz.func47, Tryz.ntmps47
    go_wp2
    go_returns
    exact ⟨rfl, by (repeat' (first | (with_reducible exact Below.refl _ _) | (with_reducible refine Below.setCell ?_ ?_ _) | (with_reducible refine Below.alloc ?_ ?_ _) | (with_reducible refine Below.drew ?_) | (with_reducible refine belowN ?_ _) | (with_reducible refine below_step ?_ ?_ (by with_reducible assumption)) | go_size))⟩
  have hed : ((str d).toList == []) = false := by rw [str_toList]; simpa using h0
  have hpos : 0 < d.length := by cases d with | nil => exact absurd rfl h0 | cons a r => simp
  have hpos2 : 0 < (str d).size := by omega
  have HEM : Hid (d.isEmpty = false) := Lib.hid (by simpa using h0)
  have hh : d.headD 0 = d[0]'hpos := by
    cases d with
    | nil => exact absurd rfl h0
    | cons c r => rfl
  have hg0 := str_get d 0 hpos2 hpos
  have H0 := Lib.hid h0
  clear h0
  by_cases hz : (d.headD 0).toNat = 48
  · obtain ⟨e1, e2⟩ := HN4.out (by rw [HDEC.out, hz]; simp)
    rw [e1, e2]
    have k48 : (((str d)[0]'hpos2).toNat : Int) = 48 := by rw [hg0, ← hh, hz]; rfl
    clear e1 e2 HN4 HN2 HN0 HDEC HVL hz hh hg0
    go_enter Tryz.func47, Tryz.ntmps47
    go_wp2
    go_returns
    exact ⟨rfl, by (repeat' (first | (with_reducible exact Below.refl _ _) | (with_reducible refine Below.setCell ?_ ?_ _) | (with_reducible refine Below.alloc ?_ ?_ _) | (with_reducible refine Below.drew ?_) | (with_reducible refine belowN ?_ _) | (with_reducible refine below_step ?_ ?_ (by with_reducible assumption)) | go_size))⟩
  have HOK : Hid (d.all isDig = true → decimalB (45 :: d) = true) := Lib.hid (fun h => by rw [HDEC.out, HEM.out, h]; simpa using hz)
  have k48 : ((((str d)[0]'hpos2).toNat : Int) == 48) = false := by rw [hg0, ← hh]; exact beq_eq_false_iff_ne.2 (by omega)
  have hcs : True ∨ True := Or.inl trivial
  clear hz hh hg0
  clear hcs
  go_enter Tryz.func47, Tryz.ntmps47
  go_wp2
  go_loop [10, 11, 12] (fun n b i => ∃ (k : Nat) (nn : Int) (bg : Bool), k ≤ d.length ∧ i = .int .i64 (k : Int) ∧ n = .int .u64 nn ∧ b = .bool bg ∧ 0 ≤ nn ∧ nn < 18446744073709551616 ∧ Hid ((d.take k).all isDig = true) ∧ Hid (accI bg nn (digF 0 (d.take k)))) (fun _ _ i => d.length - (intOf i).toNat)
  case atStart => exact ⟨0, 0, false, Nat.zero_le _, rfl, rfl, rfl, by omega, by omega, Lib.hid rfl, Lib.hid (Or.inl ⟨rfl, rfl⟩)⟩
  case round =>
    obtain ⟨k, nn, bg, hk, rfl, rfl, rfl, n0, n1, hall, hacc⟩ := hrel
    by_cases hlt : k < d.length
    · have hlt2 : k < (str d).size := by omega
      have hg := str_get d k hlt2 hlt
      have HTK : Hid (digF 0 (d.take (k + 1)) = digF 0 (d.take k) * 10 + (((str d)[k]'hlt2).toNat - 48)) := Lib.hid (by rw [hg]; exact digF_take d k hlt)
      cases hdg : isDig d[k]
      · obtain ⟨e1, e2⟩ := HN4.out (by rw [HDEC.out, not_all d k hlt hdg]; simp)
        have E := Lib.hid (And.intro e1 e2)
        have hc : ((((str d)[k]'hlt2).toNat : Int)) < 48 ∨ (¬ ((((str d)[k]'hlt2).toNat : Int)) < 48 ∧ 57 < ((((str d)[k]'hlt2).toNat : Int))) := by
          rw [hg]
          have : ¬ (48 ≤ d[k].toNat ∧ d[k].toNat ≤ 57) := fun h => by rw [(isDig_iff _).2 h] at hdg; cases hdg
          omega
        clear hg hdg HTK e1 e2 HN4 HN2 HN0 HDEC HOK
        rcases hc with hc | ⟨hc, hc2⟩
        all_goals
          go_wp2
          go_returns
          exact ⟨by rw [E.out.1, E.out.2]; rfl, by (repeat' (first | (with_reducible exact Below.refl _ _) | (with_reducible refine Below.setCell ?_ ?_ _) | (with_reducible refine Below.alloc ?_ ?_ _) | (with_reducible refine Below.drew ?_) | (with_reducible refine belowN ?_ _) | (with_reducible refine below_step ?_ ?_ (by with_reducible assumption)) | go_size))⟩
      · have hc : 48 ≤ ((str d)[k]'hlt2).toNat ∧ ((str d)[k]'hlt2).toNat ≤ 57 := by rw [hg]; exact (isDig_iff _).1 hdg
        have hc1 : ¬ ((((str d)[k]'hlt2).toNat : Int)) < 48 := by omega
        have hc2 : ¬ 57 < ((((str d)[k]'hlt2).toNat : Int)) := by omega
        have hw1 : IntKind.u8.wrap ((((str d)[k]'hlt2).toNat : Int) - 48) = (((str d)[k]'hlt2).toNat : Int) - 48 := by rw [IntKind.wrap_u8]; omega
        have hw9 : IntKind.u64.wrap ((((str d)[k]'hlt2).toNat : Int) - 48) = (((str d)[k]'hlt2).toNat : Int) - 48 := by rw [IntKind.wrap_u64]; omega
        have HA2 : Hid ((d.take (k + 1)).all isDig = true) := Lib.hid (take_all d k hlt hall.out hdg)
        clear hg hdg HN4 HN2 HN0 HDEC HOK
        by_cases hbig : (1152921504606846976 : Int) < nn
        · have HS : Hid (∀ z : Int, accI true z (digF 0 (d.take (k + 1)))) := Lib.hid (fun z => by
            have h1 := HTK.out
            right
            refine ⟨rfl, ?_⟩
            rcases hacc.out with ⟨_, h⟩ | ⟨_, h⟩ <;> omega)
          generalize digF 0 (d.take k) = x at *
          go_wp2
          go_round
          case rel => exact ⟨k + 1, _, true, by omega, by go_num, rfl, rfl, by first | omega | (go_num; omega) | go_num | (rw [IntKind.wrap_u64]; omega), by first | omega | (go_num; omega) | go_num | (rw [IntKind.wrap_u64]; omega), HA2, Lib.hid (HS.out _)⟩
          case measure => simp [intOf]; omega
        · have hw2 : IntKind.u64.wrap (nn * 10) = nn * 10 := by rw [IntKind.wrap_u64]; omega
          have hw3 : IntKind.u64.wrap (nn * 10 + ((((str d)[k]'hlt2).toNat : Int) - 48)) = nn * 10 + ((((str d)[k]'hlt2).toNat : Int) - 48) := by rw [IntKind.wrap_u64]; omega
          have HS : Hid (accI bg (nn * 10 + ((((str d)[k]'hlt2).toNat : Int) - 48)) (digF 0 (d.take (k + 1)))) := Lib.hid (by
            have h1 := HTK.out
            rcases hacc.out with ⟨h, h2⟩ | ⟨h, h2⟩
            · left; exact ⟨h, by omega⟩
            · right; exact ⟨h, by omega⟩)
          generalize digF 0 (d.take k) = x at *
          go_wp2
          go_round
          case rel => exact ⟨k + 1, _, bg, by omega, by go_num, rfl, rfl, by first | omega | (go_num; omega) | go_num | (rw [IntKind.wrap_u64]; omega), by first | omega | (go_num; omega) | go_num | (rw [IntKind.wrap_u64]; omega), HA2, HS⟩
          case measure => simp [intOf]; omega
    · obtain rfl : k = d.length := by omega
      have hfull : d.take d.length = d := List.take_of_length_le (Nat.le_refl _)
      have hall2 : d.all isDig = true := by have h := hall.out; rw [hfull] at h; exact h
      have hac := hacc.out
      rw [hfull] at hac
      have hd1 := HOK.out hall2
      have hv1 := HVL.out
      clear hall hall2 hacc HOK HDEC HN4 hfull
      rcases hac with ⟨rfl, rfl⟩ | ⟨rfl, hbig⟩
      · have HN2' := HN2.out hd1
        have HN0' := HN0.out hd1
        rw [hv1] at HN2' HN0'
        have HP2 := Lib.hid HN2'
        have HP0 := Lib.hid HN0'
        clear HN2 HN0 HN2' HN0' hd1 hv1 HVL
        generalize digF 0 d = x at *
        by_cases hx : (9223372036854775808 : Int) < (x : Int)
        · obtain ⟨e1, e2⟩ := HP2.out (by have : in64B (-(x : Int)) = false := by simp [in64B]; omega
                                         rw [this]; rfl)
          have E := Lib.hid (And.intro e1 e2)
          clear e1 e2 HP2 HP0
          go_wp2
          go_returns
          exact ⟨by rw [E.out.1, E.out.2]; rfl, by (repeat' (first | (with_reducible exact Below.refl _ _) | (with_reducible refine Below.setCell ?_ ?_ _) | (with_reducible refine Below.alloc ?_ ?_ _) | (with_reducible refine Below.drew ?_) | (with_reducible refine belowN ?_ _) | (with_reducible refine below_step ?_ ?_ (by with_reducible assumption)) | go_size))⟩
        · obtain ⟨V, hV⟩ : ∃ V : Int, -(x : Int) = V := ⟨_, rfl⟩
          rw [hV] at HP2 HP0
          obtain ⟨T, hT⟩ : ∃ T : Int, IntKind.i64.wrap (x : Int) = T := ⟨_, rfl⟩
          have hcv : IntKind.i64.wrap (-T) = V := by rw [IntKind.wrap_i64]; rw [IntKind.wrap_i64] at hT; omega
          have hin : in64B V = true := by simp [in64B]; omega
          have ht : (V < lo ∧ numE (45 :: d) lo hi = 2 ∧ numV (45 :: d) lo hi = 0) ∨ (¬ V < lo ∧ hi < V ∧ numE (45 :: d) lo hi = 2 ∧ numV (45 :: d) lo hi = 0) ∨ (¬ V < lo ∧ ¬ hi < V ∧ numE (45 :: d) lo hi = 0 ∧ numV (45 :: d) lo hi = V) := by
            by_cases h1 : V < lo
            · left
              have h2 : decide (lo ≤ V) = false := by simp; omega
              exact ⟨h1, HP2.out (by rw [h2, hin]; rfl)⟩
            · by_cases h2 : hi < V
              · right; left
                have h3 : decide (V ≤ hi) = false := by simp; omega
                exact ⟨h1, h2, HP2.out (by rw [h3, hin]; simp)⟩
              · right; right
                have h3 : decide (V ≤ hi) = true := by simp; omega
                have h4 : decide (lo ≤ V) = true := by simp; omega
                exact ⟨h1, h2, HP0.out (by rw [h3, h4, hin]; rfl)⟩
          clear HP2 HP0 hin hV
          rcases ht with ⟨h1, e1, e2⟩ | ⟨h1, h2, e1, e2⟩ | ⟨h1, h2, e1, e2⟩
          all_goals
            have E := Lib.hid (And.intro e1 e2)
            clear e1 e2
            have hx3 : ((x : Int) == 9223372036854775808) = true ∨ ((x : Int) == 9223372036854775808) = false := by
              cases ((x : Int) == 9223372036854775808)
              · right; rfl
              · left; rfl
            rcases hx3 with hx3 | hx3
            all_goals
              go_wp2
              go_returns
              exact ⟨by rw [E.out.1, E.out.2]; rfl, by (repeat' (first | (with_reducible exact Below.refl _ _) | (with_reducible refine Below.setCell ?_ ?_ _) | (with_reducible refine Below.alloc ?_ ?_ _) | (with_reducible refine Below.drew ?_) | (with_reducible refine belowN ?_ _) | (with_reducible refine below_step ?_ ?_ (by with_reducible assumption)) | go_size))⟩
      · obtain ⟨e1, e2⟩ := HN2.out hd1 (by rw [hv1]; have : in64B (-(digF 0 d : Int)) = false := by simp [in64B]; omega
                                           rw [this]; rfl)
        have E := Lib.hid (And.intro e1 e2)
        clear e1 e2 HN2 HN0 hd1 hv1 HVL
        go_wp2
        go_returns
        exact ⟨by rw [E.out.1, E.out.2]; rfl, by (repeat' (first | (with_reducible exact Below.refl _ _) | (with_reducible refine Below.setCell ?_ ?_ _) | (with_reducible refine Below.alloc ?_ ?_ _) | (with_reducible refine Below.drew ?_) | (with_reducible refine belowN ?_ _) | (with_reducible refine below_step ?_ ?_ (by with_reducible assumption)) | go_size))⟩

theorem rnumber_any (l : List UInt8) (lo hi : Int) (w : World) (hl : l.length ≤ 2000000) (hlo : I64 lo) (hhi : I64 hi) :
    Calls Tryz.prog 47 #[S l, .int .i64 lo, .int .i64 hi] w fun e w' => e = .returned (.tuple #[.int .i64 (numV l lo hi), .int .i64 (numE l lo hi)]) ∧ Below w.heap.size w w' := by
  cases l with
  | nil => exact rnum_plus [] lo hi w (by simp) hlo hhi rfl
  | cons c r =>
    by_cases hm : c = 45
    · subst hm
      exact rnum_minus r lo hi w (by simp at hl; omega) hlo hhi
    · refine rnum_plus (c :: r) lo hi w hl hlo hhi ?_
      have : c.toNat ≠ 45 := fun e => hm (UInt8.toNat_inj.1 (by rw [e]; rfl))
      simp [minus, this]
end Go.Proofs.YtjibacfgcdbhlaaGreatDoor
