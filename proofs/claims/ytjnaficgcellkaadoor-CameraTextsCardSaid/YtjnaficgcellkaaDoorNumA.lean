/- Contracts of package text's isDigit, isDecimal, Number and Decimal. -/
import Derived.Test.YtjnaficgcellkaaDoorEnv
import Derived.Test.YtjnaficgcellkaaDoorNum
set_option linter.unusedSimpArgs false
set_option linter.unusedVariables false
namespace Go.Proofs.YtjnaficgcellkaaDoor
open Go.RowKit

theorem isDigit_any (c : UInt8) (w : World) : Calls Tryd.prog 63 #[.int .u8 (c.toNat : Int)] w fun e w' => e = .returned (.bool (isDig c)) ∧ w = w' := by
  by_cases h1 : 48 ≤ c.toNat
  · by_cases h2 : c.toNat ≤ 57
    · have e : isDig c = true := by simp [isDig, h1, h2]
      rw [e]
      have k1 : (48 : Int) ≤ (c.toNat : Int) := by omega
      have k2 : (c.toNat : Int) ≤ 57 := by omega
      clear h1 h2 e
      go_enter Tryd.func63, Tryd.ntmps63
      go_wp2
      go_ret
      exact ⟨rfl, rfl⟩
    · have e : isDig c = false := by simp [isDig, h2]
      rw [e]
      have k1 : (48 : Int) ≤ (c.toNat : Int) := by omega
      have k2 : ¬ (c.toNat : Int) ≤ 57 := by omega
      clear h1 h2 e
      go_enter Tryd.func63, Tryd.ntmps63
      go_wp2
      go_ret
      exact ⟨rfl, rfl⟩
  · have e : isDig c = false := by simp [isDig, h1]
    rw [e]
    have k1 : ¬ (48 : Int) ≤ (c.toNat : Int) := by omega
    clear h1 e
    go_enter Tryd.func63, Tryd.ntmps63
    go_wp2
    go_ret
    exact ⟨rfl, rfl⟩

theorem trim_any (l : List UInt8) (w : World) : Calls Tryd.prog 62 #[S l, .string ⟨#[45]⟩] w fun e w' => e = .returned (S (body l)) ∧ w = w' := by
  have h := Tryd.strings_TrimPrefix (str l) ⟨#[45]⟩ w
  rw [str_list, show (⟨#[45]⟩ : ByteArray).data.toList = [45] from rfl, trim_body] at h
  exact h.mono fun e w' ⟨h1, h2⟩ => ⟨h1, h2.symm⟩

theorem take_all (d : List UInt8) (k : Nat) (hk : k < d.length) (h : (d.take k).all isDig = true) (h2 : isDig d[k] = true) : (d.take (k + 1)).all isDig = true := by
  rw [List.take_succ_eq_append_getElem hk, List.all_append, h]; simp [h2]
theorem not_all (d : List UInt8) (k : Nat) (hk : k < d.length) (h2 : isDig d[k] = false) : d.all isDig = false := by
  cases h : d.all isDig
  · rfl
  · have := List.all_eq_true.1 h d[k] (List.getElem_mem hk); rw [this] at h2; cases h2

set_option maxHeartbeats 1000000 in
theorem isDecimal_any (l : List UInt8) (w : World) (hl : l.length ≤ 4611686018427387904) :
    Calls Tryd.prog 51 #[S l] w fun e w' => e = .returned (.bool (decimalB l)) ∧ ∃ k, w' = w.drewN k := by
  have HT : Hid (∀ w, Calls Tryd.prog 62 #[S l, .string ⟨#[45]⟩] w fun e w' => e = .returned (.string (str (body l))) ∧ w = w') := Lib.hid (fun w => trim_any l w)
  have hbl : (body l).length ≤ l.length := by unfold body; split <;> simp
  obtain ⟨d, hd⟩ : ∃ d, d = body l := ⟨_, rfl⟩
  have hdec : decimalB l = (!d.isEmpty && (d.all isDig && ((d.headD 0).toNat != 48 || l == [48]))) := by unfold decimalB; rw [← hd]
  rw [← hd] at HT hbl
  have HD := Lib.hid hdec
  clear hd hdec
  have z := str_size d
  have hz : d.length ≤ 4611686018427387904 := by omega
  by_cases h0 : d = []
  · subst h0
    have e : decimalB l = false := by rw [HD.out]; rfl
    rw [e]
    have k0 : (str []).toList.isEmpty = true := by rw [str_toList]; rfl
    clear HD e
    go_enter Tryd.func51, Tryd.ntmps51
    go_wp2_with (go_at_call 62; ((with_reducible refine (HT.out _).mono ?_); rintro e w' ⟨rfl, rfl⟩))
    go_ret
    exact ⟨rfl, 0, rfl⟩
  · have k0 : (str d).toList.isEmpty = false := by rw [str_toList]; simpa using h0
    have hpos : 0 < d.length := by cases d with | nil => exact absurd rfl h0 | cons c r => simp
    have H0 := Lib.hid h0
    clear h0
    go_enter Tryd.func51, Tryd.ntmps51
    go_wp2_with (go_at_call 62; ((with_reducible refine (HT.out _).mono ?_); rintro e w' ⟨rfl, rfl⟩))
    go_loop [11] (fun i => ∃ k : Nat, k ≤ d.length ∧ i = .int .i64 k ∧ Hid ((d.take k).all isDig = true)) (fun i => d.length - (intOf i).toNat)
    case atStart => exact ⟨0, Nat.zero_le _, rfl, Lib.hid rfl⟩
    case round =>
      obtain ⟨k, hk, rfl, hall⟩ := hrel
      by_cases hlt : k < d.length
      · have hlt2 : k < (str d).size := by omega
        have hg := str_get d k hlt2 hlt
        cases hdg : isDig d[k]
        · have HK : Hid (∀ w, Calls Tryd.prog 63 #[.int .u8 (((str d)[k]'hlt2).toNat : Int)] w fun e w' => e = .returned (.bool false) ∧ w = w') := Lib.hid (fun w => by have h := isDigit_any d[k] w; rw [hdg] at h; rw [hg]; exact h)
          have e : Hid (decimalB l = false) := Lib.hid (by rw [HD.out, not_all d k hlt hdg]; simp)
          clear hg hdg
          go_wp2_with (go_at_call 63; ((with_reducible refine (HK.out _).mono ?_); rintro e w' ⟨rfl, rfl⟩))
          go_ret
          exact ⟨by rw [e.out]; rfl, 0, rfl⟩
        · have HK : Hid (∀ w, Calls Tryd.prog 63 #[.int .u8 (((str d)[k]'hlt2).toNat : Int)] w fun e w' => e = .returned (.bool true) ∧ w = w') := Lib.hid (fun w => by have h := isDigit_any d[k] w; rw [hdg] at h; rw [hg]; exact h)
          have e : Hid ((d.take (k + 1)).all isDig = true) := Lib.hid (take_all d k hlt hall.out hdg)
          clear hg hdg
          go_wp2_with (go_at_call 63; ((with_reducible refine (HK.out _).mono ?_); rintro e w' ⟨rfl, rfl⟩))
          go_round
          case rel => exact ⟨k + 1, by omega, by go_num, e⟩
          case measure => simp [intOf]; omega
      · obtain rfl : k = d.length := by omega
        have e : Hid (decimalB l = ((d.headD 0).toNat != 48 || l == [48])) := Lib.hid (by
          have h := hall.out
          rw [List.take_of_length_le (Nat.le_refl _)] at h
          rw [HD.out, h]
          have : d.isEmpty = false := by simpa using H0.out
          rw [this]; simp)
        have hp2 : 0 < (str d).size := by omega
        have hg := str_get d 0 hp2 hpos
        have hh : d.headD 0 = d[0]'hpos := by
          cases d with
          | nil => exact absurd rfl H0.out
          | cons c r => rfl
        cases hq : ((d.headD 0).toNat != 48)
        · have k48 : (((str d)[0]'hp2).toNat : Int) = 48 := by rw [hg, ← hh]; have := bne_eq_false_iff_eq.1 hq; omega
          have e2 : Hid (decimalB l = ((str l).toList == [48])) := Lib.hid (by rw [e.out, hq, str_toList]; rfl)
          clear hall hg hh hq e
          go_wp2
          go_ret
          exact ⟨by rw [e2.out]; rfl, 0, rfl⟩
        · have k48 : ¬ (((str d)[0]'hp2).toNat : Int) = 48 := by rw [hg, ← hh]; have := bne_iff_ne.1 hq; omega
          have e2 : Hid (decimalB l = true) := Lib.hid (by rw [e.out, hq]; rfl)
          clear hall hg hh hq e
          go_wp2
          go_ret
          exact ⟨by rw [e2.out]; rfl, 0, rfl⟩

theorem decimal_any (n : Int) (w : World) (hn : I64 n) (h : Env w) :
    Calls Tryd.prog 41 #[.int .i64 n] w fun e w' => e = .returned (S (Lib.itoa n)) ∧ Below w.heap.size w w' := by
  have HF : Hid (∀ w', Env w' → Calls Tryd.prog 47 #[.int .i64 n, .int .i64 10] w' fun e w'' => e = .returned (S (Lib.itoa n)) ∧ Below w'.heap.size w' w'') := Lib.hid (fun w' h => fmt_any n w' hn h)
  go_enter Tryd.func41, Tryd.ntmps41
  go_wp2_with (go_at_call 47; ((with_reducible refine (HF.out _ h).mono ?_); rintro e w1 ⟨rfl, hb1⟩); have hz1 := hb1.size; (try simp only [World.size_alloc, World.size_setCell, World.size_drew, size_drewN'] at hz1))
  go_ret
  exact ⟨rfl, by (repeat' (first | (with_reducible exact Below.refl _ _) | (with_reducible refine Below.setCell ?_ ?_ _) | (with_reducible refine Below.alloc ?_ ?_ _) | (with_reducible refine Below.drew ?_) | (with_reducible refine belowN ?_ _) | (with_reducible refine below_step ?_ ?_ (by with_reducible assumption)) | go_size))⟩
theorem decimal_small (n : Int) (w : World) (h0 : 0 ≤ n) (h1 : n < 100) :
    Calls Tryd.prog 41 #[.int .i64 n] w fun e w' => e = .returned (S (Lib.itoa n)) ∧ Below w.heap.size w w' := by
  have HF : Hid (∀ w', Calls Tryd.prog 47 #[.int .i64 n, .int .i64 10] w' fun e w'' => e = .returned (S (Lib.itoa n)) ∧ Below w'.heap.size w' w'') := Lib.hid (fun w' => fmt_small n w' h0 h1)
  go_enter Tryd.func41, Tryd.ntmps41
  go_wp2_with (go_at_call 47; ((with_reducible refine (HF.out _).mono ?_); rintro e w1 ⟨rfl, hb1⟩); have hz1 := hb1.size; (try simp only [World.size_alloc, World.size_setCell, World.size_drew, size_drewN'] at hz1))
  go_ret
  exact ⟨rfl, by (repeat' (first | (with_reducible exact Below.refl _ _) | (with_reducible refine Below.setCell ?_ ?_ _) | (with_reducible refine Below.alloc ?_ ?_ _) | (with_reducible refine Below.drew ?_) | (with_reducible refine belowN ?_ _) | (with_reducible refine below_step ?_ ?_ (by with_reducible assumption)) | go_size))⟩

/-- Number: the decimal's number, or the error. The variable of the library's error is read only where the number has no 64 bits. -/
theorem number_any (l : List UInt8) (lo hi : Int) (w : World) (hl : l.length ≤ 281474976710656) (hlo : I64 lo) (hhi : I64 hi) (h : Env w) :
    Calls Tryd.prog 45 #[S l, .int .i64 lo, .int .i64 hi] w fun e w' => e = .returned (.tuple #[.int .i64 (numV l lo hi), .int .i64 (numE l lo hi)]) ∧ Below w.heap.size w w' := by
  have HD : Hid (∀ w, Calls Tryd.prog 51 #[S l] w fun e w' => e = .returned (.bool (decimalB l)) ∧ ∃ k, w' = w.drewN k) := Lib.hid (fun w => isDecimal_any l w (by omega))
  have HE := Lib.hid h
  cases hd : decimalB l
  · have e1 : numE l lo hi = 4 := by simp [numE, hd]
    have e2 : numV l lo hi = 0 := by simp [numV, e1]
    rw [e1, e2]
    rw [hd] at HD
    clear h hd e1 e2
    go_enter Tryd.func45, Tryd.ntmps45
    go_wp2_with (go_at_call 51; ((with_reducible refine (HD.out _).mono ?_); rintro e w' ⟨rfl, k, rfl⟩))
    go_returns
    exact ⟨rfl, by (repeat' (first | (with_reducible exact Below.refl _ _) | (with_reducible refine Below.setCell ?_ ?_ _) | (with_reducible refine Below.alloc ?_ ?_ _) | (with_reducible refine Below.drew ?_) | (with_reducible refine belowN ?_ _) | (with_reducible refine below_step ?_ ?_ (by with_reducible assumption)) | go_size))⟩
  · rw [hd] at HD
    have hp := parse_dec hd
    cases hi64 : in64B (valI l)
    · have e1 : numE l lo hi = 2 := by simp [numE, hd, hi64]
      have e2 : numV l lo hi = 0 := by simp [numV, e1]
      rw [e1, e2]
      rw [hi64] at hp
      have HP : Hid (∀ w', Env w' → Calls Tryd.prog 52 #[S l, .int .i64 10, .int .i64 64] w' fun e w'' => ∃ N, e = .returned (.tuple #[.int .i64 (Lib.intSat 64 l), .iface 105 (.pointer (some ⟨N, 0, none⟩))]) ∧ Below w'.heap.size w' w'') := Lib.hid (fun w' h => parse_range l w' hl hp h)
      clear h hd e1 e2 hp hi64
      go_enter Tryd.func45, Tryd.ntmps45
      go_wp2_with (first | (go_at_call 51; ((with_reducible refine (HD.out _).mono ?_); rintro e w' ⟨rfl, k, rfl⟩)) | (go_at_call 52; (with_reducible refine (HP.out _ ?_).mono ?_); (focus (exact HE.out.stays (by (repeat' (first | (with_reducible exact Below.refl _ _) | (with_reducible refine Below.setCell ?_ ?_ _) | (with_reducible refine Below.alloc ?_ ?_ _) | (with_reducible refine Below.drew ?_) | (with_reducible refine belowN ?_ _) | (with_reducible refine below_step ?_ ?_ (by with_reducible assumption)) | go_size))))); rintro e w1 ⟨N, rfl, hb1⟩; have hz1 := hb1.size; (try simp only [World.size_alloc, World.size_setCell, World.size_drew, size_drewN'] at hz1)))
      go_returns
      exact ⟨rfl, by (repeat' (first | (with_reducible exact Below.refl _ _) | (with_reducible refine Below.setCell ?_ ?_ _) | (with_reducible refine Below.alloc ?_ ?_ _) | (with_reducible refine Below.drew ?_) | (with_reducible refine belowN ?_ _) | (with_reducible refine below_step ?_ ?_ (by with_reducible assumption)) | go_size))⟩
    · rw [hi64] at hp
      have HP : Hid (∀ w', Calls Tryd.prog 52 #[S l, .int .i64 10, .int .i64 64] w' fun e w'' => e = .returned (.tuple #[.int .i64 (valI l), .nilIface]) ∧ Below w'.heap.size w' w'') := Lib.hid (fun w' => parse_ok l _ w' hl hp)
      have ht : (valI l < lo ∧ numE l lo hi = 2 ∧ numV l lo hi = 0) ∨ (¬ valI l < lo ∧ hi < valI l ∧ numE l lo hi = 2 ∧ numV l lo hi = 0) ∨ (¬ valI l < lo ∧ ¬ hi < valI l ∧ numE l lo hi = 0 ∧ numV l lo hi = valI l) := by
        by_cases h1 : valI l < lo
        · left
          have e1 : numE l lo hi = 2 := by simp [numE, hd, hi64]; omega
          exact ⟨h1, e1, by simp [numV, e1]⟩
        · by_cases h2 : hi < valI l
          · right; left
            have e1 : numE l lo hi = 2 := by simp [numE, hd, hi64]; omega
            exact ⟨h1, h2, e1, by simp [numV, e1]⟩
          · right; right
            have e1 : numE l lo hi = 0 := by simp [numE, hd, hi64]; omega
            exact ⟨h1, h2, e1, by simp [numV, e1]⟩
      clear h hd hp hi64
      generalize valI l = v at *
      rcases ht with ⟨h1, e1, e2⟩ | ⟨h1, h2, e1, e2⟩ | ⟨h1, h2, e1, e2⟩
      all_goals
        rw [e1, e2]
        clear e1 e2
        go_enter Tryd.func45, Tryd.ntmps45
        go_wp2_with (first | (go_at_call 51; ((with_reducible refine (HD.out _).mono ?_); rintro e w' ⟨rfl, k, rfl⟩)) | (go_at_call 52; (with_reducible refine (HP.out _).mono ?_); rintro e w1 ⟨rfl, hb1⟩; have hz1 := hb1.size; (try simp only [World.size_alloc, World.size_setCell, World.size_drew, size_drewN'] at hz1)))
        go_returns
        exact ⟨rfl, by (repeat' (first | (with_reducible exact Below.refl _ _) | (with_reducible refine Below.setCell ?_ ?_ _) | (with_reducible refine Below.alloc ?_ ?_ _) | (with_reducible refine Below.drew ?_) | (with_reducible refine belowN ?_ _) | (with_reducible refine below_step ?_ ?_ (by with_reducible assumption)) | go_size))⟩
end Go.Proofs.YtjnaficgcellkaaDoor
