/- Contracts of both Parses of a ratio. -/
import Derived.Test.YtaabebmaobdofaaDoorTxtE
import Derived.Test.YtaabebmaobdofaaDoorReadF
set_option linter.unusedSimpArgs false
set_option linter.unusedVariables false
namespace Go.Proofs.YtaabebmaobdofaaDoor
open Go.RowKit

theorem env_pow {w w' : World} (h : Env w) (hb : Below w.heap.size w w') : Pow w' := pow_stays h.pow hb
theorem parse_bads (l : List UInt8) (w : World) (hl : l.length ≤ 281474976710656) (h : ∀ v, Lib.parseIntB 64 l ≠ .ok v) (henv : Env w) :
    Calls Tryd.prog 56 #[S l, .int .i64 10, .int .i64 64] w fun e w' => ∃ (v : Int) (N : Nat), e = .returned (.tuple #[.int .i64 v, .iface 83 (.pointer (some ⟨N, 0, none⟩))]) ∧ Below w.heap.size w w' := by
  obtain ⟨v, hc⟩ := parse_bad l w hl h henv
  exact hc.mono fun e w' ⟨N, h1, h2⟩ => ⟨v, N, h1, h2⟩
theorem dec_len_le : ∀ (k u : Nat), u < 10 ^ (k + 1) → (Lib.decDigits u).length ≤ k + 1 := by
  intro k
  induction k with
  | zero => intro u h; rw [Lib.decDigits_one (by omega)]; simp
  | succ k ih =>
    intro u h
    by_cases hu : u < 10
    · rw [Lib.decDigits_one hu]; simp
    · have e : Lib.decDigits u = Lib.decDigits (u / 10) ++ [UInt8.ofNat (48 + u % 10)] := by rw [Lib.decDigits, dif_neg hu]
      have h2 : 10 ^ (k + 1 + 1) = 10 ^ (k + 1) * 10 := Nat.pow_succ 10 (k + 1)
      have := ih (u / 10) (by omega)
      rw [e, List.length_append]; simp; omega
theorem body_itoa (n : Int) : body (Lib.itoa n) = Lib.decDigits n.natAbs := by
  rcases Int.lt_or_le n 0 with hn | hn
  · obtain ⟨u, rfl, hu⟩ : ∃ u : Nat, n = -(u : Int) ∧ 1 ≤ u := ⟨n.natAbs, by omega, by omega⟩
    rw [Lib.itoa_neg u hu]
    have em : minus (45 :: Lib.decDigits u) = true := rfl
    unfold body; rw [if_pos em]; simp
  · obtain ⟨u, rfl⟩ : ∃ u : Nat, n = (u : Int) := ⟨n.toNat, by omega⟩
    rw [Lib.itoa_nonneg]
    have em := dig_no_minus (dec_all u).1
    unfold body; rw [em]; simp
theorem read_itoa (n : Int) (h0 : -2147483648 ≤ n) (h1 : n ≤ 2147483648) : readV (Lib.itoa n) = n ∧ readB (Lib.itoa n) = true := by
  obtain ⟨i1, i2, i3, i4⟩ := dec_all n.natAbs
  have hg : readG (Lib.itoa n) = true := by
    unfold readG
    rw [body_itoa, i1]
    have h2 : (Lib.decDigits n.natAbs).isEmpty = false := by simpa using i3
    have h10 : (10 : Nat) ^ (9 + 1) = 10000000000 := by decide
    have h3 : (Lib.decDigits n.natAbs).length ≤ 10 := dec_len_le 9 _ (by omega)
    have h4 : decide ((Lib.decDigits n.natAbs).length ≤ 18) = true := by simp; omega
    rw [h2, h4]; rfl
  have hv := (itoa_dec n).2
  constructor
  · unfold readV; rw [hg, hv]; rfl
  · unfold readB; rw [hg, hv]; simp
theorem valI_18 {l : List UInt8} (h : readG l = true) : -1000000000000000000 ≤ valI l ∧ valI l ≤ 1000000000000000000 := by
  unfold readG at h
  simp only [Bool.and_eq_true, decide_eq_true_eq] at h
  have := digF_18 _ h.2.2 h.2.1
  unfold valI
  split <;> omega
theorem readV_i64 (l : List UInt8) : I64 (readV l) := by
  unfold readV
  cases h : readG l
  · unfold I64; simp
  · have := valI_18 h
    unfold I64; simp; omega
theorem readB_eq {l : List UInt8} (h : readB l = true) : l = Lib.itoa (readV l) := by
  unfold readB at h
  simp only [Bool.and_eq_true, beq_iff_eq] at h
  unfold readV; rw [h.1]; exact h.2.symm
theorem parse_itoa (n : Int) (h : I64 n) : Lib.parseIntB 64 (Lib.itoa n) = .ok n := by
  obtain ⟨d, v⟩ := itoa_dec n
  rw [parse_dec d, v, if_pos (by unfold I64 at h; simp [in64B]; omega)]
theorem cut_txR (n d : Int) : Lib.cut (txR n d) [47] = (Lib.itoa n, Lib.itoa d, true) := cut_at 47 _ _ (itoa_no n 47 (by decide) (by decide))
theorem txR_len (n d : Int) (hn : I64 n) (hd : I64 d) : (txR n d).length ≤ 60 := by
  have h1 := Lib.itoa_length_le n hn.1 hn.2
  have h2 := Lib.itoa_length_le d hd.1 hd.2
  unfold txR; simp; omega
theorem txR_ne (n d : Int) : txR n d ≠ [] := by unfold txR; simp
theorem cut_len (l p : List UInt8) : (Lib.cut l p).1.length ≤ l.length ∧ (Lib.cut l p).2.1.length ≤ l.length := by
  unfold Lib.cut
  split <;> simp
  · omega

set_option maxHeartbeats 2000000 in
theorem pparse_ok (n d : Int) (w : World) (hv : validB n d = true) (henv : Env w) :
    Calls Tryd.prog 45 #[S (txR n d)] w fun e w' => e = .returned (.tuple #[R2 n d, .int .i64 0]) ∧ Below w.heap.size w w' := by
  obtain ⟨d1, d2, n1, n2⟩ := valid_bd hv
  have hn : I64 n := by unfold I64; omega
  have hd : I64 d := by unfold I64; omega
  have hl := txR_len n d hn hd
  have l1 := Lib.itoa_length_le n hn.1 hn.2
  have l2 := Lib.itoa_length_le d hd.1 hd.2
  have HE := Lib.hid henv
  have HC : Hid (∀ w', Env w' → Calls Tryd.prog 55 #[S (txR n d), .string ⟨#[47]⟩] w' fun e w'' => e = .returned (.tuple #[S (Lib.itoa n), S (Lib.itoa d), .bool true]) ∧ Below w'.heap.size w' w'') := Lib.hid (fun w' h => by
    have := cut_any (txR n d) [47] w' (by omega) h
    rw [cut_txR] at this; exact this)
  have HP1 : Hid (∀ w', Calls Tryd.prog 56 #[S (Lib.itoa n), .int .i64 10, .int .i64 64] w' fun e w'' => e = .returned (.tuple #[.int .i64 n, .nilIface]) ∧ Below w'.heap.size w' w'') := Lib.hid (fun w' => parse_ok _ n w' (by omega) (parse_itoa n hn))
  have HP2 : Hid (∀ w', Calls Tryd.prog 56 #[S (Lib.itoa d), .int .i64 10, .int .i64 64] w' fun e w'' => e = .returned (.tuple #[.int .i64 d, .nilIface]) ∧ Below w'.heap.size w' w'') := Lib.hid (fun w' => parse_ok _ d w' (by omega) (parse_itoa d hd))
  have HV : Hid (∀ w, Calls Tryd.prog 17 #[R2 n d] w fun e w' => e = .returned (.bool true) ∧ Below w.heap.size w w') := Lib.hid (fun w => by have h := valid_any n d w hn hd; rw [hv] at h; exact h)
  have HT : Hid (∀ w', Pow w' → Calls Tryd.prog 43 #[R2 n d] w' fun e w'' => e = .returned (S (txR n d)) ∧ Below w'.heap.size w' w'') := Lib.hid (fun w' h => by
    have := ptext_any n d w' hn hd h
    have e : txV n d = txR n d := by unfold txV; rw [hv]; rfl
    rw [e] at this; exact this)
  clear hv hn hd hl l1 l2 d1 d2 n1 n2 henv
  generalize txR n d = T at *
  generalize Lib.itoa n = L1 at *
  generalize Lib.itoa d = L2 at *
  go_enter Tryd.func45, Tryd.ntmps45
  go_wp2_with (first | (go_at_call 55; (with_reducible refine (HC.out _ ?_).mono ?_); (focus (exact HE.out.stays (by (repeat' (first | (with_reducible exact Below.refl _ _) | (with_reducible refine Below.setCell ?_ ?_ _) | (with_reducible refine Below.alloc ?_ ?_ _) | (with_reducible refine Below.drew ?_) | (with_reducible refine belowN ?_ _) | (with_reducible refine below_step ?_ ?_ (by with_reducible assumption)) | go_size))))); (rintro e w1 ⟨rfl, hb1⟩; have hz1 := hb1.size; (try simp only [World.size_alloc, World.size_setCell, World.size_drew, size_drewN'] at hz1); have : w.heap.size < w1.heap.size := (by omega); have := hb1.cell (p := ⟨w.heap.size, 0, none⟩) (by go_size); simp [go_sem, *] at this; have := hb1.frozen (p := ⟨w.heap.size, 0, none⟩) (by go_size); simp [go_sem, *] at this; have := hb1.cell (p := ⟨w.heap.size, 1, none⟩) (by go_size); simp [go_sem, *] at this; have := hb1.frozen (p := ⟨w.heap.size, 1, none⟩) (by go_size); simp [go_sem, *] at this)) | (go_at_call 56; ((with_reducible refine (HP1.out _).mono ?_); rintro e w2 ⟨rfl, hb2⟩; have hz2 := hb2.size; (try simp only [World.size_alloc, World.size_setCell, World.size_drew, size_drewN'] at hz2); have : w.heap.size < w2.heap.size := (by omega); have := hb2.cell (p := ⟨w.heap.size, 0, none⟩) (by go_size); simp [go_sem, *] at this; have := hb2.frozen (p := ⟨w.heap.size, 0, none⟩) (by go_size); simp [go_sem, *] at this; have := hb2.cell (p := ⟨w.heap.size, 1, none⟩) (by go_size); simp [go_sem, *] at this; have := hb2.frozen (p := ⟨w.heap.size, 1, none⟩) (by go_size); simp [go_sem, *] at this)) | (go_at_call 56; ((with_reducible refine (HP2.out _).mono ?_); rintro e w3 ⟨rfl, hb3⟩; have hz3 := hb3.size; (try simp only [World.size_alloc, World.size_setCell, World.size_drew, size_drewN'] at hz3); have : w.heap.size < w3.heap.size := (by omega); have := hb3.cell (p := ⟨w.heap.size, 0, none⟩) (by go_size); simp [go_sem, *] at this; have := hb3.frozen (p := ⟨w.heap.size, 0, none⟩) (by go_size); simp [go_sem, *] at this; have := hb3.cell (p := ⟨w.heap.size, 1, none⟩) (by go_size); simp [go_sem, *] at this; have := hb3.frozen (p := ⟨w.heap.size, 1, none⟩) (by go_size); simp [go_sem, *] at this)) | (go_at_call 17; ((with_reducible refine (HV.out _).mono ?_); rintro e w4 ⟨rfl, hb4⟩; have hz4 := hb4.size; (try simp only [World.size_alloc, World.size_setCell, World.size_drew, size_drewN'] at hz4); have : w.heap.size < w4.heap.size := (by omega); have := hb4.cell (p := ⟨w.heap.size, 0, none⟩) (by go_size); simp [go_sem, *] at this; have := hb4.frozen (p := ⟨w.heap.size, 0, none⟩) (by go_size); simp [go_sem, *] at this; have := hb4.cell (p := ⟨w.heap.size, 1, none⟩) (by go_size); simp [go_sem, *] at this; have := hb4.frozen (p := ⟨w.heap.size, 1, none⟩) (by go_size); simp [go_sem, *] at this; have : w3.heap.size < w4.heap.size := (by omega); have := hb4.cell (p := ⟨w3.heap.size, 0, none⟩) (by go_size); simp [go_sem, *] at this; have := hb4.frozen (p := ⟨w3.heap.size, 0, none⟩) (by go_size); simp [go_sem, *] at this; have := hb4.cell (p := ⟨w3.heap.size, 1, none⟩) (by go_size); simp [go_sem, *] at this; have := hb4.frozen (p := ⟨w3.heap.size, 1, none⟩) (by go_size); simp [go_sem, *] at this)) | (go_at_call 43; (with_reducible refine (HT.out _ ?_).mono ?_); (focus (exact env_pow HE.out (by (repeat' (first | (with_reducible exact Below.refl _ _) | (with_reducible refine Below.setCell ?_ ?_ _) | (with_reducible refine Below.alloc ?_ ?_ _) | (with_reducible refine Below.drew ?_) | (with_reducible refine belowN ?_ _) | (with_reducible refine below_step ?_ ?_ (by with_reducible assumption)) | go_size))))); (rintro e w5 ⟨rfl, hb5⟩; have hz5 := hb5.size; (try simp only [World.size_alloc, World.size_setCell, World.size_drew, size_drewN'] at hz5); have : w.heap.size < w5.heap.size := (by omega); have := hb5.cell (p := ⟨w.heap.size, 0, none⟩) (by go_size); simp [go_sem, *] at this; have := hb5.frozen (p := ⟨w.heap.size, 0, none⟩) (by go_size); simp [go_sem, *] at this; have := hb5.cell (p := ⟨w.heap.size, 1, none⟩) (by go_size); simp [go_sem, *] at this; have := hb5.frozen (p := ⟨w.heap.size, 1, none⟩) (by go_size); simp [go_sem, *] at this; have : w3.heap.size < w5.heap.size := (by omega); have := hb5.cell (p := ⟨w3.heap.size, 0, none⟩) (by go_size); simp [go_sem, *] at this; have := hb5.frozen (p := ⟨w3.heap.size, 0, none⟩) (by go_size); simp [go_sem, *] at this; have := hb5.cell (p := ⟨w3.heap.size, 1, none⟩) (by go_size); simp [go_sem, *] at this; have := hb5.frozen (p := ⟨w3.heap.size, 1, none⟩) (by go_size); simp [go_sem, *] at this)))
  refine bodyPost_ret (v := .tuple #[R2 n d, .int .i64 0]) (by simp [results, Tryd.results45, go_sem, *]) rfl ?_
  exact ⟨rfl, by (repeat' (first | (with_reducible exact Below.refl _ _) | (with_reducible refine Below.setCell ?_ ?_ _) | (with_reducible refine Below.alloc ?_ ?_ _) | (with_reducible refine Below.drew ?_) | (with_reducible refine belowN ?_ _) | (with_reducible refine below_step ?_ ?_ (by with_reducible assumption)) | go_size))⟩

set_option maxHeartbeats 4000000 in
theorem pparse_no (l : List UInt8) (w : World) (hl : l.length ≤ 100000) (hno : ∀ n d, validB n d = true → l ≠ txR n d) (henv : Env w) :
    Calls Tryd.prog 45 #[S l] w fun e w' => e = .returned (.tuple #[R2 0 0, .int .i64 4]) ∧ Below w.heap.size w w' := by
  have HE := Lib.hid henv
  obtain ⟨c1, c2⟩ := cut_len l [47]
  have HC : Hid (∀ w', Env w' → Calls Tryd.prog 55 #[S l, .string ⟨#[47]⟩] w' fun e w'' => e = .returned (.tuple #[S (Lib.cut l [47]).1, S (Lib.cut l [47]).2.1, .bool (Lib.cut l [47]).2.2]) ∧ Below w'.heap.size w' w'') := Lib.hid (fun w' h => cut_any l [47] w' (by omega) h)
  generalize (Lib.cut l [47]).1 = A at *
  generalize (Lib.cut l [47]).2.1 = B at *
  generalize (Lib.cut l [47]).2.2 = o at *
  by_cases ha : ∃ n, Lib.parseIntB 64 A = .ok n
  · obtain ⟨n, ha⟩ := ha
    have hn := ok_i64 ha
    have HP1 : Hid (∀ w', Calls Tryd.prog 56 #[S A, .int .i64 10, .int .i64 64] w' fun e w'' => e = .returned (.tuple #[.int .i64 n, .nilIface]) ∧ Below w'.heap.size w' w'') := Lib.hid (fun w' => parse_ok _ n w' (by omega) ha)
    by_cases hb : ∃ d, Lib.parseIntB 64 B = .ok d
    · obtain ⟨d, hb⟩ := hb
      have hd := ok_i64 hb
      have HP2 : Hid (∀ w', Calls Tryd.prog 56 #[S B, .int .i64 10, .int .i64 64] w' fun e w'' => e = .returned (.tuple #[.int .i64 d, .nilIface]) ∧ Below w'.heap.size w' w'') := Lib.hid (fun w' => parse_ok _ d w' (by omega) hb)
      cases hv : validB n d
      · have HV : Hid (∀ w, Calls Tryd.prog 17 #[R2 n d] w fun e w' => e = .returned (.bool false) ∧ Below w.heap.size w w') := Lib.hid (fun w => by have h := valid_any n d w hn hd; rw [hv] at h; exact h)
        clear hv hn hd ha hb hno henv c1 c2 hl
        go_enter Tryd.func45, Tryd.ntmps45
        go_wp2_with (first | (go_at_call 55; (with_reducible refine (HC.out _ ?_).mono ?_); (focus (exact HE.out.stays (by (repeat' (first | (with_reducible exact Below.refl _ _) | (with_reducible refine Below.setCell ?_ ?_ _) | (with_reducible refine Below.alloc ?_ ?_ _) | (with_reducible refine Below.drew ?_) | (with_reducible refine belowN ?_ _) | (with_reducible refine below_step ?_ ?_ (by with_reducible assumption)) | go_size))))); (rintro e w1 ⟨rfl, hb1⟩; have hz1 := hb1.size; (try simp only [World.size_alloc, World.size_setCell, World.size_drew, size_drewN'] at hz1); have : w.heap.size < w1.heap.size := (by omega); have := hb1.cell (p := ⟨w.heap.size, 0, none⟩) (by go_size); simp [go_sem, *] at this; have := hb1.frozen (p := ⟨w.heap.size, 0, none⟩) (by go_size); simp [go_sem, *] at this; have := hb1.cell (p := ⟨w.heap.size, 1, none⟩) (by go_size); simp [go_sem, *] at this; have := hb1.frozen (p := ⟨w.heap.size, 1, none⟩) (by go_size); simp [go_sem, *] at this)) | (go_at_call 56; ((with_reducible refine (HP1.out _).mono ?_); rintro e w2 ⟨rfl, hb2⟩; have hz2 := hb2.size; (try simp only [World.size_alloc, World.size_setCell, World.size_drew, size_drewN'] at hz2); have : w.heap.size < w2.heap.size := (by omega); have := hb2.cell (p := ⟨w.heap.size, 0, none⟩) (by go_size); simp [go_sem, *] at this; have := hb2.frozen (p := ⟨w.heap.size, 0, none⟩) (by go_size); simp [go_sem, *] at this; have := hb2.cell (p := ⟨w.heap.size, 1, none⟩) (by go_size); simp [go_sem, *] at this; have := hb2.frozen (p := ⟨w.heap.size, 1, none⟩) (by go_size); simp [go_sem, *] at this)) | (go_at_call 56; ((with_reducible refine (HP2.out _).mono ?_); rintro e w3 ⟨rfl, hb3⟩; have hz3 := hb3.size; (try simp only [World.size_alloc, World.size_setCell, World.size_drew, size_drewN'] at hz3); have : w.heap.size < w3.heap.size := (by omega); have := hb3.cell (p := ⟨w.heap.size, 0, none⟩) (by go_size); simp [go_sem, *] at this; have := hb3.frozen (p := ⟨w.heap.size, 0, none⟩) (by go_size); simp [go_sem, *] at this; have := hb3.cell (p := ⟨w.heap.size, 1, none⟩) (by go_size); simp [go_sem, *] at this; have := hb3.frozen (p := ⟨w.heap.size, 1, none⟩) (by go_size); simp [go_sem, *] at this)) | (go_at_call 17; ((with_reducible refine (HV.out _).mono ?_); rintro e w4 ⟨rfl, hb4⟩; have hz4 := hb4.size; (try simp only [World.size_alloc, World.size_setCell, World.size_drew, size_drewN'] at hz4); have : w.heap.size < w4.heap.size := (by omega); have := hb4.cell (p := ⟨w.heap.size, 0, none⟩) (by go_size); simp [go_sem, *] at this; have := hb4.frozen (p := ⟨w.heap.size, 0, none⟩) (by go_size); simp [go_sem, *] at this; have := hb4.cell (p := ⟨w.heap.size, 1, none⟩) (by go_size); simp [go_sem, *] at this; have := hb4.frozen (p := ⟨w.heap.size, 1, none⟩) (by go_size); simp [go_sem, *] at this; have : w3.heap.size < w4.heap.size := (by omega); have := hb4.cell (p := ⟨w3.heap.size, 0, none⟩) (by go_size); simp [go_sem, *] at this; have := hb4.frozen (p := ⟨w3.heap.size, 0, none⟩) (by go_size); simp [go_sem, *] at this; have := hb4.cell (p := ⟨w3.heap.size, 1, none⟩) (by go_size); simp [go_sem, *] at this; have := hb4.frozen (p := ⟨w3.heap.size, 1, none⟩) (by go_size); simp [go_sem, *] at this)))
        refine bodyPost_ret (v := .tuple #[R2 0 0, .int .i64 4]) (by simp [results, Tryd.results45, go_sem, *]) rfl ?_
        exact ⟨rfl, by (repeat' (first | (with_reducible exact Below.refl _ _) | (with_reducible refine Below.setCell ?_ ?_ _) | (with_reducible refine Below.alloc ?_ ?_ _) | (with_reducible refine Below.drew ?_) | (with_reducible refine belowN ?_ _) | (with_reducible refine below_step ?_ ?_ (by with_reducible assumption)) | go_size))⟩
      · have HV : Hid (∀ w, Calls Tryd.prog 17 #[R2 n d] w fun e w' => e = .returned (.bool true) ∧ Below w.heap.size w w') := Lib.hid (fun w => by have h := valid_any n d w hn hd; rw [hv] at h; exact h)
        have HT : Hid (∀ w', Pow w' → Calls Tryd.prog 43 #[R2 n d] w' fun e w'' => e = .returned (S (txR n d)) ∧ Below w'.heap.size w' w'') := Lib.hid (fun w' h => by
          have := ptext_any n d w' hn hd h
          have e : txV n d = txR n d := by unfold txV; rw [hv]; rfl
          rw [e] at this; exact this)
        have hne : ((str (txR n d)).toList == (str l).toList) = false := by rw [str_beq]; exact beq_eq_false_iff_ne.2 (fun h => hno n d hv h.symm)
        clear hv hn hd ha hb hno henv c1 c2 hl
        generalize txR n d = T at *
        go_enter Tryd.func45, Tryd.ntmps45
        go_wp2_with (first | (go_at_call 55; (with_reducible refine (HC.out _ ?_).mono ?_); (focus (exact HE.out.stays (by (repeat' (first | (with_reducible exact Below.refl _ _) | (with_reducible refine Below.setCell ?_ ?_ _) | (with_reducible refine Below.alloc ?_ ?_ _) | (with_reducible refine Below.drew ?_) | (with_reducible refine belowN ?_ _) | (with_reducible refine below_step ?_ ?_ (by with_reducible assumption)) | go_size))))); (rintro e w1 ⟨rfl, hb1⟩; have hz1 := hb1.size; (try simp only [World.size_alloc, World.size_setCell, World.size_drew, size_drewN'] at hz1); have : w.heap.size < w1.heap.size := (by omega); have := hb1.cell (p := ⟨w.heap.size, 0, none⟩) (by go_size); simp [go_sem, *] at this; have := hb1.frozen (p := ⟨w.heap.size, 0, none⟩) (by go_size); simp [go_sem, *] at this; have := hb1.cell (p := ⟨w.heap.size, 1, none⟩) (by go_size); simp [go_sem, *] at this; have := hb1.frozen (p := ⟨w.heap.size, 1, none⟩) (by go_size); simp [go_sem, *] at this)) | (go_at_call 56; ((with_reducible refine (HP1.out _).mono ?_); rintro e w2 ⟨rfl, hb2⟩; have hz2 := hb2.size; (try simp only [World.size_alloc, World.size_setCell, World.size_drew, size_drewN'] at hz2); have : w.heap.size < w2.heap.size := (by omega); have := hb2.cell (p := ⟨w.heap.size, 0, none⟩) (by go_size); simp [go_sem, *] at this; have := hb2.frozen (p := ⟨w.heap.size, 0, none⟩) (by go_size); simp [go_sem, *] at this; have := hb2.cell (p := ⟨w.heap.size, 1, none⟩) (by go_size); simp [go_sem, *] at this; have := hb2.frozen (p := ⟨w.heap.size, 1, none⟩) (by go_size); simp [go_sem, *] at this)) | (go_at_call 56; ((with_reducible refine (HP2.out _).mono ?_); rintro e w3 ⟨rfl, hb3⟩; have hz3 := hb3.size; (try simp only [World.size_alloc, World.size_setCell, World.size_drew, size_drewN'] at hz3); have : w.heap.size < w3.heap.size := (by omega); have := hb3.cell (p := ⟨w.heap.size, 0, none⟩) (by go_size); simp [go_sem, *] at this; have := hb3.frozen (p := ⟨w.heap.size, 0, none⟩) (by go_size); simp [go_sem, *] at this; have := hb3.cell (p := ⟨w.heap.size, 1, none⟩) (by go_size); simp [go_sem, *] at this; have := hb3.frozen (p := ⟨w.heap.size, 1, none⟩) (by go_size); simp [go_sem, *] at this)) | (go_at_call 17; ((with_reducible refine (HV.out _).mono ?_); rintro e w4 ⟨rfl, hb4⟩; have hz4 := hb4.size; (try simp only [World.size_alloc, World.size_setCell, World.size_drew, size_drewN'] at hz4); have : w.heap.size < w4.heap.size := (by omega); have := hb4.cell (p := ⟨w.heap.size, 0, none⟩) (by go_size); simp [go_sem, *] at this; have := hb4.frozen (p := ⟨w.heap.size, 0, none⟩) (by go_size); simp [go_sem, *] at this; have := hb4.cell (p := ⟨w.heap.size, 1, none⟩) (by go_size); simp [go_sem, *] at this; have := hb4.frozen (p := ⟨w.heap.size, 1, none⟩) (by go_size); simp [go_sem, *] at this; have : w3.heap.size < w4.heap.size := (by omega); have := hb4.cell (p := ⟨w3.heap.size, 0, none⟩) (by go_size); simp [go_sem, *] at this; have := hb4.frozen (p := ⟨w3.heap.size, 0, none⟩) (by go_size); simp [go_sem, *] at this; have := hb4.cell (p := ⟨w3.heap.size, 1, none⟩) (by go_size); simp [go_sem, *] at this; have := hb4.frozen (p := ⟨w3.heap.size, 1, none⟩) (by go_size); simp [go_sem, *] at this)) | (go_at_call 43; (with_reducible refine (HT.out _ ?_).mono ?_); (focus (exact env_pow HE.out (by (repeat' (first | (with_reducible exact Below.refl _ _) | (with_reducible refine Below.setCell ?_ ?_ _) | (with_reducible refine Below.alloc ?_ ?_ _) | (with_reducible refine Below.drew ?_) | (with_reducible refine belowN ?_ _) | (with_reducible refine below_step ?_ ?_ (by with_reducible assumption)) | go_size))))); (rintro e w5 ⟨rfl, hb5⟩; have hz5 := hb5.size; (try simp only [World.size_alloc, World.size_setCell, World.size_drew, size_drewN'] at hz5); have : w.heap.size < w5.heap.size := (by omega); have := hb5.cell (p := ⟨w.heap.size, 0, none⟩) (by go_size); simp [go_sem, *] at this; have := hb5.frozen (p := ⟨w.heap.size, 0, none⟩) (by go_size); simp [go_sem, *] at this; have := hb5.cell (p := ⟨w.heap.size, 1, none⟩) (by go_size); simp [go_sem, *] at this; have := hb5.frozen (p := ⟨w.heap.size, 1, none⟩) (by go_size); simp [go_sem, *] at this; have : w3.heap.size < w5.heap.size := (by omega); have := hb5.cell (p := ⟨w3.heap.size, 0, none⟩) (by go_size); simp [go_sem, *] at this; have := hb5.frozen (p := ⟨w3.heap.size, 0, none⟩) (by go_size); simp [go_sem, *] at this; have := hb5.cell (p := ⟨w3.heap.size, 1, none⟩) (by go_size); simp [go_sem, *] at this; have := hb5.frozen (p := ⟨w3.heap.size, 1, none⟩) (by go_size); simp [go_sem, *] at this)))
        refine bodyPost_ret (v := .tuple #[R2 0 0, .int .i64 4]) (by simp [results, Tryd.results45, go_sem, *]) rfl ?_
        exact ⟨rfl, by (repeat' (first | (with_reducible exact Below.refl _ _) | (with_reducible refine Below.setCell ?_ ?_ _) | (with_reducible refine Below.alloc ?_ ?_ _) | (with_reducible refine Below.drew ?_) | (with_reducible refine belowN ?_ _) | (with_reducible refine below_step ?_ ?_ (by with_reducible assumption)) | go_size))⟩
    · have HP2 : Hid (∀ w', Env w' → Calls Tryd.prog 56 #[S B, .int .i64 10, .int .i64 64] w' fun e w'' => ∃ (v : Int) (N : Nat), e = .returned (.tuple #[.int .i64 v, .iface 83 (.pointer (some ⟨N, 0, none⟩))]) ∧ Below w'.heap.size w' w'') := Lib.hid (fun w' h => parse_bads B w' (by omega) (fun v hv => hb ⟨v, hv⟩) h)
      clear hn ha hb hno henv c1 c2 hl
      go_enter Tryd.func45, Tryd.ntmps45
      go_wp2_with (first | (go_at_call 55; (with_reducible refine (HC.out _ ?_).mono ?_); (focus (exact HE.out.stays (by (repeat' (first | (with_reducible exact Below.refl _ _) | (with_reducible refine Below.setCell ?_ ?_ _) | (with_reducible refine Below.alloc ?_ ?_ _) | (with_reducible refine Below.drew ?_) | (with_reducible refine belowN ?_ _) | (with_reducible refine below_step ?_ ?_ (by with_reducible assumption)) | go_size))))); (rintro e w1 ⟨rfl, hb1⟩; have hz1 := hb1.size; (try simp only [World.size_alloc, World.size_setCell, World.size_drew, size_drewN'] at hz1); have : w.heap.size < w1.heap.size := (by omega); have := hb1.cell (p := ⟨w.heap.size, 0, none⟩) (by go_size); simp [go_sem, *] at this; have := hb1.frozen (p := ⟨w.heap.size, 0, none⟩) (by go_size); simp [go_sem, *] at this; have := hb1.cell (p := ⟨w.heap.size, 1, none⟩) (by go_size); simp [go_sem, *] at this; have := hb1.frozen (p := ⟨w.heap.size, 1, none⟩) (by go_size); simp [go_sem, *] at this)) | (go_at_call 56; ((with_reducible refine (HP1.out _).mono ?_); rintro e w2 ⟨rfl, hb2⟩; have hz2 := hb2.size; (try simp only [World.size_alloc, World.size_setCell, World.size_drew, size_drewN'] at hz2); have : w.heap.size < w2.heap.size := (by omega); have := hb2.cell (p := ⟨w.heap.size, 0, none⟩) (by go_size); simp [go_sem, *] at this; have := hb2.frozen (p := ⟨w.heap.size, 0, none⟩) (by go_size); simp [go_sem, *] at this; have := hb2.cell (p := ⟨w.heap.size, 1, none⟩) (by go_size); simp [go_sem, *] at this; have := hb2.frozen (p := ⟨w.heap.size, 1, none⟩) (by go_size); simp [go_sem, *] at this)) | (go_at_call 56; (with_reducible refine (HP2.out _ ?_).mono ?_); (focus (exact HE.out.stays (by (repeat' (first | (with_reducible exact Below.refl _ _) | (with_reducible refine Below.setCell ?_ ?_ _) | (with_reducible refine Below.alloc ?_ ?_ _) | (with_reducible refine Below.drew ?_) | (with_reducible refine belowN ?_ _) | (with_reducible refine below_step ?_ ?_ (by with_reducible assumption)) | go_size))))); rintro e w3 ⟨v3, N3, rfl, hb3⟩; have hz3 := hb3.size; (try simp only [World.size_alloc, World.size_setCell, World.size_drew, size_drewN'] at hz3); have : w.heap.size < w3.heap.size := (by omega); have := hb3.cell (p := ⟨w.heap.size, 0, none⟩) (by go_size); simp [go_sem, *] at this; have := hb3.frozen (p := ⟨w.heap.size, 0, none⟩) (by go_size); simp [go_sem, *] at this; have := hb3.cell (p := ⟨w.heap.size, 1, none⟩) (by go_size); simp [go_sem, *] at this; have := hb3.frozen (p := ⟨w.heap.size, 1, none⟩) (by go_size); simp [go_sem, *] at this))
      refine bodyPost_ret (v := .tuple #[R2 0 0, .int .i64 4]) (by simp [results, Tryd.results45, go_sem, *]) rfl ?_
      exact ⟨rfl, by (repeat' (first | (with_reducible exact Below.refl _ _) | (with_reducible refine Below.setCell ?_ ?_ _) | (with_reducible refine Below.alloc ?_ ?_ _) | (with_reducible refine Below.drew ?_) | (with_reducible refine belowN ?_ _) | (with_reducible refine below_step ?_ ?_ (by with_reducible assumption)) | go_size))⟩
  · have HP1 : Hid (∀ w', Env w' → Calls Tryd.prog 56 #[S A, .int .i64 10, .int .i64 64] w' fun e w'' => ∃ (v : Int) (N : Nat), e = .returned (.tuple #[.int .i64 v, .iface 83 (.pointer (some ⟨N, 0, none⟩))]) ∧ Below w'.heap.size w' w'') := Lib.hid (fun w' h => parse_bads A w' (by omega) (fun v hv => ha ⟨v, hv⟩) h)
    by_cases hb : ∃ d, Lib.parseIntB 64 B = .ok d
    · obtain ⟨d, hb⟩ := hb
      have HP2 : Hid (∀ w', Calls Tryd.prog 56 #[S B, .int .i64 10, .int .i64 64] w' fun e w'' => e = .returned (.tuple #[.int .i64 d, .nilIface]) ∧ Below w'.heap.size w' w'') := Lib.hid (fun w' => parse_ok _ d w' (by omega) hb)
      clear ha hb hno henv c1 c2 hl
      go_enter Tryd.func45, Tryd.ntmps45
      go_wp2_with (first | (go_at_call 55; (with_reducible refine (HC.out _ ?_).mono ?_); (focus (exact HE.out.stays (by (repeat' (first | (with_reducible exact Below.refl _ _) | (with_reducible refine Below.setCell ?_ ?_ _) | (with_reducible refine Below.alloc ?_ ?_ _) | (with_reducible refine Below.drew ?_) | (with_reducible refine belowN ?_ _) | (with_reducible refine below_step ?_ ?_ (by with_reducible assumption)) | go_size))))); (rintro e w1 ⟨rfl, hb1⟩; have hz1 := hb1.size; (try simp only [World.size_alloc, World.size_setCell, World.size_drew, size_drewN'] at hz1); have : w.heap.size < w1.heap.size := (by omega); have := hb1.cell (p := ⟨w.heap.size, 0, none⟩) (by go_size); simp [go_sem, *] at this; have := hb1.frozen (p := ⟨w.heap.size, 0, none⟩) (by go_size); simp [go_sem, *] at this; have := hb1.cell (p := ⟨w.heap.size, 1, none⟩) (by go_size); simp [go_sem, *] at this; have := hb1.frozen (p := ⟨w.heap.size, 1, none⟩) (by go_size); simp [go_sem, *] at this)) | (go_at_call 56; (with_reducible refine (HP1.out _ ?_).mono ?_); (focus (exact HE.out.stays (by (repeat' (first | (with_reducible exact Below.refl _ _) | (with_reducible refine Below.setCell ?_ ?_ _) | (with_reducible refine Below.alloc ?_ ?_ _) | (with_reducible refine Below.drew ?_) | (with_reducible refine belowN ?_ _) | (with_reducible refine below_step ?_ ?_ (by with_reducible assumption)) | go_size))))); rintro e w2 ⟨v2, N2, rfl, hb2⟩; have hz2 := hb2.size; (try simp only [World.size_alloc, World.size_setCell, World.size_drew, size_drewN'] at hz2); have : w.heap.size < w2.heap.size := (by omega); have := hb2.cell (p := ⟨w.heap.size, 0, none⟩) (by go_size); simp [go_sem, *] at this; have := hb2.frozen (p := ⟨w.heap.size, 0, none⟩) (by go_size); simp [go_sem, *] at this; have := hb2.cell (p := ⟨w.heap.size, 1, none⟩) (by go_size); simp [go_sem, *] at this; have := hb2.frozen (p := ⟨w.heap.size, 1, none⟩) (by go_size); simp [go_sem, *] at this) | (go_at_call 56; ((with_reducible refine (HP2.out _).mono ?_); rintro e w3 ⟨rfl, hb3⟩; have hz3 := hb3.size; (try simp only [World.size_alloc, World.size_setCell, World.size_drew, size_drewN'] at hz3); have : w.heap.size < w3.heap.size := (by omega); have := hb3.cell (p := ⟨w.heap.size, 0, none⟩) (by go_size); simp [go_sem, *] at this; have := hb3.frozen (p := ⟨w.heap.size, 0, none⟩) (by go_size); simp [go_sem, *] at this; have := hb3.cell (p := ⟨w.heap.size, 1, none⟩) (by go_size); simp [go_sem, *] at this; have := hb3.frozen (p := ⟨w.heap.size, 1, none⟩) (by go_size); simp [go_sem, *] at this)))
      refine bodyPost_ret (v := .tuple #[R2 0 0, .int .i64 4]) (by simp [results, Tryd.results45, go_sem, *]) rfl ?_
      exact ⟨rfl, by (repeat' (first | (with_reducible exact Below.refl _ _) | (with_reducible refine Below.setCell ?_ ?_ _) | (with_reducible refine Below.alloc ?_ ?_ _) | (with_reducible refine Below.drew ?_) | (with_reducible refine belowN ?_ _) | (with_reducible refine below_step ?_ ?_ (by with_reducible assumption)) | go_size))⟩
    · have HP2 : Hid (∀ w', Env w' → Calls Tryd.prog 56 #[S B, .int .i64 10, .int .i64 64] w' fun e w'' => ∃ (v : Int) (N : Nat), e = .returned (.tuple #[.int .i64 v, .iface 83 (.pointer (some ⟨N, 0, none⟩))]) ∧ Below w'.heap.size w' w'') := Lib.hid (fun w' h => parse_bads B w' (by omega) (fun v hv => hb ⟨v, hv⟩) h)
      clear ha hb hno henv c1 c2 hl
      go_enter Tryd.func45, Tryd.ntmps45
      go_wp2_with (first | (go_at_call 55; (with_reducible refine (HC.out _ ?_).mono ?_); (focus (exact HE.out.stays (by (repeat' (first | (with_reducible exact Below.refl _ _) | (with_reducible refine Below.setCell ?_ ?_ _) | (with_reducible refine Below.alloc ?_ ?_ _) | (with_reducible refine Below.drew ?_) | (with_reducible refine belowN ?_ _) | (with_reducible refine below_step ?_ ?_ (by with_reducible assumption)) | go_size))))); (rintro e w1 ⟨rfl, hb1⟩; have hz1 := hb1.size; (try simp only [World.size_alloc, World.size_setCell, World.size_drew, size_drewN'] at hz1); have : w.heap.size < w1.heap.size := (by omega); have := hb1.cell (p := ⟨w.heap.size, 0, none⟩) (by go_size); simp [go_sem, *] at this; have := hb1.frozen (p := ⟨w.heap.size, 0, none⟩) (by go_size); simp [go_sem, *] at this; have := hb1.cell (p := ⟨w.heap.size, 1, none⟩) (by go_size); simp [go_sem, *] at this; have := hb1.frozen (p := ⟨w.heap.size, 1, none⟩) (by go_size); simp [go_sem, *] at this)) | (go_at_call 56; (with_reducible refine (HP1.out _ ?_).mono ?_); (focus (exact HE.out.stays (by (repeat' (first | (with_reducible exact Below.refl _ _) | (with_reducible refine Below.setCell ?_ ?_ _) | (with_reducible refine Below.alloc ?_ ?_ _) | (with_reducible refine Below.drew ?_) | (with_reducible refine belowN ?_ _) | (with_reducible refine below_step ?_ ?_ (by with_reducible assumption)) | go_size))))); rintro e w2 ⟨v2, N2, rfl, hb2⟩; have hz2 := hb2.size; (try simp only [World.size_alloc, World.size_setCell, World.size_drew, size_drewN'] at hz2); have : w.heap.size < w2.heap.size := (by omega); have := hb2.cell (p := ⟨w.heap.size, 0, none⟩) (by go_size); simp [go_sem, *] at this; have := hb2.frozen (p := ⟨w.heap.size, 0, none⟩) (by go_size); simp [go_sem, *] at this; have := hb2.cell (p := ⟨w.heap.size, 1, none⟩) (by go_size); simp [go_sem, *] at this; have := hb2.frozen (p := ⟨w.heap.size, 1, none⟩) (by go_size); simp [go_sem, *] at this) | (go_at_call 56; (with_reducible refine (HP2.out _ ?_).mono ?_); (focus (exact HE.out.stays (by (repeat' (first | (with_reducible exact Below.refl _ _) | (with_reducible refine Below.setCell ?_ ?_ _) | (with_reducible refine Below.alloc ?_ ?_ _) | (with_reducible refine Below.drew ?_) | (with_reducible refine belowN ?_ _) | (with_reducible refine below_step ?_ ?_ (by with_reducible assumption)) | go_size))))); rintro e w3 ⟨v3, N3, rfl, hb3⟩; have hz3 := hb3.size; (try simp only [World.size_alloc, World.size_setCell, World.size_drew, size_drewN'] at hz3); have : w.heap.size < w3.heap.size := (by omega); have := hb3.cell (p := ⟨w.heap.size, 0, none⟩) (by go_size); simp [go_sem, *] at this; have := hb3.frozen (p := ⟨w.heap.size, 0, none⟩) (by go_size); simp [go_sem, *] at this; have := hb3.cell (p := ⟨w.heap.size, 1, none⟩) (by go_size); simp [go_sem, *] at this; have := hb3.frozen (p := ⟨w.heap.size, 1, none⟩) (by go_size); simp [go_sem, *] at this))
      refine bodyPost_ret (v := .tuple #[R2 0 0, .int .i64 4]) (by simp [results, Tryd.results45, go_sem, *]) rfl ?_
      exact ⟨rfl, by (repeat' (first | (with_reducible exact Below.refl _ _) | (with_reducible refine Below.setCell ?_ ?_ _) | (with_reducible refine Below.alloc ?_ ?_ _) | (with_reducible refine Below.drew ?_) | (with_reducible refine belowN ?_ _) | (with_reducible refine below_step ?_ ?_ (by with_reducible assumption)) | go_size))⟩
end Go.Proofs.YtaabebmaobdofaaDoor
