/- Contracts of FormatInt, Repeat of "0" and Decimal's point, as lists of bytes. -/
import Derived.Test.YtaabebmaobdofaaDoorRatE
import Derived.Test.YtaabebmaobdofaaDoorShelf
import Derived.Lib.ItoaLen
set_option linter.unusedSimpArgs false
set_option linter.unusedVariables false
namespace Go.Proofs.YtaabebmaobdofaaDoor
open Go.RowKit

/-- A string of a list of bytes. -/
def str (l : List UInt8) : ByteArray := ⟨l.toArray⟩
abbrev S (l : List UInt8) : Value := .string (str l)
theorem str_size (l : List UInt8) : (str l).size = l.length := by simp [str, ByteArray.size]
theorem str_list (l : List UInt8) : (str l).data.toList = l := by simp [str]
/-- FormatInt serves this number here: it is small, or the table of powers stands. -/
def Pow (w : World) : Prop := Lib.TabIs Tryd.prog w "internal/strconv.uint64pow10" .u64 Lib.pow10Tab
def Fmt (n : Int) (w : World) : Prop := (0 ≤ n ∧ n < 100) ∨ Pow w

theorem below_sort (w : World) (k : Nat) (os : Array Obj) : Below w.heap.size w («Sort».grow (w.drewN k) os) :=
  ⟨rfl, rfl, rfl, by simp, fun b hb => Sort.heap_grow_old (w.drewN k) os hb⟩
theorem fmt_any (n : Int) (w : World) (hn : I64 n) (h : Fmt n w) :
    Calls Tryd.prog 53 #[.int .i64 n, .int .i64 10] w fun e w' => e = .returned (S (Lib.itoa n)) ∧ Below w.heap.size w w' := by
  rcases h with ⟨h0, h1⟩ | h
  · obtain ⟨i, rfl⟩ : ∃ i : Nat, n = (i : Int) := ⟨n.toNat, by omega⟩
    refine (Tryd.strconv_FormatInt_10_small i (by omega) w).mono ?_
    rintro e w' ⟨rfl, rfl⟩
    rw [Lib.itoa_nonneg]
    exact ⟨rfl, Below.refl _ _⟩
  · refine (Tryd.strconv_FormatInt_10 n hn.1 hn.2 w h).mono ?_
    rintro e w' ⟨rfl, k, os, rfl⟩
    exact ⟨rfl, below_sort w k os⟩

/-- The point before the last p digits. -/
def ptL (l : List UInt8) (p : Nat) : List UInt8 :=
  if p = 0 then l else
    let m := List.replicate (p + 1 - l.length) 48 ++ l
    m.take (m.length - p) ++ 46 :: m.drop (m.length - p)

def rep (c : Nat) : ByteArray := ⟨(List.replicate c 48).toArray⟩
theorem rep_size (c : Nat) : (rep c).size = c := by simp [rep, ByteArray.size]
theorem rep_list (c : Nat) : (rep c).data.toList = List.replicate c 48 := by simp [rep]
theorem repeatL_48 (c : Nat) : Lib.repeatL [48] c = List.replicate c 48 := by
  induction c with
  | zero => rfl
  | succ c ih => rw [Lib.repeatL, ih, List.replicate_succ]; rfl
theorem one_size : (⟨#[48]⟩ : ByteArray).size = 1 := rfl
theorem one_list : (⟨#[48]⟩ : ByteArray).data.toList = [48] := rfl
theorem repeat_any (c : Nat) (w : World) (h : c ≤ 100) : Calls Tryd.prog 59 #[.string ⟨#[48]⟩, .int .i64 c] w fun e w' => e = .returned (.string (rep c)) ∧ Below w.heap.size w w' := by
  have := Tryd.strings_Repeat ⟨#[48]⟩ c w (by omega) (by rw [one_size]; omega)
  rw [one_list, repeatL_48] at this
  exact this
theorem pt_bytes (t : ByteArray) (k n : Nat) (hn : n = t.size) : t.extract 0 k ++ ⟨#[46]⟩ ++ t.extract k n = ⟨(t.data.toList.take k ++ 46 :: t.data.toList.drop k).toArray⟩ := by
  subst hn
  apply ByteArray.ext
  apply Array.toList_inj.1
  rw [ByteArray.data_append, ByteArray.data_append, ByteArray.data_extract, ByteArray.data_extract]
  simp only [Array.toList_append, Array.toList_extract, List.extract_eq_take_drop, List.append_assoc]
  rw [List.take_of_length_le (i := t.size - k)]
  · simp
  · simp
theorem pointed_any (l : List UInt8) (p : Nat) (w : World) (hl : l.length ≤ 100) (hl1 : 1 ≤ l.length) (hp : p ≤ 9) :
    Calls Tryd.prog 52 #[S l, .int .i64 p] w fun e w' => e = .returned (S (ptL l p)) ∧ Below w.heap.size w w' := by
  by_cases h0 : p = 0
  · have e : ptL l p = l := by simp [ptL, h0]
    rw [e]
    subst h0
    clear e
    go_enter Tryd.func52, Tryd.ntmps52
    go_wp2
    go_ret
    exact ⟨rfl, by (repeat' (first | (with_reducible exact Below.refl _ _) | (with_reducible refine Below.setCell ?_ ?_ _) | (with_reducible refine Below.alloc ?_ ?_ _) | (with_reducible refine Below.drew ?_) | (with_reducible refine belowN ?_ _) | (with_reducible refine below_step ?_ ?_ (by with_reducible assumption)) | go_size))⟩
  have k0 : ((p : Int) == 0) = false := by simp; omega
  obtain ⟨s, hs⟩ : ∃ s : ByteArray, s = ⟨l.toArray⟩ := ⟨_, rfl⟩
  have hsl : s.data.toList = l := by rw [hs]
  have hz : s.size = l.length := by rw [hs]; simp [ByteArray.size]
  have z0 : 1 ≤ s.size := by omega
  have z1 : s.size ≤ 100 := by omega
  have eS : S l = .string s := by rw [hs]; rfl
  rw [eS]
  have HSL := Lib.hid hsl
  have HZ := Lib.hid hz
  clear hs hsl hz eS
  by_cases hc : s.size < p + 1
  · obtain ⟨c, hc1⟩ : ∃ c : Nat, (p : Int) + 1 - (s.size : Int) = (c : Int) := ⟨p + 1 - s.size, by omega⟩
    have c0 : 1 ≤ c := by omega
    have c1 : c ≤ 9 := by omega
    have r0 := rep_size c
    go_enter Tryd.func52, Tryd.ntmps52
    go_wp2_with (go_at_call 59; ((with_reducible refine (repeat_any _ _ (by omega)).mono ?_); rintro e w1 ⟨rfl, hb1⟩))
    go_quiet (fail)
    go_wp2
    go_ret
    refine ⟨?_, by (repeat' (first | (with_reducible exact Below.refl _ _) | (with_reducible refine Below.setCell ?_ ?_ _) | (with_reducible refine Below.alloc ?_ ?_ _) | (with_reducible refine Below.drew ?_) | (with_reducible refine belowN ?_ _) | (with_reducible refine below_step ?_ ?_ (by with_reducible assumption)) | go_size))⟩
    rw [pt_bytes _ _ _ (by rw [ByteArray.size_append, r0])]
    have ec : p + 1 - l.length = c := by rw [← HZ.out]; omega
    unfold ptL S str
    rw [if_neg h0, ec, ByteArray.data_append, Array.toList_append, rep_list, HSL.out]
    simp only [List.length_append, List.length_replicate, HZ.out]
    rfl
  · go_enter Tryd.func52, Tryd.ntmps52
    go_wp2
    go_quiet (fail)
    go_wp2
    go_ret
    refine ⟨?_, by (repeat' (first | (with_reducible exact Below.refl _ _) | (with_reducible refine Below.setCell ?_ ?_ _) | (with_reducible refine Below.alloc ?_ ?_ _) | (with_reducible refine Below.drew ?_) | (with_reducible refine belowN ?_ _) | (with_reducible refine below_step ?_ ?_ (by with_reducible assumption)) | go_size))⟩
    rw [pt_bytes _ _ _ rfl]
    have e1 : p + 1 - l.length = 0 := by rw [← HZ.out]; omega
    unfold ptL S str
    rw [if_neg h0, e1, HSL.out, HZ.out]
    simp

/-- Decimal, in words. -/
def p10 (p : Nat) : Int := 10 ^ p
def decR (n d : Int) (p : Nat) : Int := (2 * (absI n * p10 p) + d) / (2 * d)
def decL (n d : Int) (p : Nat) : List UInt8 := if n < 0 ∧ decR n d p ≠ 0 then 45 :: ptL (Lib.itoa (decR n d p)) p else ptL (Lib.itoa (decR n d p)) p

theorem p10_succ (k : Nat) : p10 (k + 1) = p10 k * 10 := by unfold p10; rw [Int.pow_succ]
theorem p10_1 (k : Nat) : 1 ≤ p10 k := by
  induction k with
  | zero => decide
  | succ k ih => rw [p10_succ]; omega
theorem p10_mono (k : Nat) (h : k ≤ 9) : p10 k ≤ 1000000000 := by
  have : k = 0 ∨ k = 1 ∨ k = 2 ∨ k = 3 ∨ k = 4 ∨ k = 5 ∨ k = 6 ∨ k = 7 ∨ k = 8 ∨ k = 9 := by omega
  rcases this with rfl | rfl | rfl | rfl | rfl | rfl | rfl | rfl | rfl | rfl <;> decide
theorem scaled_le (a : Int) (k : Nat) (h : k ≤ 9) (a0 : 0 ≤ a) (a1 : a ≤ 2147483648) : 0 ≤ a * p10 k ∧ a * p10 k ≤ 2147483648000000000 := by
  have h1 := p10_1 k
  have h2 := p10_mono k h
  constructor
  · exact Int.mul_nonneg a0 (by omega)
  · calc a * p10 k ≤ a * 1000000000 := Int.mul_le_mul_of_nonneg_left h2 a0
      _ ≤ 2147483648000000000 := by omega

theorem str_cons (l : List UInt8) : (⟨#[45]⟩ : ByteArray) ++ str l = str (45 :: l) := by
  apply ByteArray.ext
  apply Array.toList_inj.1
  rw [ByteArray.data_append, Array.toList_append, str_list, str_list]
  rfl
theorem itoa_len (R : Int) (h0 : 0 ≤ R) (h1 : R ≤ 9223372036854775807) : (Lib.itoa R).length ≤ 100 ∧ 1 ≤ (Lib.itoa R).length := by
  have h := Lib.itoa_length_le R (by omega) h1
  refine ⟨by omega, ?_⟩
  obtain ⟨u, rfl⟩ : ∃ u : Nat, R = (u : Int) := ⟨R.toNat, by omega⟩
  rw [Lib.itoa_nonneg, Lib.decDigits_length]
  exact Lib.nDigits_pos u
theorem ptL_len (l : List UInt8) (p : Nat) : (ptL l p).length ≤ l.length + p + 2 := by
  unfold ptL
  split
  · omega
  · simp; omega
set_option maxHeartbeats 1000000 in
theorem decimal_any (n d : Int) (p : Nat) (w : World) (hv : validB n d = true) (hp : p ≤ 9) (hF : ∀ w', Below w.heap.size w w' → Fmt (decR n d p) w') :
    Calls Tryd.prog 41 #[R2 n d, .int .i64 p] w fun e w' => e = .returned (.tuple #[S (decL n d p), .int .i64 0]) ∧ Below w.heap.size w w' := by
  have hb : 1 ≤ d ∧ d ≤ 2147483648 ∧ -2147483648 ≤ n ∧ n ≤ 2147483648 := by
    have : boundB n d = true := by unfold validB at hv; simp at hv; exact hv.1
    simp [boundB] at this; omega
  obtain ⟨d1, d2, n1, n2⟩ := hb
  have HV : Hid (∀ w, Calls Tryd.prog 17 #[R2 n d] w fun e w' => e = .returned (.bool true) ∧ Below w.heap.size w w') := Lib.hid (fun w => by
    have h := valid_any n d w (by unfold I64; omega) (by unfold I64; omega)
    rw [hv] at h; exact h)
  have a0 := absI_0 n
  have a1 : absI n ≤ 2147483648 := by unfold absI; split <;> omega
  have HS : Hid (∀ w, Calls Tryd.prog 48 #[.int .i64 n] w fun e w' => e = .returned (.int .i64 (absI n)) ∧ w = w') := Lib.hid (fun w => size_any n w (by omega) (by omega))
  have HSC : Hid (∀ k : Nat, k ≤ 9 → 0 ≤ absI n * p10 k ∧ absI n * p10 k ≤ 2147483648000000000) := Lib.hid (fun k hk => scaled_le (absI n) k hk a0 a1)
  have HF := Lib.hid hF
  clear hF hv a0 a1
  go_enter Tryd.func41, Tryd.ntmps41
  go_wp2_with (first | (go_at_call 17; ((with_reducible refine (HV.out _).mono ?_); rintro e w1 ⟨rfl, hb1⟩); have hz1 := hb1.size; (try simp only [World.size_alloc, World.size_setCell, World.size_drew, size_drewN'] at hz1); have : w.heap.size < w1.heap.size := (by omega); have := hb1.cell (p := ⟨w.heap.size, 0, none⟩) (by go_size); simp [go_sem, *] at this; have := hb1.frozen (p := ⟨w.heap.size, 0, none⟩) (by go_size); simp [go_sem, *] at this; have := hb1.cell (p := ⟨w.heap.size, 1, none⟩) (by go_size); simp [go_sem, *] at this; have := hb1.frozen (p := ⟨w.heap.size, 1, none⟩) (by go_size); simp [go_sem, *] at this) | (go_at_call 48; ((with_reducible refine (HS.out _).mono ?_); rintro e w' ⟨rfl, rfl⟩)))
  go_loop [6, 22] (fun s i => ∃ k : Nat, k ≤ p ∧ i = .int .i64 k ∧ s = .int .i64 (absI n * p10 k)) (fun _ i => p - (intOf i).toNat)
  case atStart => exact ⟨0, Nat.zero_le _, rfl, by simp [p10]⟩
  case round =>
    obtain ⟨k, hk, rfl, rfl⟩ := hrel
    by_cases hlt : k < p
    · obtain ⟨x0, x1⟩ := HSC.out (k + 1) (by omega)
      obtain ⟨y0, y1⟩ := HSC.out k (by omega)
      have HX : Hid (absI n * p10 (k + 1) = absI n * p10 k * 10) := Lib.hid (by rw [p10_succ, Int.mul_assoc])
      rw [HX.out] at x0 x1
      generalize absI n * p10 k = x at *
      go_wp2
      go_round
      case rel => exact ⟨k + 1, by omega, by go_num, by rw [HX.out]⟩
      case measure => simp [intOf]; omega
    · obtain rfl : k = p := by omega
      have HR : Hid (decR n d k = (2 * (absI n * p10 k) + d) / (2 * d)) := Lib.hid rfl
      obtain ⟨y0, y1⟩ := HSC.out k (by omega)
      generalize absI n * p10 k = x at *
      have hR0 : 0 ≤ (2 * x + d) / (2 * d) := Int.ediv_nonneg (by omega) (by omega)
      have hR1 : (2 * x + d) / (2 * d) ≤ 4294967296000000000 + 2147483648 := by
        refine Int.le_trans (Int.ediv_le_self _ (by omega)) (by omega)
      have hF' : ∀ w', Below w.heap.size w w' → Fmt ((2 * x + d) / (2 * d)) w' := fun w' h => by rw [← HR.out]; exact HF.out w' h
      have HL : Hid (decL n d k = if n < 0 ∧ (2 * x + d) / (2 * d) ≠ 0 then 45 :: ptL (Lib.itoa ((2 * x + d) / (2 * d))) k else ptL (Lib.itoa ((2 * x + d) / (2 * d))) k) := Lib.hid (by unfold decL; rw [HR.out])
      clear HF HR HSC
      obtain ⟨R, hRe⟩ : ∃ R, (2 * x + d) / (2 * d) = R := ⟨_, rfl⟩
      rw [hRe] at hR0 hR1 HL
      simp only [hRe] at hF'
      have HF2 := Lib.hid hF'
      have HI : Hid (I64 R) := Lib.hid (by unfold I64; omega)
      have HLEN : Hid ((Lib.itoa R).length ≤ 100 ∧ 1 ≤ (Lib.itoa R).length) := Lib.hid (itoa_len R hR0 (by omega))
      clear hF'
      have hc : (¬ n < 0) ∨ (n < 0 ∧ (R != 0) = false) ∨ (n < 0 ∧ (R != 0) = true) := by
        by_cases hn : n < 0
        · cases (R != 0) <;> simp [hn]
        · left; exact hn
      rcases hc with hc | ⟨hc, hc2⟩ | ⟨hc, hc2⟩
      · have e : decL n d k = ptL (Lib.itoa R) k := by rw [HL.out, if_neg (by omega)]
        have HE := Lib.hid e
        have hsz : (str (ptL (Lib.itoa R) k)).size ≤ 1000 := by rw [str_size]; have := ptL_len (Lib.itoa R) k; have := HLEN.out.1; omega
        clear HL e
        go_wp2_with (first | (go_at_call 53; (with_reducible refine (fmt_any _ _ HI.out (HF2.out _ ?_)).mono ?_); (focus (repeat' (first | (with_reducible exact Below.refl _ _) | (with_reducible refine Below.setCell ?_ ?_ _) | (with_reducible refine Below.alloc ?_ ?_ _) | (with_reducible refine Below.drew ?_) | (with_reducible refine belowN ?_ _) | (with_reducible refine below_step ?_ ?_ (by with_reducible assumption)) | go_size))); rintro e w2 ⟨rfl, hb2⟩; have hz2 := hb2.size; (try simp only [World.size_alloc, World.size_setCell, World.size_drew, size_drewN'] at hz2); have : w.heap.size < w2.heap.size := (by omega); have := hb2.cell (p := ⟨w.heap.size, 0, none⟩) (by go_size); simp [go_sem, *] at this; have := hb2.frozen (p := ⟨w.heap.size, 0, none⟩) (by go_size); simp [go_sem, *] at this; have := hb2.cell (p := ⟨w.heap.size, 1, none⟩) (by go_size); simp [go_sem, *] at this; have := hb2.frozen (p := ⟨w.heap.size, 1, none⟩) (by go_size); simp [go_sem, *] at this) | (go_at_call 52; ((with_reducible refine (pointed_any _ _ _ HLEN.out.1 HLEN.out.2 hp).mono ?_); rintro e w3 ⟨rfl, hb3⟩); have hz3 := hb3.size; (try simp only [World.size_alloc, World.size_setCell, World.size_drew, size_drewN'] at hz3); have : w.heap.size < w3.heap.size := (by omega); have := hb3.cell (p := ⟨w.heap.size, 0, none⟩) (by go_size); simp [go_sem, *] at this; have := hb3.frozen (p := ⟨w.heap.size, 0, none⟩) (by go_size); simp [go_sem, *] at this; have := hb3.cell (p := ⟨w.heap.size, 1, none⟩) (by go_size); simp [go_sem, *] at this; have := hb3.frozen (p := ⟨w.heap.size, 1, none⟩) (by go_size); simp [go_sem, *] at this))
        go_returns
        exact ⟨by rw [HE.out]; rfl, by (repeat' (first | (with_reducible exact Below.refl _ _) | (with_reducible refine Below.setCell ?_ ?_ _) | (with_reducible refine Below.alloc ?_ ?_ _) | (with_reducible refine Below.drew ?_) | (with_reducible refine belowN ?_ _) | (with_reducible refine below_step ?_ ?_ (by with_reducible assumption)) | go_size))⟩
      · have e : decL n d k = ptL (Lib.itoa R) k := by rw [HL.out, if_neg (by simp at hc2; omega)]
        have HE := Lib.hid e
        have hsz : (str (ptL (Lib.itoa R) k)).size ≤ 1000 := by rw [str_size]; have := ptL_len (Lib.itoa R) k; have := HLEN.out.1; omega
        clear HL e
        go_wp2_with (first | (go_at_call 53; (with_reducible refine (fmt_any _ _ HI.out (HF2.out _ ?_)).mono ?_); (focus (repeat' (first | (with_reducible exact Below.refl _ _) | (with_reducible refine Below.setCell ?_ ?_ _) | (with_reducible refine Below.alloc ?_ ?_ _) | (with_reducible refine Below.drew ?_) | (with_reducible refine belowN ?_ _) | (with_reducible refine below_step ?_ ?_ (by with_reducible assumption)) | go_size))); rintro e w2 ⟨rfl, hb2⟩; have hz2 := hb2.size; (try simp only [World.size_alloc, World.size_setCell, World.size_drew, size_drewN'] at hz2); have : w.heap.size < w2.heap.size := (by omega); have := hb2.cell (p := ⟨w.heap.size, 0, none⟩) (by go_size); simp [go_sem, *] at this; have := hb2.frozen (p := ⟨w.heap.size, 0, none⟩) (by go_size); simp [go_sem, *] at this; have := hb2.cell (p := ⟨w.heap.size, 1, none⟩) (by go_size); simp [go_sem, *] at this; have := hb2.frozen (p := ⟨w.heap.size, 1, none⟩) (by go_size); simp [go_sem, *] at this) | (go_at_call 52; ((with_reducible refine (pointed_any _ _ _ HLEN.out.1 HLEN.out.2 hp).mono ?_); rintro e w3 ⟨rfl, hb3⟩); have hz3 := hb3.size; (try simp only [World.size_alloc, World.size_setCell, World.size_drew, size_drewN'] at hz3); have : w.heap.size < w3.heap.size := (by omega); have := hb3.cell (p := ⟨w.heap.size, 0, none⟩) (by go_size); simp [go_sem, *] at this; have := hb3.frozen (p := ⟨w.heap.size, 0, none⟩) (by go_size); simp [go_sem, *] at this; have := hb3.cell (p := ⟨w.heap.size, 1, none⟩) (by go_size); simp [go_sem, *] at this; have := hb3.frozen (p := ⟨w.heap.size, 1, none⟩) (by go_size); simp [go_sem, *] at this))
        go_returns
        exact ⟨by rw [HE.out]; rfl, by (repeat' (first | (with_reducible exact Below.refl _ _) | (with_reducible refine Below.setCell ?_ ?_ _) | (with_reducible refine Below.alloc ?_ ?_ _) | (with_reducible refine Below.drew ?_) | (with_reducible refine belowN ?_ _) | (with_reducible refine below_step ?_ ?_ (by with_reducible assumption)) | go_size))⟩
      · have e : decL n d k = 45 :: ptL (Lib.itoa R) k := by rw [HL.out, if_pos (by simp at hc2; omega)]
        have HE := Lib.hid e
        have hsz : (str (ptL (Lib.itoa R) k)).size ≤ 1000 := by rw [str_size]; have := ptL_len (Lib.itoa R) k; have := HLEN.out.1; omega
        clear HL e
        go_wp2_with (first | (go_at_call 53; (with_reducible refine (fmt_any _ _ HI.out (HF2.out _ ?_)).mono ?_); (focus (repeat' (first | (with_reducible exact Below.refl _ _) | (with_reducible refine Below.setCell ?_ ?_ _) | (with_reducible refine Below.alloc ?_ ?_ _) | (with_reducible refine Below.drew ?_) | (with_reducible refine belowN ?_ _) | (with_reducible refine below_step ?_ ?_ (by with_reducible assumption)) | go_size))); rintro e w2 ⟨rfl, hb2⟩; have hz2 := hb2.size; (try simp only [World.size_alloc, World.size_setCell, World.size_drew, size_drewN'] at hz2); have : w.heap.size < w2.heap.size := (by omega); have := hb2.cell (p := ⟨w.heap.size, 0, none⟩) (by go_size); simp [go_sem, *] at this; have := hb2.frozen (p := ⟨w.heap.size, 0, none⟩) (by go_size); simp [go_sem, *] at this; have := hb2.cell (p := ⟨w.heap.size, 1, none⟩) (by go_size); simp [go_sem, *] at this; have := hb2.frozen (p := ⟨w.heap.size, 1, none⟩) (by go_size); simp [go_sem, *] at this) | (go_at_call 52; ((with_reducible refine (pointed_any _ _ _ HLEN.out.1 HLEN.out.2 hp).mono ?_); rintro e w3 ⟨rfl, hb3⟩); have hz3 := hb3.size; (try simp only [World.size_alloc, World.size_setCell, World.size_drew, size_drewN'] at hz3); have : w.heap.size < w3.heap.size := (by omega); have := hb3.cell (p := ⟨w.heap.size, 0, none⟩) (by go_size); simp [go_sem, *] at this; have := hb3.frozen (p := ⟨w.heap.size, 0, none⟩) (by go_size); simp [go_sem, *] at this; have := hb3.cell (p := ⟨w.heap.size, 1, none⟩) (by go_size); simp [go_sem, *] at this; have := hb3.frozen (p := ⟨w.heap.size, 1, none⟩) (by go_size); simp [go_sem, *] at this))
        go_returns
        exact ⟨by rw [HE.out, str_cons]; rfl, by (repeat' (first | (with_reducible exact Below.refl _ _) | (with_reducible refine Below.setCell ?_ ?_ _) | (with_reducible refine Below.alloc ?_ ?_ _) | (with_reducible refine Below.drew ?_) | (with_reducible refine belowN ?_ _) | (with_reducible refine below_step ?_ ?_ (by with_reducible assumption)) | go_size))⟩
end Go.Proofs.YtaabebmaobdofaaDoor
