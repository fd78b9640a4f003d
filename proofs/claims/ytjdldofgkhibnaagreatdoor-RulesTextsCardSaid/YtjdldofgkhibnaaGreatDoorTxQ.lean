/- Contracts of the reference's Quote and Unquote; what Unquote of Quote gives. -/
import Derived.Test.YtjdldofgkhibnaaGreatDoorTxC
import Derived.Test.YtjdldofgkhibnaaGreatDoorTxR
set_option linter.unusedSimpArgs false
set_option linter.unusedVariables false
namespace Go.Proofs.YtjdldofgkhibnaaGreatDoor
open Go.RowKit

theorem dbl_app (a b : List UInt8) : dbl (a ++ b) = dbl a ++ dbl b := by
  induction a with
  | nil => rfl
  | cons c r ih => rw [List.cons_append, dbl, dbl]; split <;> simp [ih]
theorem qs_dbl (l : List UInt8) (h : l.all prn = true) : qs (dbl l ++ [34]) = ((dbl l).length + 1, true, l) := by
  induction l with
  | nil => exact qs_close1 34 rfl
  | cons c r ih =>
    simp only [List.all_cons, Bool.and_eq_true] at h
    have ih := ih h.2
    by_cases hc : c.toNat = 34
    · have e : c = 34 := UInt8.toNat_inj.1 hc
      subst e
      rw [dbl, if_pos hc, List.cons_append, List.cons_append, qs_two 34 34 _ rfl rfl, ih]; simp
    · rw [dbl, if_neg hc, List.cons_append, qs_one c _ hc h.1, ih]; simp
theorem qs_dbl_no (l : List UInt8) (h : l.all prn = false) : (qs (dbl l ++ [34])).2.1 = false := by
  induction l with
  | nil => simp at h
  | cons c r ih =>
    rw [List.all_cons, Bool.and_eq_false_iff] at h
    by_cases hc : c.toNat = 34
    · have e : c = 34 := UInt8.toNat_inj.1 hc
      subst e
      have hp : prn 34 = true := by decide
      rw [hp] at h
      have ih := ih (h.resolve_left (by simp))
      rw [dbl, if_pos hc, List.cons_append, List.cons_append, qs_two 34 34 _ rfl rfl]; exact ih
    · cases hp : prn c
      · rw [dbl, if_neg hc, List.cons_append, qs_bad c _ hc hp]
      · rw [hp] at h
        have ih := ih (h.resolve_left (by simp))
        rw [dbl, if_neg hc, List.cons_append, qs_one c _ hc hp]; exact ih
theorem uq_quote (l : List UInt8) : (l.all prn = true → uqT (34 :: (dbl l ++ [34])) = l ∧ uqE (34 :: (dbl l ++ [34])) = 0) ∧ (l.all prn = false → uqT (34 :: (dbl l ++ [34])) = [] ∧ uqE (34 :: (dbl l ++ [34])) = 4) := by
  constructor
  · intro h
    have hq := qs_dbl l h
    have hb : uqB (34 :: (dbl l ++ [34])) = true := by
      unfold uqB qB qE
      rw [show (34 :: (dbl l ++ [34])).drop 1 = dbl l ++ [34] from rfl, hq]
      have : fldQ (34 :: (dbl l ++ [34])) 0 = true := rfl
      rw [this]; simp; omega
    unfold uqT uqE
    rw [hb]
    refine ⟨?_, rfl⟩
    show (qs ((34 :: (dbl l ++ [34])).drop 1)).2.2 = l
    rw [show (34 :: (dbl l ++ [34])).drop 1 = dbl l ++ [34] from rfl, hq]
  · intro h
    have hq := qs_dbl_no l h
    have hb : uqB (34 :: (dbl l ++ [34])) = false := by
      unfold uqB qB
      rw [show (34 :: (dbl l ++ [34])).drop 1 = dbl l ++ [34] from rfl, hq]; simp
    unfold uqT uqE
    rw [hb]; exact ⟨rfl, rfl⟩
set_option maxHeartbeats 1000000 in
theorem rquote_any (l : List UInt8) (w : World) (hl : l.length ≤ 70368744177664) :
    Calls Tryz.prog 44 #[S l] w fun e w' => e = .returned (S (34 :: (dbl l ++ [34]))) ∧ w = w' := by
  have z := str_size l
  go_enter Tryz.func44, Tryz.ntmps44
  go_wp2
  go_loop [3, 4] (fun o t => ∃ (k : Nat) (acc : List UInt8), k ≤ l.length ∧ acc.length ≤ 2 * k + 1 ∧ t = .int .i64 (k : Int) ∧ o = S acc ∧ Hid (acc = 34 :: dbl (l.take k))) (fun _ t => l.length - (intOf t).toNat)
  case atStart => exact ⟨0, [34], Nat.zero_le _, by simp, rfl, rfl, Lib.hid rfl⟩
  case round =>
    obtain ⟨k, acc, hk, ha, rfl, rfl, HK⟩ := hrel
    have za := str_size acc
    by_cases hlt : k < l.length
    · have hlt2 : k < (str l).size := by omega
      have hg := str_get l k hlt2 hlt
      have HX := Lib.hid (one_ext l k hlt)
      have ht : l.take (k + 1) = l.take k ++ [l[k]] := List.take_succ_eq_append_getElem hlt
      by_cases h34 : l[k].toNat = 34
      · have k1 : ((((str l)[k]'hlt2).toNat : Int) == 34) = true := by rw [hg]; exact beq_iff_eq.2 (by omega)
        have Q : Hid (acc ++ [34] ++ [l[k]] = 34 :: dbl (l.take (k + 1))) := Lib.hid (by
          have e : l[k] = 34 := UInt8.toNat_inj.1 h34
          rw [HK.out, ht, dbl_app, e]; simp [dbl])
        have HY : Hid (str acc ++ (⟨#[34]⟩ : ByteArray) ++ (str l).extract k (k + 1) = str (acc ++ [34] ++ [l[k]])) := Lib.hid (by rw [HX.out, show (⟨#[34]⟩ : ByteArray) = str [34] from rfl, str_app, str_app]; rfl)
        clear hg h34 ht HK
        go_wp2
        go_round
        case rel => exact ⟨k + 1, acc ++ [34] ++ [l[k]], by omega, by simp; omega, by go_num, congrArg Value.string HY.out, Q⟩
        case measure => simp [intOf]; omega
      · have k1 : ((((str l)[k]'hlt2).toNat : Int) == 34) = false := by rw [hg]; exact beq_eq_false_iff_ne.2 (by omega)
        have Q : Hid (acc ++ [l[k]] = 34 :: dbl (l.take (k + 1))) := Lib.hid (by
          rw [HK.out, ht, dbl_app, List.cons_append]
          congr 2
          rw [dbl, if_neg h34]; rfl)
        have HY : Hid (str acc ++ (str l).extract k (k + 1) = str (acc ++ [l[k]])) := Lib.hid (by rw [HX.out, str_app]; rfl)
        clear hg h34 ht HK
        go_wp2
        go_round
        case rel => exact ⟨k + 1, acc ++ [l[k]], by omega, by simp; omega, by go_num, congrArg Value.string HY.out, Q⟩
        case measure => simp [intOf]; omega
    · have E : Hid (str acc ++ (⟨#[34]⟩ : ByteArray) = str (34 :: (dbl l ++ [34]))) := Lib.hid (by
        rw [HK.out, List.take_of_length_le (by omega), show (⟨#[34]⟩ : ByteArray) = str [34] from rfl, str_app]; rfl)
      clear HK
      go_wp2
      go_ret
      exact ⟨congrArg (fun x => Ending.returned (Value.string x)) E.out, rfl⟩
end Go.Proofs.YtjdldofgkhibnaaGreatDoor
