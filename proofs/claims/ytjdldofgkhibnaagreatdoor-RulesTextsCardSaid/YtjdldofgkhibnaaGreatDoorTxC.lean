/- Contracts of package text's unquoted, Quote, Unquote. -/
import Derived.Test.YtjdldofgkhibnaaGreatDoorEnv
import Derived.Test.YtjdldofgkhibnaaGreatDoorTxB
import Derived.Test.YtjdldofgkhibnaaGreatDoorTxS
set_option linter.unusedSimpArgs false
set_option linter.unusedVariables false
namespace Go.Proofs.YtjdldofgkhibnaaGreatDoor
open Go.RowKit

theorem cnt_le (old : List UInt8) (ho : old ≠ []) : ∀ (n : Nat) (s : List UInt8), s.length ≤ n → Lib.count s old ≤ s.length := by
  intro n
  induction n with
  | zero =>
    intro s h
    cases s with
    | nil =>
      have : Lib.index [] old = -1 := by unfold Lib.index; cases old with | nil => exact absurd rfl ho | cons c r => rfl
      rw [Lib.count_miss this]; simp
    | cons c r => simp at h
  | succ n ih =>
    intro s h
    cases s with
    | nil =>
      have : Lib.index [] old = -1 := by unfold Lib.index; cases old with | nil => exact absurd rfl ho | cons c r => rfl
      rw [Lib.count_miss this]; simp
    | cons c r =>
      cases hp : old.isPrefixOf (c :: r)
      · rw [ct_cons c r old ho hp]
        have := ih r (by simp at h; omega)
        simp; omega
      · rw [ct_hit (c :: r) old (by simp) ho hp]
        have h0 : 0 < old.length := by cases old with | nil => exact absurd rfl ho | cons _ _ => simp
        have := ih ((c :: r).drop old.length) (by rw [List.length_drop]; simp at h ⊢; omega)
        rw [List.length_drop] at this
        simp at this ⊢; omega
theorem repl_any (l old new : List UInt8) (w : World) (hl : l.length < 4294967281) (ho : old ≠ []) (hn : new.length ≤ 2) (h : Env w) :
    Calls Tryz.prog 73 #[S l, S old, S new] w fun e w' => e = .returned (S (Lib.replaceAll l old new)) ∧ Below w.heap.size w w' := by
  obtain ⟨m, hm⟩ := h.max
  have h1 : 1 ≤ (str old).size := by rw [str_size]; cases old with | nil => exact absurd rfl ho | cons _ _ => simp
  have hc : Lib.countB (str l) (str old) ≤ l.length := by
    show Lib.count _ _ ≤ _
    rw [str_list, str_list]; exact cnt_le old ho _ l (Nat.le_refl _)
  have h2 : Lib.countB (str l) (str old) * (str new).size ≤ l.length * 2 := Nat.mul_le_mul hc (by rw [str_size]; exact hn)
  have h3 := Tryz.strings_ReplaceAll (str l) (str old) (str new) m w (by rw [str_size]; exact hl) hm h1 (by rw [str_size l]; omega)
  rw [str_list, str_list, str_list] at h3
  exact h3
theorem unq_any (x : List UInt8) (w : World) (hx : 2 ≤ x.length) (hl : x.length < 4294967281) (h : Env w) :
    Calls Tryz.prog 79 #[S x] w fun e w' => e = .returned (S (Lib.replaceAll ((x.drop 1).take (x.length - 2)) [34, 34] [34])) ∧ Below w.heap.size w w' := by
  have z := str_size x
  have hm : ((x.drop 1).take (x.length - 2)).length < 4294967281 := by rw [List.length_take, List.length_drop]; omega
  have HR : Hid (∀ w, Env w → Calls Tryz.prog 73 #[S ((x.drop 1).take (x.length - 2)), .string ⟨#[34, 34]⟩, .string ⟨#[34]⟩] w fun e w' => e = .returned (S (Lib.replaceAll ((x.drop 1).take (x.length - 2)) [34, 34] [34])) ∧ Below w.heap.size w w') := Lib.hid (fun w h => repl_any _ [34, 34] [34] w hm (by simp) (by simp) h)
  have hs : (str x).extract 1 (x.length - 1) = str ((x.drop 1).take (x.length - 2)) := by
    rw [str_ext, show x.length - 1 - 1 = x.length - 2 by omega]
  have HE := Lib.hid h
  clear h hm
  generalize Lib.replaceAll ((x.drop 1).take (x.length - 2)) [34, 34] [34] = R at *
  generalize (x.drop 1).take (x.length - 2) = m at *
  go_enter Tryz.func79, Tryz.ntmps79
  go_wp2_with (go_at_call 73; (with_reducible refine (HR.out _ HE.out).mono ?_); rintro e w1 ⟨rfl, hb1⟩; have hz1 := hb1.size; (try simp only [World.size_alloc, World.size_setCell, World.size_drew, size_drewN'] at hz1))
  go_ret
  exact ⟨rfl, by (repeat' (first | (with_reducible exact Below.refl _ _) | (with_reducible refine Below.setCell ?_ ?_ _) | (with_reducible refine Below.alloc ?_ ?_ _) | (with_reducible refine Below.drew ?_) | (with_reducible refine belowN ?_ _) | (with_reducible refine below_step ?_ ?_ (by with_reducible assumption)) | go_size))⟩
theorem quote_any (l : List UInt8) (w : World) (hl : l.length < 4294967281) (h : Env w) :
    Calls Tryz.prog 57 #[S l] w fun e w' => e = .returned (S (34 :: (dbl l ++ [34]))) ∧ Below w.heap.size w w' := by
  have HR : Hid (∀ w, Env w → Calls Tryz.prog 73 #[S l, .string ⟨#[34]⟩, .string ⟨#[34, 34]⟩] w fun e w' => e = .returned (S (dbl l)) ∧ Below w.heap.size w w') := Lib.hid (fun w h => by have h := repl_any l [34] [34, 34] w hl (by simp) (by simp) h; rw [ra_dbl] at h; exact h)
  have HE := Lib.hid h
  have hd := dbl_length l
  have z := str_size (dbl l)
  have HX : Hid ((⟨#[34]⟩ : ByteArray) ++ str (dbl l) ++ (⟨#[34]⟩ : ByteArray) = str (34 :: (dbl l ++ [34]))) := Lib.hid (by
    show str [34] ++ str (dbl l) ++ str [34] = _
    rw [str_app, str_app]; rfl)
  clear h
  go_enter Tryz.func57, Tryz.ntmps57
  go_wp2_with (go_at_call 73; (with_reducible refine (HR.out _ HE.out).mono ?_); rintro e w1 ⟨rfl, hb1⟩; have hz1 := hb1.size; (try simp only [World.size_alloc, World.size_setCell, World.size_drew, size_drewN'] at hz1))
  go_ret
  exact ⟨congrArg (fun x => Ending.returned (Value.string x)) HX.out, by (repeat' (first | (with_reducible exact Below.refl _ _) | (with_reducible refine Below.setCell ?_ ?_ _) | (with_reducible refine Below.alloc ?_ ?_ _) | (with_reducible refine Below.drew ?_) | (with_reducible refine belowN ?_ _) | (with_reducible refine below_step ?_ ?_ (by with_reducible assumption)) | go_size))⟩
/-- What Unquote answers. -/
def uqB (l : List UInt8) : Bool := fldQ l 0 && (qB l 1 && decide (qE l 1 = l.length))
def uqT (l : List UInt8) : List UInt8 := if uqB l then qT l 1 else []
def uqE (l : List UInt8) : Int := if uqB l then 0 else 4
theorem unq_qT (l : List UInt8) (i : Nat) (h : i < l.length) (hb : qB l (i + 1) = true) (x : List UInt8) (hx : x = (l.drop i).take (qE l (i + 1) - i)) :
    2 ≤ x.length ∧ x.length ≤ l.length ∧ Lib.replaceAll ((x.drop 1).take (x.length - 2)) [34, 34] [34] = qT l (i + 1) := by
  have h1 := qE_le l (i + 1) (by omega)
  have h2 := qE_lt l (i + 1) hb
  have e : qE l (i + 1) = i + 1 + (qs (l.drop (i + 1))).1 := rfl
  have hl : x.length = qE l (i + 1) - i := by rw [hx, List.length_take, List.length_drop]; omega
  refine ⟨by omega, by omega, ?_⟩
  have := ra_qs _ (l.drop (i + 1)) (Nat.le_refl _) hb
  have e2 : (x.drop 1).take (x.length - 2) = (l.drop (i + 1)).take ((qs (l.drop (i + 1))).1 - 1) := by
    rw [hl, hx, List.drop_take, List.drop_drop, List.take_take]
    congr 1
    omega
  rw [e2]
  exact this
end Go.Proofs.YtjdldofgkhibnaaGreatDoor
