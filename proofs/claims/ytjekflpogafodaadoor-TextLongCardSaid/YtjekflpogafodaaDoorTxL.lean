/- Long sources: a line of one letter again and again; a row of bytes filled from its front; strings of such rows. -/
import Derived.Test.YtjekflpogafodaaDoorTxK
import Derived.Test.YtjekflpogafodaaDoorTxH
import Derived.Test.YtjekflpogafodaaDoorTxJ
import Derived.Deep.OwnRows
import Derived.Lib.SlBytesRow
import Derived.Lib.UnsafeStr
set_option linter.unusedSimpArgs false
set_option linter.unusedVariables false
namespace Go.Proofs.YtjekflpogafodaaDoor
open Go.RowKit

/-- k bytes c ahead of zeros, m in all. -/
def fil (k m : Nat) (c : UInt8) : List UInt8 := List.replicate k c ++ List.replicate (m - k) 0
def rep (m : Nat) (c : UInt8) : List UInt8 := List.replicate m c
theorem rep_length (m : Nat) (c : UInt8) : (rep m c).length = m := by simp [rep]
theorem fil_length (k m : Nat) (c : UInt8) (h : k ≤ m) : (fil k m c).length = m := by simp [fil]; omega
theorem fil_full (m : Nat) (c : UInt8) : fil m m c = rep m c := by simp [fil, rep]
theorem fil_at (k m : Nat) (c : UInt8) (h : k < m) : (Lib.byteCells (fil k m c))[k]? = some (.int .u8 0) := by
  obtain ⟨d, rfl⟩ : ∃ d, m = k + 1 + d := ⟨m - k - 1, by omega⟩
  unfold fil Lib.byteCells
  rw [show k + 1 + d - k = d + 1 by omega, List.replicate_succ, List.map_append, List.getElem?_append_right (by simp)]
  simp
theorem fil_put (k m : Nat) (c : UInt8) (h : k < m) : (Lib.byteCells (fil k m c)).set k (.int .u8 (c.toNat : Int)) = Lib.byteCells (fil (k + 1) m c) := by
  obtain ⟨d, rfl⟩ : ∃ d, m = k + 1 + d := ⟨m - k - 1, by omega⟩
  unfold fil Lib.byteCells
  rw [show k + 1 + d - k = d + 1 by omega, show k + 1 + d - (k + 1) = d by omega, List.replicate_succ, List.replicate_succ', List.map_append, List.map_append, List.map_append]
  rw [List.set_append_right _ _ (by simp)]
  simp
theorem made_fil (m : Nat) (c : UInt8) : madeCells #[.int .u8 0] m = (Lib.byteCells (fil 0 m c)).toArray := by
  apply Array.toList_inj.1
  unfold madeCells fil Lib.byteCells
  simp only [Array.toList_map, Array.toList_range, List.replicate_zero, List.nil_append, Nat.sub_zero, List.map_replicate]
  apply List.ext_getElem
  · simp
  · intro i h1 h2
    simp [Nat.mod_one]
theorem infoU8 : (Tryd.prog.info? 5).map (fun i => (i.zero, i.size, i.bytes)) = some (some (.int .u8 0), 1, 1) := by kernel_rfl
theorem make_fil (m : Nat) (c : UInt8) (h : m ≤ 1000000) (w : World) :
    (Instr.makeSlice 30 (.int .i64 (m : Int)) (.int .i64 (m : Int))).run Tryd.prog w = .ok (.slice (some ⟨w.heap.size, 0, none⟩) m m) (w.alloc (.cells (Lib.byteCells (fil 0 m c)).toArray 5)) := by
  rw [run_make_row' 30 5 (.int .u8 0) 1 Tryd.underlying30 infoU8 rfl .i64 .i64 m (by omega) (by omega) w, made_fil m c]
/-- A row of bytes as a string. -/
theorem conv_row {w : World} {g cap : Nat} {l : List UInt8} (h : Row w g 5 (Lib.byteCells l)) :
    (convert 30 9 (.slice (some ⟨g, 0, none⟩) l.length cap)).run Tryd.prog w = .ok (S l) w := by
  have hb : Lib.Bytes w g 0 (str l) := by
    intro i hi
    have hi2 : i < l.length := by rw [str_size] at hi; exact hi
    rw [Nat.zero_add, h.cell i, str_get l i hi hi2]
    simp [Lib.byteCells, hi2]
  have := Lib.run_convert_whole (P := Tryd.prog) w 30 5 9 Tryd.underlying30 Tryd.underlying5 Tryd.underlying9 g 0 (str l) hb cap
  rw [str_size] at this
  exact this

/-- The lines of a source that is one letter again and again. -/
theorem rep_pcs (m : Nat) : pcs (rep m 97) = [rep m 97] := by
  unfold rep
  induction m with
  | zero => rfl
  | succ m ih => rw [List.replicate_succ, pcs, if_neg (by decide), ih]
theorem rep_wnd (m : Nat) : wnd (rep m 97) 0 = m := by
  unfold wnd rep
  have : ∀ k : Nat, (List.replicate k (97 : UInt8)).takeWhile wrd = List.replicate k 97 := by
    intro k
    induction k with
    | zero => rfl
    | succ k ih => rw [List.replicate_succ, List.takeWhile_cons, if_pos (by decide), ih]
  rw [List.drop_zero, this]; simp
theorem rep_scn (m : Nat) (h : 0 < m) : scn (rep m 97) 0 = .ok [⟨rep m 97, 1, false⟩] := by
  have hl : 0 < (rep m 97).length := by rw [rep_length]; exact h
  have h0 : (rep m 97)[0] = 97 := by simp [rep]
  have hq : fldQ (rep m 97) 0 = false := by rw [fldQ_at _ _ hl, h0]; rfl
  have hE : fldE (rep m 97) 0 = m := by unfold fldE; rw [hq]; simp [rep_wnd]
  have hB : fldB (rep m 97) 0 = true := by unfold fldB; rw [hq]; simp only [rep_wnd]; simp [aft_end, rep_length]
  have hF : fldF (rep m 97) 0 = ⟨rep m 97, 1, false⟩ := by
    unfold fldF; rw [hq]; simp only [rep_wnd]
    rw [if_neg (by simp), List.drop_zero, Nat.sub_zero, List.take_of_length_le (by rw [rep_length]; omega)]; rfl
  rw [scn_field _ 0 hl (by rw [h0]; decide) (by rw [h0]; decide) hB, hE, hF, scn_end _ m (by rw [rep_length]; omega)]
  rfl
theorem rep_short (m : Nat) (h : 0 < m) (hm : m ≤ 1000) : spL (rep m 97) = [⟨1, [⟨rep m 97, 1, false⟩]⟩] ∧ spD (rep m 97) = [] := by
  obtain ⟨e1, e2, e3⟩ := lin_ok (rep m 97) (by rw [rep_length]; omega) _ (rep_scn m h)
  unfold spL spD
  rw [if_neg (by rw [rep_length]; omega), if_neg (by rw [rep_length]; omega), rep_pcs]
  simp [linesF, diasF, e1, e2, e3]
theorem rep_long (m : Nat) (h : 1000 < m) (hm : m ≤ 2000) : spL (rep m 97) = [] ∧ spD (rep m 97) = [⟨1, 1001, 9⟩] := by
  have hr : linR (rep m 97) = .error (1001, 9) := by unfold linR; rw [if_pos (by rw [rep_length]; exact h)]
  have e1 : linV (rep m 97) = [] := by unfold linV; rw [hr]
  have e2 : linC (rep m 97) = 1001 := by unfold linC; rw [hr]
  have e3 : linE (rep m 97) = 9 := by unfold linE; rw [hr]
  unfold spL spD
  rw [if_neg (by rw [rep_length]; omega), if_neg (by rw [rep_length]; omega), rep_pcs]
  simp [linesF, diasF, e1, e2, e3]
theorem big_long (l : List UInt8) (h : 262144 < l.length) : spL l = [] ∧ spD l = [⟨1, 1, 9⟩] := by
  unfold spL spD; rw [if_pos h, if_pos h]; exact ⟨rfl, rfl⟩
/-- A diagnostic built in a row of one. -/
theorem ownD_built (w : World) (d : Dia) (b : Nat) (hb : b ≤ w.heap.size) : OwnD (w.alloc (.cells (DC d).toArray 33)) b (.slice (some ⟨w.heap.size, 0, none⟩) 1 1) [d] := by
  have h := Row.new w 33 (DC d)
  refine ⟨by simp [DC], Or.inr ⟨w.heap.size, 1, (DC d).toArray, rfl, hb, h, Nat.le_refl _, by unfold maxLen; omega, by simp [DC], by simp [DC]⟩⟩
end Go.Proofs.YtjekflpogafodaaDoor
