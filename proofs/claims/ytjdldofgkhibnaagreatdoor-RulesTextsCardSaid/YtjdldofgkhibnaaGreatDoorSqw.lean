/- Words for lists of strings, and for sides. -/
import Derived.Test.YtjdldofgkhibnaaGreatDoorVz
import Derived.KernelRfl
import Derived.Test.YtjdldofgkhibnaaGreatDoorProg
import Derived.Test.YtjdldofgkhibnaaGreatDoorFda
import Derived.Test.YtjdldofgkhibnaaGreatDoorRda
set_option linter.unusedSimpArgs false
set_option linter.unusedVariables false
set_option maxRecDepth 100000
namespace Go.Proofs.YtjdldofgkhibnaaGreatDoor
open Go.RowKit


def cS (l : List ByteArray) : List Value := l.map Value.string
/-- The string with an index. -/
def gS (l : List ByteArray) (m : Nat) : ByteArray := l.getD m ⟨#[]⟩
def cS_rd (l : List ByteArray) (m _ : Nat) : Value := .string (gS l m)
def cS_st (l : List ByteArray) (m _ : Nat) (v : Value) : List Value := match v with | .string s => cS (l.set m s) | _ => []
def cS_dec : List Value → List ByteArray
  | .string s :: l => s :: cS_dec l
  | _ => []
theorem cS_len (l : List ByteArray) : (cS l).length = l.length * 1 := by simp [cS]
theorem cS_one (l : List ByteArray) : ∀ u ∈ cS l, u.oneCell' = true := by
  intro u hu
  obtain ⟨x, _, rfl⟩ := List.mem_map.1 hu
  rfl
theorem cS_get {l : List ByteArray} {k : Nat} (h : k < l.length) : lgo (cS l) (k * 1) = some (.string (gS l k)) := by rw [lgo_eq]; simp [cS, h, gS]
theorem cS_set (l : List ByteArray) (k : Nat) (n : ByteArray) : lset (cS l) (k * 1) (.string n) = cS (l.set k n) := by rw [lset_eq]; simp [cS, List.map_set]
theorem cS_app (l : List ByteArray) (n : ByteArray) : lapp (cS l) [.string n] = cS (l ++ [n]) := by rw [lapp_eq]; simp [cS]
/-- A side, plain. -/
structure Squ where
  nm : ByteArray
  pl : List ByteArray
  ca : Int
  ke : Int
def sqV (s : Squ) (B : RAd) : Value := .agg #[.string s.nm, .slice B.a s.pl.length B.c, .int .i64 s.ca, .int .i64 s.ke]
/-- A shorter name. -/
def cut20 (b : ByteArray) : ByteArray := b.extract 0 (if (20 : Int) < b.size then 20 else (b.size : Int)).toNat
theorem cut20_size (b : ByteArray) : (cut20 b).size ≤ 20 := by
  show (b.extract 0 _).size ≤ _
  rw [ByteArray.size_extract]
  split <;> omega
/-- What few makes of a side's players. -/
def fewL (l : List ByteArray) : List ByteArray := (l.take 13).map cut20
theorem fewL_len (l : List ByteArray) : (fewL l).length ≤ 13 := by unfold fewL; simp; omega
theorem fewL_step {l : List ByteArray} {i : Nat} (h : i < l.length) : (l.take i).map cut20 ++ [cut20 (gS l i)] = (l.take (i + 1)).map cut20 := by
  rw [List.take_add_one, List.map_append, List.getElem?_eq_getElem h, gS, List.getD_eq_getElem?_getD, List.getElem?_eq_getElem h]
  rfl

end Go.Proofs.YtjdldofgkhibnaaGreatDoor
