/- strings.Join of lists of strings that lie in a row; a delivery's check and symbol, of both. -/
import Derived.Test.YtdgmogmldfhgcaaGreatDoorBrs
import Derived.Test.YtdgmogmldfhgcaaGreatDoorNoD
import Derived.Test.YtdgmogmldfhgcaaGreatDoorNoR
import Derived.Lib.Join
set_option linter.unusedSimpArgs false
set_option linter.unusedVariables false
set_option maxRecDepth 100000
namespace Go.Proofs.YtdgmogmldfhgcaaGreatDoor
open Go.RowKit

/-- Strings with blanks between. -/
def jnB (l : List ByteArray) : ByteArray := str (Lib.join (l.map fun s => s.data.toList) [32])
theorem jon_gen (A : Option Addr) (c : Nat) (l : List ByteArray) (hn : l ≠ []) (hA : AOK A l.length) (hc : l.length ≤ c) (hl : l.length ≤ 1000) (hs : (Lib.join (l.map fun s => s.data.toList) [32]).length ≤ 1000000) :
    SpecG Tryz.prog [] [(A, l.map Value.string)] 29 #[.slice A l.length c, .string ⟨#[32]⟩] [] (fun _ => .string (jnB l)) := by
  intro w hE hrd
  have hR : Rd w A (l.map Value.string) := hrd _ _ (List.mem_cons_self ..)
  have hp : l.length ≠ 0 := fun e => hn (List.eq_nil_of_length_eq_zero e)
  cases A with
  | none => exact absurd (hA.1 rfl) hp
  | some q =>
    have hq := hA.2 hp q rfl
    obtain ⟨g, o, s⟩ := q
    simp only at hq
    subst hq
    have at0 : ∀ j x, l[j]? = some x → w.cell? ⟨g, o + j, none⟩ = some (.string x) := by
      intro j x hx
      have h1 := hR j (.string x) (by rw [List.getElem?_map, hx]; rfl)
      rw [← h1]
      simp [bk, ofs]
    have hlt : g < w.heap.size := by
      have h0 : l[0]? = some (l[0]'(by omega)) := List.getElem?_eq_getElem _
      exact block_of_cell (at0 0 _ h0)
    have hj := Tryz.strings_Join g o c l ⟨#[32]⟩ w at0 hlt (by omega) (by omega) (by exact Nat.le_trans hs (by omega))
    exact hj.mono fun e w' ⟨he, hb⟩ => ⟨[], he, ownsL_nil _ _, hb⟩
theorem jn_len1 (x : ByteArray) : (Lib.join ([x].map fun s : ByteArray => s.data.toList) [32]).length = x.size := by
  simp [Lib.join_cons, Lib.joinTail]
theorem jn_len2 (x y : ByteArray) : (Lib.join ([x, y].map fun s : ByteArray => s.data.toList) [32]).length = x.size + y.size + 1 := by
  simp [Lib.join_cons, Lib.joinTail]; omega
theorem jn_len3 (x y z : ByteArray) : (Lib.join ([x, y, z].map fun s : ByteArray => s.data.toList) [32]).length = x.size + y.size + z.size + 2 := by
  simp [Lib.join_cons, Lib.joinTail]; omega
def j1 (x : ByteArray) : ByteArray := jnB [x]
def j2 (x y : ByteArray) : ByteArray := jnB [x, y]
def j3 (x y z : ByteArray) : ByteArray := jnB [x, y, z]
theorem jo1_sp (A : Option Addr) (c : Nat) (x : ByteArray) (hA : AOK A 1) (hc : 1 ≤ c) (hx : x.size ≤ 1000) :
    SpecG Tryz.prog [] [(A, [.string x])] 29 #[.slice A 1 c, .string ⟨#[32]⟩] [] (fun _ => .string (j1 x)) :=
  jon_gen A c [x] (by simp) hA hc (by simp) (by rw [jn_len1]; omega)
theorem jo2_sp (A : Option Addr) (c : Nat) (x y : ByteArray) (hA : AOK A 2) (hc : 2 ≤ c) (hx : x.size ≤ 1000) (hy : y.size ≤ 1000) :
    SpecG Tryz.prog [] [(A, [.string x, .string y])] 29 #[.slice A 2 c, .string ⟨#[32]⟩] [] (fun _ => .string (j2 x y)) :=
  jon_gen A c [x, y] (by simp) hA hc (by simp) (by rw [jn_len2]; omega)
theorem jo3_sp (A : Option Addr) (c : Nat) (x y z : ByteArray) (hA : AOK A 3) (hc : 3 ≤ c) (hx : x.size ≤ 1000) (hy : y.size ≤ 1000) (hz : z.size ≤ 1000) :
    SpecG Tryz.prog [] [(A, [.string x, .string y, .string z])] 29 #[.slice A 3 c, .string ⟨#[32]⟩] [] (fun _ => .string (j3 x y z)) :=
  jon_gen A c [x, y, z] (by simp) hA hc (by simp) (by rw [jn_len3]; omega)
theorem j1_eq (x : ByteArray) : j1 x = x := by
  unfold j1 jnB
  rw [List.map_cons, Lib.join_cons]
  simp [Lib.joinTail, str]
theorem str_app2 (a b : ByteArray) : str (a.data.toList ++ b.data.toList) = a ++ b := by
  apply ByteArray.ext
  simp [str]
theorem j2_eq (x y : ByteArray) : j2 x y = catB (catB x ⟨#[32]⟩) y := by
  unfold j2 jnB catB
  apply ByteArray.ext
  simp [Lib.join_cons, Lib.joinTail, str]
theorem j3_eq (x y z : ByteArray) : j3 x y z = catB (catB (catB (catB x ⟨#[32]⟩) y) ⟨#[32]⟩) z := by
  unfold j3 jnB catB
  apply ByteArray.ext
  simp [Lib.join_cons, Lib.joinTail, str]
/-- The symbol that is printed. -/
def prS (d : Dl) : ByteArray := str (prL d)
theorem nop_sp (d : Dl) (hw : Wf d) : SpecG Tryz.prog [] [] 28 #[DV d] [] (fun _ => .tuple #[.string (prS d), .int .i64 (chk d)]) := specG_ofC (fun w => print_any d hw w)
theorem nor_sp (d : Dl) (hw : Wf d) : SpecG Tryz.prog [] [] 32 #[DV d] [] (fun _ => .tuple #[.string (prS d), .int .i64 (chk d)]) := specG_ofC (fun w => rprint_any d hw w)
theorem symN (d : Dl) : (sym d).length ≤ 30 := by
  rw [sym_sum]
  have h1 := tyL_len d.t
  have h2 := pS_len d
  have h3 := pR_len d
  have h4 := bdL_len d.b
  have h5 := nuL_len 45 d.sh
  have h6 := flL_len 120 d.x
  have h7 := pW_len d
  have h8 := nuL_len 64 d.z
  simp only [List.length_append]
  omega
theorem prS_size (d : Dl) : (prS d).size ≤ 1000 := by
  unfold prS prL
  rw [str_size]
  split
  · have := symN d; omega
  · simp
end Go.Proofs.YtdgmogmldfhgcaaGreatDoor
