/- Layer 11 (field): the other functions that change a state; who is present. -/
import Derived.Test.YtjdldofgkhibnaaVz
import Derived.KernelRfl
import Derived.Test.YtjdldofgkhibnaaProg
import Derived.Test.YtjdldofgkhibnaaFda
import Derived.Test.YtjdldofgkhibnaaFdb
import Derived.Test.YtjdldofgkhibnaaFdc
set_option linter.unusedSimpArgs false
set_option linter.unusedVariables false
set_option maxRecDepth 100000
namespace Go.Proofs.Ytjdldofgkhibnaa
open Go.RowKit


/-- The players who are not replaced, of the first k. -/
def pres (l : List Bool) : Nat → List Int
  | 0 => []
  | k + 1 => pres l k ++ (if l.getD k false = true then [] else [(k : Int) + 1])
theorem pres_len (l : List Bool) (k : Nat) : (pres l k).length ≤ k := by
  induction k with
  | zero => simp [pres]
  | succ k ih => simp only [pres, List.length_append]; split <;> simp <;> omega
theorem sb_in {s : Inn} {A : Adr} {p : Int} {on : Bool} (hA : OkI s A) (h : sbL s p on = 0) : (1 ≤ p ∧ p ≤ s.sbs.length) ∧ IntKind.i64.wrap (p - 1) = p - 1 := by
  unfold sbL at h
  split at h
  · cases h
  · rename_i e
    have := plr_in (by simpa using e)
    exact ⟨this, wr1 this hA.l5⟩
structure PX where
  i : Nat
  a : Option Addr
  cap : Nat
  l : List Int
def pI (s : Inn) (x : PX) : Prop := x.i ≤ s.sbs.length ∧ x.l = pres s.sbs x.i
@[reducible] def pL (s : Inn) : LoopR := ⟨PX, fun x => [(9, .int .i64 x.i), (3, .slice x.a x.l.length x.cap)], [6], fun x => [⟨0, cI x.l, 3, some ⟨x.a, x.l.length, x.cap, 1⟩⟩], pI s, fun x => s.sbs.length - x.i, [(3, 1)]⟩

end Go.Proofs.Ytjdldofgkhibnaa
