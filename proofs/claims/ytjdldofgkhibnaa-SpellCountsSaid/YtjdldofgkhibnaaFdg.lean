/- Layer 11 (field): Ready and Named of both. -/
import Derived.Test.YtjdldofgkhibnaaVz
import Derived.KernelRfl
import Derived.Test.YtjdldofgkhibnaaProg
import Derived.Test.YtjdldofgkhibnaaFda
import Derived.Test.YtjdldofgkhibnaaFdb
import Derived.Test.YtjdldofgkhibnaaFdc
import Derived.Test.YtjdldofgkhibnaaFdd
import Derived.Test.YtjdldofgkhibnaaFdf
set_option linter.unusedSimpArgs false
set_option linter.unusedVariables false
set_option maxRecDepth 100000
namespace Go.Proofs.Ytjdldofgkhibnaa
open Go.RowKit


def rdy (s : Inn) (al : Int) : Int := if plr s s.kp = false ∨ rpl s s.kp = true ∨ s.kp = s.bw then 17 else if s.ou > al then 16 else 0
def nm1 (s : Inn) (p : Int) (sub : Bool) : Int := if p = 0 then 0 else if plr s p = false then 3 else if rpl s p = sub then 0 else 18
def nmd (s : Inn) (h f g : Int) (u : Bool) : Int :=
  if nm1 s (if 0 > f then 0 else f) u ≠ 0 then nm1 s (if 0 > f then 0 else f) u else if nm1 s (if 0 > g then 0 else g) false ≠ 0 then nm1 s (if 0 > g then 0 else g) false else if h = 4 ∧ (if 0 > f then 0 else f) ≠ s.kp then 17 else 0
theorem nm1_max (s : Inn) (f : Int) (u : Bool) : nm1 s (if 0 > f then 0 else f) u = if 0 < f ∧ plr s f = false then 3 else if 0 < f ∧ ¬ rpl s f = u then 18 else 0 := by
  unfold nm1
  by_cases h : 0 < f
  · have e : (if 0 > f then 0 else f) = f := if_neg (by omega)
    rw [e, if_neg (show ¬ f = 0 by omega)]
    simp only [h, true_and]
    (repeat' split) <;> simp_all
  · have e : (if 0 > f then 0 else f) = 0 := by split <;> omega
    rw [e]
    simp [h]
theorem nmd_eq (s : Inn) (h f g : Int) (u : Bool) : nmd s h f g u = if 0 < f ∧ plr s f = false then 3 else if 0 < f ∧ ¬ rpl s f = u then 18 else if 0 < g ∧ plr s g = false then 3 else if 0 < g ∧ ¬ rpl s g = false then 18 else if h = 4 ∧ (if 0 > f then 0 else f) ≠ s.kp then 17 else 0 := by
  unfold nmd
  rw [nm1_max, nm1_max]
  (repeat' split) <;> first | rfl | omega | (exfalso; simp_all; done) | (simp_all; done)

end Go.Proofs.Ytjdldofgkhibnaa
