/- Layer 11 (field): the reference's functions that change a state; who is present. -/
import Derived.Test.YtebjknedjpkomaaVy
import Derived.KernelRfl
import Derived.Test.YtebjknedjpkomaaProg
import Derived.Test.YtebjknedjpkomaaFda
import Derived.Test.YtebjknedjpkomaaFdb
import Derived.Test.YtebjknedjpkomaaFdc
import Derived.Test.YtebjknedjpkomaaFdd
set_option linter.unusedSimpArgs false
set_option linter.unusedVariables false
set_option maxRecDepth 100000
namespace Go.Proofs.Ytebjknedjpkomaa
open Go.RowKit


theorem plr_or (s : Inn) (p : Int) : (plr s p = true ∧ 1 ≤ p ∧ p ≤ s.sbs.length) ∨ (plr s p = false ∧ (p < 1 ∨ s.sbs.length < p)) := by
  cases h : plr s p
  · right; refine ⟨rfl, ?_⟩; unfold plr at h; rw [decide_eq_false_iff_not] at h; omega
  · left; exact ⟨rfl, plr_in h⟩
theorem rrp_fin (s : Inn) (p : Int) (e : plr s p = true → IntKind.i64.wrap (p - 1) = p - 1) : Value.bool (decide (p ≥ 1) && (decide (p ≤ (s.sbs.length : Int)) && s.sbs.getD (Int.toNat (IntKind.i64.wrap (p - 1))) false)) = Value.bool (plr s p && rpl s p) := by
  congr 1
  rcases plr_or s p with ⟨hp, h1, h2⟩ | ⟨hp, h1⟩
  · rw [e hp, hp]
    simp [rpl, h1, h2]
  · rw [hp]
    simp
    intros
    omega
def rI (s : Inn) (x : PX) : Prop := x.i ≤ s.sbs.length ∧ x.l = pres s.sbs x.i
@[reducible] def rL (s : Inn) : LoopR := ⟨PX, fun x => [(4, .int .i64 ((x.i : Int) + 1)), (3, .slice x.a x.l.length x.cap)], [6], fun x => [⟨0, cI x.l, 3, some ⟨x.a, x.l.length, x.cap, 1⟩⟩], rI s, fun x => s.sbs.length - x.i, [(3, 1)]⟩

end Go.Proofs.Ytebjknedjpkomaa
