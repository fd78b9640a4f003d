/- Layer 11 (field): the chapter's example; the law on what may be bowled (FieldReady). -/
import Derived.Test.YtjdldofgkhibnaaVz
import Derived.KernelRfl
import Derived.Test.YtjdldofgkhibnaaProg
import Derived.Test.YtjdldofgkhibnaaFda
import Derived.Test.YtjdldofgkhibnaaFdb
import Derived.Test.YtjdldofgkhibnaaFdc
import Derived.Test.YtjdldofgkhibnaaFdd
import Derived.Test.YtjdldofgkhibnaaFdf
import Derived.Test.YtjdldofgkhibnaaFdg
import Derived.Test.YtjdldofgkhibnaaFdh
import Derived.Test.YtjdldofgkhibnaaFdj
set_option linter.unusedSimpArgs false
set_option linter.unusedVariables false
set_option maxRecDepth 100000
namespace Go.Proofs.Ytjdldofgkhibnaa
open Go.RowKit


theorem aok0 : AOK none 0 := ⟨(fun _ => rfl), (fun _ q hq => by cases hq)⟩
theorem aokb (b n : Nat) : AOK (some ⟨b, 0, none⟩) n := ⟨(fun h => by cases h), (fun _ q hq => by injection hq with hq; subst hq; rfl)⟩
def cP_dec : List Value → List Ph
  | .int _ a :: .int _ b :: .int _ c :: l => ⟨a, b, c⟩ :: cP_dec l
  | _ => []


theorem aok_take {α : Type} {a : Option Addr} {l : List α} (n : Nat) (h : AOK a l.length) : AOK a (l.take n).length := ⟨(fun e => by have := h.1 e; rw [List.length_take]; omega), (fun hn q hq => h.2 (by rw [List.length_take] at hn; omega) q hq)⟩
theorem ok_few {s : Inn} {A : Adr} (h : OkA s A) : OkI (few s) A :=
  ⟨aok_take 13 h.k1, aok_take 13 h.k2, aok_take 13 h.k3, aok_take 13 h.k4, aok_take 13 h.k5, by simp only [few, List.length_take]; omega, by simp only [few, List.length_take]; omega, by simp only [few, List.length_take]; omega, by simp only [few, List.length_take]; omega, by simp only [few, List.length_take]; omega⟩
theorem take10 {α : Type} (l : List α) : (if (10 : Int) < l.length then 10 else (l.length : Int)).toNat = (l.take 10).length := by
  rw [List.length_take]
  split <;> omega

end Go.Proofs.Ytjdldofgkhibnaa
