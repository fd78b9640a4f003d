/- Layer 6 (squad): the law on players who are found. -/
import Derived.Test.YtaijjnafanmcnaaDoorVz
import Derived.KernelRfl
import Derived.Test.YtaijjnafanmcnaaDoorProg
import Derived.Test.YtaijjnafanmcnaaDoorBrg
import Derived.Test.YtaijjnafanmcnaaDoorRda
import Derived.Test.YtaijjnafanmcnaaDoorRub
import Derived.Test.YtaijjnafanmcnaaDoorRubr
import Derived.Test.YtaijjnafanmcnaaDoorSqw
import Derived.Test.YtaijjnafanmcnaaDoorSqa
import Derived.Test.YtaijjnafanmcnaaDoorSqb
import Derived.Test.YtaijjnafanmcnaaDoorSqf
set_option linter.unusedSimpArgs false
set_option linter.unusedVariables false
set_option maxRecDepth 100000
namespace Go.Proofs.YtaijjnafanmcnaaDoor
open Go.RowKit


theorem plF_all {l : List ByteArray} : ∀ (k i : Nat), plF l k i = 0 → ∀ j, i ≤ j → j < i + k → pbad l j = 0 := by
  intro k
  induction k with
  | zero => intro i _ j h1 h2; omega
  | succ k ih =>
    intro i h j h1 h2
    by_cases c : pbad l i = 0
    · have h' : plF l k (i + 1) = 0 := by
        have : plF l (k + 1) i = if pbad l i = 0 then plF l k (i + 1) else pbad l i := rfl
        rw [this, if_pos c] at h
        exact h
      by_cases e : j = i
      · rw [e]; exact c
      · exact ih (i + 1) h' j (by omega) (by omega)
    · have : plF l (k + 1) i = if pbad l i = 0 then plF l k (i + 1) else pbad l i := rfl
      rw [this, if_neg c] at h
      exact absurd h c
theorem plE_all {l : List ByteArray} (h : plE l = 0) {j : Nat} (hj : j < l.length) : nmOk (gS l j) = true ∧ fnd l (gS l j) = j := by
  have hb := plF_all l.length 0 h j (Nat.zero_le _) (by omega)
  unfold pbad at hb
  split at hb
  · cases hb
  · rename_i h1
    split at hb
    · cases hb
    · rename_i h2
      exact ⟨by simpa using h1, (fnd_self hj).2 h2⟩
theorem nm_pos {b : ByteArray} (h : nmOk b = true) : 0 < b.size := by
  unfold nmOk at h
  simp only [Bool.and_eq_true, decide_eq_true_eq] at h
  exact h.1.1.1
theorem sq_ok {s : Squ} (h : sqk s = 0) : 2 ≤ s.pl.length ∧ s.pl.length ≤ 11 ∧ plE s.pl = 0 := by
  unfold sqk at h
  (repeat' split at h) <;> first | (cases h; done) | (exact absurd h (by assumption)) | (rename_i h1 h2 h3 h4; exact ⟨by omega, by omega, by simpa using h3⟩)
theorem fnd_em {s : Squ} (h : sqk s = 0) : fnd s.pl ⟨#[]⟩ = -1 := by
  refine fnd_no fun y hy e => ?_
  obtain ⟨i, hi⟩ := List.getElem?_of_mem hy
  have hl := (List.getElem?_eq_some_iff.1 hi).1
  have h1 := nm_pos (plE_all (sq_ok h).2.2 hl).1
  rw [gS, List.getD_eq_getElem?_getD, hi, Option.getD_some, e] at h1
  exact absurd h1 (by decide)
theorem eq_of_bne {a b : Int} (h : (a != b) = false) : a = b := by simpa using h
def pOf (s : Squ) (k : Int) : Int := Int.tmod k s.pl.length + 1
theorem pOf_in {s : Squ} {k : Int} (h : sqk s = 0) (hk : 0 ≤ k ∧ k ≤ 255) : 1 ≤ pOf s k ∧ pOf s k ≤ s.pl.length ∧ pOf s k ≤ 11 := by
  have := (sq_ok h).1
  have := (sq_ok h).2.1
  have h1 := Int.tmod_nonneg (s.pl.length : Int) hk.1
  have h2 := Int.tmod_lt_of_pos k (show (0 : Int) < s.pl.length by omega)
  unfold pOf
  omega
theorem ttl_nonem {s : Squ} {p : Int} (h : sqk s = 0) (h1 : 1 ≤ p) (h2 : p ≤ s.pl.length) : 0 < (ttl s p).size := by
  have h3 := nm_pos (plE_all (sq_ok h).2.2 (j := (p - 1).toNat) (by omega)).1
  have h4 : isP s p = true := by unfold isP; simp; omega
  unfold ttl
  rw [if_neg (by rw [h4]; decide)]
  (repeat' split) <;> (try simp only [catB_size]) <;> omega
theorem ttl_em {s : Squ} : ttl s ((s.pl.length : Int) + 1) = ⟨#[]⟩ := by
  unfold ttl isP
  rw [if_pos (by simp; omega)]
theorem find_at {s : Squ} {p : Int} (h : sqk s = 0) (h1 : 1 ≤ p) (h2 : p ≤ s.pl.length) : fnd s.pl (gS s.pl (p - 1).toNat) + 1 = p := by
  rw [(plE_all (sq_ok h).2.2 (j := (p - 1).toNat) (by omega)).2]
  omega
theorem wP {s : Squ} {k : Int} (h : sqk s = 0) (hk : 0 ≤ k ∧ k ≤ 255) : IntKind.i64.wrap ((IntKind.i64.wrap k).tmod (s.pl.length : Int) + 1) = pOf s k := by
  have := pOf_in h hk
  rw [IntWalk.i64_in k (by omega)]
  exact IntWalk.i64_in _ (by unfold pOf at this; omega)
theorem wQ {s : Squ} {k : Int} (h : sqk s = 0) (hk : 0 ≤ k ∧ k ≤ 255) : IntKind.i64.wrap (IntKind.i64.wrap ((IntKind.i64.wrap k).tmod (s.pl.length : Int) + 1) - 1) = pOf s k - 1 := by
  have := pOf_in h hk
  rw [wP h hk]
  exact IntWalk.i64_in _ (by omega)
theorem finds_all {s : Squ} {k : Int} (h : sqk s = 0) (hk : 0 ≤ k ∧ k ≤ 255) :
    (fnd s.pl (gS s.pl (IntKind.i64.wrap (IntKind.i64.wrap ((IntKind.i64.wrap k).tmod (s.pl.length : Int) + 1) - 1)).toNat) + 1 == IntKind.i64.wrap ((IntKind.i64.wrap k).tmod (s.pl.length : Int) + 1) &&
      (!(ByteArray.toList (ttl s (IntKind.i64.wrap ((IntKind.i64.wrap k).tmod (s.pl.length : Int) + 1))) == ByteArray.toList (ByteArray.mk (Array.mk []))) &&
        (ByteArray.toList (ttl s (IntKind.i64.wrap ((s.pl.length : Int) + 1))) == ByteArray.toList (ByteArray.mk (Array.mk [])) && fnd s.pl (ByteArray.mk (Array.mk [])) + 1 == 0))) = true := by
  have hp := pOf_in h hk
  have hl := (sq_ok h).2.1
  rw [wQ h hk, wP h hk, IntWalk.i64_in ((s.pl.length : Int) + 1) (by omega), find_at h hp.1 hp.2.1, ttl_em, fnd_em h, em_sz, em_sz, decide_eq_false (by have := ttl_nonem h hp.1 hp.2.1; omega)]
  simp
  rfl

def squadFinds_h (s : Squ) (B : RAd) (k : Int) : Hint := .specg rE [] [] [] (fun ads0 x ↦ Value.bool true) (.lit (ho 1 4 (.specg [] [0] [cS (Squ.pl s)] [RowT.mk (9 : TypeId) (1 : Nat) (List.length (fewL (Squ.pl s))) (cS (fewL (Squ.pl s)))] (fun ads0 ads ↦ sqV (fewS s) (RAd.mk (Prod.fst (nthA ads (0 : Nat))) (Prod.snd (nthA ads (0 : Nat))))) (ho 1 8 (.specg
 [] [2] [cS (fewL (Squ.pl s))] [] (fun ads0 x ↦ Value.int .i64 (sqk (Squ.mk (Squ.nm (fewS s)) (fewL (Squ.pl s)) (Squ.ca (fewS s)) (Squ.ke (fewS s))))) (.pl (.split (.perm [] .nil) (.pl (.ob 1 (.pl (.ix (.cut [((4 : Nat), .bool (fnd (fewL (Squ.pl s)) (gS (fewL (Squ.pl s)) (Int.toNat (IntKind.i64.wrap
 (IntKind.i64.wrap (Int.tmod (IntKind.i64.wrap k) (↑(List.length (Squ.pl (fewS s))) : Int) + (1 : Int)) - 1)))) + 1 == IntKind.i64.wrap (Int.tmod (IntKind.i64.wrap k) (↑(List.length (Squ.pl (fewS s))) : Int) + (1 : Int)) && (!ByteArray.toList (ttl (Squ.mk (Squ.nm (fewS s)) (fewL (Squ.pl s)) (Squ.ca
 (fewS s)) (Squ.ke (fewS s))) (IntKind.i64.wrap (Int.tmod (IntKind.i64.wrap k) (↑(List.length (Squ.pl (fewS s))) : Int) + (1 : Int)))) == ByteArray.toList (ByteArray.mk (Array.mk [])) && (ByteArray.toList (ttl (Squ.mk (Squ.nm (fewS s)) (fewL (Squ.pl s)) (Squ.ca (fewS s)) (Squ.ke (fewS s)))
 (IntKind.i64.wrap ((↑(List.length (Squ.pl (fewS s))) : Int) + (1 : Int)))) == ByteArray.toList (ByteArray.mk (Array.mk [])) && fnd (fewL (Squ.pl s)) (ByteArray.mk (Array.mk [])) + 1 == (0 : Int)))))] (.draw [0, 1, 2] none [0, 1, 2] (.take 0 (ho 1 4 (.take 1 (.take 2 (.ob 1 (.take 3 (.take 4 (.take 5
 (.ix (.take 6 (.lst (2 : Nat) (Int.toNat (IntKind.i64.wrap (IntKind.i64.wrap (Int.tmod (IntKind.i64.wrap k) (↑(List.length (Squ.pl (fewS s))) : Int) + (1 : Int)) - 1)) * (1 : Nat)) (Value.string (gS (fewL (Squ.pl s)) (Int.toNat (IntKind.i64.wrap (IntKind.i64.wrap (Int.tmod (IntKind.i64.wrap k)
 (↑(List.length (Squ.pl (fewS s))) : Int) + (1 : Int)) - 1))))) (.take 8 (.pl (.br (.specg [] [2] [cS (fewL (Squ.pl s))] [] (fun ads0 x ↦ Value.int .i64 (fnd (Squ.pl (Squ.mk (Squ.nm (fewS s)) (fewL (Squ.pl s)) (Squ.ca (fewS s)) (Squ.ke (fewS s)))) (gS (fewL (Squ.pl s)) (Int.toNat (IntKind.i64.wrap
 (IntKind.i64.wrap (Int.tmod (IntKind.i64.wrap k) (↑(List.length (Squ.pl (fewS s))) : Int) + (1 : Int)) - 1)))) + 1)) (.take 9 (.pl (.take 10 (.take 11 (.split (ho 1 4 (.take 12 (.lit (.pl (.br (.lit (.specg [] [2] [cS (fewL (Squ.pl s))] [] (fun ads0 x ↦ Value.string (ttl (Squ.mk (Squ.nm (fewS s))
 (fewL (Squ.pl s)) (Squ.ca (fewS s)) (Squ.ke (fewS s))) (IntKind.i64.wrap (Int.tmod (IntKind.i64.wrap k) (↑(List.length (Squ.pl (fewS s))) : Int) + (1 : Int))))) (.take 14 (.lit (.pl (.take 15 (.lit (.take 16 (.take 17 (.split (ho 1 4 (.take 18 (.lit (.take 19 (.lit (.ob 1 (.take 20 (.lit (.pl (.take
 21 (.lit (.pl (.br (.lit (.specg [] [2] [cS (fewL (Squ.pl s))] [] (fun ads0 x ↦ Value.string (ttl (Squ.mk (Squ.nm (fewS s)) (fewL (Squ.pl s)) (Squ.ca (fewS s)) (Squ.ke (fewS s))) (IntKind.i64.wrap ((↑(List.length (Squ.pl (fewS s))) : Int) + (1 : Int))))) (.take 23 (.lit (.pl (.take 24 (.lit (.take
 25 (.take 26 (.split (ho 1 4 (.pl (.br (.lit (.specg [] [2] [cS (fewL (Squ.pl s))] [] (fun ads0 x ↦ Value.int .i64 (fnd (Squ.pl (Squ.mk (Squ.nm (fewS s)) (fewL (Squ.pl s)) (Squ.ca (fewS s)) (Squ.ke (fewS s)))) (ByteArray.mk (Array.mk [])) + 1)) (.take 28 (.lit (.pl (.take 29 (.lit (.take 30
 .nil)))))))) .nil))) (.take 27 (.lit (.take 28 (.lit (.take 29 (.lit (.take 30 .nil))))))))))))))))) .nil))))))))))))) (.take 18 (.lit (.take 19 (.lit (.take 20 (.lit (.take 21 (.lit (.take 22 (.lit (.take 23 (.lit (.take 24 (.lit (.take 25 (.take 26 (.lit (.take 27 (.lit (.take 28 (.lit (.take 29
 (.lit (.take 30 .nil)))))))))))))))))))))))))))))))))) .nil))))) (.take 12 (.lit (.take 13 (.lit (.take 14 (.lit (.take 15 (.lit (.take 16 (.take 17 (.lit (.take 18 (.lit (.take 19 (.lit (.take 20 (.lit (.take 21 (.lit (.take 22 (.lit (.take 23 (.lit (.take 24 (.lit (.take 25 (.take 26 (.lit (.take
 27 (.lit (.take 28 (.lit (.take 29 (.lit (.take 30 .nil))))))))))))))))))))))))))))))))))))))))) .nil))))))))))))))) (.perm [] .nil)))))))))))))
theorem squadFinds_x (s : Squ) (B : RAd) (k : Int) : wpG Tryd.prog rE ([(B.a, cS s.pl)]) 400 9 [sqV s B, .int .u8 k] (squadFinds_h s B k) ([]) (fun _ => .bool true) = (∀ (b : Nat), (SpecG Tryd.prog rE [] (10 : FuncId) #[] [] fun x ↦ Value.bool true) /\ (∀ (e : Ex), e ∈ rE -> e ∈ rE) /\ e1 b 4 (cS (Squ.pl s) = cS (Squ.pl s) /\ (SpecG Tryd.prog [] [(RAd.a B, cS (Squ.pl s))] (11 : FuncId) #[sqV s B] [RowT.mk (9 : TypeId) (1 : Nat) (List.length (fewL (Squ.pl s))) (cS
 (fewL (Squ.pl s)))] fun ads ↦ sqV (fewS s) (RAd.mk (Prod.fst (nthA ads (0 : Nat))) (Prod.snd (nthA ads (0 : Nat))))) /\ (∀ (e : Ex), e ∈ [] -> e ∈ rE) /\ ∀ (a : Option Addr) (cap : Nat), AOK a (List.length (fewL (Squ.pl s))) -> List.length (fewL (Squ.pl s)) ≤ cap -> e2 b 4 (e1 b 4 (cS (fewL (Squ.pl
 s)) = cS (fewL (Squ.pl s)) /\ (SpecG Tryd.prog [] [(RAd.a (RAd.mk a cap), cS (Squ.pl (Squ.mk (Squ.nm (fewS s)) (fewL (Squ.pl s)) (Squ.ca (fewS s)) (Squ.ke (fewS s)))))] (12 : FuncId) #[sqV (Squ.mk (Squ.nm (fewS s)) (fewL (Squ.pl s)) (Squ.ca (fewS s)) (Squ.ke (fewS s))) (RAd.mk a cap)] [] fun x ↦
 Value.int .i64 (sqk (Squ.mk (Squ.nm (fewS s)) (fewL (Squ.pl s)) (Squ.ca (fewS s)) (Squ.ke (fewS s))))) /\ (∀ (e : Ex), e ∈ [] -> e ∈ rE) /\ ((sqk (Squ.mk (Squ.nm (fewS s)) (fewL (Squ.pl s)) (Squ.ca (fewS s)) (Squ.ke (fewS s))) != 0) = true -> Value.bool true = Value.bool true) /\ ((sqk (Squ.mk
 (Squ.nm (fewS s)) (fewL (Squ.pl s)) (Squ.ca (fewS s)) (Squ.ke (fewS s))) != 0) = false -> b = b /\ (↑(List.length (Squ.pl (fewS s))) : Int) ≠ (0 : Int) /\ (e1 b 5 ((((0 : Int) ≤ IntKind.i64.wrap (IntKind.i64.wrap (Int.tmod (IntKind.i64.wrap k) (↑(List.length (Squ.pl (fewS s))) : Int) + (1 : Int)) -
 1) /\ IntKind.i64.wrap (IntKind.i64.wrap (Int.tmod (IntKind.i64.wrap k) (↑(List.length (Squ.pl (fewS s))) : Int) + (1 : Int)) - 1) < (↑(List.length (Squ.pl (fewS s))) : Int)) /\ AOK a (List.length (Squ.pl (fewS s)))) /\ bk a = bk a /\ ofs a + Int.toNat (IntKind.i64.wrap (IntKind.i64.wrap (Int.tmod
 (IntKind.i64.wrap k) (↑(List.length (Squ.pl (fewS s))) : Int) + (1 : Int)) - 1)) * (1 : Nat) = ofs a + Int.toNat (IntKind.i64.wrap (IntKind.i64.wrap (Int.tmod (IntKind.i64.wrap k) (↑(List.length (Squ.pl (fewS s))) : Int) + (1 : Int)) - 1)) * (1 : Nat) /\ lgo (cS (fewL (Squ.pl s))) (Int.toNat
 (IntKind.i64.wrap (IntKind.i64.wrap (Int.tmod (IntKind.i64.wrap k) (↑(List.length (Squ.pl (fewS s))) : Int) + (1 : Int)) - 1)) * (1 : Nat)) = some (Value.string (gS (fewL (Squ.pl s)) (Int.toNat (IntKind.i64.wrap (IntKind.i64.wrap (Int.tmod (IntKind.i64.wrap k) (↑(List.length (Squ.pl (fewS s))) :
 Int) + (1 : Int)) - 1))))) /\ True /\ (cS (fewL (Squ.pl s)) = cS (fewL (Squ.pl s)) /\ (SpecG Tryd.prog [] [(RAd.a (RAd.mk a cap), cS (Squ.pl (Squ.mk (Squ.nm (fewS s)) (fewL (Squ.pl s)) (Squ.ca (fewS s)) (Squ.ke (fewS s)))))] (14 : FuncId) #[sqV (Squ.mk (Squ.nm (fewS s)) (fewL (Squ.pl s)) (Squ.ca
 (fewS s)) (Squ.ke (fewS s))) (RAd.mk a cap), .string (gS (fewL (Squ.pl s)) (Int.toNat (IntKind.i64.wrap (IntKind.i64.wrap (Int.tmod (IntKind.i64.wrap k) (↑(List.length (Squ.pl (fewS s))) : Int) + (1 : Int)) - 1))))] [] fun x ↦ Value.int .i64 (fnd (Squ.pl (Squ.mk (Squ.nm (fewS s)) (fewL (Squ.pl s))
 (Squ.ca (fewS s)) (Squ.ke (fewS s)))) (gS (fewL (Squ.pl s)) (Int.toNat (IntKind.i64.wrap (IntKind.i64.wrap (Int.tmod (IntKind.i64.wrap k) (↑(List.length (Squ.pl (fewS s))) : Int) + (1 : Int)) - 1)))) + 1)) /\ (∀ (e : Ex), e ∈ [] -> e ∈ rE) /\ ((fnd (fewL (Squ.pl s)) (gS (fewL (Squ.pl s)) (Int.toNat
 (IntKind.i64.wrap (IntKind.i64.wrap (Int.tmod (IntKind.i64.wrap k) (↑(List.length (Squ.pl (fewS s))) : Int) + (1 : Int)) - 1)))) + 1 == IntKind.i64.wrap (Int.tmod (IntKind.i64.wrap k) (↑(List.length (Squ.pl (fewS s))) : Int) + (1 : Int))) = true -> e1 b 3 (b = b /\ True /\ (cS (fewL (Squ.pl s)) = cS
 (fewL (Squ.pl s)) /\ (SpecG Tryd.prog [] [(RAd.a (RAd.mk a cap), cS (Squ.pl (Squ.mk (Squ.nm (fewS s)) (fewL (Squ.pl s)) (Squ.ca (fewS s)) (Squ.ke (fewS s)))))] (16 : FuncId) #[sqV (Squ.mk (Squ.nm (fewS s)) (fewL (Squ.pl s)) (Squ.ca (fewS s)) (Squ.ke (fewS s))) (RAd.mk a cap), .int .i64
 (IntKind.i64.wrap (Int.tmod (IntKind.i64.wrap k) (↑(List.length (Squ.pl (fewS s))) : Int) + (1 : Int)))] [] fun x ↦ Value.string (ttl (Squ.mk (Squ.nm (fewS s)) (fewL (Squ.pl s)) (Squ.ca (fewS s)) (Squ.ke (fewS s))) (IntKind.i64.wrap (Int.tmod (IntKind.i64.wrap k) (↑(List.length (Squ.pl (fewS s))) :
 Int) + (1 : Int))))) /\ (∀ (e : Ex), e ∈ [] -> e ∈ rE) /\ ((!ByteArray.toList (ttl (Squ.mk (Squ.nm (fewS s)) (fewL (Squ.pl s)) (Squ.ca (fewS s)) (Squ.ke (fewS s))) (IntKind.i64.wrap (Int.tmod (IntKind.i64.wrap k) (↑(List.length (Squ.pl (fewS s))) : Int) + (1 : Int)))) == ByteArray.toList
 (ByteArray.mk (Array.mk []))) = true -> e1 b 4 (b = b /\ True /\ (cS (fewL (Squ.pl s)) = cS (fewL (Squ.pl s)) /\ (SpecG Tryd.prog [] [(RAd.a (RAd.mk a cap), cS (Squ.pl (Squ.mk (Squ.nm (fewS s)) (fewL (Squ.pl s)) (Squ.ca (fewS s)) (Squ.ke (fewS s)))))] (16 : FuncId) #[sqV (Squ.mk (Squ.nm (fewS s))
 (fewL (Squ.pl s)) (Squ.ca (fewS s)) (Squ.ke (fewS s))) (RAd.mk a cap), .int .i64 (IntKind.i64.wrap ((↑(List.length (Squ.pl (fewS s))) : Int) + (1 : Int)))] [] fun x ↦ Value.string (ttl (Squ.mk (Squ.nm (fewS s)) (fewL (Squ.pl s)) (Squ.ca (fewS s)) (Squ.ke (fewS s))) (IntKind.i64.wrap ((↑(List.length
 (Squ.pl (fewS s))) : Int) + (1 : Int))))) /\ (∀ (e : Ex), e ∈ [] -> e ∈ rE) /\ ((ByteArray.toList (ttl (Squ.mk (Squ.nm (fewS s)) (fewL (Squ.pl s)) (Squ.ca (fewS s)) (Squ.ke (fewS s))) (IntKind.i64.wrap ((↑(List.length (Squ.pl (fewS s))) : Int) + (1 : Int)))) == ByteArray.toList (ByteArray.mk
 (Array.mk []))) = true -> e1 b 3 (b = b /\ True /\ (cS (fewL (Squ.pl s)) = cS (fewL (Squ.pl s)) /\ (SpecG Tryd.prog [] [(RAd.a (RAd.mk a cap), cS (Squ.pl (Squ.mk (Squ.nm (fewS s)) (fewL (Squ.pl s)) (Squ.ca (fewS s)) (Squ.ke (fewS s)))))] (14 : FuncId) #[sqV (Squ.mk (Squ.nm (fewS s)) (fewL (Squ.pl s))
 (Squ.ca (fewS s)) (Squ.ke (fewS s))) (RAd.mk a cap), .string (ByteArray.mk (Array.mk []))] [] fun x ↦ Value.int .i64 (fnd (Squ.pl (Squ.mk (Squ.nm (fewS s)) (fewL (Squ.pl s)) (Squ.ca (fewS s)) (Squ.ke (fewS s)))) (ByteArray.mk (Array.mk [])) + 1)) /\ (∀ (e : Ex), e ∈ [] -> e ∈ rE) /\ Value.bool (fnd
 (fewL (Squ.pl s)) (ByteArray.mk (Array.mk [])) + 1 == (0 : Int)) = Value.bool (fnd (fewL (Squ.pl s)) (gS (fewL (Squ.pl s)) (Int.toNat (IntKind.i64.wrap (IntKind.i64.wrap (Int.tmod (IntKind.i64.wrap k) (↑(List.length (Squ.pl (fewS s))) : Int) + (1 : Int)) - 1)))) + 1 == IntKind.i64.wrap (Int.tmod
 (IntKind.i64.wrap k) (↑(List.length (Squ.pl (fewS s))) : Int) + (1 : Int)) && (!ByteArray.toList (ttl (Squ.mk (Squ.nm (fewS s)) (fewL (Squ.pl s)) (Squ.ca (fewS s)) (Squ.ke (fewS s))) (IntKind.i64.wrap (Int.tmod (IntKind.i64.wrap k) (↑(List.length (Squ.pl (fewS s))) : Int) + (1 : Int)))) ==
 ByteArray.toList (ByteArray.mk (Array.mk [])) && (ByteArray.toList (ttl (Squ.mk (Squ.nm (fewS s)) (fewL (Squ.pl s)) (Squ.ca (fewS s)) (Squ.ke (fewS s))) (IntKind.i64.wrap ((↑(List.length (Squ.pl (fewS s))) : Int) + (1 : Int)))) == ByteArray.toList (ByteArray.mk (Array.mk [])) && fnd (fewL (Squ.pl
 s)) (ByteArray.mk (Array.mk [])) + 1 == (0 : Int)))) /\ True) /\ True)) /\ ((ByteArray.toList (ttl (Squ.mk (Squ.nm (fewS s)) (fewL (Squ.pl s)) (Squ.ca (fewS s)) (Squ.ke (fewS s))) (IntKind.i64.wrap ((↑(List.length (Squ.pl (fewS s))) : Int) + (1 : Int)))) == ByteArray.toList (ByteArray.mk (Array.mk
 []))) = false -> Value.bool false = Value.bool (fnd (fewL (Squ.pl s)) (gS (fewL (Squ.pl s)) (Int.toNat (IntKind.i64.wrap (IntKind.i64.wrap (Int.tmod (IntKind.i64.wrap k) (↑(List.length (Squ.pl (fewS s))) : Int) + (1 : Int)) - 1)))) + 1 == IntKind.i64.wrap (Int.tmod (IntKind.i64.wrap k)
 (↑(List.length (Squ.pl (fewS s))) : Int) + (1 : Int)) && (!ByteArray.toList (ttl (Squ.mk (Squ.nm (fewS s)) (fewL (Squ.pl s)) (Squ.ca (fewS s)) (Squ.ke (fewS s))) (IntKind.i64.wrap (Int.tmod (IntKind.i64.wrap k) (↑(List.length (Squ.pl (fewS s))) : Int) + (1 : Int)))) == ByteArray.toList (ByteArray.mk
 (Array.mk [])) && (ByteArray.toList (ttl (Squ.mk (Squ.nm (fewS s)) (fewL (Squ.pl s)) (Squ.ca (fewS s)) (Squ.ke (fewS s))) (IntKind.i64.wrap ((↑(List.length (Squ.pl (fewS s))) : Int) + (1 : Int)))) == ByteArray.toList (ByteArray.mk (Array.mk [])) && fnd (fewL (Squ.pl s)) (ByteArray.mk (Array.mk []))
 + 1 == (0 : Int)))) /\ True)) /\ True)) /\ ((!ByteArray.toList (ttl (Squ.mk (Squ.nm (fewS s)) (fewL (Squ.pl s)) (Squ.ca (fewS s)) (Squ.ke (fewS s))) (IntKind.i64.wrap (Int.tmod (IntKind.i64.wrap k) (↑(List.length (Squ.pl (fewS s))) : Int) + (1 : Int)))) == ByteArray.toList (ByteArray.mk (Array.mk
 []))) = false -> Value.bool false = Value.bool (fnd (fewL (Squ.pl s)) (gS (fewL (Squ.pl s)) (Int.toNat (IntKind.i64.wrap (IntKind.i64.wrap (Int.tmod (IntKind.i64.wrap k) (↑(List.length (Squ.pl (fewS s))) : Int) + (1 : Int)) - 1)))) + 1 == IntKind.i64.wrap (Int.tmod (IntKind.i64.wrap k)
 (↑(List.length (Squ.pl (fewS s))) : Int) + (1 : Int)) && (!ByteArray.toList (ttl (Squ.mk (Squ.nm (fewS s)) (fewL (Squ.pl s)) (Squ.ca (fewS s)) (Squ.ke (fewS s))) (IntKind.i64.wrap (Int.tmod (IntKind.i64.wrap k) (↑(List.length (Squ.pl (fewS s))) : Int) + (1 : Int)))) == ByteArray.toList (ByteArray.mk
 (Array.mk [])) && (ByteArray.toList (ttl (Squ.mk (Squ.nm (fewS s)) (fewL (Squ.pl s)) (Squ.ca (fewS s)) (Squ.ke (fewS s))) (IntKind.i64.wrap ((↑(List.length (Squ.pl (fewS s))) : Int) + (1 : Int)))) == ByteArray.toList (ByteArray.mk (Array.mk [])) && fnd (fewL (Squ.pl s)) (ByteArray.mk (Array.mk []))
 + 1 == (0 : Int)))) /\ True)) /\ True)) /\ ((fnd (fewL (Squ.pl s)) (gS (fewL (Squ.pl s)) (Int.toNat (IntKind.i64.wrap (IntKind.i64.wrap (Int.tmod (IntKind.i64.wrap k) (↑(List.length (Squ.pl (fewS s))) : Int) + (1 : Int)) - 1)))) + 1 == IntKind.i64.wrap (Int.tmod (IntKind.i64.wrap k) (↑(List.length
 (Squ.pl (fewS s))) : Int) + (1 : Int))) = false -> Value.bool false = Value.bool (fnd (fewL (Squ.pl s)) (gS (fewL (Squ.pl s)) (Int.toNat (IntKind.i64.wrap (IntKind.i64.wrap (Int.tmod (IntKind.i64.wrap k) (↑(List.length (Squ.pl (fewS s))) : Int) + (1 : Int)) - 1)))) + 1 == IntKind.i64.wrap (Int.tmod
 (IntKind.i64.wrap k) (↑(List.length (Squ.pl (fewS s))) : Int) + (1 : Int)) && (!ByteArray.toList (ttl (Squ.mk (Squ.nm (fewS s)) (fewL (Squ.pl s)) (Squ.ca (fewS s)) (Squ.ke (fewS s))) (IntKind.i64.wrap (Int.tmod (IntKind.i64.wrap k) (↑(List.length (Squ.pl (fewS s))) : Int) + (1 : Int)))) ==
 ByteArray.toList (ByteArray.mk (Array.mk [])) && (ByteArray.toList (ttl (Squ.mk (Squ.nm (fewS s)) (fewL (Squ.pl s)) (Squ.ca (fewS s)) (Squ.ke (fewS s))) (IntKind.i64.wrap ((↑(List.length (Squ.pl (fewS s))) : Int) + (1 : Int)))) == ByteArray.toList (ByteArray.mk (Array.mk [])) && fnd (fewL (Squ.pl
 s)) (ByteArray.mk (Array.mk [])) + 1 == (0 : Int)))) /\ True)) /\ True)) /\ ∀ (junk : Nat -> Value), .bool (fnd (fewL (Squ.pl s)) (gS (fewL (Squ.pl s)) (Int.toNat (IntKind.i64.wrap (IntKind.i64.wrap (Int.tmod (IntKind.i64.wrap k) (↑(List.length (Squ.pl (fewS s))) : Int) + (1 : Int)) - 1)))) + 1 ==
 IntKind.i64.wrap (Int.tmod (IntKind.i64.wrap k) (↑(List.length (Squ.pl (fewS s))) : Int) + (1 : Int)) && (!ByteArray.toList (ttl (Squ.mk (Squ.nm (fewS s)) (fewL (Squ.pl s)) (Squ.ca (fewS s)) (Squ.ke (fewS s))) (IntKind.i64.wrap (Int.tmod (IntKind.i64.wrap k) (↑(List.length (Squ.pl (fewS s))) : Int)
 + (1 : Int)))) == ByteArray.toList (ByteArray.mk (Array.mk [])) && (ByteArray.toList (ttl (Squ.mk (Squ.nm (fewS s)) (fewL (Squ.pl s)) (Squ.ca (fewS s)) (Squ.ke (fewS s))) (IntKind.i64.wrap ((↑(List.length (Squ.pl (fewS s))) : Int) + (1 : Int)))) == ByteArray.toList (ByteArray.mk (Array.mk [])) &&
 fnd (fewL (Squ.pl s)) (ByteArray.mk (Array.mk [])) + 1 == (0 : Int)))) = Value.bool true))))) := by kernel_rfl
set_option maxHeartbeats 4000000 in
theorem squadFinds_sp (s : Squ) (B : RAd) (k : Int) (hB : AOK B.a s.pl.length) (hk : 0 ≤ k ∧ k ≤ 255) : SpecG Tryd.prog rE ([(B.a, cS s.pl)]) 9 #[sqV s B, .int .u8 k] ([]) (fun _ => .bool true) := by
  refine specG_of (h := squadFinds_h s B k) (?_ : wpG Tryd.prog rE ([(B.a, cS s.pl)]) 400 9 [sqV s B, .int .u8 k] (squadFinds_h s B k) ([]) (fun _ => .bool true))
  rw [squadFinds_x]
  (repeat' (first | with_reducible exact rfl | exact trivial | with_reducible assumption | (with_reducible exact awk_sp) | (with_reducible exact few6_sp _ _ hB) | (with_reducible exact sch_sp _ _ (by assumption) (by first | assumption | exact fewS_pl _) (fewS_pl _) (fewS_nm _) (fewS_sz _)) | (with_reducible exact fds_sp _ _ _ (by assumption) (fewS_pl _)) | (with_reducible exact ttp_sp _ _ _ (by assumption) (fewS_pl _) (fewS_sz _)) | exact exact cU_len _ | exact cI_len _ | exact cB_len _ | exact cU_one _ | exact cI_one _ | exact cB_one _ | exact (fun _ h => h) | exact (fun _ h => (List.not_mem_nil h).elim) | (with_reducible refine e1_in ?_) | (with_reducible refine e2_in ?_) | (with_reducible refine lx_in (Nat.le_of_ble_eq_true rfl) ?_) | (with_reducible refine rqx_rf ?_) | (with_reducible refine rqx_in ?_ ?_ ?_) | (with_reducible apply And.intro) | (with_reducible intro _)))
  all_goals (first | (simp only [*, Bool.and_true, Bool.true_and, Bool.and_false, Bool.false_and, Bool.or_true, Bool.true_or, Bool.or_false, Bool.false_or, Bool.not_true, Bool.not_false, cond_true, cond_false]; done) | (simp; done) | (split <;> omega) | (have h := eq_of_bne ‹(sqk _ != 0) = false›; have hq : sqk (fewS s) = 0 := h; have hp := pOf_in hq hk; have h3 := (sq_ok hq).1; first | omega | (rw [wQ hq hk]; omega) | (have h5 : AOK _ (fewL s.pl).length := (by assumption); exact h5) | (refine cS_get ?_; rw [wQ hq hk]; show _ < (fewS s).pl.length; omega) | exact congrArg Value.bool (finds_all hq hk)) | trace_state)
end Go.Proofs.YtaijjnafanmcnaaDoor
