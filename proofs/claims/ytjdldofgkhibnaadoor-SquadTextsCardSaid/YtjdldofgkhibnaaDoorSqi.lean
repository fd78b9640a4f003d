/- Layer 6 (squad): the law on texts. -/
import Derived.Test.YtjdldofgkhibnaaDoorVz
import Derived.KernelRfl
import Derived.Test.YtjdldofgkhibnaaDoorProg
import Derived.Test.YtjdldofgkhibnaaDoorBrg
import Derived.Test.YtjdldofgkhibnaaDoorRda
import Derived.Test.YtjdldofgkhibnaaDoorRub
import Derived.Test.YtjdldofgkhibnaaDoorRubr
import Derived.Test.YtjdldofgkhibnaaDoorSqw
import Derived.Test.YtjdldofgkhibnaaDoorSqa
import Derived.Test.YtjdldofgkhibnaaDoorSqb
import Derived.Test.YtjdldofgkhibnaaDoorSqf
import Derived.Test.YtjdldofgkhibnaaDoorSqt
set_option linter.unusedSimpArgs false
set_option linter.unusedVariables false
set_option maxRecDepth 100000
namespace Go.Proofs.YtjdldofgkhibnaaDoor
open Go.RowKit


theorem fewS_13 (s : Squ) : (fewS s).pl.length ≤ 13 := fewL_len _
theorem fewS_20 (s : Squ) : (fewS s).nm.size ≤ 20 := cut20_size _
theorem fewS_p20 (s : Squ) : ∀ x ∈ (fewS s).pl, x.size ≤ 20 := by
  intro x hx
  obtain ⟨y, _, rfl⟩ := List.mem_map.1 (show x ∈ (s.pl.take 13).map cut20 from hx)
  exact cut20_size _

def squadTexts_h (s : Squ) (B : RAd) : Hint := .specg rE [] [] [] (fun ads0 x ↦ Value.bool true) (.lit (ho 1 4 (.specg [] [0] [cS (Squ.pl s)] [RowT.mk (9 : TypeId) (1 : Nat) (List.length (fewL (Squ.pl s))) (cS (fewL (Squ.pl s)))] (fun ads0 ads ↦ sqV (fewS s) (RAd.mk (Prod.fst (nthA ads (0 : Nat))) (Prod.snd (nthA ads (0 : Nat))))) (ho 1 8 (.specg
 rE [2] [cS (fewL (Squ.pl s))] [] (fun ads0 x ↦ Value.tuple #[Value.string (txE (Squ.mk (Squ.nm (fewS s)) (fewL (Squ.pl s)) (Squ.ca (fewS s)) (Squ.ke (fewS s)))), .int .i64 (sqk (Squ.mk (Squ.nm (fewS s)) (fewL (Squ.pl s)) (Squ.ca (fewS s)) (Squ.ke (fewS s))))]) (ho 1 4 (.specg [] [2] [cS (fewL
 (Squ.pl s))] [] (fun ads0 x ↦ Value.tuple #[Value.string (txE (Squ.mk (Squ.nm (fewS s)) (fewL (Squ.pl s)) (Squ.ca (fewS s)) (Squ.ke (fewS s)))), .int .i64 (sqk (Squ.mk (Squ.nm (fewS s)) (fewL (Squ.pl s)) (Squ.ca (fewS s)) (Squ.ke (fewS s))))]) (.pl (.known true (.lit (.lit (.pl (.lit (.perm []
 .nil))))))))))))))
theorem squadTexts_x (s : Squ) (B : RAd) : wpG Tryd.prog rE ([(B.a, cS s.pl)]) 400 3 [sqV s B] (squadTexts_h s B) ([]) (fun _ => .bool true) = (∀ (b : Nat), (SpecG Tryd.prog rE [] (4 : FuncId) #[] [] fun x ↦ Value.bool true) /\ (∀ (e : Ex), e ∈ rE -> e ∈ rE) /\ e1 b 4 (cS (Squ.pl s) = cS (Squ.pl s) /\ (SpecG Tryd.prog [] [(RAd.a B, cS (Squ.pl s))] (5 : FuncId) #[sqV s B] [RowT.mk (9 : TypeId) (1 : Nat) (List.length (fewL (Squ.pl s))) (cS (fewL
 (Squ.pl s)))] fun ads ↦ sqV (fewS s) (RAd.mk (Prod.fst (nthA ads (0 : Nat))) (Prod.snd (nthA ads (0 : Nat))))) /\ (∀ (e : Ex), e ∈ [] -> e ∈ rE) /\ ∀ (a : Option Addr) (cap : Nat), AOK a (List.length (fewL (Squ.pl s))) -> List.length (fewL (Squ.pl s)) ≤ cap -> e2 b 4 (e1 b 4 (cS (fewL (Squ.pl s)) =
 cS (fewL (Squ.pl s)) /\ (SpecG Tryd.prog rE [(RAd.a (RAd.mk a cap), cS (Squ.pl (Squ.mk (Squ.nm (fewS s)) (fewL (Squ.pl s)) (Squ.ca (fewS s)) (Squ.ke (fewS s)))))] (6 : FuncId) #[sqV (Squ.mk (Squ.nm (fewS s)) (fewL (Squ.pl s)) (Squ.ca (fewS s)) (Squ.ke (fewS s))) (RAd.mk a cap)] [] fun x ↦ Value.tuple
 #[Value.string (txE (Squ.mk (Squ.nm (fewS s)) (fewL (Squ.pl s)) (Squ.ca (fewS s)) (Squ.ke (fewS s)))), .int .i64 (sqk (Squ.mk (Squ.nm (fewS s)) (fewL (Squ.pl s)) (Squ.ca (fewS s)) (Squ.ke (fewS s))))]) /\ (∀ (e : Ex), e ∈ rE -> e ∈ rE) /\ e1 b 4 (cS (fewL (Squ.pl s)) = cS (fewL (Squ.pl s)) /\ (SpecG
 Tryd.prog [] [(RAd.a (RAd.mk a cap), cS (Squ.pl (Squ.mk (Squ.nm (fewS s)) (fewL (Squ.pl s)) (Squ.ca (fewS s)) (Squ.ke (fewS s)))))] (7 : FuncId) #[sqV (Squ.mk (Squ.nm (fewS s)) (fewL (Squ.pl s)) (Squ.ca (fewS s)) (Squ.ke (fewS s))) (RAd.mk a cap)] [] fun x ↦ Value.tuple #[Value.string (txE (Squ.mk
 (Squ.nm (fewS s)) (fewL (Squ.pl s)) (Squ.ca (fewS s)) (Squ.ke (fewS s)))), .int .i64 (sqk (Squ.mk (Squ.nm (fewS s)) (fewL (Squ.pl s)) (Squ.ca (fewS s)) (Squ.ke (fewS s))))]) /\ (∀ (e : Ex), e ∈ [] -> e ∈ rE) /\ (ByteArray.toList (txE (Squ.mk (Squ.nm (fewS s)) (fewL (Squ.pl s)) (Squ.ca (fewS s))
 (Squ.ke (fewS s)))) == ByteArray.toList (txE (Squ.mk (Squ.nm (fewS s)) (fewL (Squ.pl s)) (Squ.ca (fewS s)) (Squ.ke (fewS s))))) = true /\ Value.bool (sqk (Squ.mk (Squ.nm (fewS s)) (fewL (Squ.pl s)) (Squ.ca (fewS s)) (Squ.ke (fewS s))) == sqk (Squ.mk (Squ.nm (fewS s)) (fewL (Squ.pl s)) (Squ.ca (fewS
 s)) (Squ.ke (fewS s)))) = Value.bool true))))) := by kernel_rfl
set_option maxHeartbeats 4000000 in
theorem squadTexts_sp (s : Squ) (B : RAd) (hB : AOK B.a s.pl.length) : SpecG Tryd.prog rE ([(B.a, cS s.pl)]) 3 #[sqV s B] ([]) (fun _ => .bool true) := by
  refine specG_of (h := squadTexts_h s B) (?_ : wpG Tryd.prog rE ([(B.a, cS s.pl)]) 400 3 [sqV s B] (squadTexts_h s B) ([]) (fun _ => .bool true))
  rw [squadTexts_x]
  (repeat' (first | with_reducible exact rfl | exact trivial | with_reducible assumption | (with_reducible exact awk_sp) | (with_reducible exact few6_sp _ _ hB) | (with_reducible exact ptx_sp _ _ (by assumption) (by first | assumption | exact fewS_pl _) (fewS_13 _) (fewS_20 _) (fewS_p20 _)) | (with_reducible exact qtx_sp _ _ (by assumption) (by first | assumption | exact fewS_pl _) (fewS_13 _) (fewS_20 _) (fewS_p20 _)) | exact exact cU_len _ | exact cI_len _ | exact cB_len _ | exact cU_one _ | exact cI_one _ | exact cB_one _ | exact (fun _ h => h) | exact (fun _ h => (List.not_mem_nil h).elim) | (with_reducible refine e1_in ?_) | (with_reducible refine e2_in ?_) | (with_reducible refine lx_in (Nat.le_of_ble_eq_true rfl) ?_) | (with_reducible refine rqx_rf ?_) | (with_reducible refine rqx_in ?_ ?_ ?_) | (with_reducible apply And.intro) | (with_reducible intro _)))
  all_goals (first | (simp only [*, Bool.and_true, Bool.true_and, Bool.and_false, Bool.false_and, Bool.or_true, Bool.true_or, Bool.or_false, Bool.false_or, Bool.not_true, Bool.not_false, cond_true, cond_false]; done) | (simp; done) | (split <;> omega) | trace_state)
end Go.Proofs.YtjdldofgkhibnaaDoor
