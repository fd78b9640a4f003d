/- Layer 6 (squad): parts of the laws: few. -/
import Derived.Test.YtjdldofgkhibnaaDoorVz
import Derived.KernelRfl
import Derived.Test.YtjdldofgkhibnaaDoorProg
import Derived.Test.YtjdldofgkhibnaaDoorRda
import Derived.Test.YtjdldofgkhibnaaDoorRub
import Derived.Test.YtjdldofgkhibnaaDoorRubr
import Derived.Test.YtjdldofgkhibnaaDoorSqw
import Derived.Test.YtjdldofgkhibnaaDoorSqa
set_option linter.unusedSimpArgs false
set_option linter.unusedVariables false
set_option maxRecDepth 100000
namespace Go.Proofs.YtjdldofgkhibnaaDoor
open Go.RowKit


def fewS (s : Squ) : Squ := ⟨cut20 s.nm, fewL s.pl, s.ca, s.ke⟩
structure PS where
  i : Nat
  a : Option Addr
  cap : Nat
  l : List ByteArray
def fwI (s : Squ) (x : PS) : Prop := x.i ≤ s.pl.length ∧ x.i ≤ 13 ∧ x.l = (s.pl.take x.i).map cut20
@[reducible] def fwL (s : Squ) : LoopR := ⟨PS, fun x => [(4, .int .i64 x.i), (3, .slice x.a x.l.length x.cap)], [3], fun x => [⟨0, cS x.l, 9, some ⟨x.a, x.l.length, x.cap, 1⟩⟩], fwI s, fun x => s.pl.length - x.i, [(9, 1)]⟩
theorem fw_len {s : Squ} {x : PS} (h : fwI s x) : x.l.length ≤ 13 := by rw [h.2.2, List.length_map, List.length_take]; have := h.2.1; omega
theorem fw_end {s : Squ} {x : PS} (h : fwI s x) (e : ¬ (x.i < s.pl.length ∧ x.i < 13)) : x.l = fewL s.pl := by
  have h1 := h.1
  have h2 := h.2.1
  rw [h.2.2]
  unfold fewL
  by_cases c : x.i = 13
  · rw [c]
  · have : x.i = s.pl.length := by omega
    rw [this, List.take_length, List.take_of_length_le (by omega)]
theorem fw_step {s : Squ} {x : PS} (h : fwI s x) (h1 : x.i < s.pl.length) (h2 : x.i < 13) (a : Option Addr) (c : Nat) : fwI s ⟨x.i + 1, a, c, x.l ++ [cut20 (gS s.pl x.i)]⟩ :=
  ⟨h1, h2, by show x.l ++ _ = _; rw [h.2.2, fewL_step h1]⟩
@[reducible] def nxF {s : Squ} {x : PS} (_ : fwI s x) (a : Option Addr) (c : Nat) : PS := ⟨x.i + 1, a, c, x.l ++ [cut20 (gS s.pl x.i)]⟩
theorem fewS_pl (s : Squ) : (fewS s).pl.length ≤ 1000000 := Nat.le_trans (fewL_len _) (by decide)
theorem fewS_nm (s : Squ) : (fewS s).nm.size ≤ 1000000 := Nat.le_trans (cut20_size _) (by decide)
theorem fewS_sz (s : Squ) : ∀ x ∈ (fewS s).pl, x.size ≤ 1000000 := by
  intro x hx
  obtain ⟨y, _, rfl⟩ := List.mem_map.1 (show x ∈ (s.pl.take 13).map cut20 from hx)
  exact Nat.le_trans (cut20_size _) (by decide)

def few6_h (s : Squ) (B : RAd) : Hint := ho 1 2 (.pl (.pl (.ix (.ob 1 (.inv (fwL s) fun x0 ↦ .cut [((21 : Nat), .bool (decide ((↑(PS.i x0) : Int) < (↑(List.length (Squ.pl s)) : Int)) && decide ((↑(PS.i x0) : Int) < (13 : Int))))] (.ob 1 (.pl (.split (.lit (.lit .nil)) (.lit (.lit .nil))))) (.split (.drawf [14] [0, 1, 2] (.take 0 (.take 1
 (.take 2 (.ob 1 (.take 3 (.take 4 (.ix (.take 5 (.lst (0 : Nat) (Int.toNat (↑(PS.i x0) : Int) * (1 : Nat)) (Value.string (gS (Squ.pl s) (Int.toNat (↑(PS.i x0) : Int)))) (.take 6 (.take 7 (.ob 1 (.take 8 (.take 9 (.ix (.take 10 (.lst (0 : Nat) (Int.toNat (↑(PS.i x0) : Int) * (1 : Nat)) (Value.string
 (gS (Squ.pl s) (Int.toNat (↑(PS.i x0) : Int)))) (.take 11 (.pl (.take 12 (.pl (.take 13 (.ix (.take 14 (.pl (.br (.app (3 : Nat) (4 : Nat) (.take 16 (.perm [3] .nil))) .nil))))))))))))))))))))))))))) (ho 1 5 (ho 2 8 (.perm [3] .nil)))))))))
theorem few6_x (s : Squ) (B : RAd) : wpG Tryd.prog [] ([(B.a, cS s.pl)]) 400 5 [sqV s B] (few6_h s B) ([⟨9, 1, (fewL s.pl).length, cS (fewL s.pl)⟩]) (fun ads => sqV (fewS s) ⟨(nthA ads 0).1, (nthA ads 0).2⟩) = (∀ (b b_1 : Nat), b = b /\ b = b /\ (((0 : Int) ≤ if (20 : Int) < (↑(ByteArray.size (Squ.nm s)) : Int) then (20 : Int) else (↑(ByteArray.size (Squ.nm s)) : Int)) /\ (if (20 : Int) < (↑(ByteArray.size (Squ.nm s)) : Int) then (20 : Int) else (↑(ByteArray.size (Squ.nm s)) : Int)) ≤ (↑(ByteArray.size
 (Squ.nm s)) : Int)) /\ b = b /\ True /\ (∃ x, fwI s x /\ Value.int .i64 0 = Value.int .i64 (↑(PS.i x) : Int) /\ Value.slice none (0 : Nat) (0 : Nat) = Value.slice (PS.a x) (List.length (PS.l x)) (PS.cap x) /\ ((0 : Nat) = (0 : Nat) /\ [] = cS (PS.l x) /\ (9 : Nat) = (9 : Nat) /\ some (Ow.mk none (0
 : Nat) (0 : Nat) (1 : Nat)) = some (Ow.mk (PS.a x) (List.length (PS.l x)) (PS.cap x) (1 : Nat))) /\ True) /\ ∀ (x0 : PS), fwI s x0 -> ∀ (junk : Nat -> Value), (b = b /\ (decide ((↑(PS.i x0) : Int) < (↑(List.length (Squ.pl s)) : Int)) = true -> Value.bool (decide ((↑(PS.i x0) : Int) < (13 : Int))) =
 Value.bool (decide ((↑(PS.i x0) : Int) < (↑(List.length (Squ.pl s)) : Int)) && decide ((↑(PS.i x0) : Int) < (13 : Int))) /\ True) /\ (decide ((↑(PS.i x0) : Int) < (↑(List.length (Squ.pl s)) : Int)) = false -> Value.bool false = Value.bool (decide ((↑(PS.i x0) : Int) < (↑(List.length (Squ.pl s)) :
 Int)) && decide ((↑(PS.i x0) : Int) < (13 : Int))) /\ True)) /\ ∀ (junk : Nat -> Value), ((decide ((↑(PS.i x0) : Int) < (↑(List.length (Squ.pl s)) : Int)) && decide ((↑(PS.i x0) : Int) < (13 : Int))) = true -> b = b /\ (((0 : Int) ≤ (↑(PS.i x0) : Int) /\ (↑(PS.i x0) : Int) < (↑(List.length (Squ.pl
 s)) : Int)) /\ AOK (RAd.a B) (List.length (Squ.pl s))) /\ bk (RAd.a B) = bk (RAd.a B) /\ ofs (RAd.a B) + Int.toNat (↑(PS.i x0) : Int) * (1 : Nat) = ofs (RAd.a B) + Int.toNat (↑(PS.i x0) : Int) * (1 : Nat) /\ lgo (cS (Squ.pl s)) (Int.toNat (↑(PS.i x0) : Int) * (1 : Nat)) = some (Value.string (gS
 (Squ.pl s) (Int.toNat (↑(PS.i x0) : Int)))) /\ b = b /\ (((0 : Int) ≤ (↑(PS.i x0) : Int) /\ (↑(PS.i x0) : Int) < (↑(List.length (Squ.pl s)) : Int)) /\ AOK (RAd.a B) (List.length (Squ.pl s))) /\ bk (RAd.a B) = bk (RAd.a B) /\ ofs (RAd.a B) + Int.toNat (↑(PS.i x0) : Int) * (1 : Nat) = ofs (RAd.a B) +
 Int.toNat (↑(PS.i x0) : Int) * (1 : Nat) /\ lgo (cS (Squ.pl s)) (Int.toNat (↑(PS.i x0) : Int) * (1 : Nat)) = some (Value.string (gS (Squ.pl s) (Int.toNat (↑(PS.i x0) : Int)))) /\ (((0 : Int) ≤ if (20 : Int) < (↑(ByteArray.size (gS (Squ.pl s) (Int.toNat (↑(PS.i x0) : Int)))) : Int) then (20 : Int)
 else (↑(ByteArray.size (gS (Squ.pl s) (Int.toNat (↑(PS.i x0) : Int)))) : Int)) /\ (if (20 : Int) < (↑(ByteArray.size (gS (Squ.pl s) (Int.toNat (↑(PS.i x0) : Int)))) : Int) then (20 : Int) else (↑(ByteArray.size (gS (Squ.pl s) (Int.toNat (↑(PS.i x0) : Int)))) : Int)) ≤ (↑(ByteArray.size (gS (Squ.pl
 s) (Int.toNat (↑(PS.i x0) : Int)))) : Int)) /\ ((∀ (b : Nat), True) /\ True) /\ ∀ (b : Nat), (True /\ True) /\ (PS.a x0 = PS.a x0 /\ List.length (PS.l x0) = List.length (PS.l x0) /\ PS.cap x0 = PS.cap x0 /\ b = b /\ (List.length (PS.l x0) + (1 : Nat)) * (17 : Nat) ≤ (140737488355328 : Nat) /\ ∀ (g
 cap : Nat), ∃ y, fwI s y /\ List.length (Squ.pl s) - PS.i y < List.length (Squ.pl s) - PS.i x0 /\ Value.int .i64 (IntKind.i64.wrap ((↑(PS.i x0) : Int) + (1 : Int))) = Value.int .i64 (↑(PS.i y) : Int) /\ Value.slice (some (Addr.mk g (0 : Nat) none)) (List.length (PS.l x0) + (1 : Nat)) cap =
 Value.slice (PS.a y) (List.length (PS.l y)) (PS.cap y) /\ ((0 : Nat) = (0 : Nat) /\ lapp (cS (PS.l x0)) [Value.string (ByteArray.extract (gS (Squ.pl s) (Int.toNat (↑(PS.i x0) : Int))) (0 : Nat) (Int.toNat (if (20 : Int) < (↑(ByteArray.size (gS (Squ.pl s) (Int.toNat (↑(PS.i x0) : Int)))) : Int) then
 (20 : Int) else (↑(ByteArray.size (gS (Squ.pl s) (Int.toNat (↑(PS.i x0) : Int)))) : Int))))] = cS (PS.l y) /\ (9 : Nat) = (9 : Nat) /\ some (Ow.mk (some (Addr.mk g (0 : Nat) none)) (List.length (PS.l x0) + (1 : Nat)) cap (1 : Nat)) = some (Ow.mk (PS.a y) (List.length (PS.l y)) (PS.cap y) (1 : Nat)))
 /\ True) /\ True) /\ ((decide ((↑(PS.i x0) : Int) < (↑(List.length (Squ.pl s)) : Int)) && decide ((↑(PS.i x0) : Int) < (13 : Int))) = false -> b = b /\ True /\ e1 b 4 (e2 b_1 4 (e1 b_1 4 ((9 : Nat) = (9 : Nat) /\ (1 : Nat) = (1 : Nat) /\ List.length (PS.l x0) = List.length (fewL (Squ.pl s)) /\ cS
 (PS.l x0) = cS (fewL (Squ.pl s)) /\ Value.agg (Array.mk [.string (ByteArray.extract (Squ.nm s) (0 : Nat) (Int.toNat (if (20 : Int) < (↑(ByteArray.size (Squ.nm s)) : Int) then (20 : Int) else (↑(ByteArray.size (Squ.nm s)) : Int)))), .slice (PS.a x0) (List.length (PS.l x0)) (PS.cap x0), .int .i64
 (Squ.ca s), .int .i64 (Squ.ke s)]) = Value.agg (Array.mk [.string (ByteArray.extract (Squ.nm s) (0 : Nat) (Int.toNat (if (20 : Int) < (↑(ByteArray.size (Squ.nm s)) : Int) then (20 : Int) else (↑(ByteArray.size (Squ.nm s)) : Int)))), .slice (PS.a x0) (List.length (fewL (Squ.pl s))) (PS.cap x0), .int
 .i64 (Squ.ca s), .int .i64 (Squ.ke s)])))))) := by kernel_rfl
set_option maxHeartbeats 4000000 in
theorem few6_sp (s : Squ) (B : RAd) (hB : AOK B.a s.pl.length) : SpecG Tryd.prog [] ([(B.a, cS s.pl)]) 5 #[sqV s B] ([⟨9, 1, (fewL s.pl).length, cS (fewL s.pl)⟩]) (fun ads => sqV (fewS s) ⟨(nthA ads 0).1, (nthA ads 0).2⟩) := by
  refine specG_of (h := few6_h s B) (?_ : wpG Tryd.prog [] ([(B.a, cS s.pl)]) 400 5 [sqV s B] (few6_h s B) ([⟨9, 1, (fewL s.pl).length, cS (fewL s.pl)⟩]) (fun ads => sqV (fewS s) ⟨(nthA ads 0).1, (nthA ads 0).2⟩))
  rw [few6_x]
  (repeat' (first | with_reducible exact rfl | exact trivial | with_reducible assumption | exact cU_len _ | exact cI_len _ | exact cB_len _ | exact cU_one _ | exact cI_one _ | exact cB_one _ | exact (fun _ h => h) | exact (fun _ h => (List.not_mem_nil h).elim) | exact cS_len _ | exact cS_one _ | (with_reducible refine e1_in ?_) | (with_reducible refine e2_in ?_) | (with_reducible refine lx_in (Nat.le_of_ble_eq_true rfl) ?_) | (with_reducible refine rqx_rf ?_) | (with_reducible refine rqx_in ?_ ?_ ?_) | (with_reducible apply And.intro) | (with_reducible intro _)))
  all_goals (try simp only [Int.toNat_natCast] at *)
  all_goals first
    | (simp only [*, Bool.and_true, Bool.true_and, Bool.and_false, Bool.false_and, Bool.or_true, Bool.true_or, Bool.or_false, Bool.false_or, Bool.not_true, Bool.not_false, cond_true, cond_false]; done)
    | exact ⟨⟨0, none, 0, []⟩, ⟨Nat.zero_le _, Nat.zero_le _, rfl⟩, rfl, rfl, ⟨(by first | exact rfl | exact trivial), rfl, (by first | exact rfl | exact trivial), rfl⟩, trivial⟩
    | (split <;> omega)
    | (have hx := ‹fwI s _›; have hf := ‹(decide _ && decide _) = true›; simp only [Bool.and_eq_true, decide_eq_true_eq] at hf; have h9 := fw_len hx; have h8 := hx.2.1; first
        | omega
        | (refine cS_get ?_; omega)
        | (split <;> omega)
        | (rename_i g cap; exact ⟨nxF hx (some ⟨g, 0, none⟩) cap, fw_step hx (by omega) (by omega) _ _, (by show _ - (_ + 1) < _; omega), (by rw [IntWalk.i64_in _ (by omega)]; rfl), (by simp), ⟨(by first | exact rfl | exact trivial), (by rw [cS_app]; rfl), (by first | exact rfl | exact trivial), (by simp)⟩, trivial⟩))
    | (have hx := ‹fwI s _›; have hf := ‹(decide _ && decide _) = false›; simp only [Bool.and_eq_false_iff, decide_eq_false_iff_not] at hf; have e := fw_end hx (by omega); rw [e])
    | (have hx := ‹fwI s _›; have hf := ‹(decide _ && decide _) = false›; simp only [Bool.and_eq_false_iff, decide_eq_false_iff_not] at hf; have e := fw_end hx (by omega); rw [e]; rfl)
    | trace_state
end Go.Proofs.YtjdldofgkhibnaaDoor
