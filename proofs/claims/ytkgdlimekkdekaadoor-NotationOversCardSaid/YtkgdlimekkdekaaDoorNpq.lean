/- Layer 7 (notation): the parts of a string between blanks, and deliveries of symbols, of the reference. -/
import Derived.Test.YtkgdlimekkdekaaDoorVz
import Derived.KernelRfl
import Derived.Test.YtkgdlimekkdekaaDoorProg
import Derived.Test.YtkgdlimekkdekaaDoorBrd
import Derived.Test.YtkgdlimekkdekaaDoorNoK
import Derived.Test.YtkgdlimekkdekaaDoorNoX
import Derived.Test.YtkgdlimekkdekaaDoorSpc
import Derived.Test.YtkgdlimekkdekaaDoorSqw
import Derived.Test.YtkgdlimekkdekaaDoorNpa
import Derived.Test.YtkgdlimekkdekaaDoorNpb
import Derived.Test.YtkgdlimekkdekaaDoorNpo
set_option linter.unusedSimpArgs false
set_option linter.unusedVariables false
set_option maxRecDepth 100000
namespace Go.Proofs.YtkgdlimekkdekaaDoor
open Go.RowKit


/-- The parts between blanks; the empty string has none. -/
def flS (s : ByteArray) : List ByteArray := if s.size = 0 then [] else spB s
structure FX where
  i : Nat
  fr : Nat
  a : Option Addr
  cap : Nat
  l : List ByteArray
def flI (s : ByteArray) (x : FX) : Prop := (x.i ≤ s.size ∧ x.fr ≤ x.i ∧ x.l.length ≤ x.i ∧ x.l ++ (Lib.split (s.data.toList.drop x.fr) [32]).map str = spB s ∧ ∀ j, x.fr ≤ j → j < x.i → ¬ chI s j = 32) ∨ (x.i = s.size + 1 ∧ x.l = spB s)
@[reducible] def flW (s : ByteArray) : LoopR := ⟨FX, fun x => [(5, .int .i64 x.i), (4, .int .i64 x.fr), (3, .slice x.a x.l.length x.cap)], [0], fun x => [⟨0, cS x.l, 9, some ⟨x.a, x.l.length, x.cap, 1⟩⟩], flI s, fun x => s.size + 1 - x.i, [(9, 1)]⟩
theorem ls_len (s : ByteArray) : s.data.toList.length = s.size := by rw [Array.length_toList]; rfl
theorem fl_0 (s : ByteArray) : flI s ⟨0, 0, none, 0, []⟩ := by
  refine Or.inl ⟨Nat.zero_le _, Nat.le_refl _, Nat.le_refl _, ?_, fun j h1 h2 => absurd h2 (Nat.not_lt_zero _)⟩
  show [] ++ (Lib.split (s.data.toList.drop 0) [32]).map str = spB s
  rw [List.drop_zero, List.nil_append]
  have := spB_data s.data.toList
  rw [str_of] at this
  exact this.symm
theorem chI_at {s : ByteArray} {j : Nat} (h : j < s.size) : chI s j = ((s.data.toList[j]'(by rw [ls_len]; exact h)).toNat : Int) := by
  unfold chI
  have : s[j]? = some (s.data.toList[j]'(by rw [ls_len]; exact h)) := by
    rw [getElem?_pos s j h]
    exact congrArg some (by rw [Array.getElem_toList]; rfl)
  rw [this]
  rfl
theorem ex_str (s : ByteArray) (a b : Nat) : s.extract a b = str ((s.data.toList.drop a).take (b - a)) := by
  have := str_ext s.data.toList a b
  rw [str_of] at this
  exact this
theorem nb_part {s : ByteArray} {a b : Nat} (hb : b ≤ s.size) (h : ∀ j, a ≤ j → j < b → ¬ chI s j = 32) : ∀ c ∈ (s.data.toList.drop a).take (b - a), c.toNat ≠ 32 := by
  intro c hc
  obtain ⟨k, hk⟩ := List.getElem?_of_mem hc
  rw [List.getElem?_take] at hk
  split at hk
  · rename_i hlt
    rw [List.getElem?_drop] at hk
    have hlen : a + k < s.size := by omega
    have h1 := h (a + k) (by omega) (by omega)
    rw [chI_at hlen] at h1
    rw [List.getElem?_eq_getElem (by rw [ls_len]; exact hlen)] at hk
    injection hk with hk
    rw [hk] at h1
    intro e
    rw [e] at h1
    exact h1 rfl
  · cases hk
theorem fl_in {s : ByteArray} {x : FX} (h : flI s x) (hi : (x.i : Int) ≤ s.size) : x.i ≤ s.size ∧ x.fr ≤ x.i ∧ x.l.length ≤ x.i ∧ x.l ++ (Lib.split (s.data.toList.drop x.fr) [32]).map str = spB s ∧ ∀ j, x.fr ≤ j → j < x.i → ¬ chI s j = 32 := by
  rcases h with h | h
  · exact h
  · omega
theorem fl_out {s : ByteArray} {x : FX} (h : flI s x) (hi : ¬ (x.i : Int) ≤ s.size) : x.l = spB s := by
  rcases h with h | h
  · omega
  · exact h.2
/-- At the end, or at a blank: the part is complete. -/
theorem fl_cut {s : ByteArray} {x : FX} (h : flI s x) (hi : (x.i : Int) ≤ s.size) (hc : x.i = s.size ∨ (x.i < s.size ∧ chI s x.i = 32)) (a : Option Addr) (c : Nat) : flI s ⟨x.i + 1, x.i + 1, a, c, x.l ++ [s.extract x.fr x.i]⟩ := by
  obtain ⟨h1, h2, h3, h4, h5⟩ := fl_in h hi
  have hn := nb_part h1 h5
  rcases hc with hc | ⟨hlt, hc⟩
  · right
    refine ⟨by rw [hc], ?_⟩
    show x.l ++ [s.extract x.fr x.i] = spB s
    have e : (s.data.toList.drop x.fr).take (x.i - x.fr) = s.data.toList.drop x.fr := List.take_of_length_le (by rw [List.length_drop, ls_len]; omega)
    rw [e] at hn
    rw [← h4, bp_word _ hn, ex_str, e]
    rfl
  · left
    refine ⟨hlt, Nat.le_refl _, by show (x.l ++ _).length ≤ _; rw [List.length_append]; simp; omega, ?_, fun j p q => absurd (show j < x.i + 1 from q) (by have : x.i + 1 ≤ j := p; omega)⟩
    show (x.l ++ [s.extract x.fr x.i]) ++ (Lib.split (s.data.toList.drop (x.i + 1)) [32]).map str = spB s
    have hb : x.i < s.data.toList.length := by rw [ls_len]; exact hlt
    have e : s.data.toList.drop x.fr = (s.data.toList.drop x.fr).take (x.i - x.fr) ++ 32 :: s.data.toList.drop (x.i + 1) := by
      have e1 := (List.take_append_drop (x.i - x.fr) (s.data.toList.drop x.fr)).symm
      rw [List.drop_drop, show x.fr + (x.i - x.fr) = x.i by omega, List.drop_eq_getElem_cons hb] at e1
      have e2 : s.data.toList[x.i] = 32 := by
        rw [chI_at hlt] at hc
        apply UInt8.toNat_inj.1
        have : ((32 : UInt8).toNat : Int) = 32 := rfl
        omega
      rw [e2] at e1
      exact e1
    rw [← h4, e, bp_app _ _ hn, ex_str, List.map_cons, List.append_assoc]
    rfl
theorem fl_go {s : ByteArray} {x : FX} (h : flI s x) (hi : (x.i : Int) ≤ s.size) (h1 : ¬ x.i = s.size) (h2 : ¬ chI s x.i = 32) : flI s ⟨x.i + 1, x.fr, x.a, x.cap, x.l⟩ := by
  obtain ⟨k1, k2, k3, k4, k5⟩ := fl_in h hi
  refine Or.inl ⟨by show x.i + 1 ≤ _; omega, by show x.fr ≤ x.i + 1; omega, by show x.l.length ≤ x.i + 1; omega, k4, fun j a b => ?_⟩
  by_cases e : j = x.i
  · rw [e]; exact h2
  · exact k5 j a (by have : j < x.i + 1 := b; omega)
theorem fl_len {s : ByteArray} {x : FX} (h : flI s x) (hi : (x.i : Int) ≤ s.size) : x.l.length ≤ s.size ∧ x.fr ≤ x.i ∧ x.i ≤ s.size := by
  obtain ⟨k1, k2, k3, _⟩ := fl_in h hi
  exact ⟨by omega, k2, k1⟩
theorem fl_e {s : ByteArray} (h : s.size = 0) : flS s = [] := by unfold flS; rw [if_pos h]
theorem fl_n {s : ByteArray} (h : ¬ s.size = 0) : flS s = spB s := by unfold flS; rw [if_neg h]


theorem ei_t {a b : Nat} (h : ((a : Int) == (b : Int)) = true) : a = b := by
  rw [beq_iff_eq] at h
  exact Int.ofNat.inj h
theorem ei_f {a b : Nat} (h : ((a : Int) == (b : Int)) = false) : ¬ a = b := fun e => by rw [e] at h; simp at h
theorem ci_t {a : Int} (h : (a == 32) = true) : a = 32 := by simpa using h
theorem ci_f {a : Int} (h : (a == 32) = false) : ¬ a = 32 := by simpa using h
@[reducible] def nxC {s : ByteArray} {x : FX} (_ : flI s x) (a : Option Addr) (c : Nat) : FX := ⟨x.i + 1, x.i + 1, a, c, x.l ++ [s.extract x.fr x.i]⟩
@[reducible] def nxG {s : ByteArray} {x : FX} (_ : flI s x) : FX := ⟨x.i + 1, x.fr, x.a, x.cap, x.l⟩

def flr_h (s : ByteArray) : Hint := .pl (.split (.perm [1000] .nil) (.inv (flW s) fun x0 ↦ .pl (.split (.pl (.pl (.split (hl 5 (.ix (.app (0 : Nat) (1 : Nat) (.perm [0] .nil)))) (.lit (.lit (.ix (.lit (.pl (.lit (.split (.ix (.app (0 : Nat) (1 : Nat) (.perm [0] .nil))) (.perm [0] .nil))))))))))) (.perm [0] .nil))))
theorem flr_x (s : ByteArray) : wpG Tryd.prog [] ([]) 400 23 [.string s] (flr_h s) ([⟨9, 1, (flS s).length, cS (flS s)⟩]) (fun ads => .slice (nthA ads 0).1 (flS s).length (nthA ads 0).2) = (((ByteArray.toList s == ByteArray.toList (ByteArray.mk (Array.mk []))) = true -> List.length (flS s) = (0 : Nat) /\ cS (flS s) = [] /\ (1 : Nat) ≤ (1 : Nat) /\ Value.slice none (0 : Nat) (0 : Nat) = Value.slice none (List.length (flS s)) (0 : Nat)) /\ ((ByteArray.toList s == ByteArray.toList
 (ByteArray.mk (Array.mk []))) = false -> (∃ x, flI s x /\ Value.int .i64 0 = Value.int .i64 (↑(FX.i x) : Int) /\ Value.int .i64 0 = Value.int .i64 (↑(FX.fr x) : Int) /\ Value.slice none (0 : Nat) (0 : Nat) = Value.slice (FX.a x) (List.length (FX.l x)) (FX.cap x) /\ ((0 : Nat) = (0 : Nat) /\ [] = cS
 (FX.l x) /\ (9 : Nat) = (9 : Nat) /\ some (Ow.mk none (0 : Nat) (0 : Nat) (1 : Nat)) = some (Ow.mk (FX.a x) (List.length (FX.l x)) (FX.cap x) (1 : Nat))) /\ True) /\ ∀ (x0 : FX), flI s x0 -> ∀ (junk : Nat -> Value), (decide ((↑(FX.i x0) : Int) ≤ (↑(ByteArray.size s) : Int)) = true -> (((↑(FX.i x0) :
 Int) == (↑(ByteArray.size s) : Int)) = true -> ((0 : Int) ≤ (↑(FX.fr x0) : Int) /\ (↑(FX.fr x0) : Int) ≤ (↑(FX.i x0) : Int) /\ (↑(FX.i x0) : Int) ≤ (↑(ByteArray.size s) : Int)) /\ ∀ (b : Nat), FX.a x0 = FX.a x0 /\ List.length (FX.l x0) = List.length (FX.l x0) /\ FX.cap x0 = FX.cap x0 /\ b = b /\
 (List.length (FX.l x0) + (1 : Nat)) * (17 : Nat) ≤ (140737488355328 : Nat) /\ ∀ (g cap : Nat), ∃ y, flI s y /\ ByteArray.size s + (1 : Nat) - FX.i y < ByteArray.size s + (1 : Nat) - FX.i x0 /\ Value.int .i64 (IntKind.i64.wrap ((↑(FX.i x0) : Int) + (1 : Int))) = Value.int .i64 (↑(FX.i y) : Int) /\
 Value.int .i64 (IntKind.i64.wrap ((↑(FX.i x0) : Int) + (1 : Int))) = Value.int .i64 (↑(FX.fr y) : Int) /\ Value.slice (some (Addr.mk g (0 : Nat) none)) (List.length (FX.l x0) + (1 : Nat)) cap = Value.slice (FX.a y) (List.length (FX.l y)) (FX.cap y) /\ ((0 : Nat) = (0 : Nat) /\ lapp (cS (FX.l x0))
 [Value.string (ByteArray.extract s (Int.toNat (↑(FX.fr x0) : Int)) (Int.toNat (↑(FX.i x0) : Int)))] = cS (FX.l y) /\ (9 : Nat) = (9 : Nat) /\ some (Ow.mk (some (Addr.mk g (0 : Nat) none)) (List.length (FX.l x0) + (1 : Nat)) cap (1 : Nat)) = some (Ow.mk (FX.a y) (List.length (FX.l y)) (FX.cap y) (1 :
 Nat))) /\ True) /\ (((↑(FX.i x0) : Int) == (↑(ByteArray.size s) : Int)) = false -> ((0 : Int) ≤ (↑(FX.i x0) : Int) /\ (↑(FX.i x0) : Int) < (↑(ByteArray.size s) : Int)) /\ ((chI s (Int.toNat (↑(FX.i x0) : Int)) == 32) = true -> ((0 : Int) ≤ (↑(FX.fr x0) : Int) /\ (↑(FX.fr x0) : Int) ≤ (↑(FX.i x0) :
 Int) /\ (↑(FX.i x0) : Int) ≤ (↑(ByteArray.size s) : Int)) /\ ∀ (b : Nat), FX.a x0 = FX.a x0 /\ List.length (FX.l x0) = List.length (FX.l x0) /\ FX.cap x0 = FX.cap x0 /\ b = b /\ (List.length (FX.l x0) + (1 : Nat)) * (17 : Nat) ≤ (140737488355328 : Nat) /\ ∀ (g cap : Nat), ∃ y, flI s y /\
 ByteArray.size s + (1 : Nat) - FX.i y < ByteArray.size s + (1 : Nat) - FX.i x0 /\ Value.int .i64 (IntKind.i64.wrap ((↑(FX.i x0) : Int) + (1 : Int))) = Value.int .i64 (↑(FX.i y) : Int) /\ Value.int .i64 (IntKind.i64.wrap ((↑(FX.i x0) : Int) + (1 : Int))) = Value.int .i64 (↑(FX.fr y) : Int) /\
 Value.slice (some (Addr.mk g (0 : Nat) none)) (List.length (FX.l x0) + (1 : Nat)) cap = Value.slice (FX.a y) (List.length (FX.l y)) (FX.cap y) /\ ((0 : Nat) = (0 : Nat) /\ lapp (cS (FX.l x0)) [Value.string (ByteArray.extract s (Int.toNat (↑(FX.fr x0) : Int)) (Int.toNat (↑(FX.i x0) : Int)))] = cS
 (FX.l y) /\ (9 : Nat) = (9 : Nat) /\ some (Ow.mk (some (Addr.mk g (0 : Nat) none)) (List.length (FX.l x0) + (1 : Nat)) cap (1 : Nat)) = some (Ow.mk (FX.a y) (List.length (FX.l y)) (FX.cap y) (1 : Nat))) /\ True) /\ ((chI s (Int.toNat (↑(FX.i x0) : Int)) == 32) = false -> ∃ y, flI s y /\
 ByteArray.size s + (1 : Nat) - FX.i y < ByteArray.size s + (1 : Nat) - FX.i x0 /\ Value.int .i64 (IntKind.i64.wrap ((↑(FX.i x0) : Int) + (1 : Int))) = Value.int .i64 (↑(FX.i y) : Int) /\ Value.int .i64 (↑(FX.fr x0) : Int) = Value.int .i64 (↑(FX.fr y) : Int) /\ Value.slice (FX.a x0) (List.length
 (FX.l x0)) (FX.cap x0) = Value.slice (FX.a y) (List.length (FX.l y)) (FX.cap y) /\ ((0 : Nat) = (0 : Nat) /\ cS (FX.l x0) = cS (FX.l y) /\ (9 : Nat) = (9 : Nat) /\ some (Ow.mk (FX.a x0) (List.length (FX.l x0)) (FX.cap x0) (1 : Nat)) = some (Ow.mk (FX.a y) (List.length (FX.l y)) (FX.cap y) (1 :
 Nat))) /\ True))) /\ (decide ((↑(FX.i x0) : Int) ≤ (↑(ByteArray.size s) : Int)) = false -> (9 : Nat) = (9 : Nat) /\ (1 : Nat) = (1 : Nat) /\ List.length (FX.l x0) = List.length (flS s) /\ cS (FX.l x0) = cS (flS s) /\ Value.slice (FX.a x0) (List.length (FX.l x0)) (FX.cap x0) = Value.slice (FX.a x0)
 (List.length (flS s)) (FX.cap x0)))) := by kernel_rfl
set_option maxHeartbeats 4000000 in
theorem flr_sp (s : ByteArray) (hs : s.size ≤ 1000000) : SpecG Tryd.prog [] ([]) 23 #[.string s] ([⟨9, 1, (flS s).length, cS (flS s)⟩]) (fun ads => .slice (nthA ads 0).1 (flS s).length (nthA ads 0).2) := by
  refine specG_of (h := flr_h s) (?_ : wpG Tryd.prog [] ([]) 400 23 [.string s] (flr_h s) ([⟨9, 1, (flS s).length, cS (flS s)⟩]) (fun ads => .slice (nthA ads 0).1 (flS s).length (nthA ads 0).2))
  rw [flr_x]
  simp only [em_s0]
  (repeat' (first | with_reducible exact rfl | exact trivial | with_reducible assumption | exact cU_len _ | exact cI_len _ | exact cB_len _ | exact cU_one _ | exact cI_one _ | exact cB_one _ | exact (fun _ h => h) | exact (fun _ h => (List.not_mem_nil h).elim) | exact cS_len _ | exact cS_one _ | exact cD_len _ | exact cD_one _ | exact (fun _ h => h) | (with_reducible refine e1_in ?_) | (with_reducible refine e2_in ?_) | (with_reducible refine lx_in (Nat.le_of_ble_eq_true rfl) ?_) | (with_reducible refine rqx_rf ?_) | (with_reducible refine rqx_in ?_ ?_ ?_) | (with_reducible apply And.intro) | (with_reducible intro _)))
  all_goals (try simp only [Int.toNat_natCast] at *)
  all_goals first
    | (have h0 := of_decide_eq_true ‹decide (s.size = 0) = true›; first | (rw [fl_e h0]; done) | (rw [fl_e h0]; rfl) | omega)
    | (have h0 := of_decide_eq_false ‹decide (s.size = 0) = false›; first
        | exact ⟨⟨0, 0, none, 0, []⟩, fl_0 s, rfl, rfl, rfl, ⟨(by first | exact rfl | exact trivial), rfl, (by first | exact rfl | exact trivial), rfl⟩, trivial⟩
        | (have hx := ‹flI _ _›; have hf := of_decide_eq_true ‹decide (((_ : Nat) : Int) ≤ (s.size : Int)) = true›; have hl := fl_len hx hf; first
            | omega
            | (have hne := ei_f ‹(((_ : Nat) : Int) == (s.size : Int)) = false›; omega)
            | (have he := ei_t ‹(((_ : Nat) : Int) == (s.size : Int)) = true›; rename_i g cap; exact ⟨nxC hx (some ⟨g, 0, none⟩) cap, fl_cut hx hf (Or.inl he) _ _, (by show _ - (_ + 1) < _; omega), (by rw [IntWalk.i64_in _ (by omega)]; rfl), (by rw [IntWalk.i64_in _ (by omega)]; rfl), (by simp), ⟨(by first | exact rfl | exact trivial), cS_app _ _, (by first | exact rfl | exact trivial), (by simp)⟩, trivial⟩)
            | (have hne := ei_f ‹(((_ : Nat) : Int) == (s.size : Int)) = false›; have hc := ci_t ‹(chI _ _ == 32) = true›; rename_i g cap; exact ⟨nxC hx (some ⟨g, 0, none⟩) cap, fl_cut hx hf (Or.inr ⟨by omega, hc⟩) _ _, (by show _ - (_ + 1) < _; omega), (by rw [IntWalk.i64_in _ (by omega)]; rfl), (by rw [IntWalk.i64_in _ (by omega)]; rfl), (by simp), ⟨(by first | exact rfl | exact trivial), cS_app _ _, (by first | exact rfl | exact trivial), (by simp)⟩, trivial⟩)
            | (have hne := ei_f ‹(((_ : Nat) : Int) == (s.size : Int)) = false›; have hc := ci_f ‹(chI _ _ == 32) = false›; exact ⟨nxG hx, fl_go hx hf hne hc, (by show _ - (_ + 1) < _; omega), (by rw [IntWalk.i64_in _ (by omega)]; rfl), rfl, rfl, ⟨(by first | exact rfl | exact trivial), rfl, (by first | exact rfl | exact trivial), rfl⟩, trivial⟩))
        | (have hx := ‹flI _ _›; have hf := of_decide_eq_false ‹decide (((_ : Nat) : Int) ≤ (s.size : Int)) = false›; have e := fl_out hx hf; rw [fl_n h0, e]; done)
        | (have hx := ‹flI _ _›; have hf := of_decide_eq_false ‹decide (((_ : Nat) : Int) ≤ (s.size : Int)) = false›; have e := fl_out hx hf; rw [fl_n h0, e]; rfl))
    | trace_state
end Go.Proofs.YtkgdlimekkdekaaDoor
