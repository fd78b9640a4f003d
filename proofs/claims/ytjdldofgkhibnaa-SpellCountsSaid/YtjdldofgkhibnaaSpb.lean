/- Layer 13 (spell): who may bowl; the chapter's examples. -/
import Derived.Test.YtjdldofgkhibnaaVz
import Derived.KernelRfl
import Derived.Test.YtjdldofgkhibnaaProg
import Derived.Test.YtjdldofgkhibnaaFda
import Derived.Test.YtjdldofgkhibnaaFdb
import Derived.Test.YtjdldofgkhibnaaFdc
import Derived.Test.YtjdldofgkhibnaaFdd
import Derived.Test.YtjdldofgkhibnaaFdf
import Derived.Test.YtjdldofgkhibnaaFdh
import Derived.Test.YtjdldofgkhibnaaFdk
import Derived.Test.YtjdldofgkhibnaaRua
import Derived.Test.YtjdldofgkhibnaaSpa
set_option linter.unusedSimpArgs false
set_option linter.unusedVariables false
set_option maxRecDepth 100000
namespace Go.Proofs.Ytjdldofgkhibnaa
open Go.RowKit


theorem ab_i {r : Rul} {s : Inn} {x : PX} (h : abI r s x) : x.i ≤ s.bwd.length ∧ x.l.length ≤ x.i := ⟨h.1, by rw [h.2]; exact abl_len _ _ _⟩
theorem ab_e {r : Rul} {s : Inn} {x : PX} (h : abI r s x) (hi : ¬ (x.i : Int) < (s.bwd.length : Int)) : x.l = abl r s s.bwd.length := by
  have e : x.i = s.bwd.length := by have := h.1; omega
  rw [h.2, e]
theorem ab_y {r : Rul} {s : Inn} {x : PX} (h : abI r s x) (hi : x.i < s.bwd.length) (hm : maL r s ((x.i : Int) + 1) = 0) (a : Option Addr) (c : Nat) : abI r s ⟨x.i + 1, a, c, x.l ++ [(x.i : Int) + 1]⟩ := ⟨hi, by show x.l ++ _ = abl r s (x.i + 1); simp only [abl]; rw [if_pos hm, h.2]⟩
theorem ab_n {r : Rul} {s : Inn} {x : PX} (h : abI r s x) (hi : x.i < s.bwd.length) (hm : ¬ maL r s ((x.i : Int) + 1) = 0) : abI r s ⟨x.i + 1, x.a, x.cap, x.l⟩ := ⟨hi, by show x.l = abl r s (x.i + 1); simp only [abl]; rw [if_neg hm, h.2, List.append_nil]⟩

def abl_h (r : Rul) (B : RAd) (s : Inn) (A : Adr) : Hint := .ob 7 (.pl (.inv (abL r s) fun x0 ↦ .split (ho 6 14 (ho 7 28 (.specg [] (List.range 6) [cP r.pw, cU s.bts, cI s.bws, cI s.bfs, cI s.bwd, cB s.sbs] [] (fun ads0 x ↦ Value.int .i64 (maL r s (IntKind.i64.wrap ((↑(PX.i x0) : Int) + (1 : Int))))) (.pl (.split (.app (8 : Nat) (9 : Nat) (.perm [8] .nil))
 (.perm [8] .nil)))))) (.perm [8] .nil)))
theorem abl_x (r : Rul) (B : RAd) (s : Inn) (A : Adr) : wpG Try.prog [] ((B.a, cP r.pw) :: rdI s A) 400 10 [ruV r B, inV s A] (abl_h r B s A) ([⟨3, 1, (abl r s s.bwd.length).length, cI (abl r s s.bwd.length)⟩]) (fun ads => .slice (nthA ads 0).1 (abl r s s.bwd.length).length (nthA ads 0).2) = (∀ (b b_1 : Nat), b_1 = b_1 /\ (∃ x, abI r s x /\ Value.int .i64 0 = Value.int .i64 (↑(PX.i x) : Int) /\ Value.slice none (0 : Nat) (0 : Nat) = Value.slice (PX.a x) (List.length (PX.l x)) (PX.cap x) /\ ((0 : Nat) = (0 : Nat) /\ [] = cI (PX.l x) /\ (3 : Nat) = (3 : Nat) /\ some (Ow.mk none (0 : Nat) (0
 : Nat) (1 : Nat)) = some (Ow.mk (PX.a x) (List.length (PX.l x)) (PX.cap x) (1 : Nat))) /\ True) /\ ∀ (x0 : PX), abI r s x0 -> ∀ (junk : Nat -> Value), (decide ((↑(PX.i x0) : Int) < (↑(s.bwd.length) : Int)) = true -> e1 b 14 (e1 b_1 28 (cP r.pw = cP r.pw /\ cU s.bts = cU s.bts /\ cI s.bws = cI s.bws
 /\ cI s.bfs = cI s.bfs /\ cI s.bwd = cI s.bwd /\ cB s.sbs = cB s.sbs /\ (SpecG Try.prog [] ((RAd.a B, cP r.pw) :: rdI s A) (12 : FuncId) #[ruV r B, inV s A, .int .i64 (IntKind.i64.wrap ((↑(PX.i x0) : Int) + (1 : Int)))] [] fun x ↦ Value.int .i64 (maL r s (IntKind.i64.wrap ((↑(PX.i x0) : Int) + (1 :
 Int))))) /\ (∀ (e : Ex), e ∈ [] -> e ∈ []) /\ ((maL r s (IntKind.i64.wrap ((↑(PX.i x0) : Int) + (1 : Int))) == 0) = true -> ∀ (b : Nat), PX.a x0 = PX.a x0 /\ List.length (PX.l x0) = List.length (PX.l x0) /\ PX.cap x0 = PX.cap x0 /\ b = b /\ (List.length (PX.l x0) + (1 : Nat)) * (9 : Nat) ≤
 (140737488355328 : Nat) /\ ∀ (g cap : Nat), ∃ y, abI r s y /\ s.bwd.length - PX.i y < s.bwd.length - PX.i x0 /\ Value.int .i64 (IntKind.i64.wrap ((↑(PX.i x0) : Int) + (1 : Int))) = Value.int .i64 (↑(PX.i y) : Int) /\ Value.slice (some (Addr.mk g (0 : Nat) none)) (List.length (PX.l x0) + (1 : Nat))
 cap = Value.slice (PX.a y) (List.length (PX.l y)) (PX.cap y) /\ ((0 : Nat) = (0 : Nat) /\ lapp (cI (PX.l x0)) [Value.int .i64 (IntKind.i64.wrap ((↑(PX.i x0) : Int) + (1 : Int)))] = cI (PX.l y) /\ (3 : Nat) = (3 : Nat) /\ some (Ow.mk (some (Addr.mk g (0 : Nat) none)) (List.length (PX.l x0) + (1 :
 Nat)) cap (1 : Nat)) = some (Ow.mk (PX.a y) (List.length (PX.l y)) (PX.cap y) (1 : Nat))) /\ True) /\ ((maL r s (IntKind.i64.wrap ((↑(PX.i x0) : Int) + (1 : Int))) == 0) = false -> ∃ y, abI r s y /\ s.bwd.length - PX.i y < s.bwd.length - PX.i x0 /\ Value.int .i64 (IntKind.i64.wrap ((↑(PX.i x0) :
 Int) + (1 : Int))) = Value.int .i64 (↑(PX.i y) : Int) /\ Value.slice (PX.a x0) (List.length (PX.l x0)) (PX.cap x0) = Value.slice (PX.a y) (List.length (PX.l y)) (PX.cap y) /\ ((0 : Nat) = (0 : Nat) /\ cI (PX.l x0) = cI (PX.l y) /\ (3 : Nat) = (3 : Nat) /\ some (Ow.mk (PX.a x0) (List.length (PX.l
 x0)) (PX.cap x0) (1 : Nat)) = some (Ow.mk (PX.a y) (List.length (PX.l y)) (PX.cap y) (1 : Nat))) /\ True)))) /\ (decide ((↑(PX.i x0) : Int) < (↑(s.bwd.length) : Int)) = false -> rqx cI 3 1 (PX.l x0) (abl r s (s.bwd.length)) (Value.slice (PX.a x0) (List.length (PX.l x0)) (PX.cap x0) = Value.slice
 (PX.a x0) (List.length (abl r s (s.bwd.length))) (PX.cap x0)))) := by kernel_rfl
set_option maxHeartbeats 4000000 in
theorem abl_sp (r : Rul) (B : RAd) (s : Inn) (A : Adr) (hB : AOK B.a r.pw.length) (hl : r.pw.length ≤ 1000000) (hn : r.nm.size ≤ 1000000) (hA : OkI s A) : SpecG Try.prog [] ((B.a, cP r.pw) :: rdI s A) 10 #[ruV r B, inV s A] ([⟨3, 1, (abl r s s.bwd.length).length, cI (abl r s s.bwd.length)⟩]) (fun ads => .slice (nthA ads 0).1 (abl r s s.bwd.length).length (nthA ads 0).2) := by
  refine specG_of (h := abl_h r B s A) (?_ : wpG Try.prog [] ((B.a, cP r.pw) :: rdI s A) 400 10 [ruV r B, inV s A] (abl_h r B s A) ([⟨3, 1, (abl r s s.bwd.length).length, cI (abl r s s.bwd.length)⟩]) (fun ads => .slice (nthA ads 0).1 (abl r s s.bwd.length).length (nthA ads 0).2))
  rw [abl_x]
  have hw : ∀ i : Nat, i < s.bwd.length → IntKind.i64.wrap ((i : Int) + 1) = (i : Int) + 1 := fun i hi => IntWalk.i64_in _ (by have := hA.l4; omega)
  (repeat' (first | with_reducible exact rfl | exact trivial | with_reducible assumption | exact may_sp _ _ _ _ _ hB hl hn hA | exact cU_len _ | exact cI_len _ | exact cB_len _ | exact cU_one _ | exact cI_one _ | exact cB_one _ | exact (fun _ h => h) | exact (fun _ h => (List.not_mem_nil h).elim) | (with_reducible refine e1_in ?_) | (with_reducible refine e2_in ?_) | (with_reducible refine lx_in (Nat.le_of_ble_eq_true rfl) ?_) | (with_reducible refine rqx_rf ?_) | (with_reducible refine rqx_in ?_ ?_ ?_) | (with_reducible apply And.intro) | (with_reducible intro _)))
  all_goals (try (have hx := ‹abI r s _›; have hf := of_decide_eq_true ‹decide (((_ : Nat) : Int) < (s.bwd.length : Int)) = true›; have h9 := ab_i hx; have h4 := hA.l4; have hf2 := Int.ofNat_lt.1 hf; first | omega | (have hm := ‹(maL r s _ == 0) = true›; rw [hw _ hf2] at hm; rename_i g cap; exact ⟨⟨_, _, _, _⟩, ab_y hx hf2 (by simpa using hm) (some ⟨g, 0, none⟩) cap, (by show _ - (_ + 1) < _; omega), (by rw [hw _ hf2]; rfl), (by simp), ⟨rfl, (by rw [hw _ hf2, cI_app]), rfl, (by simp)⟩, trivial⟩) | (have hm := ‹(maL r s _ == 0) = false›; rw [hw _ hf2] at hm; exact ⟨⟨_, _, _, _⟩, ab_n hx hf2 (by simpa using hm), (by show _ - (_ + 1) < _; omega), (by rw [hw _ hf2]; rfl), rfl, ⟨rfl, rfl, rfl, rfl⟩, trivial⟩)))
  all_goals first
    | exact ⟨⟨0, none, 0, []⟩, ⟨Nat.zero_le _, rfl⟩, rfl, rfl, ⟨rfl, rfl, rfl, rfl⟩, trivial⟩
    | (have hx := ‹abI r s _›; have hf := of_decide_eq_false ‹decide (((_ : Nat) : Int) < (s.bwd.length : Int)) = false›; rw [ab_e hx hf])
    | trace_state

def bnd (r : Rul) : Rul := { r with nm := r.nm.extract 0 (if (20 : Int) < r.nm.size then 20 else (r.nm.size : Int)).toNat, pw := r.pw.take 10 }
theorem bnd_nm (r : Rul) : (bnd r).nm.size ≤ 1000000 := by
  show (r.nm.extract 0 _).size ≤ _
  rw [ByteArray.size_extract]
  split <;> omega
theorem bnd_pw (r : Rul) : (bnd r).pw.length ≤ 1000000 := by
  show (r.pw.take 10).length ≤ _
  rw [List.length_take]
  omega


def quR : Rul := ⟨ByteArray.mk (Array.mk [82]), 4, 1, 8, 6, 2, 1, 1, false, 0, 0, 0, 0, []⟩
def quI : Inn := ⟨0, 0, 0, 0, 0, 0, 0, 0, 0, 0, 0, 0, 0, 0, [], 0, [], [], false, [0, 0, 0, 0], false, 0, 4, 0, [false, false, false, false], 0, 0, 0⟩
/-- The state behind so many balls. -/
def qS : Nat → Inn
  | 0 => taS quR quI 1
  | k + 1 => blS quR (qS k) true
theorem tkq_sp (A : Adr) (hA : OkI quI A) : SpecG Try.prog [] ((none, cP []) :: rdI quI A) 6 #[ruV quR ⟨none, 0⟩, inV quI A, .int .i64 1] (rowI (qS 0)) (fun ads => .tuple #[inV (qS 0) (adA ads), .int .i64 0]) := by
  have h := tak_sp quR ⟨none, 0⟩ quI A 1 aok0 (by decide) (by decide) hA
  have e : maL quR quI 1 = 0 := by decide
  rw [e] at h
  exact h
theorem blq_sp (k : Nat) (A : Adr) (hA : OkI (qS k) A) : SpecG Try.prog [] ((none, cP []) :: rdI (qS k) A) 7 #[ruV quR ⟨none, 0⟩, inV (qS k) A, .bool true] (rowI (qS (k + 1))) (fun ads => .tuple #[inV (qS (k + 1)) (adA ads), .bool (blO quR (qS k) true)]) :=
  bl_sp quR ⟨none, 0⟩ (qS k) A true aok0 (by decide) (by decide) hA


def noOw : Option Ow := none
def roE (s : Inn) (A : Adr) : List Ob := [⟨0, cU s.bts, 0, some ⟨A.a1, 0, 0, 0⟩⟩, ⟨0, cI s.bws, 0, some ⟨A.a2, 0, 0, 0⟩⟩, ⟨0, cI s.bfs, 0, some ⟨A.a3, 0, 0, 0⟩⟩, ⟨0, cI s.bwd, 0, some ⟨A.a4, 0, 0, 0⟩⟩, ⟨0, cB s.sbs, 0, some ⟨A.a5, 0, 0, 0⟩⟩]
def inL (s : Inn) (A : Adr) : List Value := [.int .i64 s.sd, .int .i64 s.tg, .int .i64 s.ov, .int .i64 s.rn, .int .i64 s.wk, .int .i64 s.e1, .int .i64 s.e2, .int .i64 s.e3, .int .i64 s.e4, .int .i64 s.e5, .int .i64 s.cm, .int .i64 s.io, .int .i64 s.st, .int .i64 s.ot,
  .slice A.a1 s.bts.length A.c1, .int .i64 s.bw, .slice A.a2 s.bws.length A.c2, .slice A.a3 s.bfs.length A.c3, .bool s.fr, .slice A.a4 s.bwd.length A.c4, .bool s.fh, .int .i64 s.ba, .int .i64 s.kp, .int .i64 s.ou, .slice A.a5 s.sbs.length A.c5, .int .i64 s.r1, .int .i64 s.r2, .int .u8 s.en]
structure AX where
  k : Nat
  b : Nat
  A : Adr
/-- Has the over ended with the last ball? -/
def qV : Nat → Bool
  | 0 => false
  | k + 1 => blO quR (qS k) true
def awI (x : AX) : Prop := x.k ≤ 6 ∧ OkI (qS x.k) x.A
theorem awI_ok {x : AX} (h : awI x) : OkI (qS x.k) x.A := h.2
@[reducible] def awL : LoopR := ⟨AX, fun x => [(20, .int .i64 x.k), (3, .bool (qV x.k)), (1, .pointer (some ⟨x.b, 0, none⟩))], [5, 6, 7, 8, 9, 2], fun x => roE (qS x.k) x.A ++ [⟨x.b, inL (qS x.k) x.A, 36, none⟩], awI, fun x => 6 - x.k, []⟩
@[reducible] def nxW {x : AX} (_ : awI x) : Nat := x.k + 1
theorem qS_len (k : Nat) (h : k ≤ 6) : (qS k).bts.length ≤ 1000000 ∧ (qS k).bws.length ≤ 1000000 ∧ (qS k).bfs.length ≤ 1000000 ∧ (qS k).bwd.length ≤ 1000000 ∧ (qS k).sbs.length ≤ 1000000 := by
  have : k = 0 ∨ k = 1 ∨ k = 2 ∨ k = 3 ∨ k = 4 ∨ k = 5 ∨ k = 6 := by omega
  rcases this with rfl | rfl | rfl | rfl | rfl | rfl | rfl <;> decide
theorem aw_step {x : AX} (h : awI x) (hk : x.k < 6) {b : Nat} {B : Adr} (h1 : AOK B.a1 (qS (x.k + 1)).bts.length) (h2 : AOK B.a2 (qS (x.k + 1)).bws.length) (h3 : AOK B.a3 (qS (x.k + 1)).bfs.length) (h4 : AOK B.a4 (qS (x.k + 1)).bwd.length) (h5 : AOK B.a5 (qS (x.k + 1)).sbs.length) : awI ⟨x.k + 1, b, B⟩ := by
  obtain ⟨a1, a2, a3, a4, a5⟩ := qS_len (x.k + 1) (by omega)
  exact ⟨hk, h1, h2, h3, h4, h5, a1, a2, a3, a4, a5⟩
theorem aw_end {x : AX} (h : awI x) (hk : ¬ (x.k : Int) < 6) : x.k = 6 := by have := h.1; omega

def quo_h  : Hint := ho 0 28 (.perm [] .nil)
theorem quo_x  : wpG Try.prog [] ([]) 400 5 [] (quo_h ) ([]) (fun _ => ruV quR ⟨none, 0⟩) = (∀ (b : Nat), e2 b 14 (e1 b 14 (Value.agg (Array.mk [.string (ByteArray.mk (Array.mk [(82 : UInt8)])), .int .i64 4, .int .i64 1, .int .i64 8, .int .i64 6, .int .i64 2, .int .i64 1, .int .i64 1, .bool false, .int .i64 0, .int .i64 0, .int .i64 0, .int .i64 0, .slice none (0 : Nat) (0 : Nat)]) =
 Value.agg (Array.mk [.string (ByteArray.mk (Array.mk [(82 : UInt8)])), .int .i64 4, .int .i64 1, .int .i64 8, .int .i64 6, .int .i64 2, .int .i64 1, .int .i64 1, .bool false, .int .i64 0, .int .i64 0, .int .i64 0, .int .i64 0, .slice none (0 : Nat) (0 : Nat)])))) := by kernel_rfl
set_option maxHeartbeats 4000000 in
theorem quo_sp   : SpecG Try.prog [] ([]) 5 #[] ([]) (fun _ => ruV quR ⟨none, 0⟩) := by
  refine specG_of (h := quo_h ) (?_ : wpG Try.prog [] ([]) 400 5 [] (quo_h ) ([]) (fun _ => ruV quR ⟨none, 0⟩))
  rw [quo_x]
  (repeat' (first | with_reducible exact rfl | exact trivial | with_reducible assumption | exact cU_len _ | exact cI_len _ | exact cB_len _ | exact cU_one _ | exact cI_one _ | exact cB_one _ | exact (fun _ h => h) | exact (fun _ h => (List.not_mem_nil h).elim) | (with_reducible refine e1_in ?_) | (with_reducible refine e2_in ?_) | (with_reducible refine lx_in (Nat.le_of_ble_eq_true rfl) ?_) | (with_reducible refine rqx_rf ?_) | (with_reducible refine rqx_in ?_ ?_ ?_) | (with_reducible apply And.intro) | (with_reducible intro _)))
  all_goals (first | exact rfl | trace_state)
end Go.Proofs.Ytjdldofgkhibnaa
