/- Layer 7 (notation): lists of deliveries and of symbols, of the reference. -/
import Derived.Test.YtkgdlimekkdekaaDoorVz
import Derived.KernelRfl
import Derived.Test.YtkgdlimekkdekaaDoorProg
import Derived.Test.YtkgdlimekkdekaaDoorBrd
import Derived.Test.YtkgdlimekkdekaaDoorNoK
import Derived.Test.YtkgdlimekkdekaaDoorNoX
import Derived.Test.YtkgdlimekkdekaaDoorSpc
import Derived.Test.YtkgdlimekkdekaaDoorSqw
import Derived.Test.YtkgdlimekkdekaaDoorNpa
import Derived.Test.YtkgdlimekkdekaaDoorNpb
set_option linter.unusedSimpArgs false
set_option linter.unusedVariables false
set_option maxRecDepth 100000
namespace Go.Proofs.YtkgdlimekkdekaaDoor
open Go.RowKit


def prS (d : Dl) : ByteArray := str (prL d)
theorem rpr_sp (d : Dl) (hw : Wf d) : SpecG Tryd.prog [] [] 21 #[dlV d] [] (fun _ => .tuple #[.string (prS d), .int .i64 (chk d)]) := specG_ofC (fun w => rprint_any d hw w)
theorem rps_sp (b : ByteArray) (hl : b.size ≤ 1000000) : SpecG Tryd.prog [] [] 24 #[.string b] [] (fun _ => .tuple #[dlV (psV b), .int .i64 (psX b)]) := specG_ofC (fun w => by
  have h := rparse_any b.data.toList w (by have : b.data.toList.length = b.size := by rw [Array.length_toList]; rfl
                                           omega)
  have e : S b.data.toList = Value.string b := by show Value.string (str _) = _; rw [str_of]
  rw [e, (ps_eq _).1, (ps_eq _).2] at h
  exact h)
/-- Symbols with blanks between. -/
def joB (l : List Dl) : ByteArray := str (Lib.join (l.map sym) [32])
theorem join_snoc (xs : List (List UInt8)) (x : List UInt8) (h : xs ≠ []) : Lib.join (xs ++ [x]) [32] = Lib.join xs [32] ++ ([32] ++ x) := by
  cases xs with
  | nil => exact absurd rfl h
  | cons y r =>
    rw [List.cons_append, Lib.join_cons, Lib.join_cons]
    have : Lib.joinTail [32] (r ++ [x]) = Lib.joinTail [32] r ++ ([32] ++ x) := by simp [Lib.joinTail]
    rw [this, List.append_assoc]
theorem cat_str (a b : List UInt8) : catB (str a) (str b) = str (a ++ b) := by
  unfold catB
  exact str_app a b
structure OX where
  i : Nat
  s : ByteArray
def ovI (ds : List Dl) (n : Nat) (x : OX) : Prop := x.i ≤ n ∧ ovE (ds.take x.i) = 0 ∧ x.s = joB (ds.take x.i)
@[reducible] def ovLp (ds : List Dl) (n : Nat) : LoopR := ⟨OX, fun x => [(11, .int .i64 x.i), (4, .string x.s)], [], fun _ => [], ovI ds n, fun x => n - x.i, []⟩
theorem ov_0 (ds : List Dl) (n : Nat) : ovI ds n ⟨0, ⟨#[]⟩⟩ := ⟨Nat.zero_le _, by simp [ovE], by simp [joB]; rfl⟩
theorem gD_wf {ds : List Dl} (hw : ∀ d ∈ ds, Wf d) {i : Nat} (hi : i < ds.length) : Wf (gD ds i) := by
  rw [gD, List.getD_eq_getElem?_getD, List.getElem?_eq_getElem hi]
  exact hw _ (List.getElem_mem _)
theorem tk_tk (ds : List Dl) {i n : Nat} (h : i ≤ n) : (ds.take n).take i = ds.take i := by rw [List.take_take]; congr 1; omega
theorem ov_bd {ds : List Dl} {n : Nat} {x : OX} (h : ovI ds n x) (hi : x.i < n) (hn : n ≤ ds.length) (hc : ¬ chk (gD ds x.i) = 0) : ovE (ds.take n) = chk (gD ds x.i) ∧ str (ovL (ds.take n)) = ByteArray.mk (Array.mk []) := by
  have hl := ln_take hn
  have h1 := ovE_take (ds.take n) x.i (by omega) (by rw [tk_tk ds h.1]; exact h.2.1)
  have e : (ds.take n)[x.i]'(by omega) = gD ds x.i := by
    rw [gD, List.getD_eq_getElem?_getD, List.getElem?_eq_getElem (by omega)]
    simp
  rw [e] at h1
  have h2 := h1.2 hc
  refine ⟨h2, ?_⟩
  unfold ovL
  rw [if_neg (by rw [h2]; exact hc)]
  rfl
theorem ov_nx {ds : List Dl} {n : Nat} {x : OX} (h : ovI ds n x) (hi : x.i < n) (hn : n ≤ ds.length) (hc : chk (gD ds x.i) = 0) : ovE (ds.take (x.i + 1)) = 0 := by
  have hl := ln_take hn
  have h1 := ovE_take (ds.take n) x.i (by omega) (by rw [tk_tk ds h.1]; exact h.2.1)
  have e : (ds.take n)[x.i]'(by omega) = gD ds x.i := by
    rw [gD, List.getD_eq_getElem?_getD, List.getElem?_eq_getElem (by omega)]
    simp
  rw [e, tk_tk ds (by omega)] at h1
  exact h1.1 hc
theorem prS_ok {d : Dl} (h : chk d = 0) : prS d = str (sym d) := by unfold prS prL; rw [if_pos h]
theorem tk_sn {ds : List Dl} {i : Nat} (h : i < ds.length) : ds.take (i + 1) = ds.take i ++ [gD ds i] := by
  rw [List.take_add_one, List.getElem?_eq_getElem h, gD, List.getD_eq_getElem?_getD, List.getElem?_eq_getElem h]
  rfl
theorem ov_s0 {ds : List Dl} {n : Nat} {x : OX} (h : ovI ds n x) (hi : x.i < n) (hn : n ≤ ds.length) (hc : chk (gD ds x.i) = 0) (h0 : ¬ (x.i : Int) > 0) : ovI ds n ⟨x.i + 1, catB x.s (prS (gD ds x.i))⟩ := by
  refine ⟨hi, ov_nx h hi hn hc, ?_⟩
  show catB x.s _ = _
  have e : x.i = 0 := by omega
  rw [h.2.2, prS_ok hc, e]
  unfold joB
  rw [tk_sn (by omega), cat_str]
  simp [Lib.join_one]
  rfl
theorem ov_s1 {ds : List Dl} {n : Nat} {x : OX} (h : ovI ds n x) (hi : x.i < n) (hn : n ≤ ds.length) (hc : chk (gD ds x.i) = 0) (h0 : (x.i : Int) > 0) : ovI ds n ⟨x.i + 1, catB (catB x.s (ByteArray.mk (Array.mk [32]))) (prS (gD ds x.i))⟩ := by
  refine ⟨hi, ov_nx h hi hn hc, ?_⟩
  show catB (catB x.s _) _ = _
  rw [h.2.2, prS_ok hc]
  unfold joB
  rw [tk_sn (by omega), List.map_append, List.map_cons, List.map_nil, join_snoc _ _ (fun e => by
    have h3 : ((ds.take x.i).map sym).length = 0 := by rw [e]; rfl
    rw [List.length_map, List.length_take] at h3
    omega)]
  have e : ByteArray.mk (Array.mk [32]) = str [32] := rfl
  rw [e, cat_str, cat_str, List.append_assoc]
theorem ov_sz {ds : List Dl} {n : Nat} {x : OX} (h : ovI ds n x) (hn : n ≤ 1000) : x.s.size ≤ 100000 := by
  rw [h.2.2]
  unfold joB
  rw [str_size]
  have h1 := join_len ((ds.take x.i).map sym) (fun y hy => by obtain ⟨d, _, rfl⟩ := List.mem_map.1 hy; exact sym_len d)
  rw [List.length_map, List.length_take] at h1
  have := h.1
  omega
theorem prS_sz (d : Dl) : (prS d).size ≤ 30 := by
  unfold prS
  rw [str_size]
  unfold prL
  split
  · exact sym_len d
  · simp
theorem ov_en {ds : List Dl} {n : Nat} {x : OX} (h : ovI ds n x) (hi : ¬ (x.i : Int) < (n : Int)) : x.s = str (ovL (ds.take n)) ∧ ovE (ds.take n) = 0 := by
  have e : x.i = n := by have := h.1; omega
  have h2 := h.2.1
  rw [e] at h2
  refine ⟨?_, h2⟩
  rw [h.2.2, e]
  unfold joB ovL
  rw [if_pos h2]
theorem caB_sz (a b : ByteArray) : (catB a b).size = a.size + b.size := by unfold catB; rw [ByteArray.size_append]
theorem sz_2 {a : ByteArray} {d : Dl} (h : a.size ≤ 200000) : a.size + (prS d).size ≤ 9223372036854775807 := by have := prS_sz d; omega
theorem sz_3 {a : ByteArray} {d : Dl} (h : a.size ≤ 100000) : (catB a (ByteArray.mk (Array.mk [32]))).size + (prS d).size ≤ 9223372036854775807 := by
  have := prS_sz d
  rw [caB_sz]
  show a.size + 1 + _ ≤ _
  omega
theorem bn_t {a : Int} (h : (a != 0) = true) : ¬ a = 0 := by simpa using h
theorem bn_f {a : Int} (h : (a != 0) = false) : a = 0 := by simpa using h

def rov_h (a : Option Addr) (ds : List Dl) (n c : Nat) : Hint := .pl (.inv (ovLp ds n) fun x0 ↦ .split (.ix (.lst (0 : Nat) (Int.toNat (↑(OX.i x0) : Int) * (12 : Nat)) (Value.int .u8 (Dl.t (gD ds (Int.toNat (↑(OX.i x0) : Int))))) (.lst (0 : Nat) (Int.toNat (↑(OX.i x0) : Int) * (12 : Nat) + (1 : Nat)) (Value.int .u8 (Dl.s (gD ds (Int.toNat (↑(OX.i x0) : Int)))))
 (.lst (0 : Nat) (Int.toNat (↑(OX.i x0) : Int) * (12 : Nat) + (2 : Nat)) (Value.int .i64 (Dl.r (gD ds (Int.toNat (↑(OX.i x0) : Int))))) (.lst (0 : Nat) (Int.toNat (↑(OX.i x0) : Int) * (12 : Nat) + (3 : Nat)) (Value.int .i64 (Dl.sh (gD ds (Int.toNat (↑(OX.i x0) : Int))))) (.lst (0 : Nat) (Int.toNat
 (↑(OX.i x0) : Int) * (12 : Nat) + (4 : Nat)) (Value.int .i64 (Dl.b (gD ds (Int.toNat (↑(OX.i x0) : Int))))) (.lst (0 : Nat) (Int.toNat (↑(OX.i x0) : Int) * (12 : Nat) + (5 : Nat)) (Value.bool (Dl.x (gD ds (Int.toNat (↑(OX.i x0) : Int))))) (.lst (0 : Nat) (Int.toNat (↑(OX.i x0) : Int) * (12 : Nat) +
 (6 : Nat)) (Value.int .u8 (Dl.h (gD ds (Int.toNat (↑(OX.i x0) : Int))))) (.lst (0 : Nat) (Int.toNat (↑(OX.i x0) : Int) * (12 : Nat) + (7 : Nat)) (Value.int .i64 (Dl.v (gD ds (Int.toNat (↑(OX.i x0) : Int))))) (.lst (0 : Nat) (Int.toNat (↑(OX.i x0) : Int) * (12 : Nat) + (8 : Nat)) (Value.int .i64
 (Dl.f (gD ds (Int.toNat (↑(OX.i x0) : Int))))) (.lst (0 : Nat) (Int.toNat (↑(OX.i x0) : Int) * (12 : Nat) + (9 : Nat)) (Value.int .i64 (Dl.g (gD ds (Int.toNat (↑(OX.i x0) : Int))))) (.lst (0 : Nat) (Int.toNat (↑(OX.i x0) : Int) * (12 : Nat) + (10 : Nat)) (Value.bool (Dl.u (gD ds (Int.toNat (↑(OX.i
 x0) : Int))))) (.lst (0 : Nat) (Int.toNat (↑(OX.i x0) : Int) * (12 : Nat) + (11 : Nat)) (Value.int .i64 (Dl.z (gD ds (Int.toNat (↑(OX.i x0) : Int))))) (ho 1 24 (.specg [] [] [] [] (fun ads0 x ↦ Value.tuple #[Value.string (prS (gD ds (Int.toNat (↑(OX.i x0) : Int)))), .int .i64 (chk (gD ds (Int.toNat
 (↑(OX.i x0) : Int))))]) (.pl (.split (.perm [] .nil) (.split (.ix (.ix (.perm [] .nil))) (.ix (.perm [] .nil)))))))))))))))))))) (.perm [] .nil))
theorem rov_x (a : Option Addr) (ds : List Dl) (n c : Nat) : wpG Tryd.prog [] ([(a, cD ds)]) 400 9 [.slice a n c] (rov_h a ds n c) ([]) (fun _ => .tuple #[.string (str (ovL (ds.take n))), .int .i64 (ovE (ds.take n))]) = ((∃ x, ovI ds n x /\ Value.int .i64 0 = Value.int .i64 (↑(OX.i x) : Int) /\ Value.string (ByteArray.mk (Array.mk [])) = Value.string (OX.s x) /\ True) /\ ∀ (x0 : OX), ovI ds n x0 -> ∀ (junk : Nat -> Value), (decide ((↑(OX.i x0) : Int) < (↑n : Int)) = true -> (((0 : Int) ≤ (↑(OX.i x0) : Int) /\ (↑(OX.i
 x0) : Int) < (↑n : Int)) /\ AOK a n) /\ bk a = bk a /\ ofs a + Int.toNat (↑(OX.i x0) : Int) * (12 : Nat) = ofs a + Int.toNat (↑(OX.i x0) : Int) * (12 : Nat) /\ lgo (cD ds) (Int.toNat (↑(OX.i x0) : Int) * (12 : Nat)) = some (Value.int .u8 (Dl.t (gD ds (Int.toNat (↑(OX.i x0) : Int))))) /\ bk a = bk a
 /\ ofs a + Int.toNat (↑(OX.i x0) : Int) * (12 : Nat) + (1 : Nat) = ofs a + (Int.toNat (↑(OX.i x0) : Int) * (12 : Nat) + (1 : Nat)) /\ lgo (cD ds) (Int.toNat (↑(OX.i x0) : Int) * (12 : Nat) + (1 : Nat)) = some (Value.int .u8 (Dl.s (gD ds (Int.toNat (↑(OX.i x0) : Int))))) /\ bk a = bk a /\ ofs a +
 Int.toNat (↑(OX.i x0) : Int) * (12 : Nat) + (2 : Nat) = ofs a + (Int.toNat (↑(OX.i x0) : Int) * (12 : Nat) + (2 : Nat)) /\ lgo (cD ds) (Int.toNat (↑(OX.i x0) : Int) * (12 : Nat) + (2 : Nat)) = some (Value.int .i64 (Dl.r (gD ds (Int.toNat (↑(OX.i x0) : Int))))) /\ bk a = bk a /\ ofs a + Int.toNat
 (↑(OX.i x0) : Int) * (12 : Nat) + (3 : Nat) = ofs a + (Int.toNat (↑(OX.i x0) : Int) * (12 : Nat) + (3 : Nat)) /\ lgo (cD ds) (Int.toNat (↑(OX.i x0) : Int) * (12 : Nat) + (3 : Nat)) = some (Value.int .i64 (Dl.sh (gD ds (Int.toNat (↑(OX.i x0) : Int))))) /\ bk a = bk a /\ ofs a + Int.toNat (↑(OX.i x0)
 : Int) * (12 : Nat) + (4 : Nat) = ofs a + (Int.toNat (↑(OX.i x0) : Int) * (12 : Nat) + (4 : Nat)) /\ lgo (cD ds) (Int.toNat (↑(OX.i x0) : Int) * (12 : Nat) + (4 : Nat)) = some (Value.int .i64 (Dl.b (gD ds (Int.toNat (↑(OX.i x0) : Int))))) /\ bk a = bk a /\ ofs a + Int.toNat (↑(OX.i x0) : Int) * (12
 : Nat) + (5 : Nat) = ofs a + (Int.toNat (↑(OX.i x0) : Int) * (12 : Nat) + (5 : Nat)) /\ lgo (cD ds) (Int.toNat (↑(OX.i x0) : Int) * (12 : Nat) + (5 : Nat)) = some (Value.bool (Dl.x (gD ds (Int.toNat (↑(OX.i x0) : Int))))) /\ bk a = bk a /\ ofs a + Int.toNat (↑(OX.i x0) : Int) * (12 : Nat) + (6 :
 Nat) = ofs a + (Int.toNat (↑(OX.i x0) : Int) * (12 : Nat) + (6 : Nat)) /\ lgo (cD ds) (Int.toNat (↑(OX.i x0) : Int) * (12 : Nat) + (6 : Nat)) = some (Value.int .u8 (Dl.h (gD ds (Int.toNat (↑(OX.i x0) : Int))))) /\ bk a = bk a /\ ofs a + Int.toNat (↑(OX.i x0) : Int) * (12 : Nat) + (7 : Nat) = ofs a +
 (Int.toNat (↑(OX.i x0) : Int) * (12 : Nat) + (7 : Nat)) /\ lgo (cD ds) (Int.toNat (↑(OX.i x0) : Int) * (12 : Nat) + (7 : Nat)) = some (Value.int .i64 (Dl.v (gD ds (Int.toNat (↑(OX.i x0) : Int))))) /\ bk a = bk a /\ ofs a + Int.toNat (↑(OX.i x0) : Int) * (12 : Nat) + (8 : Nat) = ofs a + (Int.toNat
 (↑(OX.i x0) : Int) * (12 : Nat) + (8 : Nat)) /\ lgo (cD ds) (Int.toNat (↑(OX.i x0) : Int) * (12 : Nat) + (8 : Nat)) = some (Value.int .i64 (Dl.f (gD ds (Int.toNat (↑(OX.i x0) : Int))))) /\ bk a = bk a /\ ofs a + Int.toNat (↑(OX.i x0) : Int) * (12 : Nat) + (9 : Nat) = ofs a + (Int.toNat (↑(OX.i x0) :
 Int) * (12 : Nat) + (9 : Nat)) /\ lgo (cD ds) (Int.toNat (↑(OX.i x0) : Int) * (12 : Nat) + (9 : Nat)) = some (Value.int .i64 (Dl.g (gD ds (Int.toNat (↑(OX.i x0) : Int))))) /\ bk a = bk a /\ ofs a + Int.toNat (↑(OX.i x0) : Int) * (12 : Nat) + (10 : Nat) = ofs a + (Int.toNat (↑(OX.i x0) : Int) * (12 :
 Nat) + (10 : Nat)) /\ lgo (cD ds) (Int.toNat (↑(OX.i x0) : Int) * (12 : Nat) + (10 : Nat)) = some (Value.bool (Dl.u (gD ds (Int.toNat (↑(OX.i x0) : Int))))) /\ bk a = bk a /\ ofs a + Int.toNat (↑(OX.i x0) : Int) * (12 : Nat) + (11 : Nat) = ofs a + (Int.toNat (↑(OX.i x0) : Int) * (12 : Nat) + (11 :
 Nat)) /\ lgo (cD ds) (Int.toNat (↑(OX.i x0) : Int) * (12 : Nat) + (11 : Nat)) = some (Value.int .i64 (Dl.z (gD ds (Int.toNat (↑(OX.i x0) : Int))))) /\ ∀ (b : Nat), e2 b 12 (e1 b 12 ((SpecG Tryd.prog [] [] (21 : FuncId) #[dlV (gD ds (Int.toNat (↑(OX.i x0) : Int)))] [] fun x ↦ Value.tuple
 #[Value.string (prS (gD ds (Int.toNat (↑(OX.i x0) : Int)))), .int .i64 (chk (gD ds (Int.toNat (↑(OX.i x0) : Int))))]) /\ (∀ (e : Ex), e ∈ [] -> e ∈ []) /\ ((chk (gD ds (Int.toNat (↑(OX.i x0) : Int))) != 0) = true -> Value.tuple (Array.mk [.string (ByteArray.mk (Array.mk [])), .int .i64 (chk (gD ds
 (Int.toNat (↑(OX.i x0) : Int))))]) = Value.tuple (Array.mk [.string (str (ovL (List.take n ds))), .int .i64 (ovE (List.take n ds))])) /\ ((chk (gD ds (Int.toNat (↑(OX.i x0) : Int))) != 0) = false -> (decide ((↑(OX.i x0) : Int) > (0 : Int)) = true -> ByteArray.size (OX.s x0) + (1 : Nat) ≤
 (9223372036854775807 : Nat) /\ ByteArray.size (catB (OX.s x0) (ByteArray.mk (Array.mk [(32 : UInt8)]))) + ByteArray.size (prS (gD ds (Int.toNat (↑(OX.i x0) : Int)))) ≤ (9223372036854775807 : Nat) /\ ∃ y, ovI ds n y /\ n - OX.i y < n - OX.i x0 /\ Value.int .i64 (IntKind.i64.wrap ((↑(OX.i x0) : Int) +
 (1 : Int))) = Value.int .i64 (↑(OX.i y) : Int) /\ Value.string (catB (catB (OX.s x0) (ByteArray.mk (Array.mk [(32 : UInt8)]))) (prS (gD ds (Int.toNat (↑(OX.i x0) : Int))))) = Value.string (OX.s y) /\ True) /\ (decide ((↑(OX.i x0) : Int) > (0 : Int)) = false -> ByteArray.size (OX.s x0) +
 ByteArray.size (prS (gD ds (Int.toNat (↑(OX.i x0) : Int)))) ≤ (9223372036854775807 : Nat) /\ ∃ y, ovI ds n y /\ n - OX.i y < n - OX.i x0 /\ Value.int .i64 (IntKind.i64.wrap ((↑(OX.i x0) : Int) + (1 : Int))) = Value.int .i64 (↑(OX.i y) : Int) /\ Value.string (catB (OX.s x0) (prS (gD ds (Int.toNat
 (↑(OX.i x0) : Int))))) = Value.string (OX.s y) /\ True))))) /\ (decide ((↑(OX.i x0) : Int) < (↑n : Int)) = false -> Value.tuple (Array.mk [.string (OX.s x0), .int .i64 0]) = Value.tuple (Array.mk [.string (str (ovL (List.take n ds))), .int .i64 (ovE (List.take n ds))]))) := by kernel_rfl
set_option maxHeartbeats 4000000 in
theorem rov_sp (a : Option Addr) (ds : List Dl) (n c : Nat) (hA : AOK a n) (hn : n ≤ ds.length) (hl : n ≤ 1000) (hw : ∀ d ∈ ds, Wf d) : SpecG Tryd.prog [] ([(a, cD ds)]) 9 #[.slice a n c] ([]) (fun _ => .tuple #[.string (str (ovL (ds.take n))), .int .i64 (ovE (ds.take n))]) := by
  refine specG_of (h := rov_h a ds n c) (?_ : wpG Tryd.prog [] ([(a, cD ds)]) 400 9 [.slice a n c] (rov_h a ds n c) ([]) (fun _ => .tuple #[.string (str (ovL (ds.take n))), .int .i64 (ovE (ds.take n))]))
  rw [rov_x]
  (repeat' (first | with_reducible exact rfl | exact trivial | with_reducible assumption | exact cU_len _ | exact cI_len _ | exact cB_len _ | exact cU_one _ | exact cI_one _ | exact cB_one _ | exact (fun _ h => h) | exact (fun _ h => (List.not_mem_nil h).elim) | exact cS_len _ | exact cS_one _ | exact cD_len _ | exact cD_one _ | exact (fun _ h => h) | (with_reducible refine e1_in ?_) | (with_reducible refine e2_in ?_) | (with_reducible refine lx_in (Nat.le_of_ble_eq_true rfl) ?_) | (with_reducible refine rqx_rf ?_) | (with_reducible refine rqx_in ?_ ?_ ?_) | (with_reducible apply And.intro) | (with_reducible intro _)))
  all_goals (try simp only [Int.toNat_natCast] at *)
  all_goals first
    | exact ⟨⟨0, ⟨#[]⟩⟩, ov_0 _ _, rfl, rfl, trivial⟩
    | (have hx := ‹ovI _ _ _›; have hf := of_decide_eq_true ‹decide (((_ : Nat) : Int) < ((n : Nat) : Int)) = true›; have hf2 := Int.ofNat_lt.1 hf; have hz := ov_sz hx hl; first
        | omega
        | ((with_reducible refine cD_get0 ?_); omega) | ((with_reducible refine cD_get1 ?_); omega) | ((with_reducible refine cD_get2 ?_); omega) | ((with_reducible refine cD_get3 ?_); omega) | ((with_reducible refine cD_get4 ?_); omega) | ((with_reducible refine cD_get5 ?_); omega) | ((with_reducible refine cD_get6 ?_); omega) | ((with_reducible refine cD_get7 ?_); omega) | ((with_reducible refine cD_get8 ?_); omega) | ((with_reducible refine cD_get9 ?_); omega) | ((with_reducible refine cD_get10 ?_); omega) | ((with_reducible refine cD_get11 ?_); omega)
        | exact rpr_sp _ (gD_wf hw (by omega))
        | (show _ + 1 ≤ _; omega)
        | ((with_reducible refine sz_2 ?_); omega)
        | ((with_reducible refine sz_3 ?_); omega)
        | (have hc := bn_t ‹(chk _ != 0) = true›; have e := ov_bd hx hf2 hn hc; rw [e.1, e.2]; done)
        | (have hc := bn_t ‹(chk _ != 0) = true›; have e := ov_bd hx hf2 hn hc; rw [e.1, e.2]; rfl)
        | (have hc := bn_f ‹(chk _ != 0) = false›; have h0 := of_decide_eq_true ‹decide (((_ : Nat) : Int) > 0) = true›; exact ⟨_, ov_s1 hx hf2 hn hc h0, (by show _ - (_ + 1) < _; omega), (by rw [IntWalk.i64_in _ (by omega)]; rfl), rfl, trivial⟩)
        | (have hc := bn_f ‹(chk _ != 0) = false›; have h0 := of_decide_eq_false ‹decide (((_ : Nat) : Int) > 0) = false›; exact ⟨_, ov_s0 hx hf2 hn hc h0, (by show _ - (_ + 1) < _; omega), (by rw [IntWalk.i64_in _ (by omega)]; rfl), rfl, trivial⟩))
    | (have hx := ‹ovI _ _ _›; have hf := of_decide_eq_false ‹decide (((_ : Nat) : Int) < ((n : Nat) : Int)) = false›; have e := ov_en hx hf; rw [e.1, e.2]; done)
    | trace_state
end Go.Proofs.YtkgdlimekkdekaaDoor
