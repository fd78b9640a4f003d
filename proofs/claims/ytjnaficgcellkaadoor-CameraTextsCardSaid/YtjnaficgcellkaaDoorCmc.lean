/- Layer 31 (camera): the lines of observations. -/
import Derived.Test.YtjnaficgcellkaaDoorVz
import Derived.KernelRfl
import Derived.Test.YtjnaficgcellkaaDoorProg
import Derived.Test.YtjnaficgcellkaaDoorCma
import Derived.Test.YtjnaficgcellkaaDoorCmb
import Derived.Test.YtjnaficgcellkaaDoorBlc
set_option linter.unusedSimpArgs false
set_option linter.unusedVariables false
set_option maxRecDepth 100000
namespace Go.Proofs.YtjnaficgcellkaaDoor
open Go.RowKit


theorem rg_64 {a b c d e : Int} (h : sRng ⟨a, b, c, d, e⟩ = true) : (I64 a ∧ I64 b ∧ I64 c ∧ I64 d ∧ I64 e) ∧ (dcS a).size ≤ 21 ∧ (dcS b).size ≤ 21 ∧ (dcS c).size ≤ 21 ∧ (dcS d).size ≤ 21 ∧ (dcS e).size ≤ 21 := by
  have hb := sRng_b h
  simp only at hb
  refine ⟨⟨⟨by omega, by omega⟩, ⟨by omega, by omega⟩, ⟨by omega, by omega⟩, ⟨by omega, by omega⟩, ⟨by omega, by omega⟩⟩, dc_size (by omega), dc_size (by omega), dc_size (by omega), dc_size (by omega), dc_size (by omega)⟩
theorem aok_n : AOK none 0 := ⟨(fun _ => rfl), (fun hn => absurd rfl hn)⟩
theorem aok_b (b n : Nat) : AOK (some ⟨b, 0, none⟩) n := ⟨(fun e => by cases e), (fun _ q hq => by injection hq with hq; subst hq; rfl)⟩

def lne_h (a b c d e : Int) : Hint := ho 0 5 (.rounds 64 (.lit (.pl (.specg kE [] [] [] (fun ads0 x ↦ Value.string (dcS a)) (.pl (.ob 1 (.lit (.pl (.specg kE [] [] [] (fun ads0 x ↦ Value.string (dcS b)) (.pl (.ob 1 (.lit (.pl (.specg kE [] [] [] (fun ads0 x ↦ Value.string (dcS c)) (.pl (.ob 1 (.lit (.pl (.specg kE [] [] [] (fun ads0 x ↦
 Value.string (dcS d)) (.pl (.ob 1 (.lit (.pl (.specg kE [] [] [] (fun ads0 x ↦ Value.string (dcS e)) (.pl (.ob 1 (.lit (.pl (.specg [] [1] [[Value.string (dcS a), .string (dcS b), .string (dcS c), .string (dcS d), .string (dcS e)]] [] (fun ads0 x ↦ Value.string (j5 (dcS a) (dcS b) (dcS c) (dcS d)
 (dcS e))) (.ix (.perm [] .nil)))))))))))))))))))))))))))))))
theorem lne_x (a b c d e : Int) : wpG Tryd.prog kE ([]) 400 32 [.agg #[.int .i64 a, .int .i64 b, .int .i64 c, .int .i64 d, .int .i64 e]] (lne_h a b c d e) ([]) (fun _ => .string (lnB ⟨a, b, c, d, e⟩)) = (∀ (b_1 b_2 : Nat), e1 b_1 5 ((SpecG Tryd.prog kE [] (41 : FuncId) #[Value.int .i64 a] [] fun x ↦ Value.string (dcS a)) /\ (∀ (e : Ex), e ∈ kE -> e ∈ kE) /\ b_2 = b_2 /\ True /\ (SpecG Tryd.prog kE [] (41 : FuncId) #[Value.int .i64 b] [] fun x ↦ Value.string (dcS b)) /\ (∀ (e : Ex), e ∈ kE -> e ∈ kE) /\
 b_2 = b_2 /\ True /\ (SpecG Tryd.prog kE [] (41 : FuncId) #[Value.int .i64 c] [] fun x ↦ Value.string (dcS c)) /\ (∀ (e : Ex), e ∈ kE -> e ∈ kE) /\ b_2 = b_2 /\ True /\ (SpecG Tryd.prog kE [] (41 : FuncId) #[Value.int .i64 d] [] fun x ↦ Value.string (dcS d)) /\ (∀ (e : Ex), e ∈ kE -> e ∈ kE) /\ b_2 =
 b_2 /\ True /\ (SpecG Tryd.prog kE [] (41 : FuncId) #[Value.int .i64 e] [] fun x ↦ Value.string (dcS e)) /\ (∀ (e : Ex), e ∈ kE -> e ∈ kE) /\ b_2 = b_2 /\ True /\ [Value.string (dcS a), .string (dcS b), .string (dcS c), .string (dcS d), .string (dcS e)] = [Value.string (dcS a), .string (dcS b),
 .string (dcS c), .string (dcS d), .string (dcS e)] /\ (SpecG Tryd.prog [] [(some (Addr.mk b_2 (0 : Nat) none), [Value.string (dcS a), .string (dcS b), .string (dcS c), .string (dcS d), .string (dcS e)])] (42 : FuncId) #[Value.slice (some (Addr.mk b_2 (0 : Nat) none)) (5 : Nat) (5 : Nat), .string
 (ByteArray.mk #[(32 : UInt8)])] [] fun x ↦ Value.string (j5 (dcS a) (dcS b) (dcS c) (dcS d) (dcS e))) /\ (∀ (e : Ex), e ∈ [] -> e ∈ kE) /\ ByteArray.size (jnB [dcS a, dcS b, dcS c, dcS d, dcS e]) + (1 : Nat) ≤ (9223372036854775807 : Nat) /\ Value.string (catB (jnB [dcS a, dcS b, dcS c, dcS d, dcS
 e]) (ByteArray.mk (Array.mk [(10 : UInt8)]))) = Value.string (lnB (Sn.mk a b c d e)))) := by kernel_rfl
set_option maxHeartbeats 4000000 in
theorem lne_sp (a b c d e : Int) (h : sRng ⟨a, b, c, d, e⟩ = true) : SpecG Tryd.prog kE ([]) 32 #[.agg #[.int .i64 a, .int .i64 b, .int .i64 c, .int .i64 d, .int .i64 e]] ([]) (fun _ => .string (lnB ⟨a, b, c, d, e⟩)) := by
  refine specG_of (h := lne_h a b c d e) (?_ : wpG Tryd.prog kE ([]) 400 32 [.agg #[.int .i64 a, .int .i64 b, .int .i64 c, .int .i64 d, .int .i64 e]] (lne_h a b c d e) ([]) (fun _ => .string (lnB ⟨a, b, c, d, e⟩)))
  rw [lne_x]
  (repeat' (first | with_reducible exact rfl | exact trivial | with_reducible assumption | exact cU_len _ | exact cI_len _ | exact cB_len _ | exact cU_one _ | exact cI_one _ | exact cB_one _ | exact (fun _ h => h) | exact (fun _ h => (List.not_mem_nil h).elim) | (with_reducible refine e1_in ?_) | (with_reducible refine e2_in ?_) | (with_reducible refine lx_in (Nat.le_of_ble_eq_true rfl) ?_) | (with_reducible refine rqx_rf ?_) | (with_reducible refine rqx_in ?_ ?_ ?_) | (with_reducible apply And.intro) | (with_reducible intro _)))
  all_goals (obtain ⟨⟨g1, g2, g3, g4, g5⟩, s1, s2, s3, s4, s5⟩ := rg_64 h)
  all_goals (first
    | rfl
    | exact dcp_sp _ (by assumption)
    | exact jo5_sp _ _ _ _ _ _ _ (aok_b _ _) (by decide) s1 s2 s3 s4 s5
    | (have hj := j5_size (dcS a) (dcS b) (dcS c) (dcS d) (dcS e); unfold j5 at hj; rw [hj]; omega)
    | omega
    | trace_state)

theorem cat_size (a b : ByteArray) : (catB a b).size = a.size + b.size := by unfold catB; exact ByteArray.size_append
theorem ln_size {s : Sn} (h : sRng s = true) : 1 ≤ (lnB s).size ∧ (lnB s).size ≤ 110 := by
  obtain ⟨_, s1, s2, s3, s4, s5⟩ := rg_64 (a := s.t) (b := s.x) (c := s.y) (d := s.z) (e := s.e) h
  unfold lnB
  rw [cat_size, j5_size]
  have : (⟨#[10]⟩ : ByteArray).size = 1 := rfl
  omega
theorem tx_size {l : List Sn} (h : ckP l l.length) : ∀ k, k ≤ l.length → k ≤ (txB l k).size ∧ (txB l k).size ≤ 110 * k := by
  intro k
  induction k with
  | zero => intro _; exact ⟨Nat.le_refl _, Nat.le_refl _⟩
  | succ k ih =>
    intro hk
    have h1 := ih (by omega)
    have h2 := ln_size (bad_0 (h.2 k (by omega))).1
    simp only [txB]
    rw [cat_size]
    omega
structure TX where
  i : Nat
  b : Nat
  p : Value
  a : Option Addr
  c : Nat
def txI (l : List Sn) (x : TX) : Prop := x.i ≤ l.length ∧ (x.p = .pointer none ∨ x.p = .pointer (some ⟨x.b, 0, none⟩)) ∧ AOK x.a (txB l x.i).size
@[reducible] def txL (k j : Nat) (l : List Sn) : LoopR := ⟨TX, fun x => [(k, .int .i64 x.i), (j, .pointer (some ⟨x.b, 0, none⟩))], [1, 2], fun x => [⟨x.b, [x.p, .slice x.a (txB l x.i).size x.c], 50, noOw⟩, ⟨0, bC (txB l x.i), 5, some ⟨x.a, (txB l x.i).size, x.c, 1⟩⟩], txI l, fun x => l.length - x.i, [(5, 1)]⟩


theorem ck_n {l : List Sn} (h : (ckE l != 0) = false) : ckE l = 0 := by simpa using h
theorem tx_b {l : List Sn} {x : TX} (he : (ckE l != 0) = false) (hx : txI l x) (hi : decide ((x.i : Int) < (l.length : Int)) = true) : (txB l x.i).size + (lnB (gSn l x.i)).size ≤ 140737488355328 := by
  obtain ⟨h1, h2⟩ := ckE_0 (ck_n he)
  have hi := lt_s hi
  have h3 := tx_size h2 x.i (by omega)
  have h4 := ln_size (bad_0 (h2.2 x.i hi)).1
  omega
theorem tx_0 {l : List Sn} {x : TX} (he : (ckE l != 0) = false) (hn : 0 < l.length) (hx : txI l x) (hi : decide ((x.i : Int) < (l.length : Int)) = false) : (txB l x.i).size ≠ 0 := by
  obtain ⟨h1, h2⟩ := ckE_0 (ck_n he)
  have e := ge_s hi hx.1
  have h3 := tx_size h2 x.i hx.1
  omega
theorem tx_r {l : List Sn} (he : (ckE l != 0) = false) {i : Nat} (hi : decide ((i : Int) < (l.length : Int)) = true) : sRng ⟨(gSn l i).t, (gSn l i).x, (gSn l i).y, (gSn l i).z, (gSn l i).e⟩ = true := (bad_0 ((ckE_0 (ck_n he)).2.2 i (lt_s hi))).1
theorem tx_s {l : List Sn} {x : TX} (hl : l.length ≤ 9223372036854775807) (hx : txI l x) (hi : x.i < l.length) {a' : Option Addr} {c' : Nat} (ha : AOK a' ((txB l x.i).size + (lnB (gSn l x.i)).size)) :
    ∃ y : TX, txI l y ∧ l.length - y.i < l.length - x.i ∧ Value.int IntKind.i64 (IntKind.i64.wrap (x.i + 1)) = Value.int IntKind.i64 y.i ∧ Value.pointer (some ⟨x.b, 0, none⟩) = Value.pointer (some ⟨y.b, 0, none⟩) ∧
      (x.b = y.b ∧ [Value.pointer (some ⟨x.b, 0, none⟩), Value.slice a' ((txB l x.i).size + (lnB (gSn l x.i)).size) c'] = [y.p, Value.slice y.a (txB l y.i).size y.c] ∧ True ∧ True) ∧
      (True ∧ bC (catB (txB l x.i) (lnB (gSn l x.i))) = bC (txB l y.i) ∧ True ∧ some (Ow.mk a' ((txB l x.i).size + (lnB (gSn l x.i)).size) c' 1) = some (Ow.mk y.a (txB l y.i).size y.c 1)) ∧ True := by
  have e : (txB l (x.i + 1)).size = (txB l x.i).size + (lnB (gSn l x.i)).size := cat_size _ _
  exact ⟨⟨x.i + 1, x.b, .pointer (some ⟨x.b, 0, none⟩), a', c'⟩, ⟨hi, Or.inr rfl, by rw [e]; exact ha⟩, (by show _ - (_ + 1) < _; omega), wr_s (by omega), rfl, ⟨rfl, by rw [← e], trivial, trivial⟩, ⟨trivial, rfl, trivial, by rw [← e]⟩, trivial⟩

def txt_h (a : Option Addr) (c : Nat) (l : List Sn) : Hint := .specg wE [0] [cSn l] [] (fun ads0 x ↦ Value.tuple #[Value.int .i64 (ckI l), .int .i64 (ckE l)]) (.pl (.known false (.pl (.inv (txL (19 : Nat) (6 : Nat) l) fun x0 ↦ .split (.ix (.lst (0 : Nat) (Int.toNat (↑(TX.i x0) : Int) * (5 : Nat)) (Value.int .i64 (Sn.t (gSn l (Int.toNat (↑(TX.i x0) : Int)))))
 (.lst (0 : Nat) (Int.toNat (↑(TX.i x0) : Int) * (5 : Nat) + (1 : Nat)) (Value.int .i64 (Sn.x (gSn l (Int.toNat (↑(TX.i x0) : Int))))) (.lst (0 : Nat) (Int.toNat (↑(TX.i x0) : Int) * (5 : Nat) + (2 : Nat)) (Value.int .i64 (Sn.y (gSn l (Int.toNat (↑(TX.i x0) : Int))))) (.lst (0 : Nat) (Int.toNat
 (↑(TX.i x0) : Int) * (5 : Nat) + (3 : Nat)) (Value.int .i64 (Sn.z (gSn l (Int.toNat (↑(TX.i x0) : Int))))) (.lst (0 : Nat) (Int.toNat (↑(TX.i x0) : Int) * (5 : Nat) + (4 : Nat)) (Value.int .i64 (Sn.e (gSn l (Int.toNat (↑(TX.i x0) : Int))))) (ho 3 10 (.specg [] [] [] [] (fun ads0 x ↦ Value.agg
 #[Value.int .i64 (Sn.t (gSn l (Int.toNat (↑(TX.i x0) : Int)))), .int .i64 (Sn.x (gSn l (Int.toNat (↑(TX.i x0) : Int)))), .int .i64 (Sn.y (gSn l (Int.toNat (↑(TX.i x0) : Int)))), .int .i64 (Sn.z (gSn l (Int.toNat (↑(TX.i x0) : Int)))), .int .i64 (Sn.e (gSn l (Int.toNat (↑(TX.i x0) : Int))))]) (.specg
 kE [] [] [] (fun ads0 x ↦ Value.string (lnB (gSn l (Int.toNat (↑(TX.i x0) : Int))))) (.specc [] [] [] [Ob.mk (TX.b x0) [TX.p x0, .slice (TX.a x0) (ByteArray.size (txB l (TX.i x0))) (TX.c x0)] (50 : TypeId) noOw, Ob.mk (0 : Nat) (bC (txB l (TX.i x0))) (5 : TypeId) (some (Ow.mk (TX.a x0)
 (ByteArray.size (txB l (TX.i x0))) (TX.c x0) (1 : Nat)))] BW (fun x ↦ AOK (BW.a x) (ByteArray.size (txB l (TX.i x0)) + ByteArray.size (lnB (gSn l (Int.toNat (↑(TX.i x0) : Int))))) /\ ByteArray.size (txB l (TX.i x0)) + ByteArray.size (lnB (gSn l (Int.toNat (↑(TX.i x0) : Int)))) ≤ BW.c x) (fun x ↦
 [Ob.mk (TX.b x0) [Value.pointer (some (Addr.mk (TX.b x0) (0 : Nat) none)), .slice (BW.a x) (ByteArray.size (txB l (TX.i x0)) + ByteArray.size (lnB (gSn l (Int.toNat (↑(TX.i x0) : Int))))) (BW.c x)] (50 : TypeId) noOw, Ob.mk (0 : Nat) (bC (catB (txB l (TX.i x0)) (lnB (gSn l (Int.toNat (↑(TX.i x0) :
 Int)))))) (5 : TypeId) (some (Ow.mk (BW.a x) (ByteArray.size (txB l (TX.i x0)) + ByteArray.size (lnB (gSn l (Int.toNat (↑(TX.i x0) : Int))))) (BW.c x) (1 : Nat)))]) (fun x ↦ Value.tuple #[Value.int .i64 (↑(ByteArray.size (lnB (gSn l (Int.toNat (↑(TX.i x0) : Int))))) : Int), Value.nilIface]) [] []
 [1, 2] fun x_1374 ↦ .perm [4, 5] .nil)))))))))) (.specc [] [] [] [Ob.mk (TX.b x0) [TX.p x0, .slice (TX.a x0) (ByteArray.size (txB l (TX.i x0))) (TX.c x0)] (50 : TypeId) noOw, Ob.mk (0 : Nat) (bC (txB l (TX.i x0))) (5 : TypeId) (some (Ow.mk (TX.a x0) (ByteArray.size (txB l (TX.i x0))) (TX.c x0) (1 :
 Nat)))] Un (fun x ↦ x = Un.un) (fun x ↦ []) (fun x ↦ Value.string (txB l (TX.i x0))) [] [] [1, 2] fun x_2304 ↦ .perm [] .nil)))))
theorem txt_x (a : Option Addr) (c : Nat) (l : List Sn) : wpG Tryd.prog kE ([(a, cSn l)]) 400 22 [.slice a l.length c] (txt_h a c l) ([]) (fun _ => .tuple #[.string (txB l l.length), .int .i64 0]) = (cSn l = cSn l /\ (SpecG Tryd.prog wE [(a, cSn l)] (11 : FuncId) #[Value.slice a (List.length l) c] [] fun x ↦ Value.tuple #[Value.int .i64 (ckI l), .int .i64 (ckE l)]) /\ (∀ (e : Ex), e ∈ wE -> e ∈ kE) /\ (ckE l != 0) = false /\ ∀ (b : Nat), (∃ x, txI l x /\ Value.int .i64 0 = Value.int .i64 (↑(TX.i
 x) : Int) /\ Value.pointer (some (Addr.mk b (0 : Nat) none)) = Value.pointer (some (Addr.mk (TX.b x) (0 : Nat) none)) /\ (b = TX.b x /\ [Value.pointer none, .slice none (0 : Nat) (0 : Nat)] = [TX.p x, .slice (TX.a x) (ByteArray.size (txB l (TX.i x))) (TX.c x)] /\ (50 : Nat) = (50 : Nat) /\ noOw =
 noOw) /\ ((0 : Nat) = (0 : Nat) /\ [] = bC (txB l (TX.i x)) /\ (5 : Nat) = (5 : Nat) /\ some (Ow.mk none (0 : Nat) (0 : Nat) (1 : Nat)) = some (Ow.mk (TX.a x) (ByteArray.size (txB l (TX.i x))) (TX.c x) (1 : Nat))) /\ True) /\ ∀ (x0 : TX), txI l x0 -> ∀ (junk : Nat -> Value), (decide ((↑(TX.i x0) :
 Int) < (↑(List.length l) : Int)) = true -> (((0 : Int) ≤ (↑(TX.i x0) : Int) /\ (↑(TX.i x0) : Int) < (↑(List.length l) : Int)) /\ AOK a (List.length l)) /\ bk a = bk a /\ ofs a + Int.toNat (↑(TX.i x0) : Int) * (5 : Nat) = ofs a + Int.toNat (↑(TX.i x0) : Int) * (5 : Nat) /\ lgo (cSn l) (Int.toNat
 (↑(TX.i x0) : Int) * (5 : Nat)) = some (Value.int .i64 (Sn.t (gSn l (Int.toNat (↑(TX.i x0) : Int))))) /\ bk a = bk a /\ ofs a + Int.toNat (↑(TX.i x0) : Int) * (5 : Nat) + (1 : Nat) = ofs a + (Int.toNat (↑(TX.i x0) : Int) * (5 : Nat) + (1 : Nat)) /\ lgo (cSn l) (Int.toNat (↑(TX.i x0) : Int) * (5 :
 Nat) + (1 : Nat)) = some (Value.int .i64 (Sn.x (gSn l (Int.toNat (↑(TX.i x0) : Int))))) /\ bk a = bk a /\ ofs a + Int.toNat (↑(TX.i x0) : Int) * (5 : Nat) + (2 : Nat) = ofs a + (Int.toNat (↑(TX.i x0) : Int) * (5 : Nat) + (2 : Nat)) /\ lgo (cSn l) (Int.toNat (↑(TX.i x0) : Int) * (5 : Nat) + (2 :
 Nat)) = some (Value.int .i64 (Sn.y (gSn l (Int.toNat (↑(TX.i x0) : Int))))) /\ bk a = bk a /\ ofs a + Int.toNat (↑(TX.i x0) : Int) * (5 : Nat) + (3 : Nat) = ofs a + (Int.toNat (↑(TX.i x0) : Int) * (5 : Nat) + (3 : Nat)) /\ lgo (cSn l) (Int.toNat (↑(TX.i x0) : Int) * (5 : Nat) + (3 : Nat)) = some
 (Value.int .i64 (Sn.z (gSn l (Int.toNat (↑(TX.i x0) : Int))))) /\ bk a = bk a /\ ofs a + Int.toNat (↑(TX.i x0) : Int) * (5 : Nat) + (4 : Nat) = ofs a + (Int.toNat (↑(TX.i x0) : Int) * (5 : Nat) + (4 : Nat)) /\ lgo (cSn l) (Int.toNat (↑(TX.i x0) : Int) * (5 : Nat) + (4 : Nat)) = some (Value.int .i64
 (Sn.e (gSn l (Int.toNat (↑(TX.i x0) : Int))))) /\ ∀ (b : Nat), e2 b 5 (e1 b 5 ((SpecG Tryd.prog [] [] (27 : FuncId) #[Value.agg #[Value.int .i64 (Sn.t (gSn l (Int.toNat (↑(TX.i x0) : Int)))), .int .i64 (Sn.x (gSn l (Int.toNat (↑(TX.i x0) : Int)))), .int .i64 (Sn.y (gSn l (Int.toNat (↑(TX.i x0) :
 Int)))), .int .i64 (Sn.z (gSn l (Int.toNat (↑(TX.i x0) : Int)))), .int .i64 (Sn.e (gSn l (Int.toNat (↑(TX.i x0) : Int))))]] [] fun x ↦ Value.agg #[Value.int .i64 (Sn.t (gSn l (Int.toNat (↑(TX.i x0) : Int)))), .int .i64 (Sn.x (gSn l (Int.toNat (↑(TX.i x0) : Int)))), .int .i64 (Sn.y (gSn l (Int.toNat
 (↑(TX.i x0) : Int)))), .int .i64 (Sn.z (gSn l (Int.toNat (↑(TX.i x0) : Int)))), .int .i64 (Sn.e (gSn l (Int.toNat (↑(TX.i x0) : Int))))]) /\ (∀ (e : Ex), e ∈ [] -> e ∈ kE) /\ (SpecG Tryd.prog kE [] (32 : FuncId) #[Value.agg #[Value.int .i64 (Sn.t (gSn l (Int.toNat (↑(TX.i x0) : Int)))), .int .i64
 (Sn.x (gSn l (Int.toNat (↑(TX.i x0) : Int)))), .int .i64 (Sn.y (gSn l (Int.toNat (↑(TX.i x0) : Int)))), .int .i64 (Sn.z (gSn l (Int.toNat (↑(TX.i x0) : Int)))), .int .i64 (Sn.e (gSn l (Int.toNat (↑(TX.i x0) : Int))))]] [] fun x ↦ Value.string (lnB (gSn l (Int.toNat (↑(TX.i x0) : Int))))) /\ (∀ (e :
 Ex), e ∈ kE -> e ∈ kE) /\ (SpecC Tryd.prog [] [] [] [Ob.mk (TX.b x0) [TX.p x0, .slice (TX.a x0) (ByteArray.size (txB l (TX.i x0))) (TX.c x0)] (50 : TypeId) noOw, Ob.mk (0 : Nat) (bC (txB l (TX.i x0))) (5 : TypeId) (some (Ow.mk (TX.a x0) (ByteArray.size (txB l (TX.i x0))) (TX.c x0) (1 : Nat)))] (31 :
 FuncId) #[Value.pointer (some (Addr.mk (TX.b x0) (0 : Nat) none)), .string (lnB (gSn l (Int.toNat (↑(TX.i x0) : Int))))] BW (fun x ↦ AOK (BW.a x) (ByteArray.size (txB l (TX.i x0)) + ByteArray.size (lnB (gSn l (Int.toNat (↑(TX.i x0) : Int))))) /\ ByteArray.size (txB l (TX.i x0)) + ByteArray.size (lnB
 (gSn l (Int.toNat (↑(TX.i x0) : Int)))) ≤ BW.c x) (fun x ↦ [Ob.mk (TX.b x0) [Value.pointer (some (Addr.mk (TX.b x0) (0 : Nat) none)), .slice (BW.a x) (ByteArray.size (txB l (TX.i x0)) + ByteArray.size (lnB (gSn l (Int.toNat (↑(TX.i x0) : Int))))) (BW.c x)] (50 : TypeId) noOw, Ob.mk (0 : Nat) (bC
 (catB (txB l (TX.i x0)) (lnB (gSn l (Int.toNat (↑(TX.i x0) : Int)))))) (5 : TypeId) (some (Ow.mk (BW.a x) (ByteArray.size (txB l (TX.i x0)) + ByteArray.size (lnB (gSn l (Int.toNat (↑(TX.i x0) : Int))))) (BW.c x) (1 : Nat)))]) fun x ↦ Value.tuple #[Value.int .i64 (↑(ByteArray.size (lnB (gSn l
 (Int.toNat (↑(TX.i x0) : Int))))) : Int), Value.nilIface]) /\ (∀ (e : Ex), e ∈ [] -> e ∈ kE) /\ ((TX.b x0 = TX.b x0 /\ [TX.p x0, .slice (TX.a x0) (ByteArray.size (txB l (TX.i x0))) (TX.c x0)] = [TX.p x0, .slice (TX.a x0) (ByteArray.size (txB l (TX.i x0))) (TX.c x0)] /\ (50 : Nat) = (50 : Nat) /\
 noOw = noOw) /\ ((0 : Nat) = (0 : Nat) /\ bC (txB l (TX.i x0)) = bC (txB l (TX.i x0)) /\ (5 : Nat) = (5 : Nat) /\ some (Ow.mk (TX.a x0) (ByteArray.size (txB l (TX.i x0))) (TX.c x0) (1 : Nat)) = some (Ow.mk (TX.a x0) (ByteArray.size (txB l (TX.i x0))) (TX.c x0) (1 : Nat))) /\ True) /\ True /\ True /\
 ∀ (x_1374 : BW), AOK (BW.a x_1374) (ByteArray.size (txB l (TX.i x0)) + ByteArray.size (lnB (gSn l (Int.toNat (↑(TX.i x0) : Int))))) /\ ByteArray.size (txB l (TX.i x0)) + ByteArray.size (lnB (gSn l (Int.toNat (↑(TX.i x0) : Int)))) ≤ BW.c x_1374 -> ∃ y, txI l y /\ List.length l - TX.i y < List.length
 l - TX.i x0 /\ Value.int .i64 (IntKind.i64.wrap ((↑(TX.i x0) : Int) + (1 : Int))) = Value.int .i64 (↑(TX.i y) : Int) /\ Value.pointer (some (Addr.mk (TX.b x0) (0 : Nat) none)) = Value.pointer (some (Addr.mk (TX.b y) (0 : Nat) none)) /\ (TX.b x0 = TX.b y /\ [Value.pointer (some (Addr.mk (TX.b x0) (0
 : Nat) none)), .slice (BW.a x_1374) (ByteArray.size (txB l (TX.i x0)) + ByteArray.size (lnB (gSn l (Int.toNat (↑(TX.i x0) : Int))))) (BW.c x_1374)] = [TX.p y, .slice (TX.a y) (ByteArray.size (txB l (TX.i y))) (TX.c y)] /\ (50 : Nat) = (50 : Nat) /\ noOw = noOw) /\ ((0 : Nat) = (0 : Nat) /\ bC (catB
 (txB l (TX.i x0)) (lnB (gSn l (Int.toNat (↑(TX.i x0) : Int))))) = bC (txB l (TX.i y)) /\ (5 : Nat) = (5 : Nat) /\ some (Ow.mk (BW.a x_1374) (ByteArray.size (txB l (TX.i x0)) + ByteArray.size (lnB (gSn l (Int.toNat (↑(TX.i x0) : Int))))) (BW.c x_1374) (1 : Nat)) = some (Ow.mk (TX.a y) (ByteArray.size
 (txB l (TX.i y))) (TX.c y) (1 : Nat))) /\ True))) /\ (decide ((↑(TX.i x0) : Int) < (↑(List.length l) : Int)) = false -> (SpecC Tryd.prog [] [] [] [Ob.mk (TX.b x0) [TX.p x0, .slice (TX.a x0) (ByteArray.size (txB l (TX.i x0))) (TX.c x0)] (50 : TypeId) noOw, Ob.mk (0 : Nat) (bC (txB l (TX.i x0))) (5 :
 TypeId) (some (Ow.mk (TX.a x0) (ByteArray.size (txB l (TX.i x0))) (TX.c x0) (1 : Nat)))] (33 : FuncId) #[Value.pointer (some (Addr.mk (TX.b x0) (0 : Nat) none))] Un (fun x ↦ x = Un.un) (fun x ↦ []) fun x ↦ Value.string (txB l (TX.i x0))) /\ (∀ (e : Ex), e ∈ [] -> e ∈ kE) /\ ((TX.b x0 = TX.b x0 /\
 [TX.p x0, .slice (TX.a x0) (ByteArray.size (txB l (TX.i x0))) (TX.c x0)] = [TX.p x0, .slice (TX.a x0) (ByteArray.size (txB l (TX.i x0))) (TX.c x0)] /\ (50 : Nat) = (50 : Nat) /\ noOw = noOw) /\ ((0 : Nat) = (0 : Nat) /\ bC (txB l (TX.i x0)) = bC (txB l (TX.i x0)) /\ (5 : Nat) = (5 : Nat) /\ some
 (Ow.mk (TX.a x0) (ByteArray.size (txB l (TX.i x0))) (TX.c x0) (1 : Nat)) = some (Ow.mk (TX.a x0) (ByteArray.size (txB l (TX.i x0))) (TX.c x0) (1 : Nat))) /\ True) /\ True /\ True /\ ∀ (x_2304 : Un), x_2304 = Un.un -> Value.tuple (Array.mk [.string (txB l (TX.i x0)), .int .i64 0]) = Value.tuple
 (Array.mk [.string (txB l (List.length l)), .int .i64 0]))) := by kernel_rfl
set_option maxHeartbeats 4000000 in
theorem txt_sp (a : Option Addr) (c : Nat) (l : List Sn) (hA : AOK a l.length) (hl : l.length ≤ 9223372036854775807) (he : (ckE l != 0) = false) (hn : 0 < l.length) : SpecG Tryd.prog kE ([(a, cSn l)]) 22 #[.slice a l.length c] ([]) (fun _ => .tuple #[.string (txB l l.length), .int .i64 0]) := by
  refine specG_of (h := txt_h a c l) (?_ : wpG Tryd.prog kE ([(a, cSn l)]) 400 22 [.slice a l.length c] (txt_h a c l) ([]) (fun _ => .tuple #[.string (txB l l.length), .int .i64 0]))
  rw [txt_x]
  (repeat' (first | with_reducible exact rfl | exact trivial | with_reducible assumption | (with_reducible exact chk_sp _ _ _ hA hl) | (with_reducible exact rwo_sp _ _ _ _ _) | exact cSn_len _ | exact cSn_one _ | exact bC_len _ | exact cU_len _ | exact cI_len _ | exact cB_len _ | exact cU_one _ | exact cI_one _ | exact cB_one _ | exact (fun _ h => h) | exact (fun _ h => List.mem_cons_of_mem _ h) | exact (fun _ h => (List.not_mem_nil h).elim) | exact wst_n _ _ _ _ _ _ _ rfl (‹txI l _›).2.1 (tx_b he ‹txI l _› ‹_›) | exact bst_n _ _ _ _ _ _ rfl (tx_0 he hn ‹txI l _› ‹_›) | exact lne_sp _ _ _ _ _ (tx_r he ‹decide (((TX.i _ : Nat) : Int) < (l.length : Int)) = true›) | (with_reducible refine e1_in ?_) | (with_reducible refine e2_in ?_) | (with_reducible refine lx_in (Nat.le_of_ble_eq_true rfl) ?_) | (with_reducible refine rqx_rf ?_) | (with_reducible refine rqx_in ?_ ?_ ?_) | (with_reducible apply And.intro) | (with_reducible intro _)))
  all_goals (try simp only [Int.toNat_natCast] at *)
  all_goals (first
    | rfl
    | (exact ⟨⟨0, _, _, none, 0⟩, ⟨Nat.zero_le _, Or.inl rfl, aok_n⟩, rfl, rfl, ⟨rfl, rfl, (by trivial), (by trivial)⟩, ⟨(by trivial), rfl, (by trivial), rfl⟩, trivial⟩)
    | (have hi := lt_s ‹_›; first | omega | exact hA | exact cSn_get0 hi | exact cSn_get1 hi | exact cSn_get2 hi | exact cSn_get3 hi | exact cSn_get4 hi | exact tx_s hl ‹txI l _› hi (by assumption) | exact tx_s hl ‹txI l _› hi (And.left (by assumption)))
    | (have hx := ‹txI l _›; have e := ge_s ‹_› hx.1; rw [e])
    | (simp only [*, Bool.and_true, Bool.true_and, Bool.and_false, Bool.false_and, Bool.or_true, Bool.true_or, Bool.or_false, Bool.false_or, Bool.not_true, Bool.not_false, cond_true, cond_false]; done)
    | trace_state)
end Go.Proofs.YtjnaficgcellkaaDoor
