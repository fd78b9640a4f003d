/- Layer 31 (camera): Parse of the lines of a list. -/
import Derived.Test.YtjnaficgcellkaaDoorVz
import Derived.KernelRfl
import Derived.Test.YtjnaficgcellkaaDoorProg
import Derived.Test.YtjnaficgcellkaaDoorCma
import Derived.Test.YtjnaficgcellkaaDoorCmb
import Derived.Test.YtjnaficgcellkaaDoorCmc
import Derived.Test.YtjnaficgcellkaaDoorCmt
import Derived.Test.YtjnaficgcellkaaDoorBlc
import Derived.Test.YtjnaficgcellkaaDoorBlt
set_option linter.unusedSimpArgs false
set_option linter.unusedVariables false
set_option maxRecDepth 100000
namespace Go.Proofs.YtjnaficgcellkaaDoor
open Go.RowKit


theorem nth_aok {n : Nat} {p : Option Addr × Nat} (h : AOK p.1 n) : AOK p.1 n := h

def prw_h (s : Sn) : Hint := .specg tE [] [] [RowT.mk (9 : TypeId) (1 : Nat) (5 : Nat) [Value.string (dcS (Sn.t s)), .string (dcS (Sn.x s)), .string (dcS (Sn.y s)), .string (dcS (Sn.z s)), .string (dcS (Sn.e s))]] (fun ads0 ads ↦ Value.slice (Prod.fst (nthS ads (0 : Nat))) (5 : Nat) (Prod.snd (nthS ads (0 : Nat)))) (.pl (.pl
 (.lit (.pl (.rounds 64 (.lit (.ix (.lst (1 : Nat) (0 : Nat) (Value.string (dcS (Sn.t s))) (.draw [0, 1, 2] none [0, 1, 2] (.take 0 (.take 1 (.take 2 (.pl (.take 3 (.ex (0 : Nat) (Value.int .i64 0) (.take 4 (.take 5 (.pl (.take 6 (.ex (1 : Nat) (Value.int .i64 4000) (.pl (.br (.specg tE [] [] [] (fun
 ads0 x ↦ Value.tuple #[Value.int .i64 (Sn.t s), .int .i64 0]) (.take 8 (.take 9 (.take 10 (.take 11 (.take 12 (.pl (.lit (.pl (.ob 2 (.lit (.ix (.lst (1 : Nat) (1 : Nat) (Value.string (dcS (Sn.x s))) (.draw [0, 1, 2] none [0, 1, 2] (.take 0 (.take 1 (.take 2 (.pl (.take 3 (.ex (0 : Nat) (Value.int
 .i64 (-300000 : Int)) (.take 4 (.take 5 (.pl (.take 6 (.ex (1 : Nat) (Value.int .i64 300000) (.pl (.br (.specg tE [] [] [] (fun ads0 x ↦ Value.tuple #[Value.int .i64 (Sn.x s), .int .i64 0]) (.take 8 (.take 9 (.take 10 (.take 11 (.take 12 (.pl (.lit (.pl (.ob 2 (.lit (.ix (.lst (1 : Nat) (2 : Nat)
 (Value.string (dcS (Sn.y s))) (.draw [0, 1, 2] none [0, 1, 2] (.take 0 (.take 1 (.take 2 (.pl (.take 3 (.ex (0 : Nat) (Value.int .i64 (-50000 : Int)) (.take 4 (.take 5 (.pl (.take 6 (.ex (1 : Nat) (Value.int .i64 50000) (.pl (.br (.specg tE [] [] [] (fun ads0 x ↦ Value.tuple #[Value.int .i64 (Sn.y
 s), .int .i64 0]) (.take 8 (.take 9 (.take 10 (.take 11 (.take 12 (.pl (.lit (.pl (.ob 2 (.lit (.ix (.lst (1 : Nat) (3 : Nat) (Value.string (dcS (Sn.z s))) (.draw [0, 1, 2] none [0, 1, 2] (.take 0 (.take 1 (.take 2 (.pl (.take 3 (.ex (0 : Nat) (Value.int .i64 0) (.take 4 (.take 5 (.pl (.take 6 (.ex
 (1 : Nat) (Value.int .i64 50000) (.pl (.br (.specg tE [] [] [] (fun ads0 x ↦ Value.tuple #[Value.int .i64 (Sn.z s), .int .i64 0]) (.take 8 (.take 9 (.take 10 (.take 11 (.take 12 (.pl (.lit (.pl (.ob 2 (.lit (.ix (.lst (1 : Nat) (4 : Nat) (Value.string (dcS (Sn.e s))) (.draw [0, 1, 2] none [0, 1, 2]
 (.take 0 (.take 1 (.take 2 (.pl (.take 3 (.ex (0 : Nat) (Value.int .i64 1) (.take 4 (.take 5 (.pl (.take 6 (.ex (1 : Nat) (Value.int .i64 1000) (.pl (.br (.specg tE [] [] [] (fun ads0 x ↦ Value.tuple #[Value.int .i64 (Sn.e s), .int .i64 0]) (.take 8 (.take 9 (.take 10 (.take 11 (.take 12 (.pl (.lit
 (.pl (.ob 2 (.lit (ho 2 5 (ho 0 10 (.perm [] .nil)))))))))))))) .nil))))))))))))))))))))))))))) .nil))))))))))))))))))))))))))) .nil))))))))))))))))))))))))))) .nil))))))))))))))))))))))))))) .nil))))))))))))))))))))))
theorem prw_x (s : Sn) : wpG Tryd.prog tE ([]) 400 36 [.string (jw s)] (prw_h s) ([]) (fun _ => .tuple #[.agg #[.int .i64 s.t, .int .i64 s.x, .int .i64 s.y, .int .i64 s.z, .int .i64 s.e], .bool true]) = (∀ (b : Nat), (SpecG Tryd.prog tE [] (44 : FuncId) #[Value.string (jw s), .string (ByteArray.mk #[(32 : UInt8)]), .int .i64 6] [RowT.mk (9 : TypeId) (1 : Nat) (5 : Nat) [Value.string (dcS (Sn.t s)), .string (dcS (Sn.x s)), .string (dcS (Sn.y s)), .string (dcS (Sn.z s)), .string (dcS (Sn.e s))]] fun ads
 ↦ Value.slice (Prod.fst (nthS ads (0 : Nat))) (5 : Nat) (Prod.snd (nthS ads (0 : Nat)))) /\ (∀ (e : Ex), e ∈ tE -> e ∈ tE) /\ ∀ (a : Option Addr) (cap : Nat), AOK a 5 -> 5 ≤ cap -> ∀ (b_1 : Nat), (((0 : Int) ≤ (0 : Int) /\ (0 : Int) < (5 : Int)) /\ AOK a (5 : Nat)) /\ bk a = bk a /\ ofs a + (0 :
 Nat) = ofs a + (0 : Nat) /\ some (Value.string (dcS (Sn.t s))) = some (Value.string (dcS (Sn.t s))) /\ (0 : Nat) = (0 : Nat) /\ lgo [Value.int .i64 0, .int .i64 (-300000 : Int), .int .i64 (-50000 : Int), .int .i64 0, .int .i64 1] (0 : Nat) = some (Value.int .i64 0) /\ (1 : Nat) = (1 : Nat) /\ lgo
 [Value.int .i64 4000, .int .i64 300000, .int .i64 50000, .int .i64 50000, .int .i64 1000] (0 : Nat) = some (Value.int .i64 4000) /\ True /\ ((SpecG Tryd.prog tE [] (45 : FuncId) #[Value.string (dcS (Sn.t s)), .int .i64 0, .int .i64 4000] [] fun x ↦ Value.tuple #[Value.int .i64 (Sn.t s), .int .i64 0])
 /\ (∀ (e : Ex), e ∈ tE -> e ∈ tE) /\ b_1 = b_1 /\ True /\ (((0 : Int) ≤ (1 : Int) /\ (1 : Int) < (5 : Int)) /\ AOK a (5 : Nat)) /\ bk a = bk a /\ ofs a + (1 : Nat) = ofs a + (1 : Nat) /\ some (Value.string (dcS (Sn.x s))) = some (Value.string (dcS (Sn.x s))) /\ (0 : Nat) = (0 : Nat) /\ lgo
 [Value.int .i64 0, .int .i64 (-300000 : Int), .int .i64 (-50000 : Int), .int .i64 0, .int .i64 1] (1 : Nat) = some (Value.int .i64 (-300000 : Int)) /\ (1 : Nat) = (1 : Nat) /\ lgo [Value.int .i64 4000, .int .i64 300000, .int .i64 50000, .int .i64 50000, .int .i64 1000] (1 : Nat) = some (Value.int
 .i64 300000) /\ True /\ ((SpecG Tryd.prog tE [] (45 : FuncId) #[Value.string (dcS (Sn.x s)), .int .i64 (-300000 : Int), .int .i64 300000] [] fun x ↦ Value.tuple #[Value.int .i64 (Sn.x s), .int .i64 0]) /\ (∀ (e : Ex), e ∈ tE -> e ∈ tE) /\ b_1 = b_1 /\ True /\ (((0 : Int) ≤ (2 : Int) /\ (2 : Int) < (5
 : Int)) /\ AOK a (5 : Nat)) /\ bk a = bk a /\ ofs a + (2 : Nat) = ofs a + (2 : Nat) /\ some (Value.string (dcS (Sn.y s))) = some (Value.string (dcS (Sn.y s))) /\ (0 : Nat) = (0 : Nat) /\ lgo [Value.int .i64 0, .int .i64 (-300000 : Int), .int .i64 (-50000 : Int), .int .i64 0, .int .i64 1] (2 : Nat) =
 some (Value.int .i64 (-50000 : Int)) /\ (1 : Nat) = (1 : Nat) /\ lgo [Value.int .i64 4000, .int .i64 300000, .int .i64 50000, .int .i64 50000, .int .i64 1000] (2 : Nat) = some (Value.int .i64 50000) /\ True /\ ((SpecG Tryd.prog tE [] (45 : FuncId) #[Value.string (dcS (Sn.y s)), .int .i64 (-50000 :
 Int), .int .i64 50000] [] fun x ↦ Value.tuple #[Value.int .i64 (Sn.y s), .int .i64 0]) /\ (∀ (e : Ex), e ∈ tE -> e ∈ tE) /\ b_1 = b_1 /\ True /\ (((0 : Int) ≤ (3 : Int) /\ (3 : Int) < (5 : Int)) /\ AOK a (5 : Nat)) /\ bk a = bk a /\ ofs a + (3 : Nat) = ofs a + (3 : Nat) /\ some (Value.string (dcS
 (Sn.z s))) = some (Value.string (dcS (Sn.z s))) /\ (0 : Nat) = (0 : Nat) /\ lgo [Value.int .i64 0, .int .i64 (-300000 : Int), .int .i64 (-50000 : Int), .int .i64 0, .int .i64 1] (3 : Nat) = some (Value.int .i64 0) /\ (1 : Nat) = (1 : Nat) /\ lgo [Value.int .i64 4000, .int .i64 300000, .int .i64
 50000, .int .i64 50000, .int .i64 1000] (3 : Nat) = some (Value.int .i64 50000) /\ True /\ ((SpecG Tryd.prog tE [] (45 : FuncId) #[Value.string (dcS (Sn.z s)), .int .i64 0, .int .i64 50000] [] fun x ↦ Value.tuple #[Value.int .i64 (Sn.z s), .int .i64 0]) /\ (∀ (e : Ex), e ∈ tE -> e ∈ tE) /\ b_1 = b_1
 /\ True /\ (((0 : Int) ≤ (4 : Int) /\ (4 : Int) < (5 : Int)) /\ AOK a (5 : Nat)) /\ bk a = bk a /\ ofs a + (4 : Nat) = ofs a + (4 : Nat) /\ some (Value.string (dcS (Sn.e s))) = some (Value.string (dcS (Sn.e s))) /\ (0 : Nat) = (0 : Nat) /\ lgo [Value.int .i64 0, .int .i64 (-300000 : Int), .int .i64
 (-50000 : Int), .int .i64 0, .int .i64 1] (4 : Nat) = some (Value.int .i64 1) /\ (1 : Nat) = (1 : Nat) /\ lgo [Value.int .i64 4000, .int .i64 300000, .int .i64 50000, .int .i64 50000, .int .i64 1000] (4 : Nat) = some (Value.int .i64 1000) /\ True /\ ((SpecG Tryd.prog tE [] (45 : FuncId)
 #[Value.string (dcS (Sn.e s)), .int .i64 1, .int .i64 1000] [] fun x ↦ Value.tuple #[Value.int .i64 (Sn.e s), .int .i64 0]) /\ (∀ (e : Ex), e ∈ tE -> e ∈ tE) /\ b_1 = b_1 /\ True /\ e1 b_1 5 (e2 b 5 (e1 b 5 (Value.tuple (Array.mk [.agg (Array.mk [.int .i64 (Sn.t s), .int .i64 (Sn.x s), .int .i64
 (Sn.y s), .int .i64 (Sn.z s), .int .i64 (Sn.e s)]), .bool true]) = Value.tuple (Array.mk [.agg (Array.mk [.int .i64 (Sn.t s), .int .i64 (Sn.x s), .int .i64 (Sn.y s), .int .i64 (Sn.z s), .int .i64 (Sn.e s)]), .bool true]))))) /\ True) /\ True) /\ True) /\ True) /\ True) := by kernel_rfl
set_option maxHeartbeats 4000000 in
theorem prw_sp (s : Sn) (h : sRng s = true) : SpecG Tryd.prog tE ([]) 36 #[.string (jw s)] ([]) (fun _ => .tuple #[.agg #[.int .i64 s.t, .int .i64 s.x, .int .i64 s.y, .int .i64 s.z, .int .i64 s.e], .bool true]) := by
  refine specG_of (h := prw_h s) (?_ : wpG Tryd.prog tE ([]) 400 36 [.string (jw s)] (prw_h s) ([]) (fun _ => .tuple #[.agg #[.int .i64 s.t, .int .i64 s.x, .int .i64 s.y, .int .i64 s.z, .int .i64 s.e], .bool true]))
  rw [prw_x]
  (repeat' (first | with_reducible exact rfl | exact trivial | with_reducible assumption | exact cSn_len _ | exact cSn_one _ | exact cU_len _ | exact cI_len _ | exact cB_len _ | exact cU_one _ | exact cI_one _ | exact cB_one _ | exact (fun _ h => h) | exact kE_tE | exact wE_tE | exact (fun _ h => (List.not_mem_nil h).elim) | (with_reducible refine e1_in ?_) | (with_reducible refine e2_in ?_) | (with_reducible refine lx_in (Nat.le_of_ble_eq_true rfl) ?_) | (with_reducible refine rqx_rf ?_) | (with_reducible refine rqx_in ?_ ?_ ?_) | (with_reducible apply And.intro) | (with_reducible intro _)))
  all_goals (obtain ⟨⟨b1, b2⟩, ⟨b3, b4⟩, ⟨b5, b6⟩, ⟨b7, b8⟩, b9, b10⟩ := sRng_b h)
  all_goals (obtain ⟨⟨g1, g2, g3, g4, g5⟩, s1, s2, s3, s4, s5⟩ := rg_64 (a := s.t) (b := s.x) (c := s.y) (d := s.z) (e := s.e) h)
  all_goals (first
    | rfl
    | exact spl_c _ h
    | exact num_c _ _ _ (by assumption) (by omega) (by omega) ⟨by decide, by decide⟩ ⟨by decide, by decide⟩
    | exact aok_b _ _
    | omega
    | trace_state)

theorem pwi_sp (l : List Sn) (i : Nat) (h : sRng (gSn l i) = true) : SpecG Tryd.prog tE [] 36 #[.string (jw (gSn l i))] [] (fun _ => .tuple #[.agg #[.int .i64 (gSn l i).t, .int .i64 (gSn l i).x, .int .i64 (gSn l i).y, .int .i64 (gSn l i).z, .int .i64 (gSn l i).e], .bool true]) := prw_sp _ h
theorem sE_it {x y : ByteArray} : (ByteArray.toList x == ByteArray.toList y) = true ↔ x = y := by
  constructor
  · intro h
    have := eq_of_beq h
    rw [ByteArray.toList_eq, ByteArray.toList_eq] at this
    exact ba_ext2 this
  · rintro rfl
    exact beq_self_eq_true _
theorem tL_nil (b : ByteArray) : (ByteArray.toList b == ByteArray.toList (ByteArray.mk (Array.mk []))) = decide (b = ⟨#[]⟩) := by
  rw [Bool.eq_iff_iff, sE_it]
  simp

structure PA where
  i : Nat
  l : List Sn
  a : Option Addr
  c : Nat
def paI (l : List Sn) (x : PA) : Prop := x.i ≤ l.length ∧ x.l = l.take x.i ∧ AOK x.a x.l.length
@[reducible] def paL (l : List Sn) : LoopR := ⟨PA, fun x => [(0, .string (rxB l x.i)), (4, .slice x.a x.l.length x.c)], [0], fun x => [⟨0, cSn x.l, 33, some ⟨x.a, x.l.length, x.c, 5⟩⟩], paI l, fun x => l.length - x.i, [(33, 5)]⟩
theorem pa_lt {l : List Sn} {x : PA} (hx : paI l x) (h : (!(ByteArray.toList (rxB l x.i) == ByteArray.toList (ByteArray.mk (Array.mk [])))) = true) : x.i < l.length := by
  refine Classical.byContradiction fun hn => ?_
  have e : x.i = l.length := by have := hx.1; omega
  rw [tL_nil, e, rx_e] at h
  exact absurd h (by simp)
theorem pa_ge {l : List Sn} {x : PA} (he : (ckE l != 0) = false) (hx : paI l x) (h : (!(ByteArray.toList (rxB l x.i) == ByteArray.toList (ByteArray.mk (Array.mk [])))) = false) : x.l = l := by
  have e : x.i = l.length := by
    refine Classical.byContradiction fun hn => ?_
    have hlt : x.i < l.length := by have := hx.1; omega
    have := rx_ne ((ckE_0 (ck_n he)).2) hlt
    rw [tL_nil] at h
    simp at h
    exact this h
  rw [hx.2.1, e, List.take_length]
theorem pa_no {l : List Sn} {x : PA} (he : (ckE l != 0) = false) (hx : paI l x) (h : (!(ByteArray.toList (rxB l x.i) == ByteArray.toList (ByteArray.mk (Array.mk [])))) = false) (hc : (ckE x.l != 0) = true) : False := by
  rw [pa_ge he hx h, he] at hc
  cases hc
theorem pa_s {l : List Sn} {i : Nat} (h : i < l.length) : cSn (l.take i) ++ [.int .i64 (gSn l i).t, .int .i64 (gSn l i).x, .int .i64 (gSn l i).y, .int .i64 (gSn l i).z, .int .i64 (gSn l i).e] = cSn (l.take (i + 1)) := by
  have h1 := cSn_app (l.take i) (gSn l i)
  rw [lapp_eq] at h1
  have h2 : l.take (i + 1) = l.take i ++ [gSn l i] := by
    rw [List.take_add_one, List.getElem?_eq_getElem h, gSn_el h]; rfl
  rw [h2]
  exact h1
theorem pa_st {l : List Sn} {x : PA} (hx : paI l x) (hi : x.i < l.length) {g cap : Nat} : ∃ y : PA, paI l y ∧ l.length - y.i < l.length - x.i ∧ Value.string (rxB l (x.i + 1)) = Value.string (rxB l y.i) ∧ Value.slice (some ⟨g, 0, none⟩) (x.l.length + 1) cap = Value.slice y.a y.l.length y.c ∧
    (True ∧ lapp (cSn x.l) [.int .i64 (gSn l x.i).t, .int .i64 (gSn l x.i).x, .int .i64 (gSn l x.i).y, .int .i64 (gSn l x.i).z, .int .i64 (gSn l x.i).e] = cSn y.l ∧ True ∧ some (Ow.mk (some ⟨g, 0, none⟩) (x.l.length + 1) cap 5) = some (Ow.mk y.a y.l.length y.c 5)) ∧ True := by
  have e : (l.take (x.i + 1)).length = x.l.length + 1 := by rw [hx.2.1, List.length_take, List.length_take]; omega
  refine ⟨⟨x.i + 1, l.take (x.i + 1), some ⟨g, 0, none⟩, cap⟩, ⟨hi, rfl, aok_b _ _⟩, (by show _ - (_ + 1) < _; omega), rfl, by rw [e], ⟨trivial, ?_, trivial, by rw [e]⟩, trivial⟩
  rw [lapp_eq, hx.2.1]
  exact pa_s hi
theorem pa_b {l : List Sn} {x : PA} (he : (ckE l != 0) = false) (hx : paI l x) : (x.l.length + 1) * 41 ≤ 140737488355328 := by
  have h1 := (ckE_0 (ck_n he)).1
  have e : x.l.length ≤ l.length := by rw [hx.2.1, List.length_take]; omega
  omega

def prs_h (l : List Sn) : Hint := .inv (paL l) fun x0 ↦ .pl (.split (.specg tE [] [] [] (fun ads0 x ↦ Value.tuple #[Value.string (jw (gSn l (PA.i x0))), .string (rxB l (PA.i x0 + (1 : Nat))), .bool true]) (.specg tE [] [] [] (fun ads0 x ↦ Value.tuple #[Value.agg #[Value.int .i64 (Sn.t (gSn l (PA.i x0))), .int .i64 (Sn.x (gSn l (PA.i
 x0))), .int .i64 (Sn.y (gSn l (PA.i x0))), .int .i64 (Sn.z (gSn l (PA.i x0))), .int .i64 (Sn.e (gSn l (PA.i x0)))], .bool true]) (ho 1 5 (hl 4 (ho 1 5 (.inl (.pl (.ob 2 (.pl (.ob 2 (.pl (.ob 2 (.pl (.ob 2 (.pl (.ob 2 (ho 3 10 (.app (0 : Nat) (4 : Nat) (.perm [0] .nil))))))))))))))))))) (.specg wE
 [0] [cSn (PA.l x0)] [] (fun ads0 x ↦ Value.tuple #[Value.int .i64 (ckI (PA.l x0)), .int .i64 (ckE (PA.l x0))]) (.pl (.split (.perm [1000] .nil) (.perm [0] .nil)))))
theorem prs_x (l : List Sn) : wpG Tryd.prog tE ([]) 400 24 [.string (rxB l 0)] (prs_h l) ([⟨33, 5, l.length, cSn l⟩]) (fun ads => .tuple #[.slice (nthS ads 0).1 l.length (nthS ads 0).2, .int .i64 0]) = ((∃ x, paI l x /\ Value.string (rxB l (0 : Nat)) = Value.string (rxB l (PA.i x)) /\ Value.slice none (0 : Nat) (0 : Nat) = Value.slice (PA.a x) (List.length (PA.l x)) (PA.c x) /\ ((0 : Nat) = (0 : Nat) /\ [] = cSn (PA.l x) /\ (33 : Nat) = (33 : Nat) /\ some (Ow.mk none (0 : Nat) (0 : Nat) (5 : Nat)) =
 some (Ow.mk (PA.a x) (List.length (PA.l x)) (PA.c x) (5 : Nat))) /\ True) /\ ∀ (x0 : PA), paI l x0 -> ∀ (junk : Nat -> Value), ((!ByteArray.toList (rxB l (PA.i x0)) == ByteArray.toList (ByteArray.mk (Array.mk []))) = true -> (SpecG Tryd.prog tE [] (35 : FuncId) #[Value.string (rxB l (PA.i x0)),
 .string (ByteArray.mk #[(10 : UInt8)])] [] fun x ↦ Value.tuple #[Value.string (jw (gSn l (PA.i x0))), .string (rxB l (PA.i x0 + (1 : Nat))), .bool true]) /\ (∀ (e : Ex), e ∈ tE -> e ∈ tE) /\ (SpecG Tryd.prog tE [] (36 : FuncId) #[Value.string (jw (gSn l (PA.i x0)))] [] fun x ↦ Value.tuple #[Value.agg
 #[Value.int .i64 (Sn.t (gSn l (PA.i x0))), .int .i64 (Sn.x (gSn l (PA.i x0))), .int .i64 (Sn.y (gSn l (PA.i x0))), .int .i64 (Sn.z (gSn l (PA.i x0))), .int .i64 (Sn.e (gSn l (PA.i x0)))], .bool true]) /\ (∀ (e : Ex), e ∈ tE -> e ∈ tE) /\ ∀ (b : Nat), e2 b 5 (e1 b 5 (∀ (b b_1 : Nat), e1 b 5 (e2 b_1 5
 (e1 b_1 5 (∀ (b : Nat), PA.a x0 = PA.a x0 /\ List.length (PA.l x0) = List.length (PA.l x0) /\ PA.c x0 = PA.c x0 /\ b = b /\ (List.length (PA.l x0) + (1 : Nat)) * (41 : Nat) ≤ (140737488355328 : Nat) /\ ∀ (g cap : Nat), ∃ y, paI l y /\ List.length l - PA.i y < List.length l - PA.i x0 /\ Value.string
 (rxB l (PA.i x0 + (1 : Nat))) = Value.string (rxB l (PA.i y)) /\ Value.slice (some (Addr.mk g (0 : Nat) none)) (List.length (PA.l x0) + (1 : Nat)) cap = Value.slice (PA.a y) (List.length (PA.l y)) (PA.c y) /\ ((0 : Nat) = (0 : Nat) /\ lapp (cSn (PA.l x0)) [Value.int .i64 (Sn.t (gSn l (PA.i x0))),
 .int .i64 (Sn.x (gSn l (PA.i x0))), .int .i64 (Sn.y (gSn l (PA.i x0))), .int .i64 (Sn.z (gSn l (PA.i x0))), .int .i64 (Sn.e (gSn l (PA.i x0)))] = cSn (PA.l y) /\ (33 : Nat) = (33 : Nat) /\ some (Ow.mk (some (Addr.mk g (0 : Nat) none)) (List.length (PA.l x0) + (1 : Nat)) cap (5 : Nat)) = some (Ow.mk
 (PA.a y) (List.length (PA.l y)) (PA.c y) (5 : Nat))) /\ True)))))) /\ ((!ByteArray.toList (rxB l (PA.i x0)) == ByteArray.toList (ByteArray.mk (Array.mk []))) = false -> cSn (PA.l x0) = cSn (PA.l x0) /\ (SpecG Tryd.prog wE [(PA.a x0, cSn (PA.l x0))] (11 : FuncId) #[Value.slice (PA.a x0) (List.length
 (PA.l x0)) (PA.c x0)] [] fun x ↦ Value.tuple #[Value.int .i64 (ckI (PA.l x0)), .int .i64 (ckE (PA.l x0))]) /\ (∀ (e : Ex), e ∈ wE -> e ∈ tE) /\ ((ckE (PA.l x0) != 0) = true -> List.length l = (0 : Nat) /\ cSn l = [] /\ (1 : Nat) ≤ (5 : Nat) /\ Value.tuple (Array.mk [.slice none (0 : Nat) (0 : Nat),
 .int .i64 4]) = Value.tuple (Array.mk [.slice none (List.length l) (0 : Nat), .int .i64 0])) /\ ((ckE (PA.l x0) != 0) = false -> (33 : Nat) = (33 : Nat) /\ (5 : Nat) = (5 : Nat) /\ List.length (PA.l x0) = List.length l /\ cSn (PA.l x0) = cSn l /\ Value.tuple (Array.mk [.slice (PA.a x0) (List.length
 (PA.l x0)) (PA.c x0), .int .i64 0]) = Value.tuple (Array.mk [.slice (PA.a x0) (List.length l) (PA.c x0), .int .i64 0])))) := by kernel_rfl
set_option maxHeartbeats 4000000 in
theorem prs_sp (l : List Sn) (he : (ckE l != 0) = false) (hn : 0 < l.length) (hl : l.length ≤ 9223372036854775807) : SpecG Tryd.prog tE ([]) 24 #[.string (rxB l 0)] ([⟨33, 5, l.length, cSn l⟩]) (fun ads => .tuple #[.slice (nthS ads 0).1 l.length (nthS ads 0).2, .int .i64 0]) := by
  refine specG_of (h := prs_h l) (?_ : wpG Tryd.prog tE ([]) 400 24 [.string (rxB l 0)] (prs_h l) ([⟨33, 5, l.length, cSn l⟩]) (fun ads => .tuple #[.slice (nthS ads 0).1 l.length (nthS ads 0).2, .int .i64 0]))
  rw [prs_x]
  (repeat' (first | with_reducible exact rfl | exact trivial | with_reducible assumption | exact cSn_len _ | exact cSn_one _ | exact cU_len _ | exact cI_len _ | exact cB_len _ | exact cU_one _ | exact cI_one _ | exact cB_one _ | exact (fun _ h => h) | exact kE_tE | exact wE_tE | exact (fun _ h => (List.not_mem_nil h).elim) | (with_reducible refine e1_in ?_) | (with_reducible refine e2_in ?_) | (with_reducible refine lx_in (Nat.le_of_ble_eq_true rfl) ?_) | (with_reducible refine rqx_rf ?_) | (with_reducible refine rqx_in ?_ ?_ ?_) | (with_reducible apply And.intro) | (with_reducible intro _)))
  all_goals (try simp only [Int.toNat_natCast] at *)
  all_goals (first
    | rfl
    | omega
    | exact (pa_no he ‹paI l _› ‹_› ‹_›).elim
    | (exact ⟨⟨0, [], none, 0⟩, ⟨Nat.zero_le _, rfl, aok_n⟩, rfl, rfl, ⟨(by trivial), rfl, (by trivial), rfl⟩, trivial⟩)
    | (have hx := ‹paI l _›; have hi := pa_lt hx ‹_›; first | omega | exact hx.2.2 | exact pa_b he hx | exact pa_st hx hi | exact cut_c he hi | exact pwi_sp _ _ (bad_0 ((ckE_0 (ck_n he)).2.2 _ hi)).1)
    | (have hx := ‹paI l _›; have e := pa_ge he hx ‹_›; first | exact chk_sp _ _ _ hx.2.2 (by rw [e]; omega) | (rw [e]; done)  | (rw [e] at *; first | rfl | assumption | contradiction))
    | trace_state)
def prz_h  : Hint := .rounds 64 (.pl (.lit (.inl (.pl (.lit (.pl (.rounds 64 (.lit (.pl (.lit (.perm [] .nil)))))))))))
theorem prz_x  : wpG Tryd.prog tE ([]) 400 24 [.string ⟨#[]⟩] (prz_h ) ([]) (fun _ => .tuple #[.slice none 0 0, .int .i64 0]) = (Value.tuple (Array.mk [.slice none (0 : Nat) (0 : Nat), .int .i64 0]) = Value.tuple (Array.mk [.slice none (0 : Nat) (0 : Nat), .int .i64 0])) := by kernel_rfl
set_option maxHeartbeats 4000000 in
theorem prz_sp   : SpecG Tryd.prog tE ([]) 24 #[.string ⟨#[]⟩] ([]) (fun _ => .tuple #[.slice none 0 0, .int .i64 0]) := by
  refine specG_of (h := prz_h ) (?_ : wpG Tryd.prog tE ([]) 400 24 [.string ⟨#[]⟩] (prz_h ) ([]) (fun _ => .tuple #[.slice none 0 0, .int .i64 0]))
  rw [prz_x]
  (repeat' (first | with_reducible exact rfl | exact trivial | with_reducible assumption | exact cSn_len _ | exact cSn_one _ | exact cU_len _ | exact cI_len _ | exact cB_len _ | exact cU_one _ | exact cI_one _ | exact cB_one _ | exact (fun _ h => h) | exact kE_tE | exact wE_tE | exact (fun _ h => (List.not_mem_nil h).elim) | (with_reducible refine e1_in ?_) | (with_reducible refine e2_in ?_) | (with_reducible refine lx_in (Nat.le_of_ble_eq_true rfl) ?_) | (with_reducible refine rqx_rf ?_) | (with_reducible refine rqx_in ?_ ?_ ?_) | (with_reducible apply And.intro) | (with_reducible intro _)))
  all_goals (first
    | rfl
    | exact aok_n
    | omega
    | trace_state)
def txz_h (a : Option Addr) (c : Nat) : Hint := .inl (.pl (.lit (.pl (.rounds 64 (.lit (.pl (.lit (.pl (.rounds 64 (.lit (.osf fun l ↦ .specc [] [] [] [Ob.mk (bk (Prod.fst (nthO l (1 : Nat)))) [Value.pointer none, .slice none (0 : Nat) (0 : Nat)] (50 : TypeId) noOw] Un (fun x ↦ x = Un.un) (fun x ↦ []) (fun x ↦ Value.string (ByteArray.mk #[])) []
 [] [1] fun x_207 ↦ .perm [] .nil)))))))))))
theorem txz_x (a : Option Addr) (c : Nat) : wpG Tryd.prog kE ([(a, cSn [])]) 400 22 [.slice a 0 c] (txz_h a c) ([]) (fun _ => .tuple #[.string ⟨#[]⟩, .int .i64 0]) = (∀ (b : Nat), (SpecC Tryd.prog [] [] [] [Ob.mk b [Value.pointer none, .slice none (0 : Nat) (0 : Nat)] (50 : TypeId) noOw] (33 : FuncId) #[Value.pointer (some (Addr.mk b (0 : Nat) none))] Un (fun x ↦ x = Un.un) (fun x ↦ []) fun x ↦ Value.string (ByteArray.mk #[])) /\ (∀ (e : Ex), e ∈ [] -> e ∈ kE) /\
 ((b = b /\ [Value.pointer none, .slice none (0 : Nat) (0 : Nat)] = [Value.pointer none, .slice none (0 : Nat) (0 : Nat)] /\ (50 : Nat) = (50 : Nat) /\ noOw = noOw) /\ True) /\ True /\ True /\ ∀ (x_207 : Un), x_207 = Un.un -> Value.tuple (Array.mk [.string (ByteArray.mk (Array.mk [])), .int .i64 0])
 = Value.tuple (Array.mk [.string (ByteArray.mk (Array.mk [])), .int .i64 0])) := by kernel_rfl
set_option maxHeartbeats 4000000 in
theorem txz_sp (a : Option Addr) (c : Nat)  : SpecG Tryd.prog kE ([(a, cSn [])]) 22 #[.slice a 0 c] ([]) (fun _ => .tuple #[.string ⟨#[]⟩, .int .i64 0]) := by
  refine specG_of (h := txz_h a c) (?_ : wpG Tryd.prog kE ([(a, cSn [])]) 400 22 [.slice a 0 c] (txz_h a c) ([]) (fun _ => .tuple #[.string ⟨#[]⟩, .int .i64 0]))
  rw [txz_x]
  (repeat' (first | with_reducible exact rfl | exact trivial | with_reducible assumption | (with_reducible exact bs0_n _ _) | exact cSn_len _ | exact cSn_one _ | exact cU_len _ | exact cI_len _ | exact cB_len _ | exact cU_one _ | exact cI_one _ | exact cB_one _ | exact (fun _ h => h) | exact kE_tE | exact wE_tE | exact (fun _ h => (List.not_mem_nil h).elim) | (with_reducible refine e1_in ?_) | (with_reducible refine e2_in ?_) | (with_reducible refine lx_in (Nat.le_of_ble_eq_true rfl) ?_) | (with_reducible refine rqx_rf ?_) | (with_reducible refine rqx_in ?_ ?_ ?_) | (with_reducible apply And.intro) | (with_reducible intro _)))
  all_goals (first
    | rfl
    | exact aok_n
    | omega
    | trace_state)
end Go.Proofs.YtjnaficgcellkaaDoor
