/- Layer 31 (camera): other times, of both; the reference's other side. -/
import Derived.Test.YtjnaficgcellkaaDoorVz
import Derived.KernelRfl
import Derived.Test.YtjnaficgcellkaaDoorProg
import Derived.Test.YtjnaficgcellkaaDoorCma
import Derived.Test.YtjnaficgcellkaaDoorCmar
import Derived.Test.YtjnaficgcellkaaDoorCmb
import Derived.Test.YtjnaficgcellkaaDoorCmbr
set_option linter.unusedSimpArgs false
set_option linter.unusedVariables false
set_option maxRecDepth 100000
namespace Go.Proofs.YtjnaficgcellkaaDoor
open Go.RowKit


/-- Other times. -/
def shF (n : Int) (s : Sn) : Sn := ⟨s.t + n, s.x, s.y, s.z, s.e⟩
def shS (n : Int) (l : List Sn) : List Sn := l.map (shF n)
def inT (n : Int) (s : Sn) : Bool := decide (0 ≤ s.t + n) && decide (s.t + n ≤ 4000)
def shO (n : Int) (l : List Sn) : Bool := l.all (inT n)
def shE (n : Int) (l : List Sn) : Int := if ckE l = 0 then (if shO n l = true then 0 else 2) else ckE l
/-- The first ones with other times, and the rest. -/
def sfS (n : Int) (l : List Sn) (i : Nat) : List Sn := (l.take i).map (shF n) ++ l.drop i
def sgS (n : Int) (l : List Sn) (i : Nat) : List Sn := (l.take i).map (shF n)
def mgS (l : List Sn) (i : Nat) : List Sn := (l.take i).map mirF
theorem sf_len (n : Int) (l : List Sn) (i : Nat) : (sfS n l i).length = l.length := by unfold sfS; simp; omega
theorem sf_0 (n : Int) (l : List Sn) : sfS n l 0 = l := by simp [sfS]
theorem sf_all {n : Int} {l : List Sn} {i : Nat} (h : i = l.length) : sfS n l i = shS n l := by subst h; simp [sfS, shS]
theorem sf_at {n : Int} {l : List Sn} {i : Nat} (h : i < l.length) : gSn (sfS n l i) i = gSn l i := by
  unfold gSn sfS
  rw [List.getD_eq_getElem?_getD, List.getD_eq_getElem?_getD, List.getElem?_append_right (by simp; omega)]
  have e : i - ((l.take i).map (shF n)).length = 0 := by simp; omega
  rw [e, List.getElem?_drop]; rfl
theorem sf_s {n : Int} {l : List Sn} {i : Nat} (h : i < l.length) : sS0 (sfS n l i) i ((gSn l i).t + n) = sfS n l (i + 1) := by
  show (sfS n l i).set i _ = _
  rw [sf_at h]
  show (sfS n l i).set i (shF n (gSn l i)) = _
  unfold sfS
  rw [List.set_append_right _ _ (by simp; omega)]
  have e : i - ((l.take i).map (shF n)).length = 0 := by simp; omega
  rw [e, List.drop_eq_getElem_cons h, List.set_cons_zero, List.take_add_one, List.getElem?_eq_getElem h, List.map_append, List.append_assoc, gSn_el h]
  rfl
theorem sh_len (n : Int) (l : List Sn) : (shS n l).length = l.length := by simp [shS]
theorem sg_len {n : Int} {l : List Sn} {i : Nat} (h : i ≤ l.length) : (sgS n l i).length = i := by unfold sgS; simp; omega
theorem sg_all {n : Int} {l : List Sn} {i : Nat} (h : i = l.length) : sgS n l i = shS n l := by subst h; simp [sgS, shS]
theorem mg_all {l : List Sn} {i : Nat} (h : i = l.length) : mgS l i = mirS l := by subst h; simp [mgS, mirS]
theorem sg_s {n : Int} {l : List Sn} {i : Nat} (h : i < l.length) : cSn (sgS n l i) ++ [.int .i64 ((gSn l i).t + n), .int .i64 (gSn l i).x, .int .i64 (gSn l i).y, .int .i64 (gSn l i).z, .int .i64 (gSn l i).e] = cSn (sgS n l (i + 1)) := by
  have h1 := cSn_app (sgS n l i) (shF n (gSn l i))
  rw [lapp_eq] at h1
  have h2 : sgS n l (i + 1) = sgS n l i ++ [shF n (gSn l i)] := by
    unfold sgS
    rw [List.take_add_one, List.getElem?_eq_getElem h, List.map_append, gSn_el h]; rfl
  rw [h2]
  exact h1
theorem mg_s {l : List Sn} {i : Nat} (h : i < l.length) : cSn (mgS l i) ++ [.int .i64 (gSn l i).t, .int .i64 (gSn l i).x, .int .i64 (IntKind.i64.wrap (0 - (gSn l i).y)), .int .i64 (gSn l i).z, .int .i64 (gSn l i).e] = cSn (mgS l (i + 1)) := by
  have h1 := cSn_app (mgS l i) (mirF (gSn l i))
  rw [lapp_eq] at h1
  have h2 : mgS l (i + 1) = mgS l i ++ [mirF (gSn l i)] := by
    unfold mgS
    rw [List.take_add_one, List.getElem?_eq_getElem h, List.map_append, gSn_el h]; rfl
  rw [h2]
  exact h1
theorem ck_f {l : List Sn} (h : (ckE l != 0) = false) : ckE l = 0 := by simpa using h
theorem ck_t {l : List Sn} (h : (ckE l != 0) = true) : ¬ ckE l = 0 := by simpa using h
theorem tm_b {l : List Sn} (h : (ckE l != 0) = false) {i : Nat} (hi : i < l.length) : 0 ≤ (gSn l i).t ∧ (gSn l i).t ≤ 4000 := (sRng_b (bad_0 ((ckE_0 (ck_f h)).2.2 i hi)).1).1
theorem len_64 {l : List Sn} (h : (ckE l != 0) = false) : l.length ≤ 64 := (ckE_0 (ck_f h)).1
theorem sh_in {n : Int} {l : List Sn} (h : shO n l = true) {i : Nat} (hi : i < l.length) : 0 ≤ (gSn l i).t + n ∧ (gSn l i).t + n ≤ 4000 := by
  unfold shO at h
  rw [List.all_eq_true] at h
  have := h _ (gSn_in hi)
  unfold inT at this
  simp at this
  exact this
theorem sh_out {n : Int} {l : List Sn} {i : Nat} (hi : i < l.length) (h : ¬ (0 ≤ (gSn l i).t + n ∧ (gSn l i).t + n ≤ 4000)) : shO n l = false := by
  unfold shO
  rw [List.all_eq_false]
  refine ⟨_, gSn_in hi, ?_⟩
  unfold inT
  simp
  omega
def shP (n : Int) (l : List Sn) (i : Nat) : Prop := i ≤ l.length ∧ ∀ m, m < i → inT n (gSn l m) = true
theorem shP_0 (n : Int) (l : List Sn) : shP n l 0 := ⟨Nat.zero_le _, fun m h => by omega⟩
theorem shP_s {n : Int} {l : List Sn} {i : Nat} (h : shP n l i) (hi : i < l.length) (hc : 0 ≤ (gSn l i).t + n ∧ (gSn l i).t + n ≤ 4000) : shP n l (i + 1) :=
  ⟨hi, fun m hm => by
    by_cases e : m < i
    · exact h.2 m e
    · have : m = i := by omega
      subst this
      unfold inT
      simp
      exact hc⟩
theorem shP_all {n : Int} {l : List Sn} (h : shP n l l.length) : shO n l = true := by
  unfold shO
  rw [List.all_eq_true]
  intro p hp
  obtain ⟨m, hm, rfl⟩ := List.mem_iff_getElem.1 hp
  have := h.2 m hm
  rwa [gSn_el hm] at this
@[reducible] def shL (n : Int) (l : List Sn) : LoopR := ⟨MX, fun x => [(24, .int .i64 x.i), (8, .slice x.a l.length x.c), (22, .slice x.a l.length x.c)], [1], fun x => [⟨0, cSn (sfS n l x.i), 33, some ⟨x.a, l.length, x.c, 5⟩⟩], fun x => shP n l x.i ∧ AOK x.a l.length, fun x => l.length - x.i, []⟩
@[reducible] def rsL (n : Int) (l : List Sn) : LoopR := ⟨MX, fun x => [(21, .int .i64 x.i), (8, .slice x.a x.i x.c)], [1], fun x => [⟨0, cSn (sgS n l x.i), 33, some ⟨x.a, x.i, x.c, 5⟩⟩], fun x => shP n l x.i ∧ AOK x.a x.i, fun x => l.length - x.i, [(33, 5)]⟩
@[reducible] def rmL (l : List Sn) : LoopR := ⟨MX, fun x => [(8, .int .i64 x.i), (3, .slice x.a x.i x.c)], [1], fun x => [⟨0, cSn (mgS l x.i), 33, some ⟨x.a, x.i, x.c, 5⟩⟩], fun x => x.i ≤ l.length ∧ AOK x.a x.i, fun x => l.length - x.i, [(33, 5)]⟩
theorem sh_c {n : Int} {l : List Sn} (he : (ckE l != 0) = false) {i : Nat} (hi : i < l.length) (hn : -9223372036854775808 ≤ n ∧ n ≤ 9223372036854775807) : (decide (n < IntKind.i64.wrap (0 - (gSn l i).t)) || decide (n > IntKind.i64.wrap (4000 - (gSn l i).t))) = !(inT n (gSn l i)) := by
  have h := tm_b he hi
  rw [IntWalk.i64_in _ (show -9223372036854775808 ≤ 0 - (gSn l i).t ∧ 0 - (gSn l i).t ≤ 9223372036854775807 by omega), IntWalk.i64_in _ (show -9223372036854775808 ≤ 4000 - (gSn l i).t ∧ 4000 - (gSn l i).t ≤ 9223372036854775807 by omega)]
  unfold inT
  rw [Bool.eq_iff_iff]
  simp
  omega
theorem sh_i {n : Int} {s : Sn} (h : (!(inT n s)) = false) : 0 ≤ s.t + n ∧ s.t + n ≤ 4000 := by unfold inT at h; simp at h; exact h
theorem sh_w {n : Int} {s : Sn} (h : 0 ≤ s.t + n ∧ s.t + n ≤ 4000) : IntKind.i64.wrap (s.t + n) = s.t + n := IntWalk.i64_in _ (by omega)
theorem sh_b {n : Int} {l : List Sn} {x : MX} (he : (ckE l != 0) = false) (hn : -9223372036854775808 ≤ n ∧ n ≤ 9223372036854775807) (hx : shP n l x.i ∧ AOK x.a l.length) (hi : x.i < l.length)
    (hc : (decide (n < IntKind.i64.wrap (0 - (gSn (sfS n l x.i) x.i).t)) || decide (n > IntKind.i64.wrap (4000 - (gSn (sfS n l x.i) x.i).t))) = false) :
    ∃ y : MX, (shP n l y.i ∧ AOK y.a l.length) ∧ l.length - y.i < l.length - x.i ∧ Value.int IntKind.i64 (IntKind.i64.wrap (x.i + 1)) = Value.int IntKind.i64 y.i ∧ Value.slice x.a l.length x.c = Value.slice y.a l.length y.c ∧ Value.slice x.a l.length x.c = Value.slice y.a l.length y.c ∧
      (True ∧ cSn (sS0 (sfS n l x.i) x.i (IntKind.i64.wrap ((gSn (sfS n l x.i) x.i).t + n))) = cSn (sfS n l y.i) ∧ True ∧ some (Ow.mk x.a l.length x.c 5) = some (Ow.mk y.a l.length y.c 5)) ∧ True := by
  have h64 := len_64 he
  rw [sf_at hi, sh_c he hi hn] at hc
  have h1 := sh_i hc
  refine ⟨⟨x.i + 1, x.a, x.c⟩, ⟨shP_s hx.1 hi h1, hx.2⟩, (by show _ - (_ + 1) < _; omega), wr_s (by omega), rfl, rfl, ⟨trivial, ?_, trivial, rfl⟩, trivial⟩
  rw [sf_at hi, sh_w h1, sf_s hi]
theorem sh_no {n : Int} {l : List Sn} {i : Nat} {Q : Prop} (he : (ckE l != 0) = false) (hn : -9223372036854775808 ≤ n ∧ n ≤ 9223372036854775807) (ho : shO n l = true) (hi : i < l.length)
    (hc : (decide (n < IntKind.i64.wrap (0 - (gSn (sfS n l i) i).t)) || decide (n > IntKind.i64.wrap (4000 - (gSn (sfS n l i) i).t))) = true) : Q := by
  rw [sf_at hi, sh_c he hi hn] at hc
  have := sh_in ho hi
  unfold inT at hc
  simp at hc
  omega
theorem sh_e {n : Int} {l : List Sn} {i : Nat} (he : (ckE l != 0) = false) (hn : -9223372036854775808 ≤ n ∧ n ≤ 9223372036854775807) (hi : i < l.length)
    (hc : (decide (n < IntKind.i64.wrap (0 - (gSn (sfS n l i) i).t)) || decide (n > IntKind.i64.wrap (4000 - (gSn (sfS n l i) i).t))) = true) : shE n l = 2 := by
  rw [sf_at hi, sh_c he hi hn] at hc
  unfold shE
  rw [if_pos (ck_f he), if_neg]
  rw [sh_out hi (fun h => by unfold inT at hc; simp at hc; omega)]
  decide
theorem sh_k {n : Int} {l : List Sn} (he : (ckE l != 0) = true) : shE n l = ckE l := by unfold shE; rw [if_neg (ck_t he)]
theorem sh_ok {n : Int} {l : List Sn} {i : Nat} (he : (ckE l != 0) = false) (h : shP n l i) (e : i = l.length) : shE n l = 0 := by
  subst e
  unfold shE
  rw [if_pos (ck_f he), if_pos (shP_all h)]

def shw_h (a : Option Addr) (c : Nat) (l : List Sn) (n : Int) : Hint := .specg wE [0] [cSn l] [] (fun ads0 x ↦ Value.tuple #[Value.int .i64 (ckI l), .int .i64 (ckE l)]) (.pl (.known false (.apl (1 : Nat) (0 : Nat) (cSn l) (.pl (.inv (shL n l) fun x0 ↦ .split (.ix (.lst (1 : Nat) (Int.toNat (↑(MX.i x0) : Int) * (5 : Nat)) (Value.int .i64 (Sn.t (gSn (sfS n l (MX.i x0))
 (Int.toNat (↑(MX.i x0) : Int))))) (.lst (1 : Nat) (Int.toNat (↑(MX.i x0) : Int) * (5 : Nat) + (1 : Nat)) (Value.int .i64 (Sn.x (gSn (sfS n l (MX.i x0)) (Int.toNat (↑(MX.i x0) : Int))))) (.lst (1 : Nat) (Int.toNat (↑(MX.i x0) : Int) * (5 : Nat) + (2 : Nat)) (Value.int .i64 (Sn.y (gSn (sfS n l (MX.i
 x0)) (Int.toNat (↑(MX.i x0) : Int))))) (.lst (1 : Nat) (Int.toNat (↑(MX.i x0) : Int) * (5 : Nat) + (3 : Nat)) (Value.int .i64 (Sn.z (gSn (sfS n l (MX.i x0)) (Int.toNat (↑(MX.i x0) : Int))))) (.lst (1 : Nat) (Int.toNat (↑(MX.i x0) : Int) * (5 : Nat) + (4 : Nat)) (Value.int .i64 (Sn.e (gSn (sfS n l
 (MX.i x0)) (Int.toNat (↑(MX.i x0) : Int))))) (ho 2 5 (.cut [((40 : Nat), .bool (decide (n < IntKind.i64.wrap ((0 : Int) - Sn.t (gSn (sfS n l (MX.i x0)) (Int.toNat (↑(MX.i x0) : Int))))) || decide (n > IntKind.i64.wrap ((4000 : Int) - Sn.t (gSn (sfS n l (MX.i x0)) (Int.toNat (↑(MX.i x0) : Int)))))))]
 (.ob 2 (.split (hl 4 (.lit .nil)) (.lit (.lit (.ob 2 (.lit (.lit (.lit .nil)))))))) (.split (.perm [1000] .nil) (.ix (.lst (1 : Nat) (Int.toNat (↑(MX.i x0) : Int) * (5 : Nat)) (Value.int .i64 (Sn.t (gSn (sfS n l (MX.i x0)) (Int.toNat (↑(MX.i x0) : Int))))) (.ix (.sto (1 : Nat) (Int.toNat (↑(MX.i x0)
 : Int) * (5 : Nat)) (cSn (sS0 (sfS n l (MX.i x0)) (Int.toNat (↑(MX.i x0) : Int)) (IntKind.i64.wrap (Sn.t (gSn (sfS n l (MX.i x0)) (Int.toNat (↑(MX.i x0) : Int))) + n)))) (.perm [1] .nil)))))))))))))) (.perm [1] .nil))))))
theorem shw_x (a : Option Addr) (c : Nat) (l : List Sn) (n : Int) : wpG Tryd.prog wE ([(a, cSn l)]) 400 18 [.slice a l.length c, .int .i64 n] (shw_h a c l n) ([⟨33, 5, l.length, cSn (shS n l)⟩]) (fun ads => .tuple #[.slice (nthS ads 0).1 l.length (nthS ads 0).2, .int .i64 0]) = (cSn l = cSn l /\ (SpecG Tryd.prog wE [(a, cSn l)] (11 : FuncId) #[Value.slice a (List.length l) c] [] fun x ↦ Value.tuple #[Value.int .i64 (ckI l), .int .i64 (ckE l)]) /\ (∀ (e : Ex), e ∈ wE -> e ∈ wE) /\ (ckE l != 0) = false /\ ∀ (b : Nat), a = a /\ AOK a (List.length l) /\ List.length (cSn l) =
 List.length l * (5 : Nat) /\ (∀ (u : Value), u ∈ Ob.cells (Ob.mk (0 : Nat) (Prod.snd (a, cSn l)) (0 : TypeId) (some (Ow.mk (Prod.fst (a, cSn l)) (0 : Nat) (0 : Nat) (0 : Nat)))) -> Value.oneCell' u = true) /\ ((0 : Nat) + List.length l) * (41 : Nat) ≤ (140737488355328 : Nat) /\ cSn l = cSn l /\ some
 (Addr.mk b (0 : Nat) none) = some (Addr.mk b (0 : Nat) none) /\ ∀ (a' : Option Addr) (cap : Nat), AOK a' (List.length l) -> (∃ x, (shP n l (MX.i x) /\ AOK (MX.a x) (List.length l)) /\ Value.int .i64 0 = Value.int .i64 (↑(MX.i x) : Int) /\ Value.slice a' (List.length l) cap = Value.slice (MX.a x)
 (List.length l) (MX.c x) /\ Value.slice a' (List.length l) cap = Value.slice (MX.a x) (List.length l) (MX.c x) /\ ((0 : Nat) = (0 : Nat) /\ cSn l = cSn (sfS n l (MX.i x)) /\ (33 : Nat) = (33 : Nat) /\ some (Ow.mk a' (List.length l) cap (5 : Nat)) = some (Ow.mk (MX.a x) (List.length l) (MX.c x) (5 :
 Nat))) /\ True) /\ ∀ (x0 : MX), shP n l (MX.i x0) /\ AOK (MX.a x0) (List.length l) -> ∀ (junk : Nat -> Value), (decide ((↑(MX.i x0) : Int) < (↑(List.length l) : Int)) = true -> (((0 : Int) ≤ (↑(MX.i x0) : Int) /\ (↑(MX.i x0) : Int) < (↑(List.length l) : Int)) /\ AOK (MX.a x0) (List.length l)) /\ bk
 (MX.a x0) = bk (MX.a x0) /\ ofs (MX.a x0) + Int.toNat (↑(MX.i x0) : Int) * (5 : Nat) = ofs (MX.a x0) + Int.toNat (↑(MX.i x0) : Int) * (5 : Nat) /\ lgo (cSn (sfS n l (MX.i x0))) (Int.toNat (↑(MX.i x0) : Int) * (5 : Nat)) = some (Value.int .i64 (Sn.t (gSn (sfS n l (MX.i x0)) (Int.toNat (↑(MX.i x0) :
 Int))))) /\ bk (MX.a x0) = bk (MX.a x0) /\ ofs (MX.a x0) + Int.toNat (↑(MX.i x0) : Int) * (5 : Nat) + (1 : Nat) = ofs (MX.a x0) + (Int.toNat (↑(MX.i x0) : Int) * (5 : Nat) + (1 : Nat)) /\ lgo (cSn (sfS n l (MX.i x0))) (Int.toNat (↑(MX.i x0) : Int) * (5 : Nat) + (1 : Nat)) = some (Value.int .i64
 (Sn.x (gSn (sfS n l (MX.i x0)) (Int.toNat (↑(MX.i x0) : Int))))) /\ bk (MX.a x0) = bk (MX.a x0) /\ ofs (MX.a x0) + Int.toNat (↑(MX.i x0) : Int) * (5 : Nat) + (2 : Nat) = ofs (MX.a x0) + (Int.toNat (↑(MX.i x0) : Int) * (5 : Nat) + (2 : Nat)) /\ lgo (cSn (sfS n l (MX.i x0))) (Int.toNat (↑(MX.i x0) :
 Int) * (5 : Nat) + (2 : Nat)) = some (Value.int .i64 (Sn.y (gSn (sfS n l (MX.i x0)) (Int.toNat (↑(MX.i x0) : Int))))) /\ bk (MX.a x0) = bk (MX.a x0) /\ ofs (MX.a x0) + Int.toNat (↑(MX.i x0) : Int) * (5 : Nat) + (3 : Nat) = ofs (MX.a x0) + (Int.toNat (↑(MX.i x0) : Int) * (5 : Nat) + (3 : Nat)) /\ lgo
 (cSn (sfS n l (MX.i x0))) (Int.toNat (↑(MX.i x0) : Int) * (5 : Nat) + (3 : Nat)) = some (Value.int .i64 (Sn.z (gSn (sfS n l (MX.i x0)) (Int.toNat (↑(MX.i x0) : Int))))) /\ bk (MX.a x0) = bk (MX.a x0) /\ ofs (MX.a x0) + Int.toNat (↑(MX.i x0) : Int) * (5 : Nat) + (4 : Nat) = ofs (MX.a x0) + (Int.toNat
 (↑(MX.i x0) : Int) * (5 : Nat) + (4 : Nat)) /\ lgo (cSn (sfS n l (MX.i x0))) (Int.toNat (↑(MX.i x0) : Int) * (5 : Nat) + (4 : Nat)) = some (Value.int .i64 (Sn.e (gSn (sfS n l (MX.i x0)) (Int.toNat (↑(MX.i x0) : Int))))) /\ ∀ (b : Nat), e2 b 5 ((b = b /\ (decide (n < IntKind.i64.wrap ((0 : Int) -
 Sn.t (gSn (sfS n l (MX.i x0)) (Int.toNat (↑(MX.i x0) : Int))))) = true -> Value.bool true = Value.bool (decide (n < IntKind.i64.wrap ((0 : Int) - Sn.t (gSn (sfS n l (MX.i x0)) (Int.toNat (↑(MX.i x0) : Int))))) || decide (n > IntKind.i64.wrap ((4000 : Int) - Sn.t (gSn (sfS n l (MX.i x0)) (Int.toNat
 (↑(MX.i x0) : Int)))))) /\ True) /\ (decide (n < IntKind.i64.wrap ((0 : Int) - Sn.t (gSn (sfS n l (MX.i x0)) (Int.toNat (↑(MX.i x0) : Int))))) = false -> b = b /\ Value.bool (decide (n > IntKind.i64.wrap ((4000 : Int) - Sn.t (gSn (sfS n l (MX.i x0)) (Int.toNat (↑(MX.i x0) : Int)))))) = Value.bool
 (decide (n < IntKind.i64.wrap ((0 : Int) - Sn.t (gSn (sfS n l (MX.i x0)) (Int.toNat (↑(MX.i x0) : Int))))) || decide (n > IntKind.i64.wrap ((4000 : Int) - Sn.t (gSn (sfS n l (MX.i x0)) (Int.toNat (↑(MX.i x0) : Int)))))) /\ True)) /\ ∀ (junk : Nat -> Value), ((decide (n < IntKind.i64.wrap ((0 : Int)
 - Sn.t (gSn (sfS n l (MX.i x0)) (Int.toNat (↑(MX.i x0) : Int))))) || decide (n > IntKind.i64.wrap ((4000 : Int) - Sn.t (gSn (sfS n l (MX.i x0)) (Int.toNat (↑(MX.i x0) : Int)))))) = true -> List.length l = (0 : Nat) /\ cSn (shS n l) = [] /\ (1 : Nat) ≤ (5 : Nat) /\ Value.tuple (Array.mk [.slice none
 (0 : Nat) (0 : Nat), .int .i64 2]) = Value.tuple (Array.mk [.slice none (List.length l) (0 : Nat), .int .i64 0])) /\ ((decide (n < IntKind.i64.wrap ((0 : Int) - Sn.t (gSn (sfS n l (MX.i x0)) (Int.toNat (↑(MX.i x0) : Int))))) || decide (n > IntKind.i64.wrap ((4000 : Int) - Sn.t (gSn (sfS n l (MX.i
 x0)) (Int.toNat (↑(MX.i x0) : Int)))))) = false -> (((0 : Int) ≤ (↑(MX.i x0) : Int) /\ (↑(MX.i x0) : Int) < (↑(List.length l) : Int)) /\ AOK (MX.a x0) (List.length l)) /\ bk (MX.a x0) = bk (MX.a x0) /\ ofs (MX.a x0) + Int.toNat (↑(MX.i x0) : Int) * (5 : Nat) = ofs (MX.a x0) + Int.toNat (↑(MX.i x0) :
 Int) * (5 : Nat) /\ lgo (cSn (sfS n l (MX.i x0))) (Int.toNat (↑(MX.i x0) : Int) * (5 : Nat)) = some (Value.int .i64 (Sn.t (gSn (sfS n l (MX.i x0)) (Int.toNat (↑(MX.i x0) : Int))))) /\ (((0 : Int) ≤ (↑(MX.i x0) : Int) /\ (↑(MX.i x0) : Int) < (↑(List.length l) : Int)) /\ AOK (MX.a x0) (List.length l))
 /\ bk (MX.a x0) = bk (MX.a x0) /\ ofs (MX.a x0) + Int.toNat (↑(MX.i x0) : Int) * (5 : Nat) = ofs (MX.a x0) + Int.toNat (↑(MX.i x0) : Int) * (5 : Nat) /\ True /\ lset (cSn (sfS n l (MX.i x0))) (Int.toNat (↑(MX.i x0) : Int) * (5 : Nat)) (Value.int .i64 (IntKind.i64.wrap (Sn.t (gSn (sfS n l (MX.i x0))
 (Int.toNat (↑(MX.i x0) : Int))) + n))) = cSn (sS0 (sfS n l (MX.i x0)) (Int.toNat (↑(MX.i x0) : Int)) (IntKind.i64.wrap (Sn.t (gSn (sfS n l (MX.i x0)) (Int.toNat (↑(MX.i x0) : Int))) + n))) /\ Int.toNat (↑(MX.i x0) : Int) * (5 : Nat) < List.length (cSn (sfS n l (MX.i x0))) /\ ∃ y, (shP n l (MX.i y)
 /\ AOK (MX.a y) (List.length l)) /\ List.length l - MX.i y < List.length l - MX.i x0 /\ Value.int .i64 (IntKind.i64.wrap ((↑(MX.i x0) : Int) + (1 : Int))) = Value.int .i64 (↑(MX.i y) : Int) /\ Value.slice (MX.a x0) (List.length l) (MX.c x0) = Value.slice (MX.a y) (List.length l) (MX.c y) /\
 Value.slice (MX.a x0) (List.length l) (MX.c x0) = Value.slice (MX.a y) (List.length l) (MX.c y) /\ ((0 : Nat) = (0 : Nat) /\ cSn (sS0 (sfS n l (MX.i x0)) (Int.toNat (↑(MX.i x0) : Int)) (IntKind.i64.wrap (Sn.t (gSn (sfS n l (MX.i x0)) (Int.toNat (↑(MX.i x0) : Int))) + n))) = cSn (sfS n l (MX.i y)) /\
 (33 : Nat) = (33 : Nat) /\ some (Ow.mk (MX.a x0) (List.length l) (MX.c x0) (5 : Nat)) = some (Ow.mk (MX.a y) (List.length l) (MX.c y) (5 : Nat))) /\ True))) /\ (decide ((↑(MX.i x0) : Int) < (↑(List.length l) : Int)) = false -> (33 : Nat) = (33 : Nat) /\ (5 : Nat) = (5 : Nat) /\ List.length l =
 List.length l /\ cSn (sfS n l (MX.i x0)) = cSn (shS n l) /\ Value.tuple (Array.mk [.slice (MX.a x0) (List.length l) (MX.c x0), .int .i64 0]) = Value.tuple (Array.mk [.slice (MX.a x0) (List.length l) (MX.c x0), .int .i64 0]))) := by kernel_rfl
set_option maxHeartbeats 4000000 in
theorem shw_sp (a : Option Addr) (c : Nat) (l : List Sn) (n : Int) (hA : AOK a l.length) (hl : l.length ≤ 9223372036854775807) (n_ : -9223372036854775808 ≤ n ∧ n ≤ 9223372036854775807) (he : (ckE l != 0) = false) (ho : shO n l = true) : SpecG Tryd.prog wE ([(a, cSn l)]) 18 #[.slice a l.length c, .int .i64 n] ([⟨33, 5, l.length, cSn (shS n l)⟩]) (fun ads => .tuple #[.slice (nthS ads 0).1 l.length (nthS ads 0).2, .int .i64 0]) := by
  refine specG_of (h := shw_h a c l n) (?_ : wpG Tryd.prog wE ([(a, cSn l)]) 400 18 [.slice a l.length c, .int .i64 n] (shw_h a c l n) ([⟨33, 5, l.length, cSn (shS n l)⟩]) (fun ads => .tuple #[.slice (nthS ads 0).1 l.length (nthS ads 0).2, .int .i64 0]))
  rw [shw_x]
  (repeat' (first | with_reducible exact rfl | exact trivial | with_reducible assumption | (with_reducible exact chk_sp _ _ _ hA hl) | exact cSn_len _ | exact cSn_one _ | exact cU_len _ | exact cI_len _ | exact cB_len _ | exact cU_one _ | exact cI_one _ | exact cB_one _ | exact (fun _ h => h) | exact (fun _ h => (List.not_mem_nil h).elim) | (with_reducible refine e1_in ?_) | (with_reducible refine e2_in ?_) | (with_reducible refine lx_in (Nat.le_of_ble_eq_true rfl) ?_) | (with_reducible refine rqx_rf ?_) | (with_reducible refine rqx_in ?_ ?_ ?_) | (with_reducible apply And.intro) | (with_reducible intro _)))
  all_goals (try simp only [Int.toNat_natCast] at *)
  all_goals (try (first | rfl | (refine congrArg Value.bool ?_; have hh := ‹decide (n < _) = _›; rw [hh]; rfl) | exact congrArg (fun z => Value.tuple #[.slice none 0 0, .int .i64 z]) (sh_k ‹_›).symm))
  all_goals (have he := ‹(ckE l != 0) = false›; have h64 := len_64 he)
  all_goals (first
    | omega
    | (exact ⟨⟨0, _, _⟩, ⟨shP_0 _ _, (by assumption)⟩, rfl, rfl, rfl, ⟨(by trivial), (by rw [sf_0]), (by trivial), rfl⟩, trivial⟩)
    | (have hx := ‹shP n l _ ∧ AOK _ l.length›; have hi := lt_s ‹_›; first | omega | exact hx.2 | (refine cSn_get0 ?_; rw [sf_len]; exact hi) | (refine cSn_get1 ?_; rw [sf_len]; exact hi) | (refine cSn_get2 ?_; rw [sf_len]; exact hi) | (refine cSn_get3 ?_; rw [sf_len]; exact hi) | (refine cSn_get4 ?_; rw [sf_len]; exact hi) | (refine cSn_set0 _ ?_; rw [sf_len]; exact hi) | (rw [cSn_len, sf_len]; omega) | exact sh_b he n_ hx hi ‹_› | exact sh_no he n_ ho hi ‹_› | exact (sh_no he n_ ho hi ‹_› : False).elim | (rw [sh_e he n_ hi ‹_›]))
    | (have hx := ‹shP n l _ ∧ AOK _ l.length›; have e := ge_s ‹_› hx.1.1; first | (rw [sf_all e]; done) | exact absurd (sh_ok he hx.1 e) hz)
    | trace_state)
def shx_h (a : Option Addr) (c : Nat) (l : List Sn) (n : Int) : Hint := .specg wE [0] [cSn l] [] (fun ads0 x ↦ Value.tuple #[Value.int .i64 (ckI l), .int .i64 (ckE l)]) (.pl (.split (.perm [] .nil) (.apl (1 : Nat) (0 : Nat) (cSn l) (.pl (.inv (shL n l) fun x0 ↦ .split (.ix (.lst (1 : Nat) (Int.toNat (↑(MX.i x0) : Int) * (5 : Nat)) (Value.int .i64 (Sn.t (gSn (sfS n l
 (MX.i x0)) (Int.toNat (↑(MX.i x0) : Int))))) (.lst (1 : Nat) (Int.toNat (↑(MX.i x0) : Int) * (5 : Nat) + (1 : Nat)) (Value.int .i64 (Sn.x (gSn (sfS n l (MX.i x0)) (Int.toNat (↑(MX.i x0) : Int))))) (.lst (1 : Nat) (Int.toNat (↑(MX.i x0) : Int) * (5 : Nat) + (2 : Nat)) (Value.int .i64 (Sn.y (gSn (sfS
 n l (MX.i x0)) (Int.toNat (↑(MX.i x0) : Int))))) (.lst (1 : Nat) (Int.toNat (↑(MX.i x0) : Int) * (5 : Nat) + (3 : Nat)) (Value.int .i64 (Sn.z (gSn (sfS n l (MX.i x0)) (Int.toNat (↑(MX.i x0) : Int))))) (.lst (1 : Nat) (Int.toNat (↑(MX.i x0) : Int) * (5 : Nat) + (4 : Nat)) (Value.int .i64 (Sn.e (gSn
 (sfS n l (MX.i x0)) (Int.toNat (↑(MX.i x0) : Int))))) (ho 2 5 (.cut [((40 : Nat), .bool (decide (n < IntKind.i64.wrap ((0 : Int) - Sn.t (gSn (sfS n l (MX.i x0)) (Int.toNat (↑(MX.i x0) : Int))))) || decide (n > IntKind.i64.wrap ((4000 : Int) - Sn.t (gSn (sfS n l (MX.i x0)) (Int.toNat (↑(MX.i x0) :
 Int)))))))] (.ob 2 (.split (hl 4 (.lit .nil)) (.lit (.lit (.ob 2 (.lit (.lit (.lit .nil)))))))) (.split (.perm [] .nil) (.ix (.lst (1 : Nat) (Int.toNat (↑(MX.i x0) : Int) * (5 : Nat)) (Value.int .i64 (Sn.t (gSn (sfS n l (MX.i x0)) (Int.toNat (↑(MX.i x0) : Int))))) (.ix (.sto (1 : Nat) (Int.toNat
 (↑(MX.i x0) : Int) * (5 : Nat)) (cSn (sS0 (sfS n l (MX.i x0)) (Int.toNat (↑(MX.i x0) : Int)) (IntKind.i64.wrap (Sn.t (gSn (sfS n l (MX.i x0)) (Int.toNat (↑(MX.i x0) : Int))) + n)))) (.perm [1] .nil)))))))))))))) (.perm [] .nil))))))
theorem shx_x (a : Option Addr) (c : Nat) (l : List Sn) (n : Int) : wpG Tryd.prog wE ([(a, cSn l)]) 400 18 [.slice a l.length c, .int .i64 n] (shx_h a c l n) ([]) (fun _ => .tuple #[.slice none 0 0, .int .i64 (shE n l)]) = (cSn l = cSn l /\ (SpecG Tryd.prog wE [(a, cSn l)] (11 : FuncId) #[Value.slice a (List.length l) c] [] fun x ↦ Value.tuple #[Value.int .i64 (ckI l), .int .i64 (ckE l)]) /\ (∀ (e : Ex), e ∈ wE -> e ∈ wE) /\ ((ckE l != 0) = true -> Value.tuple (Array.mk [.slice none (0 : Nat) (0 : Nat), .int .i64 (ckE
 l)]) = Value.tuple (Array.mk [.slice none (0 : Nat) (0 : Nat), .int .i64 (shE n l)])) /\ ((ckE l != 0) = false -> ∀ (b : Nat), a = a /\ AOK a (List.length l) /\ List.length (cSn l) = List.length l * (5 : Nat) /\ (∀ (u : Value), u ∈ Ob.cells (Ob.mk (0 : Nat) (Prod.snd (a, cSn l)) (0 : TypeId) (some
 (Ow.mk (Prod.fst (a, cSn l)) (0 : Nat) (0 : Nat) (0 : Nat)))) -> Value.oneCell' u = true) /\ ((0 : Nat) + List.length l) * (41 : Nat) ≤ (140737488355328 : Nat) /\ cSn l = cSn l /\ some (Addr.mk b (0 : Nat) none) = some (Addr.mk b (0 : Nat) none) /\ ∀ (a' : Option Addr) (cap : Nat), AOK a'
 (List.length l) -> (∃ x, (shP n l (MX.i x) /\ AOK (MX.a x) (List.length l)) /\ Value.int .i64 0 = Value.int .i64 (↑(MX.i x) : Int) /\ Value.slice a' (List.length l) cap = Value.slice (MX.a x) (List.length l) (MX.c x) /\ Value.slice a' (List.length l) cap = Value.slice (MX.a x) (List.length l) (MX.c
 x) /\ ((0 : Nat) = (0 : Nat) /\ cSn l = cSn (sfS n l (MX.i x)) /\ (33 : Nat) = (33 : Nat) /\ some (Ow.mk a' (List.length l) cap (5 : Nat)) = some (Ow.mk (MX.a x) (List.length l) (MX.c x) (5 : Nat))) /\ True) /\ ∀ (x0 : MX), shP n l (MX.i x0) /\ AOK (MX.a x0) (List.length l) -> ∀ (junk : Nat ->
 Value), (decide ((↑(MX.i x0) : Int) < (↑(List.length l) : Int)) = true -> (((0 : Int) ≤ (↑(MX.i x0) : Int) /\ (↑(MX.i x0) : Int) < (↑(List.length l) : Int)) /\ AOK (MX.a x0) (List.length l)) /\ bk (MX.a x0) = bk (MX.a x0) /\ ofs (MX.a x0) + Int.toNat (↑(MX.i x0) : Int) * (5 : Nat) = ofs (MX.a x0) +
 Int.toNat (↑(MX.i x0) : Int) * (5 : Nat) /\ lgo (cSn (sfS n l (MX.i x0))) (Int.toNat (↑(MX.i x0) : Int) * (5 : Nat)) = some (Value.int .i64 (Sn.t (gSn (sfS n l (MX.i x0)) (Int.toNat (↑(MX.i x0) : Int))))) /\ bk (MX.a x0) = bk (MX.a x0) /\ ofs (MX.a x0) + Int.toNat (↑(MX.i x0) : Int) * (5 : Nat) + (1
 : Nat) = ofs (MX.a x0) + (Int.toNat (↑(MX.i x0) : Int) * (5 : Nat) + (1 : Nat)) /\ lgo (cSn (sfS n l (MX.i x0))) (Int.toNat (↑(MX.i x0) : Int) * (5 : Nat) + (1 : Nat)) = some (Value.int .i64 (Sn.x (gSn (sfS n l (MX.i x0)) (Int.toNat (↑(MX.i x0) : Int))))) /\ bk (MX.a x0) = bk (MX.a x0) /\ ofs (MX.a
 x0) + Int.toNat (↑(MX.i x0) : Int) * (5 : Nat) + (2 : Nat) = ofs (MX.a x0) + (Int.toNat (↑(MX.i x0) : Int) * (5 : Nat) + (2 : Nat)) /\ lgo (cSn (sfS n l (MX.i x0))) (Int.toNat (↑(MX.i x0) : Int) * (5 : Nat) + (2 : Nat)) = some (Value.int .i64 (Sn.y (gSn (sfS n l (MX.i x0)) (Int.toNat (↑(MX.i x0) :
 Int))))) /\ bk (MX.a x0) = bk (MX.a x0) /\ ofs (MX.a x0) + Int.toNat (↑(MX.i x0) : Int) * (5 : Nat) + (3 : Nat) = ofs (MX.a x0) + (Int.toNat (↑(MX.i x0) : Int) * (5 : Nat) + (3 : Nat)) /\ lgo (cSn (sfS n l (MX.i x0))) (Int.toNat (↑(MX.i x0) : Int) * (5 : Nat) + (3 : Nat)) = some (Value.int .i64
 (Sn.z (gSn (sfS n l (MX.i x0)) (Int.toNat (↑(MX.i x0) : Int))))) /\ bk (MX.a x0) = bk (MX.a x0) /\ ofs (MX.a x0) + Int.toNat (↑(MX.i x0) : Int) * (5 : Nat) + (4 : Nat) = ofs (MX.a x0) + (Int.toNat (↑(MX.i x0) : Int) * (5 : Nat) + (4 : Nat)) /\ lgo (cSn (sfS n l (MX.i x0))) (Int.toNat (↑(MX.i x0) :
 Int) * (5 : Nat) + (4 : Nat)) = some (Value.int .i64 (Sn.e (gSn (sfS n l (MX.i x0)) (Int.toNat (↑(MX.i x0) : Int))))) /\ ∀ (b : Nat), e2 b 5 ((b = b /\ (decide (n < IntKind.i64.wrap ((0 : Int) - Sn.t (gSn (sfS n l (MX.i x0)) (Int.toNat (↑(MX.i x0) : Int))))) = true -> Value.bool true = Value.bool
 (decide (n < IntKind.i64.wrap ((0 : Int) - Sn.t (gSn (sfS n l (MX.i x0)) (Int.toNat (↑(MX.i x0) : Int))))) || decide (n > IntKind.i64.wrap ((4000 : Int) - Sn.t (gSn (sfS n l (MX.i x0)) (Int.toNat (↑(MX.i x0) : Int)))))) /\ True) /\ (decide (n < IntKind.i64.wrap ((0 : Int) - Sn.t (gSn (sfS n l (MX.i
 x0)) (Int.toNat (↑(MX.i x0) : Int))))) = false -> b = b /\ Value.bool (decide (n > IntKind.i64.wrap ((4000 : Int) - Sn.t (gSn (sfS n l (MX.i x0)) (Int.toNat (↑(MX.i x0) : Int)))))) = Value.bool (decide (n < IntKind.i64.wrap ((0 : Int) - Sn.t (gSn (sfS n l (MX.i x0)) (Int.toNat (↑(MX.i x0) : Int)))))
 || decide (n > IntKind.i64.wrap ((4000 : Int) - Sn.t (gSn (sfS n l (MX.i x0)) (Int.toNat (↑(MX.i x0) : Int)))))) /\ True)) /\ ∀ (junk : Nat -> Value), ((decide (n < IntKind.i64.wrap ((0 : Int) - Sn.t (gSn (sfS n l (MX.i x0)) (Int.toNat (↑(MX.i x0) : Int))))) || decide (n > IntKind.i64.wrap ((4000 :
 Int) - Sn.t (gSn (sfS n l (MX.i x0)) (Int.toNat (↑(MX.i x0) : Int)))))) = true -> Value.tuple (Array.mk [.slice none (0 : Nat) (0 : Nat), .int .i64 2]) = Value.tuple (Array.mk [.slice none (0 : Nat) (0 : Nat), .int .i64 (shE n l)])) /\ ((decide (n < IntKind.i64.wrap ((0 : Int) - Sn.t (gSn (sfS n l
 (MX.i x0)) (Int.toNat (↑(MX.i x0) : Int))))) || decide (n > IntKind.i64.wrap ((4000 : Int) - Sn.t (gSn (sfS n l (MX.i x0)) (Int.toNat (↑(MX.i x0) : Int)))))) = false -> (((0 : Int) ≤ (↑(MX.i x0) : Int) /\ (↑(MX.i x0) : Int) < (↑(List.length l) : Int)) /\ AOK (MX.a x0) (List.length l)) /\ bk (MX.a
 x0) = bk (MX.a x0) /\ ofs (MX.a x0) + Int.toNat (↑(MX.i x0) : Int) * (5 : Nat) = ofs (MX.a x0) + Int.toNat (↑(MX.i x0) : Int) * (5 : Nat) /\ lgo (cSn (sfS n l (MX.i x0))) (Int.toNat (↑(MX.i x0) : Int) * (5 : Nat)) = some (Value.int .i64 (Sn.t (gSn (sfS n l (MX.i x0)) (Int.toNat (↑(MX.i x0) :
 Int))))) /\ (((0 : Int) ≤ (↑(MX.i x0) : Int) /\ (↑(MX.i x0) : Int) < (↑(List.length l) : Int)) /\ AOK (MX.a x0) (List.length l)) /\ bk (MX.a x0) = bk (MX.a x0) /\ ofs (MX.a x0) + Int.toNat (↑(MX.i x0) : Int) * (5 : Nat) = ofs (MX.a x0) + Int.toNat (↑(MX.i x0) : Int) * (5 : Nat) /\ True /\ lset (cSn
 (sfS n l (MX.i x0))) (Int.toNat (↑(MX.i x0) : Int) * (5 : Nat)) (Value.int .i64 (IntKind.i64.wrap (Sn.t (gSn (sfS n l (MX.i x0)) (Int.toNat (↑(MX.i x0) : Int))) + n))) = cSn (sS0 (sfS n l (MX.i x0)) (Int.toNat (↑(MX.i x0) : Int)) (IntKind.i64.wrap (Sn.t (gSn (sfS n l (MX.i x0)) (Int.toNat (↑(MX.i
 x0) : Int))) + n))) /\ Int.toNat (↑(MX.i x0) : Int) * (5 : Nat) < List.length (cSn (sfS n l (MX.i x0))) /\ ∃ y, (shP n l (MX.i y) /\ AOK (MX.a y) (List.length l)) /\ List.length l - MX.i y < List.length l - MX.i x0 /\ Value.int .i64 (IntKind.i64.wrap ((↑(MX.i x0) : Int) + (1 : Int))) = Value.int
 .i64 (↑(MX.i y) : Int) /\ Value.slice (MX.a x0) (List.length l) (MX.c x0) = Value.slice (MX.a y) (List.length l) (MX.c y) /\ Value.slice (MX.a x0) (List.length l) (MX.c x0) = Value.slice (MX.a y) (List.length l) (MX.c y) /\ ((0 : Nat) = (0 : Nat) /\ cSn (sS0 (sfS n l (MX.i x0)) (Int.toNat (↑(MX.i
 x0) : Int)) (IntKind.i64.wrap (Sn.t (gSn (sfS n l (MX.i x0)) (Int.toNat (↑(MX.i x0) : Int))) + n))) = cSn (sfS n l (MX.i y)) /\ (33 : Nat) = (33 : Nat) /\ some (Ow.mk (MX.a x0) (List.length l) (MX.c x0) (5 : Nat)) = some (Ow.mk (MX.a y) (List.length l) (MX.c y) (5 : Nat))) /\ True))) /\ (decide
 ((↑(MX.i x0) : Int) < (↑(List.length l) : Int)) = false -> Value.tuple (Array.mk [.slice (MX.a x0) (List.length l) (MX.c x0), .int .i64 0]) = Value.tuple (Array.mk [.slice none (0 : Nat) (0 : Nat), .int .i64 (shE n l)])))) := by kernel_rfl
set_option maxHeartbeats 4000000 in
theorem shx_sp (a : Option Addr) (c : Nat) (l : List Sn) (n : Int) (hA : AOK a l.length) (hl : l.length ≤ 9223372036854775807) (n_ : -9223372036854775808 ≤ n ∧ n ≤ 9223372036854775807) (hz : ¬ shE n l = 0) : SpecG Tryd.prog wE ([(a, cSn l)]) 18 #[.slice a l.length c, .int .i64 n] ([]) (fun _ => .tuple #[.slice none 0 0, .int .i64 (shE n l)]) := by
  refine specG_of (h := shx_h a c l n) (?_ : wpG Tryd.prog wE ([(a, cSn l)]) 400 18 [.slice a l.length c, .int .i64 n] (shx_h a c l n) ([]) (fun _ => .tuple #[.slice none 0 0, .int .i64 (shE n l)]))
  rw [shx_x]
  (repeat' (first | with_reducible exact rfl | exact trivial | with_reducible assumption | (with_reducible exact chk_sp _ _ _ hA hl) | exact cSn_len _ | exact cSn_one _ | exact cU_len _ | exact cI_len _ | exact cB_len _ | exact cU_one _ | exact cI_one _ | exact cB_one _ | exact (fun _ h => h) | exact (fun _ h => (List.not_mem_nil h).elim) | (with_reducible refine e1_in ?_) | (with_reducible refine e2_in ?_) | (with_reducible refine lx_in (Nat.le_of_ble_eq_true rfl) ?_) | (with_reducible refine rqx_rf ?_) | (with_reducible refine rqx_in ?_ ?_ ?_) | (with_reducible apply And.intro) | (with_reducible intro _)))
  all_goals (try simp only [Int.toNat_natCast] at *)
  all_goals (try (first | rfl | (refine congrArg Value.bool ?_; have hh := ‹decide (n < _) = _›; rw [hh]; rfl) | exact congrArg (fun z => Value.tuple #[.slice none 0 0, .int .i64 z]) (sh_k ‹_›).symm))
  all_goals (have he := ‹(ckE l != 0) = false›; have h64 := len_64 he)
  all_goals (first
    | omega
    | (exact ⟨⟨0, _, _⟩, ⟨shP_0 _ _, (by assumption)⟩, rfl, rfl, rfl, ⟨(by trivial), (by rw [sf_0]), (by trivial), rfl⟩, trivial⟩)
    | (have hx := ‹shP n l _ ∧ AOK _ l.length›; have hi := lt_s ‹_›; first | omega | exact hx.2 | (refine cSn_get0 ?_; rw [sf_len]; exact hi) | (refine cSn_get1 ?_; rw [sf_len]; exact hi) | (refine cSn_get2 ?_; rw [sf_len]; exact hi) | (refine cSn_get3 ?_; rw [sf_len]; exact hi) | (refine cSn_get4 ?_; rw [sf_len]; exact hi) | (refine cSn_set0 _ ?_; rw [sf_len]; exact hi) | (rw [cSn_len, sf_len]; omega) | exact sh_b he n_ hx hi ‹_› | exact sh_no he n_ ho hi ‹_› | exact (sh_no he n_ ho hi ‹_› : False).elim | (rw [sh_e he n_ hi ‹_›]))
    | (have hx := ‹shP n l _ ∧ AOK _ l.length›; have e := ge_s ‹_› hx.1.1; first | (rw [sf_all e]; done) | exact absurd (sh_ok he hx.1 e) hz)
    | trace_state)

theorem aok_nil : AOK none 0 := ⟨(fun _ => rfl), (fun hn => absurd rfl hn)⟩
theorem aok_bl (g n : Nat) : AOK (some ⟨g, 0, none⟩) n := ⟨(fun e => by cases e), (fun _ q hq => by injection hq with hq; subst hq; rfl)⟩
theorem rs_c {n : Int} {l : List Sn} (he : (ckE l != 0) = false) {i : Nat} (hi : i < l.length) : (decide (n > 4000) || (decide (n < -4000) || !(decide (IntKind.i64.wrap ((gSn l i).t + n) ≥ 0) && decide (IntKind.i64.wrap ((gSn l i).t + n) ≤ 4000)))) = !(inT n (gSn l i)) := by
  have h := tm_b he hi
  by_cases h1 : n > 4000
  · rw [decide_eq_true h1, Bool.true_or]
    unfold inT
    rw [Bool.eq_iff_iff]; simp; omega
  · by_cases h2 : n < -4000
    · rw [decide_eq_true h2, Bool.true_or, Bool.or_true]
      unfold inT
      rw [Bool.eq_iff_iff]; simp; omega
    · rw [decide_eq_false h1, decide_eq_false h2, Bool.false_or, Bool.false_or, IntWalk.i64_in _ (show -9223372036854775808 ≤ (gSn l i).t + n ∧ (gSn l i).t + n ≤ 9223372036854775807 by omega)]
      rfl
theorem rs_no {n : Int} {l : List Sn} {i : Nat} {Q : Prop} (he : (ckE l != 0) = false) (ho : shO n l = true) (hi : i < l.length)
    (hc : (decide (n > 4000) || (decide (n < -4000) || !(decide (IntKind.i64.wrap ((gSn l i).t + n) ≥ 0) && decide (IntKind.i64.wrap ((gSn l i).t + n) ≤ 4000)))) = true) : Q := by
  rw [rs_c he hi] at hc
  have := sh_in ho hi
  unfold inT at hc
  simp at hc
  omega
theorem rs_e {n : Int} {l : List Sn} {i : Nat} (he : (ckE l != 0) = false) (hi : i < l.length)
    (hc : (decide (n > 4000) || (decide (n < -4000) || !(decide (IntKind.i64.wrap ((gSn l i).t + n) ≥ 0) && decide (IntKind.i64.wrap ((gSn l i).t + n) ≤ 4000)))) = true) : shE n l = 2 := by
  rw [rs_c he hi] at hc
  unfold shE
  rw [if_pos (ck_f he), if_neg]
  rw [sh_out hi (fun h => by unfold inT at hc; simp at hc; omega)]
  decide
theorem rs_b {n : Int} {l : List Sn} {x : MX} (he : (ckE l != 0) = false) (hx : shP n l x.i ∧ AOK x.a x.i) (hi : x.i < l.length)
    (hc : (decide (n > 4000) || (decide (n < -4000) || !(decide (IntKind.i64.wrap ((gSn l x.i).t + n) ≥ 0) && decide (IntKind.i64.wrap ((gSn l x.i).t + n) ≤ 4000)))) = false) {a' : Option Addr} {c' : Nat} (ha : AOK a' (x.i + 1)) :
    ∃ y : MX, (shP n l y.i ∧ AOK y.a y.i) ∧ l.length - y.i < l.length - x.i ∧ Value.int IntKind.i64 (IntKind.i64.wrap (x.i + 1)) = Value.int IntKind.i64 y.i ∧ Value.slice a' (x.i + 1) c' = Value.slice y.a y.i y.c ∧
      (True ∧ lapp (cSn (sgS n l x.i)) [.int .i64 (IntKind.i64.wrap ((gSn l x.i).t + n)), .int .i64 (gSn l x.i).x, .int .i64 (gSn l x.i).y, .int .i64 (gSn l x.i).z, .int .i64 (gSn l x.i).e] = cSn (sgS n l y.i) ∧ True ∧ some (Ow.mk a' (x.i + 1) c' 5) = some (Ow.mk y.a y.i y.c 5)) ∧ True := by
  have h64 := len_64 he
  rw [rs_c he hi] at hc
  have h1 := sh_i hc
  refine ⟨⟨x.i + 1, a', c'⟩, ⟨shP_s hx.1 hi h1, ha⟩, (by show _ - (_ + 1) < _; omega), wr_s (by omega), rfl, ⟨trivial, ?_, trivial, rfl⟩, trivial⟩
  rw [lapp_eq, sh_w h1, sg_s hi]
theorem rm_b {l : List Sn} {x : MX} (hl : l.length ≤ 9223372036854775807) (hi : x.i < l.length) {a' : Option Addr} {c' : Nat} (ha : AOK a' (x.i + 1)) :
    ∃ y : MX, (y.i ≤ l.length ∧ AOK y.a y.i) ∧ l.length - y.i < l.length - x.i ∧ Value.int IntKind.i64 (IntKind.i64.wrap (x.i + 1)) = Value.int IntKind.i64 y.i ∧ Value.slice a' (x.i + 1) c' = Value.slice y.a y.i y.c ∧
      (True ∧ lapp (cSn (mgS l x.i)) [.int .i64 (gSn l x.i).t, .int .i64 (gSn l x.i).x, .int .i64 (IntKind.i64.wrap (0 - (gSn l x.i).y)), .int .i64 (gSn l x.i).z, .int .i64 (gSn l x.i).e] = cSn (mgS l y.i) ∧ True ∧ some (Ow.mk a' (x.i + 1) c' 5) = some (Ow.mk y.a y.i y.c 5)) ∧ True := by
  refine ⟨⟨x.i + 1, a', c'⟩, ⟨hi, ha⟩, (by show _ - (_ + 1) < _; omega), wr_s (by omega), rfl, ⟨trivial, ?_, trivial, rfl⟩, trivial⟩
  rw [lapp_eq, mg_s hi]

end Go.Proofs.YtjnaficgcellkaaDoor
