/- A cursor over the fields of a line: the reference's methods. -/
import Derived.Test.YtjibacfgcdbhlaaGreatDoorVz
import Derived.KernelRfl
import Derived.Test.YtjibacfgcdbhlaaGreatDoorProg
import Derived.Test.YtjibacfgcdbhlaaGreatDoorFda
import Derived.Test.YtjibacfgcdbhlaaGreatDoorRda
import Derived.Test.YtjibacfgcdbhlaaGreatDoorRub
import Derived.Test.YtjibacfgcdbhlaaGreatDoorSqw
import Derived.Test.YtjibacfgcdbhlaaGreatDoorTcu
set_option linter.unusedSimpArgs false
set_option linter.unusedVariables false
set_option maxRecDepth 100000
namespace Go.Proofs.YtjibacfgcdbhlaaGreatDoor
open Go.RowKit

def qmo_h (b : Nat) (ln : Int) (a : Option Addr) (fs : List Fe) (cp : Nat) (u : Cu) : Hint := .nc (.cut [((2 : Nat), .bool (Cu.e u == 0 && decide ((↑(Cu.n u) : Int) < (↑(List.length fs) : Int))))] (.draw [0, 1] none [0, 1] (.take 0 (.take 1 (.pl (.take 2 (.take 3 (.lit (.take 4 (.lit (.take 5 (.lit (.take 6 (.lit (.ob 1 (.take 7 (.lit (.pl (.take 8 (.lit (.take 9 (.take 10 (.split (.take 11
 (.lit (.take 12 (.lit (.take 13 (.lit (.ob 1 (.take 14 (.lit (.take 15 (.lit (.take 16 (.lit (.take 17 (.lit (.take 18 (.lit (.ob 1 (.take 19 (.lit (.pl (.take 20 (.lit (.take 21 (.lit (.take 22 .nil)))))))))))))))))))))))))) (.take 11 (.lit (.take 12 (.lit (.take 13 (.lit (.take 14 (.lit (.take 15
 (.lit (.take 16 (.lit (.take 17 (.lit (.take 18 (.lit (.take 19 (.lit (.take 20 (.lit (.take 21 (.lit (.take 22 .nil))))))))))))))))))))))))))))))))))))))))))))) (.perm [1] .nil))
theorem qmo_x (b : Nat) (ln : Int) (a : Option Addr) (fs : List Fe) (cp : Nat) (u : Cu) : wpH Tryz.prog [] ([(a, cFe fs)]) ([]) ([⟨b, cuL ln a fs.length cp u, 60, none⟩]) 400 9 [.pointer (some ⟨b, 0, none⟩)] (qmo_h b ln a fs cp u) (Un) (fun x => x = Un.un) (fun _ => [⟨b, cuL ln a fs.length cp (u), 60, none⟩]) (fun _ => .bool (moB fs u)) = ((b = b /\ ((Cu.e u == 0) = true -> b = b /\ b = b /\ Value.bool (decide ((↑(Cu.n u) : Int) < (↑(List.length fs) : Int))) = Value.bool (Cu.e u == 0 && decide ((↑(Cu.n u) : Int) < (↑(List.length fs) : Int))) /\ True) /\ ((Cu.e u == 0) = false -> Value.bool false = Value.bool (Cu.e u == 0 && decide
 ((↑(Cu.n u) : Int) < (↑(List.length fs) : Int))) /\ True)) /\ ∀ (junk : Nat -> Value), ∃ x, x = Un.un /\ Value.bool (Cu.e u == 0 && decide ((↑(Cu.n u) : Int) < (↑(List.length fs) : Int))) = Value.bool (moB fs u) /\ (True /\ True) /\ (b = b /\ cuL ln a (List.length fs) cp u = cuL ln a (List.length
 fs) cp u /\ (60 : Nat) = (60 : Nat) /\ noOw = noOw) /\ True) := by kernel_rfl
set_option maxHeartbeats 4000000 in
theorem qmo_sp (b : Nat) (ln : Int) (a : Option Addr) (fs : List Fe) (cp : Nat) (u : Cu) (hA : AOK a fs.length) (hl : fs.length ≤ 1000000) (hu : u.n ≤ fs.length) : SpecC Tryz.prog [] ([(a, cFe fs)]) ([]) ([⟨b, cuL ln a fs.length cp u, 60, none⟩]) 9 #[.pointer (some ⟨b, 0, none⟩)] (Un) (fun x => x = Un.un) (fun _ => [⟨b, cuL ln a fs.length cp (u), 60, none⟩]) (fun _ => .bool (moB fs u)) := by
  refine specC_of (h := qmo_h b ln a fs cp u) (?_ : wpH Tryz.prog [] ([(a, cFe fs)]) ([]) ([⟨b, cuL ln a fs.length cp u, 60, none⟩]) 400 9 [.pointer (some ⟨b, 0, none⟩)] (qmo_h b ln a fs cp u) (Un) (fun x => x = Un.un) (fun _ => [⟨b, cuL ln a fs.length cp (u), 60, none⟩]) (fun _ => .bool (moB fs u)))
  rw [qmo_x]
  (repeat' (first | with_reducible exact rfl | exact trivial | with_reducible assumption | exact cU_len _ | exact cI_len _ | exact cB_len _ | exact cU_one _ | exact cI_one _ | exact cB_one _ | exact (fun _ h => h) | exact (fun _ h => (List.not_mem_nil h).elim) | (with_reducible refine e1_in ?_) | (with_reducible refine e2_in ?_) | (with_reducible refine lx_in (Nat.le_of_ble_eq_true rfl) ?_) | (with_reducible refine rqx_rf ?_) | (with_reducible refine rqx_in ?_ ?_ ?_) | (with_reducible apply And.intro) | (with_reducible intro _)))
  all_goals (try (refine ⟨Un.un, rfl, ?_, ⟨trivial, trivial⟩, ⟨rfl, ?_, rfl, rfl⟩, trivial⟩))
  all_goals (try simp only [ge_iff_le, decide_eq_true_eq, decide_eq_false_iff_not, Int.ofNat_le, Int.ofNat_lt, Int.not_le, Nat.not_le, Nat.not_lt, Int.toNat_natCast, beq_iff_eq, bne_iff_ne, beq_eq_false_iff_ne, bne_eq_false_iff_eq, ne_eq, Decidable.not_not, Bool.not_eq_true', Bool.not_eq_false'] at *)
  all_goals (try (first | omega | exact hA | (refine cFe_get0 ?_; omega) | (refine cFe_get1 ?_; omega) | (refine cFe_get2 ?_; omega)))
  all_goals (try (have hm := mo_t ‹moB fs u = true›; first | omega | (refine cFe_get0 ?_; omega) | (refine cFe_get1 ?_; omega) | (refine cFe_get2 ?_; omega)))
  all_goals (have hw : u.n ≤ 1048576 → IntKind.i64.wrap ((u.n : Int) + 1) = ((u.n + 1 : Nat) : Int) := fun hk => by rw [IntWalk.i64_in _ (by omega)]; rfl)
  all_goals (have hp : 0 < u.n → IntKind.i64.wrap ((u.n : Int) - 1) = ((u.n - 1 : Nat) : Int) := fun hk => by rw [IntWalk.i64_in _ (by omega)]; omega)
  all_goals (try (rw [hp (by omega)]))
  all_goals (try simp only [Int.toNat_natCast])
  all_goals (try (first | omega | (refine cFe_get0 ?_; omega) | (refine cFe_get1 ?_; omega) | (refine cFe_get2 ?_; omega)))
  all_goals (try (simp_all [kwU]; done))
  all_goals (try (refine congrArg (cuL ln a fs.length cp) ?_; unfold rjU; rw [if_neg (by rintro ⟨h1, h2⟩; have h3 := ‹(!u.e == 0 || e == 0) = true›; simp [h1, h2] at h3)]))
  all_goals (try (by_cases hq : 0 < u.n <;> simp_all [cuL, rjU]; done))
  all_goals (try ((try rw [hw (by omega)]) <;> by_cases hlt : u.n < fs.length <;> first | (exfalso; omega) | (simp_all [okC, rdF, rdU, feV, cuL, fe0, kwB, kwU, moB, rjU, dgV, clD, clB]; done) | (simp [okC, rdF, rdU, feV, cuL, fe0, kwB, kwU, moB, rjU, dgV, clD, clB, hlt, *]; done)))
  
def qrd_h (b : Nat) (ln : Int) (a : Option Addr) (fs : List Fe) (cp : Nat) (u : Cu) (q : Bool) : Hint := .pl (hl 4 (.ob 1 (.lit (.pl (.lit (.split (ho 2 6 (.perm [1] .nil)) (.specc [] [(a, cFe fs)] [] [Ob.mk b (cuL ln a (List.length fs) cp u) (60 : TypeId) none] Un (fun x ↦ x = Un.un) (fun x ↦ [Ob.mk b (cuL ln a (List.length fs) cp u) (60 : TypeId) none]) (fun x ↦ Value.bool (moB fs u)) [0] [] [1] fun
 x_479 ↦ .split (.inl (ho 3 2 (ho 2 6 (.perm [3] .nil)))) (.draw [0, 1, 2, 3] none [0, 1, 2, 3] (.take 0 (.take 1 (.take 2 (.take 3 (.take 4 (.ob 3 (.take 5 (.take 6 (.take 7 (.take 8 (.ob 3 (.take 9 (.ix (.take 10 (.lst (0 : Nat) (Int.toNat (↑(Cu.n u) : Int) * (3 : Nat)) (Value.string (Fe.t (gFe fs
 (Int.toNat (↑(Cu.n u) : Int))))) (.lst (0 : Nat) (Int.toNat (↑(Cu.n u) : Int) * (3 : Nat) + (1 : Nat)) (Value.int .i64 (Fe.c (gFe fs (Int.toNat (↑(Cu.n u) : Int))))) (.lst (0 : Nat) (Int.toNat (↑(Cu.n u) : Int) * (3 : Nat) + (2 : Nat)) (Value.bool (Fe.q (gFe fs (Int.toNat (↑(Cu.n u) : Int))))) (.pl
 (.br (.pl (.br (ho 4 4 (.pl (.split (.ob 4 (.inl (ho 3 2 (ho 2 6 (.perm [3] .nil))))) (ho 3 2 (ho 4 3 (ho 2 6 (.perm [3] .nil))))))) .nil)) .nil)))))))))))))))))))))))))))
theorem qrd_x (b : Nat) (ln : Int) (a : Option Addr) (fs : List Fe) (cp : Nat) (u : Cu) (q : Bool) : wpH Tryz.prog [] ([(a, cFe fs)]) ([]) ([⟨b, cuL ln a fs.length cp u, 60, none⟩]) 400 44 [.pointer (some ⟨b, 0, none⟩), .bool q] (qrd_h b ln a fs cp u q) (Un) (fun x => x = Un.un) (fun _ => [⟨b, cuL ln a fs.length cp (rdU q fs u), 60, none⟩]) (fun _ => .tuple #[feV (rdF q fs u), .bool (okC q fs u)]) = (∀ (b_1 : Nat), b = b /\ ((Cu.e u != 0) = true -> e2 b_1 3 (e1 b_1 3 (∃ x, x = Un.un /\ Value.tuple (Array.mk [.agg (Array.mk [.string (ByteArray.mk (Array.mk [])), .int .i64 0, .bool false]), .bool false]) = Value.tuple (Array.mk [feV (rdF q fs u), .bool (okC q fs u)]) /\ (True /\ True) /\ (b = b /\
 cuL ln a (List.length fs) cp u = cuL ln a (List.length fs) cp (rdU q fs u) /\ (60 : Nat) = (60 : Nat) /\ noOw = noOw) /\ True))) /\ ((Cu.e u != 0) = false -> (SpecC Tryz.prog [] [(a, cFe fs)] [] [Ob.mk b (cuL ln a (List.length fs) cp u) (60 : TypeId) noOw] (9 : FuncId) #[Value.pointer (some (Addr.mk
 b (0 : Nat) none))] Un (fun x ↦ x = Un.un) (fun x ↦ [Ob.mk b (cuL ln a (List.length fs) cp u) (60 : TypeId) noOw]) fun x ↦ Value.bool (moB fs u)) /\ (∀ (e : Ex), e ∈ [] -> e ∈ []) /\ ((b = b /\ cuL ln a (List.length fs) cp u = cuL ln a (List.length fs) cp u /\ (60 : Nat) = (60 : Nat) /\ noOw = noOw)
 /\ True) /\ ((a = a /\ cFe fs = cFe fs) /\ True) /\ True /\ ∀ (x_479 : Un), x_479 = Un.un -> ((!moB fs u) = true -> b = b /\ True /\ b = b /\ True /\ e2 b_1 3 (e1 b_1 3 (∃ x, x = Un.un /\ Value.tuple (Array.mk [.agg (Array.mk [.string (ByteArray.mk (Array.mk [])), .int .i64 0, .bool false]), .bool
 false]) = Value.tuple (Array.mk [feV (rdF q fs u), .bool (okC q fs u)]) /\ (True /\ True) /\ (b = b /\ [Value.int .i64 ln, .slice a (List.length fs) cp, .int .i64 (↑(Cu.n u) : Int), .int .i64 4, .int .i64 0] = cuL ln a (List.length fs) cp (rdU q fs u) /\ (60 : Nat) = (60 : Nat) /\ noOw = noOw) /\
 True))) /\ ((!moB fs u) = false -> b = b /\ b = b /\ (((0 : Int) ≤ (↑(Cu.n u) : Int) /\ (↑(Cu.n u) : Int) < (↑(List.length fs) : Int)) /\ AOK a (List.length fs)) /\ bk a = bk a /\ ofs a + Int.toNat (↑(Cu.n u) : Int) * (3 : Nat) = ofs a + Int.toNat (↑(Cu.n u) : Int) * (3 : Nat) /\ lgo (cFe fs)
 (Int.toNat (↑(Cu.n u) : Int) * (3 : Nat)) = some (Value.string (Fe.t (gFe fs (Int.toNat (↑(Cu.n u) : Int))))) /\ bk a = bk a /\ ofs a + Int.toNat (↑(Cu.n u) : Int) * (3 : Nat) + (1 : Nat) = ofs a + (Int.toNat (↑(Cu.n u) : Int) * (3 : Nat) + (1 : Nat)) /\ lgo (cFe fs) (Int.toNat (↑(Cu.n u) : Int) *
 (3 : Nat) + (1 : Nat)) = some (Value.int .i64 (Fe.c (gFe fs (Int.toNat (↑(Cu.n u) : Int))))) /\ bk a = bk a /\ ofs a + Int.toNat (↑(Cu.n u) : Int) * (3 : Nat) + (2 : Nat) = ofs a + (Int.toNat (↑(Cu.n u) : Int) * (3 : Nat) + (2 : Nat)) /\ lgo (cFe fs) (Int.toNat (↑(Cu.n u) : Int) * (3 : Nat) + (2 :
 Nat)) = some (Value.bool (Fe.q (gFe fs (Int.toNat (↑(Cu.n u) : Int))))) /\ True /\ (∀ (b_2 : Nat), True /\ (e2 b_2 3 (b_2 = b_2 /\ ((!Fe.q (gFe fs (Int.toNat (↑(Cu.n u) : Int))) == q) = true -> b_2 = b_2 /\ b = b /\ True /\ b = b /\ True /\ e2 b_1 3 (e1 b_1 3 (∃ x, x = Un.un /\ Value.tuple (Array.mk
 [.agg (Array.mk [.string (ByteArray.mk (Array.mk [])), .int .i64 0, .bool false]), .bool false]) = Value.tuple (Array.mk [feV (rdF q fs u), .bool (okC q fs u)]) /\ (True /\ True) /\ (b = b /\ [Value.int .i64 ln, .slice a (List.length fs) cp, .int .i64 (↑(Cu.n u) : Int), .int .i64 4, .int .i64 (Fe.c
 (gFe fs (Int.toNat (↑(Cu.n u) : Int))))] = cuL ln a (List.length fs) cp (rdU q fs u) /\ (60 : Nat) = (60 : Nat) /\ noOw = noOw) /\ True))) /\ ((!Fe.q (gFe fs (Int.toNat (↑(Cu.n u) : Int))) == q) = false -> b = b /\ b = b /\ True /\ e1 b_2 3 (e2 b_1 3 (e1 b_1 3 (∃ x, x = Un.un /\ Value.tuple
 (Array.mk [.agg (Array.mk [.string (Fe.t (gFe fs (Int.toNat (↑(Cu.n u) : Int)))), .int .i64 (Fe.c (gFe fs (Int.toNat (↑(Cu.n u) : Int)))), .bool (Fe.q (gFe fs (Int.toNat (↑(Cu.n u) : Int))))]), .bool true]) = Value.tuple (Array.mk [feV (rdF q fs u), .bool (okC q fs u)]) /\ (True /\ True) /\ (b = b
 /\ [Value.int .i64 ln, .slice a (List.length fs) cp, .int .i64 (IntKind.i64.wrap ((↑(Cu.n u) : Int) + (1 : Int))), .int .i64 (Cu.e u), .int .i64 (Cu.c u)] = cuL ln a (List.length fs) cp (rdU q fs u) /\ (60 : Nat) = (60 : Nat) /\ noOw = noOw) /\ True)))))) /\ True) /\ True))) := by kernel_rfl
set_option maxHeartbeats 4000000 in
theorem qrd_sp (b : Nat) (ln : Int) (a : Option Addr) (fs : List Fe) (cp : Nat) (u : Cu) (q : Bool) (hA : AOK a fs.length) (hl : fs.length ≤ 1000000) (hu : u.n ≤ fs.length) : SpecC Tryz.prog [] ([(a, cFe fs)]) ([]) ([⟨b, cuL ln a fs.length cp u, 60, none⟩]) 44 #[.pointer (some ⟨b, 0, none⟩), .bool q] (Un) (fun x => x = Un.un) (fun _ => [⟨b, cuL ln a fs.length cp (rdU q fs u), 60, none⟩]) (fun _ => .tuple #[feV (rdF q fs u), .bool (okC q fs u)]) := by
  refine specC_of (h := qrd_h b ln a fs cp u q) (?_ : wpH Tryz.prog [] ([(a, cFe fs)]) ([]) ([⟨b, cuL ln a fs.length cp u, 60, none⟩]) 400 44 [.pointer (some ⟨b, 0, none⟩), .bool q] (qrd_h b ln a fs cp u q) (Un) (fun x => x = Un.un) (fun _ => [⟨b, cuL ln a fs.length cp (rdU q fs u), 60, none⟩]) (fun _ => .tuple #[feV (rdF q fs u), .bool (okC q fs u)]))
  rw [qrd_x]
  (repeat' (first | with_reducible exact rfl | exact trivial | with_reducible assumption | exact qmo_sp _ _ _ _ _ _ hA hl hu | exact cU_len _ | exact cI_len _ | exact cB_len _ | exact cU_one _ | exact cI_one _ | exact cB_one _ | exact (fun _ h => h) | exact (fun _ h => (List.not_mem_nil h).elim) | (with_reducible refine e1_in ?_) | (with_reducible refine e2_in ?_) | (with_reducible refine lx_in (Nat.le_of_ble_eq_true rfl) ?_) | (with_reducible refine rqx_rf ?_) | (with_reducible refine rqx_in ?_ ?_ ?_) | (with_reducible apply And.intro) | (with_reducible intro _)))
  all_goals (try (refine ⟨Un.un, rfl, ?_, ⟨trivial, trivial⟩, ⟨rfl, ?_, rfl, rfl⟩, trivial⟩))
  all_goals (try simp only [ge_iff_le, decide_eq_true_eq, decide_eq_false_iff_not, Int.ofNat_le, Int.ofNat_lt, Int.not_le, Nat.not_le, Nat.not_lt, Int.toNat_natCast, beq_iff_eq, bne_iff_ne, beq_eq_false_iff_ne, bne_eq_false_iff_eq, ne_eq, Decidable.not_not, Bool.not_eq_true', Bool.not_eq_false'] at *)
  all_goals (try (first | omega | exact hA | (refine cFe_get0 ?_; omega) | (refine cFe_get1 ?_; omega) | (refine cFe_get2 ?_; omega)))
  all_goals (try (have hm := mo_t ‹moB fs u = true›; first | omega | (refine cFe_get0 ?_; omega) | (refine cFe_get1 ?_; omega) | (refine cFe_get2 ?_; omega)))
  all_goals (have hw : u.n ≤ 1048576 → IntKind.i64.wrap ((u.n : Int) + 1) = ((u.n + 1 : Nat) : Int) := fun hk => by rw [IntWalk.i64_in _ (by omega)]; rfl)
  all_goals (have hp : 0 < u.n → IntKind.i64.wrap ((u.n : Int) - 1) = ((u.n - 1 : Nat) : Int) := fun hk => by rw [IntWalk.i64_in _ (by omega)]; omega)
  all_goals (try (rw [hp (by omega)]))
  all_goals (try simp only [Int.toNat_natCast])
  all_goals (try (first | omega | (refine cFe_get0 ?_; omega) | (refine cFe_get1 ?_; omega) | (refine cFe_get2 ?_; omega)))
  all_goals (try (simp_all [kwU]; done))
  all_goals (try (refine congrArg (cuL ln a fs.length cp) ?_; unfold rjU; rw [if_neg (by rintro ⟨h1, h2⟩; have h3 := ‹(!u.e == 0 || e == 0) = true›; simp [h1, h2] at h3)]))
  all_goals (try (by_cases hq : 0 < u.n <;> simp_all [cuL, rjU]; done))
  all_goals (try ((try rw [hw (by omega)]) <;> by_cases hlt : u.n < fs.length <;> first | (exfalso; omega) | (simp_all [okC, rdF, rdU, feV, cuL, fe0, kwB, kwU, moB, rjU, dgV, clD, clB]; done) | (simp [okC, rdF, rdU, feV, cuL, fe0, kwB, kwU, moB, rjU, dgV, clD, clB, hlt, *]; done)))
  
def qwo_h (b : Nat) (ln : Int) (a : Option Addr) (fs : List Fe) (cp : Nat) (u : Cu) : Hint := .specc [] [(a, cFe fs)] [] [Ob.mk b (cuL ln a (List.length fs) cp u) (60 : TypeId) none] Un (fun x ↦ x = Un.un) (fun x ↦ [Ob.mk b (cuL ln a (List.length fs) cp (rdU false fs u)) (60 : TypeId) none]) (fun x ↦ Value.tuple #[feV (rdF false fs u), .bool (okC false fs u)]) [0] [] [1] fun x_87 ↦ ho 3 4
 (.perm [2] .nil)
theorem qwo_x (b : Nat) (ln : Int) (a : Option Addr) (fs : List Fe) (cp : Nat) (u : Cu) : wpH Tryz.prog [] ([(a, cFe fs)]) ([]) ([⟨b, cuL ln a fs.length cp u, 60, none⟩]) 400 24 [.pointer (some ⟨b, 0, none⟩)] (qwo_h b ln a fs cp u) (Un) (fun x => x = Un.un) (fun _ => [⟨b, cuL ln a fs.length cp (rdU false fs u), 60, none⟩]) (fun _ => .string (rdF false fs u).t) = ((SpecC Tryz.prog [] [(a, cFe fs)] [] [Ob.mk b (cuL ln a (List.length fs) cp u) (60 : TypeId) noOw] (44 : FuncId) #[Value.pointer (some (Addr.mk b (0 : Nat) none)), .bool false] Un (fun x ↦ x = Un.un) (fun x ↦ [Ob.mk b (cuL ln a (List.length fs) cp (rdU false fs u)) (60 : TypeId) noOw]) fun x ↦
 Value.tuple #[feV (rdF false fs u), .bool (okC false fs u)]) /\ (∀ (e : Ex), e ∈ [] -> e ∈ []) /\ ((b = b /\ cuL ln a (List.length fs) cp u = cuL ln a (List.length fs) cp u /\ (60 : Nat) = (60 : Nat) /\ noOw = noOw) /\ True) /\ ((a = a /\ cFe fs = cFe fs) /\ True) /\ True /\ ∀ (x_87 : Un), x_87 =
 Un.un -> ∀ (b_1 : Nat), e2 b_1 3 (b_1 = b_1 /\ ∃ x, x = Un.un /\ Value.string (Fe.t (rdF false fs u)) = Value.string (Fe.t (rdF false fs u)) /\ (True /\ True) /\ (b = b /\ cuL ln a (List.length fs) cp (rdU false fs u) = cuL ln a (List.length fs) cp (rdU false fs u) /\ (60 : Nat) = (60 : Nat) /\ noOw
 = noOw) /\ True)) := by kernel_rfl
set_option maxHeartbeats 4000000 in
theorem qwo_sp (b : Nat) (ln : Int) (a : Option Addr) (fs : List Fe) (cp : Nat) (u : Cu) (hA : AOK a fs.length) (hl : fs.length ≤ 1000000) (hu : u.n ≤ fs.length) : SpecC Tryz.prog [] ([(a, cFe fs)]) ([]) ([⟨b, cuL ln a fs.length cp u, 60, none⟩]) 24 #[.pointer (some ⟨b, 0, none⟩)] (Un) (fun x => x = Un.un) (fun _ => [⟨b, cuL ln a fs.length cp (rdU false fs u), 60, none⟩]) (fun _ => .string (rdF false fs u).t) := by
  refine specC_of (h := qwo_h b ln a fs cp u) (?_ : wpH Tryz.prog [] ([(a, cFe fs)]) ([]) ([⟨b, cuL ln a fs.length cp u, 60, none⟩]) 400 24 [.pointer (some ⟨b, 0, none⟩)] (qwo_h b ln a fs cp u) (Un) (fun x => x = Un.un) (fun _ => [⟨b, cuL ln a fs.length cp (rdU false fs u), 60, none⟩]) (fun _ => .string (rdF false fs u).t))
  rw [qwo_x]
  (repeat' (first | with_reducible exact rfl | exact trivial | with_reducible assumption | exact qrd_sp _ _ _ _ _ _ _ hA hl hu | exact cU_len _ | exact cI_len _ | exact cB_len _ | exact cU_one _ | exact cI_one _ | exact cB_one _ | exact (fun _ h => h) | exact (fun _ h => (List.not_mem_nil h).elim) | (with_reducible refine e1_in ?_) | (with_reducible refine e2_in ?_) | (with_reducible refine lx_in (Nat.le_of_ble_eq_true rfl) ?_) | (with_reducible refine rqx_rf ?_) | (with_reducible refine rqx_in ?_ ?_ ?_) | (with_reducible apply And.intro) | (with_reducible intro _)))
  all_goals (try (refine ⟨Un.un, rfl, ?_, ⟨trivial, trivial⟩, ⟨rfl, ?_, rfl, rfl⟩, trivial⟩))
  all_goals (try simp only [ge_iff_le, decide_eq_true_eq, decide_eq_false_iff_not, Int.ofNat_le, Int.ofNat_lt, Int.not_le, Nat.not_le, Nat.not_lt, Int.toNat_natCast, beq_iff_eq, bne_iff_ne, beq_eq_false_iff_ne, bne_eq_false_iff_eq, ne_eq, Decidable.not_not, Bool.not_eq_true', Bool.not_eq_false'] at *)
  all_goals (try (first | omega | exact hA | (refine cFe_get0 ?_; omega) | (refine cFe_get1 ?_; omega) | (refine cFe_get2 ?_; omega)))
  all_goals (try (have hm := mo_t ‹moB fs u = true›; first | omega | (refine cFe_get0 ?_; omega) | (refine cFe_get1 ?_; omega) | (refine cFe_get2 ?_; omega)))
  all_goals (have hw : u.n ≤ 1048576 → IntKind.i64.wrap ((u.n : Int) + 1) = ((u.n + 1 : Nat) : Int) := fun hk => by rw [IntWalk.i64_in _ (by omega)]; rfl)
  all_goals (have hp : 0 < u.n → IntKind.i64.wrap ((u.n : Int) - 1) = ((u.n - 1 : Nat) : Int) := fun hk => by rw [IntWalk.i64_in _ (by omega)]; omega)
  all_goals (try (rw [hp (by omega)]))
  all_goals (try simp only [Int.toNat_natCast])
  all_goals (try (first | omega | (refine cFe_get0 ?_; omega) | (refine cFe_get1 ?_; omega) | (refine cFe_get2 ?_; omega)))
  all_goals (try (simp_all [kwU]; done))
  all_goals (try (refine congrArg (cuL ln a fs.length cp) ?_; unfold rjU; rw [if_neg (by rintro ⟨h1, h2⟩; have h3 := ‹(!u.e == 0 || e == 0) = true›; simp [h1, h2] at h3)]))
  all_goals (try (by_cases hq : 0 < u.n <;> simp_all [cuL, rjU]; done))
  all_goals (try ((try rw [hw (by omega)]) <;> by_cases hlt : u.n < fs.length <;> first | (exfalso; omega) | (simp_all [okC, rdF, rdU, feV, cuL, fe0, kwB, kwU, moB, rjU, dgV, clD, clB]; done) | (simp [okC, rdF, rdU, feV, cuL, fe0, kwB, kwU, moB, rjU, dgV, clD, clB, hlt, *]; done)))
  
def qst_h (b : Nat) (ln : Int) (a : Option Addr) (fs : List Fe) (cp : Nat) (u : Cu) : Hint := .specc [] [(a, cFe fs)] [] [Ob.mk b (cuL ln a (List.length fs) cp u) (60 : TypeId) none] Un (fun x ↦ x = Un.un) (fun x ↦ [Ob.mk b (cuL ln a (List.length fs) cp (rdU true fs u)) (60 : TypeId) none]) (fun x ↦ Value.tuple #[feV (rdF true fs u), .bool (okC true fs u)]) [0] [] [1] fun x_87 ↦ ho 3 4 (.perm
 [2] .nil)
theorem qst_x (b : Nat) (ln : Int) (a : Option Addr) (fs : List Fe) (cp : Nat) (u : Cu) : wpH Tryz.prog [] ([(a, cFe fs)]) ([]) ([⟨b, cuL ln a fs.length cp u, 60, none⟩]) 400 29 [.pointer (some ⟨b, 0, none⟩)] (qst_h b ln a fs cp u) (Un) (fun x => x = Un.un) (fun _ => [⟨b, cuL ln a fs.length cp (rdU true fs u), 60, none⟩]) (fun _ => .string (rdF true fs u).t) = ((SpecC Tryz.prog [] [(a, cFe fs)] [] [Ob.mk b (cuL ln a (List.length fs) cp u) (60 : TypeId) noOw] (44 : FuncId) #[Value.pointer (some (Addr.mk b (0 : Nat) none)), .bool true] Un (fun x ↦ x = Un.un) (fun x ↦ [Ob.mk b (cuL ln a (List.length fs) cp (rdU true fs u)) (60 : TypeId) noOw]) fun x ↦
 Value.tuple #[feV (rdF true fs u), .bool (okC true fs u)]) /\ (∀ (e : Ex), e ∈ [] -> e ∈ []) /\ ((b = b /\ cuL ln a (List.length fs) cp u = cuL ln a (List.length fs) cp u /\ (60 : Nat) = (60 : Nat) /\ noOw = noOw) /\ True) /\ ((a = a /\ cFe fs = cFe fs) /\ True) /\ True /\ ∀ (x_87 : Un), x_87 =
 Un.un -> ∀ (b_1 : Nat), e2 b_1 3 (b_1 = b_1 /\ ∃ x, x = Un.un /\ Value.string (Fe.t (rdF true fs u)) = Value.string (Fe.t (rdF true fs u)) /\ (True /\ True) /\ (b = b /\ cuL ln a (List.length fs) cp (rdU true fs u) = cuL ln a (List.length fs) cp (rdU true fs u) /\ (60 : Nat) = (60 : Nat) /\ noOw =
 noOw) /\ True)) := by kernel_rfl
set_option maxHeartbeats 4000000 in
theorem qst_sp (b : Nat) (ln : Int) (a : Option Addr) (fs : List Fe) (cp : Nat) (u : Cu) (hA : AOK a fs.length) (hl : fs.length ≤ 1000000) (hu : u.n ≤ fs.length) : SpecC Tryz.prog [] ([(a, cFe fs)]) ([]) ([⟨b, cuL ln a fs.length cp u, 60, none⟩]) 29 #[.pointer (some ⟨b, 0, none⟩)] (Un) (fun x => x = Un.un) (fun _ => [⟨b, cuL ln a fs.length cp (rdU true fs u), 60, none⟩]) (fun _ => .string (rdF true fs u).t) := by
  refine specC_of (h := qst_h b ln a fs cp u) (?_ : wpH Tryz.prog [] ([(a, cFe fs)]) ([]) ([⟨b, cuL ln a fs.length cp u, 60, none⟩]) 400 29 [.pointer (some ⟨b, 0, none⟩)] (qst_h b ln a fs cp u) (Un) (fun x => x = Un.un) (fun _ => [⟨b, cuL ln a fs.length cp (rdU true fs u), 60, none⟩]) (fun _ => .string (rdF true fs u).t))
  rw [qst_x]
  (repeat' (first | with_reducible exact rfl | exact trivial | with_reducible assumption | exact qrd_sp _ _ _ _ _ _ _ hA hl hu | exact cU_len _ | exact cI_len _ | exact cB_len _ | exact cU_one _ | exact cI_one _ | exact cB_one _ | exact (fun _ h => h) | exact (fun _ h => (List.not_mem_nil h).elim) | (with_reducible refine e1_in ?_) | (with_reducible refine e2_in ?_) | (with_reducible refine lx_in (Nat.le_of_ble_eq_true rfl) ?_) | (with_reducible refine rqx_rf ?_) | (with_reducible refine rqx_in ?_ ?_ ?_) | (with_reducible apply And.intro) | (with_reducible intro _)))
  all_goals (try (refine ⟨Un.un, rfl, ?_, ⟨trivial, trivial⟩, ⟨rfl, ?_, rfl, rfl⟩, trivial⟩))
  all_goals (try simp only [ge_iff_le, decide_eq_true_eq, decide_eq_false_iff_not, Int.ofNat_le, Int.ofNat_lt, Int.not_le, Nat.not_le, Nat.not_lt, Int.toNat_natCast, beq_iff_eq, bne_iff_ne, beq_eq_false_iff_ne, bne_eq_false_iff_eq, ne_eq, Decidable.not_not, Bool.not_eq_true', Bool.not_eq_false'] at *)
  all_goals (try (first | omega | exact hA | (refine cFe_get0 ?_; omega) | (refine cFe_get1 ?_; omega) | (refine cFe_get2 ?_; omega)))
  all_goals (try (have hm := mo_t ‹moB fs u = true›; first | omega | (refine cFe_get0 ?_; omega) | (refine cFe_get1 ?_; omega) | (refine cFe_get2 ?_; omega)))
  all_goals (have hw : u.n ≤ 1048576 → IntKind.i64.wrap ((u.n : Int) + 1) = ((u.n + 1 : Nat) : Int) := fun hk => by rw [IntWalk.i64_in _ (by omega)]; rfl)
  all_goals (have hp : 0 < u.n → IntKind.i64.wrap ((u.n : Int) - 1) = ((u.n - 1 : Nat) : Int) := fun hk => by rw [IntWalk.i64_in _ (by omega)]; omega)
  all_goals (try (rw [hp (by omega)]))
  all_goals (try simp only [Int.toNat_natCast])
  all_goals (try (first | omega | (refine cFe_get0 ?_; omega) | (refine cFe_get1 ?_; omega) | (refine cFe_get2 ?_; omega)))
  all_goals (try (simp_all [kwU]; done))
  all_goals (try (refine congrArg (cuL ln a fs.length cp) ?_; unfold rjU; rw [if_neg (by rintro ⟨h1, h2⟩; have h3 := ‹(!u.e == 0 || e == 0) = true›; simp [h1, h2] at h3)]))
  all_goals (try (by_cases hq : 0 < u.n <;> simp_all [cuL, rjU]; done))
  all_goals (try ((try rw [hw (by omega)]) <;> by_cases hlt : u.n < fs.length <;> first | (exfalso; omega) | (simp_all [okC, rdF, rdU, feV, cuL, fe0, kwB, kwU, moB, rjU, dgV, clD, clB]; done) | (simp [okC, rdF, rdU, feV, cuL, fe0, kwB, kwU, moB, rjU, dgV, clD, clB, hlt, *]; done)))
  
def qre_h (b : Nat) (ln : Int) (a : Option Addr) (fs : List Fe) (cp : Nat) (u : Cu) (e : Int) : Hint := .cut [((17 : Nat), .bool (Cu.e u != 0 || e == 0))] (.pl (hl 4 (.ob 1 (.lit (.pl (.lit (.split (.lit (.lit .nil)) (.lit (.pl (.lit .nil)))))))))) (.split (.perm [1] .nil) (.ob 1 (.cut [((4 : Nat), .int .i64 (bif decide ((↑(Cu.n u) : Int) > (0 : Int)) then Fe.c (gFe fs (Int.toNat (IntKind.i64.wrap
 ((↑(Cu.n u) : Int) - (1 : Int))))) else (0 : Int)))] (.split (.draw [0, 1] none [0, 1] (.take 0 (.take 1 (.take 2 (.take 3 (.take 4 (.ob 1 (.take 5 (.take 6 (.take 7 (.take 8 (.ob 1 (.take 9 (.take 10 (.ix (.take 11 (.take 12 (.lst (0 : Nat) (Int.toNat (IntKind.i64.wrap ((↑(Cu.n u) : Int) - (1 :
 Int))) * (3 : Nat) + (1 : Nat)) (Value.int .i64 (Fe.c (gFe fs (Int.toNat (IntKind.i64.wrap ((↑(Cu.n u) : Int) - (1 : Int))))))) (.take 13 .nil))))))))))))))))))) .nil) (.inl (ho 1 2 (.perm [1] .nil))))))
theorem qre_x (b : Nat) (ln : Int) (a : Option Addr) (fs : List Fe) (cp : Nat) (u : Cu) (e : Int) : wpH Tryz.prog [] ([(a, cFe fs)]) ([]) ([⟨b, cuL ln a fs.length cp u, 60, none⟩]) 400 30 [.pointer (some ⟨b, 0, none⟩), .int .i64 e] (qre_h b ln a fs cp u e) (Un) (fun x => x = Un.un) (fun _ => [⟨b, cuL ln a fs.length cp (rjU e fs u), 60, none⟩]) (fun _ => .tuple #[]) = ((b = b /\ ((Cu.e u != 0) = true -> Value.bool true = Value.bool (Cu.e u != 0 || e == 0) /\ True) /\ ((Cu.e u != 0) = false -> Value.bool (e == 0) = Value.bool (Cu.e u != 0 || e == 0) /\ True)) /\ ∀ (junk : Nat -> Value), ((Cu.e u != 0 || e == 0) = true -> ∃ x, x = Un.un /\ Value.tuple (Array.mk []) =
 Value.tuple (Array.mk []) /\ (True /\ True) /\ (b = b /\ cuL ln a (List.length fs) cp u = cuL ln a (List.length fs) cp (rjU e fs u) /\ (60 : Nat) = (60 : Nat) /\ noOw = noOw) /\ True) /\ ((Cu.e u != 0 || e == 0) = false -> b = b /\ ((decide ((↑(Cu.n u) : Int) > (0 : Int)) = true -> b = b /\ b = b /\
 (((0 : Int) ≤ IntKind.i64.wrap ((↑(Cu.n u) : Int) - (1 : Int)) /\ IntKind.i64.wrap ((↑(Cu.n u) : Int) - (1 : Int)) < (↑(List.length fs) : Int)) /\ AOK a (List.length fs)) /\ bk a = bk a /\ ofs a + Int.toNat (IntKind.i64.wrap ((↑(Cu.n u) : Int) - (1 : Int))) * (3 : Nat) + (1 : Nat) = ofs a +
 (Int.toNat (IntKind.i64.wrap ((↑(Cu.n u) : Int) - (1 : Int))) * (3 : Nat) + (1 : Nat)) /\ lgo (cFe fs) (Int.toNat (IntKind.i64.wrap ((↑(Cu.n u) : Int) - (1 : Int))) * (3 : Nat) + (1 : Nat)) = some (Value.int .i64 (Fe.c (gFe fs (Int.toNat (IntKind.i64.wrap ((↑(Cu.n u) : Int) - (1 : Int))))))) /\
 Value.int .i64 (Fe.c (gFe fs (Int.toNat (IntKind.i64.wrap ((↑(Cu.n u) : Int) - (1 : Int)))))) = Value.int .i64 (bif decide ((↑(Cu.n u) : Int) > (0 : Int)) then Fe.c (gFe fs (Int.toNat (IntKind.i64.wrap ((↑(Cu.n u) : Int) - (1 : Int))))) else (0 : Int)) /\ True) /\ (decide ((↑(Cu.n u) : Int) > (0 :
 Int)) = false -> Value.int .i64 0 = Value.int .i64 (bif decide ((↑(Cu.n u) : Int) > (0 : Int)) then Fe.c (gFe fs (Int.toNat (IntKind.i64.wrap ((↑(Cu.n u) : Int) - (1 : Int))))) else (0 : Int)) /\ True)) /\ ∀ (junk : Nat -> Value), b = b /\ True /\ b = b /\ True /\ ∃ x, x = Un.un /\ Value.tuple
 (Array.mk []) = Value.tuple (Array.mk []) /\ (True /\ True) /\ (b = b /\ [Value.int .i64 ln, .slice a (List.length fs) cp, .int .i64 (↑(Cu.n u) : Int), .int .i64 e, .int .i64 (bif decide ((↑(Cu.n u) : Int) > (0 : Int)) then Fe.c (gFe fs (Int.toNat (IntKind.i64.wrap ((↑(Cu.n u) : Int) - (1 : Int)))))
 else (0 : Int))] = cuL ln a (List.length fs) cp (rjU e fs u) /\ (60 : Nat) = (60 : Nat) /\ noOw = noOw) /\ True)) := by kernel_rfl
set_option maxHeartbeats 4000000 in
theorem qre_sp (b : Nat) (ln : Int) (a : Option Addr) (fs : List Fe) (cp : Nat) (u : Cu) (e : Int) (hA : AOK a fs.length) (hl : fs.length ≤ 1000000) (hu : u.n ≤ fs.length) : SpecC Tryz.prog [] ([(a, cFe fs)]) ([]) ([⟨b, cuL ln a fs.length cp u, 60, none⟩]) 30 #[.pointer (some ⟨b, 0, none⟩), .int .i64 e] (Un) (fun x => x = Un.un) (fun _ => [⟨b, cuL ln a fs.length cp (rjU e fs u), 60, none⟩]) (fun _ => .tuple #[]) := by
  refine specC_of (h := qre_h b ln a fs cp u e) (?_ : wpH Tryz.prog [] ([(a, cFe fs)]) ([]) ([⟨b, cuL ln a fs.length cp u, 60, none⟩]) 400 30 [.pointer (some ⟨b, 0, none⟩), .int .i64 e] (qre_h b ln a fs cp u e) (Un) (fun x => x = Un.un) (fun _ => [⟨b, cuL ln a fs.length cp (rjU e fs u), 60, none⟩]) (fun _ => .tuple #[]))
  rw [qre_x]
  (repeat' (first | with_reducible exact rfl | exact trivial | with_reducible assumption | exact cU_len _ | exact cI_len _ | exact cB_len _ | exact cU_one _ | exact cI_one _ | exact cB_one _ | exact (fun _ h => h) | exact (fun _ h => (List.not_mem_nil h).elim) | (with_reducible refine e1_in ?_) | (with_reducible refine e2_in ?_) | (with_reducible refine lx_in (Nat.le_of_ble_eq_true rfl) ?_) | (with_reducible refine rqx_rf ?_) | (with_reducible refine rqx_in ?_ ?_ ?_) | (with_reducible apply And.intro) | (with_reducible intro _)))
  all_goals (try (refine ⟨Un.un, rfl, ?_, ⟨trivial, trivial⟩, ⟨rfl, ?_, rfl, rfl⟩, trivial⟩))
  all_goals (try simp only [ge_iff_le, decide_eq_true_eq, decide_eq_false_iff_not, Int.ofNat_le, Int.ofNat_lt, Int.not_le, Nat.not_le, Nat.not_lt, Int.toNat_natCast, beq_iff_eq, bne_iff_ne, beq_eq_false_iff_ne, bne_eq_false_iff_eq, ne_eq, Decidable.not_not, Bool.not_eq_true', Bool.not_eq_false'] at *)
  all_goals (try (first | omega | exact hA | (refine cFe_get0 ?_; omega) | (refine cFe_get1 ?_; omega) | (refine cFe_get2 ?_; omega)))
  all_goals (try (have hm := mo_t ‹moB fs u = true›; first | omega | (refine cFe_get0 ?_; omega) | (refine cFe_get1 ?_; omega) | (refine cFe_get2 ?_; omega)))
  all_goals (have hw : u.n ≤ 1048576 → IntKind.i64.wrap ((u.n : Int) + 1) = ((u.n + 1 : Nat) : Int) := fun hk => by rw [IntWalk.i64_in _ (by omega)]; rfl)
  all_goals (have hp : 0 < u.n → IntKind.i64.wrap ((u.n : Int) - 1) = ((u.n - 1 : Nat) : Int) := fun hk => by rw [IntWalk.i64_in _ (by omega)]; omega)
  all_goals (try (rw [hp (by omega)]))
  all_goals (try simp only [Int.toNat_natCast])
  all_goals (try (first | omega | (refine cFe_get0 ?_; omega) | (refine cFe_get1 ?_; omega) | (refine cFe_get2 ?_; omega)))
  all_goals (try (simp_all [kwU]; done))
  all_goals (try (refine congrArg (cuL ln a fs.length cp) ?_; unfold rjU; rw [if_neg (by rintro ⟨h1, h2⟩; have h3 := ‹(!u.e == 0 || e == 0) = true›; simp [h1, h2] at h3)]))
  all_goals (try (by_cases hq : 0 < u.n <;> simp_all [cuL, rjU]; done))
  all_goals (try ((try rw [hw (by omega)]) <;> by_cases hlt : u.n < fs.length <;> first | (exfalso; omega) | (simp_all [okC, rdF, rdU, feV, cuL, fe0, kwB, kwU, moB, rjU, dgV, clD, clB]; done) | (simp [okC, rdF, rdU, feV, cuL, fe0, kwB, kwU, moB, rjU, dgV, clD, clB, hlt, *]; done)))
  
def qcl_h (b : Nat) (ln : Int) (a : Option Addr) (fs : List Fe) (cp : Nat) (u : Cu) : Hint := .pl (.lit (.ob 1 (.pl (.split (.draw [0, 1, 2] (some 13) [0, 1] (.take 0 (.take 1 (.take 2 (.take 3 (.take 4 (.ob 1 (.take 5 (.take 6 (.take 7 (.take 8 (.ob 1 (.take 9 (.take 10 (.take 11 (.take 12 (.ob 1 (.pl (.br (.pl (.br (ho 2 3 (.take 15 (ho 2 3 (.perm [1] .nil)))) .nil)) .nil)))))))))))))))))))
 (.specc [] [(a, cFe fs)] [] [Ob.mk b (cuL ln a (List.length fs) cp u) (60 : TypeId) none] Un (fun x ↦ x = Un.un) (fun x ↦ [Ob.mk b (cuL ln a (List.length fs) cp u) (60 : TypeId) none]) (fun x ↦ Value.bool (moB fs u)) [0] [] [1] fun x_781 ↦ .split (.draw [0, 1, 2, 3] (some 17) [0, 1, 3] (.take 0
 (.take 1 (.take 2 (.take 3 (.take 4 (.ob 3 (.take 5 (.take 6 (.take 7 (.take 8 (.take 9 (.ob 3 (.take 10 (.take 11 (.take 12 (.take 13 (.ob 3 (.take 14 (.ix (.take 15 (.take 16 (.lst (0 : Nat) (Int.toNat (↑(Cu.n u) : Int) * (3 : Nat) + (1 : Nat)) (Value.int .i64 (Fe.c (gFe fs (Int.toNat (↑(Cu.n u) :
 Int))))) (.pl (.br (.pl (.br (ho 2 3 (.take 19 (ho 2 3 (.perm [3] .nil)))) .nil)) .nil))))))))))))))))))))))))) (ho 2 6 (.perm [3] .nil)))))))
theorem qcl_x (b : Nat) (ln : Int) (a : Option Addr) (fs : List Fe) (cp : Nat) (u : Cu) : wpH Tryz.prog [] ([(a, cFe fs)]) ([]) ([⟨b, cuL ln a fs.length cp u, 60, none⟩]) 400 11 [.pointer (some ⟨b, 0, none⟩)] (qcl_h b ln a fs cp u) (Un) (fun x => x = Un.un) (fun _ => [⟨b, cuL ln a fs.length cp (u), 60, none⟩]) (fun _ => .tuple #[dgV (clD ln fs u), .bool (clB fs u)]) = (∀ (b_1 : Nat), b = b /\ ((Cu.e u != 0) = true -> b = b /\ b = b /\ b = b /\ True /\ (True /\ (e2 b_1 3 (e1 b_1 3 (∃ x, x = Un.un /\ Value.tuple (Array.mk [.agg (Array.mk [.int .i64 ln, .int .i64 (Cu.c u), .int .i64 (Cu.e u)]), .bool true]) = Value.tuple (Array.mk [dgV (clD ln fs u), .bool (clB fs
 u)]) /\ (True /\ True) /\ (b = b /\ cuL ln a (List.length fs) cp u = cuL ln a (List.length fs) cp u /\ (60 : Nat) = (60 : Nat) /\ noOw = noOw) /\ True))) /\ True) /\ True) /\ ((Cu.e u != 0) = false -> (SpecC Tryz.prog [] [(a, cFe fs)] [] [Ob.mk b (cuL ln a (List.length fs) cp u) (60 : TypeId) noOw]
 (9 : FuncId) #[Value.pointer (some (Addr.mk b (0 : Nat) none))] Un (fun x ↦ x = Un.un) (fun x ↦ [Ob.mk b (cuL ln a (List.length fs) cp u) (60 : TypeId) noOw]) fun x ↦ Value.bool (moB fs u)) /\ (∀ (e : Ex), e ∈ [] -> e ∈ []) /\ ((b = b /\ cuL ln a (List.length fs) cp u = cuL ln a (List.length fs) cp
 u /\ (60 : Nat) = (60 : Nat) /\ noOw = noOw) /\ True) /\ ((a = a /\ cFe fs = cFe fs) /\ True) /\ True /\ ∀ (x_781 : Un), x_781 = Un.un -> (moB fs u = true -> e1 b 3 ((((0 : Int) ≤ (↑(Cu.n u) : Int) /\ (↑(Cu.n u) : Int) < (↑(List.length fs) : Int)) /\ AOK a (List.length fs)) /\ bk a = bk a /\ ofs a +
 Int.toNat (↑(Cu.n u) : Int) * (3 : Nat) + (1 : Nat) = ofs a + (Int.toNat (↑(Cu.n u) : Int) * (3 : Nat) + (1 : Nat)) /\ lgo (cFe fs) (Int.toNat (↑(Cu.n u) : Int) * (3 : Nat) + (1 : Nat)) = some (Value.int .i64 (Fe.c (gFe fs (Int.toNat (↑(Cu.n u) : Int))))) /\ True /\ (True /\ (e2 b_1 3 (e1 b_1 3 (∃
 x, x = Un.un /\ Value.tuple (Array.mk [.agg (Array.mk [.int .i64 ln, .int .i64 (Fe.c (gFe fs (Int.toNat (↑(Cu.n u) : Int)))), .int .i64 4]), .bool true]) = Value.tuple (Array.mk [dgV (clD ln fs u), .bool (clB fs u)]) /\ (True /\ True) /\ (b = b /\ cuL ln a (List.length fs) cp u = cuL ln a
 (List.length fs) cp u /\ (60 : Nat) = (60 : Nat) /\ noOw = noOw) /\ True))) /\ True) /\ True)) /\ (moB fs u = false -> e2 b_1 3 (e1 b_1 3 (∃ x, x = Un.un /\ Value.tuple (Array.mk [.agg (Array.mk [.int .i64 0, .int .i64 0, .int .i64 0]), .bool false]) = Value.tuple (Array.mk [dgV (clD ln fs u), .bool
 (clB fs u)]) /\ (True /\ True) /\ (b = b /\ cuL ln a (List.length fs) cp u = cuL ln a (List.length fs) cp u /\ (60 : Nat) = (60 : Nat) /\ noOw = noOw) /\ True))))) := by kernel_rfl
set_option maxHeartbeats 4000000 in
theorem qcl_sp (b : Nat) (ln : Int) (a : Option Addr) (fs : List Fe) (cp : Nat) (u : Cu) (hA : AOK a fs.length) (hl : fs.length ≤ 1000000) (hu : u.n ≤ fs.length) : SpecC Tryz.prog [] ([(a, cFe fs)]) ([]) ([⟨b, cuL ln a fs.length cp u, 60, none⟩]) 11 #[.pointer (some ⟨b, 0, none⟩)] (Un) (fun x => x = Un.un) (fun _ => [⟨b, cuL ln a fs.length cp (u), 60, none⟩]) (fun _ => .tuple #[dgV (clD ln fs u), .bool (clB fs u)]) := by
  refine specC_of (h := qcl_h b ln a fs cp u) (?_ : wpH Tryz.prog [] ([(a, cFe fs)]) ([]) ([⟨b, cuL ln a fs.length cp u, 60, none⟩]) 400 11 [.pointer (some ⟨b, 0, none⟩)] (qcl_h b ln a fs cp u) (Un) (fun x => x = Un.un) (fun _ => [⟨b, cuL ln a fs.length cp (u), 60, none⟩]) (fun _ => .tuple #[dgV (clD ln fs u), .bool (clB fs u)]))
  rw [qcl_x]
  (repeat' (first | with_reducible exact rfl | exact trivial | with_reducible assumption | exact qmo_sp _ _ _ _ _ _ hA hl hu | exact cU_len _ | exact cI_len _ | exact cB_len _ | exact cU_one _ | exact cI_one _ | exact cB_one _ | exact (fun _ h => h) | exact (fun _ h => (List.not_mem_nil h).elim) | (with_reducible refine e1_in ?_) | (with_reducible refine e2_in ?_) | (with_reducible refine lx_in (Nat.le_of_ble_eq_true rfl) ?_) | (with_reducible refine rqx_rf ?_) | (with_reducible refine rqx_in ?_ ?_ ?_) | (with_reducible apply And.intro) | (with_reducible intro _)))
  all_goals (try (refine ⟨Un.un, rfl, ?_, ⟨trivial, trivial⟩, ⟨rfl, ?_, rfl, rfl⟩, trivial⟩))
  all_goals (try simp only [ge_iff_le, decide_eq_true_eq, decide_eq_false_iff_not, Int.ofNat_le, Int.ofNat_lt, Int.not_le, Nat.not_le, Nat.not_lt, Int.toNat_natCast, beq_iff_eq, bne_iff_ne, beq_eq_false_iff_ne, bne_eq_false_iff_eq, ne_eq, Decidable.not_not, Bool.not_eq_true', Bool.not_eq_false'] at *)
  all_goals (try (first | omega | exact hA | (refine cFe_get0 ?_; omega) | (refine cFe_get1 ?_; omega) | (refine cFe_get2 ?_; omega)))
  all_goals (try (have hm := mo_t ‹moB fs u = true›; first | omega | (refine cFe_get0 ?_; omega) | (refine cFe_get1 ?_; omega) | (refine cFe_get2 ?_; omega)))
  all_goals (have hw : u.n ≤ 1048576 → IntKind.i64.wrap ((u.n : Int) + 1) = ((u.n + 1 : Nat) : Int) := fun hk => by rw [IntWalk.i64_in _ (by omega)]; rfl)
  all_goals (have hp : 0 < u.n → IntKind.i64.wrap ((u.n : Int) - 1) = ((u.n - 1 : Nat) : Int) := fun hk => by rw [IntWalk.i64_in _ (by omega)]; omega)
  all_goals (try (rw [hp (by omega)]))
  all_goals (try simp only [Int.toNat_natCast])
  all_goals (try (first | omega | (refine cFe_get0 ?_; omega) | (refine cFe_get1 ?_; omega) | (refine cFe_get2 ?_; omega)))
  all_goals (try (simp_all [kwU]; done))
  all_goals (try (refine congrArg (cuL ln a fs.length cp) ?_; unfold rjU; rw [if_neg (by rintro ⟨h1, h2⟩; have h3 := ‹(!u.e == 0 || e == 0) = true›; simp [h1, h2] at h3)]))
  all_goals (try (by_cases hq : 0 < u.n <;> simp_all [cuL, rjU]; done))
  all_goals (try ((try rw [hw (by omega)]) <;> by_cases hlt : u.n < fs.length <;> first | (exfalso; omega) | (simp_all [okC, rdF, rdU, feV, cuL, fe0, kwB, kwU, moB, rjU, dgV, clD, clB]; done) | (simp [okC, rdF, rdU, feV, cuL, fe0, kwB, kwU, moB, rjU, dgV, clD, clB, hlt, *]; done)))
  
end Go.Proofs.YtjibacfgcdbhlaaGreatDoor
