/- Layer 7 (notation): the law on the symbols of overs (NotationOvers). -/
import Derived.Test.YtkgdlimekkdekaaDoorVz
import Derived.KernelRfl
import Derived.Test.YtkgdlimekkdekaaDoorProg
import Derived.Test.YtkgdlimekkdekaaDoorBrd
import Derived.Test.YtkgdlimekkdekaaDoorNoK
import Derived.Test.YtkgdlimekkdekaaDoorNoX
import Derived.Test.YtkgdlimekkdekaaDoorSpc
import Derived.Test.YtkgdlimekkdekaaDoorSqw
import Derived.Test.YtkgdlimekkdekaaDoorNpa
import Derived.Test.YtkgdlimekkdekaaDoorNpb
import Derived.Test.YtkgdlimekkdekaaDoorNpo
import Derived.Test.YtkgdlimekkdekaaDoorNpq
set_option linter.unusedSimpArgs false
set_option linter.unusedVariables false
set_option maxRecDepth 100000
namespace Go.Proofs.YtkgdlimekkdekaaDoor
open Go.RowKit


@[reducible] def rvL (ps : List ByteArray) : LoopR := ⟨PD, fun x => [(12, .int .i64 x.i), (4, .slice x.a x.l.length x.cap)], [1], fun x => [⟨0, cD x.l, 41, some ⟨x.a, x.l.length, x.cap, 12⟩⟩], pvI ps, fun x => ps.length - x.i, [(41, 12)]⟩
theorem psX_4 {b : ByteArray} (h : ¬ psX b = 0) : psX b = 4 := by
  unfold psX psE at h ⊢
  split
  · rename_i hh; rw [if_pos hh] at h; exact absurd rfl h
  · rfl
theorem fl_cnt (s : ByteArray) : (flS s).length ≤ s.size + 1 := by
  unfold flS
  split
  · simp
  · exact spB_cnt s
theorem gF_sz {s : ByteArray} (hs : s.size ≤ 1000000) (i : Nat) : (gS (flS s) i).size ≤ 1000000 := by
  unfold flS
  split
  · simp [gS]; decide
  · exact gS_sz hs i
theorem pf_3 {s : ByteArray} (h2 : pvE (flS s) = 0) : poE s = 0 ∧ poD s = (flS s).map psV := by
  by_cases h : s.size = 0
  · rw [fl_e h]; exact po_1 h
  · rw [fl_n h] at h2 ⊢; exact po_3 h h2
theorem pf_2 {s : ByteArray} (h2 : ¬ pvE (flS s) = 0) : poE s = pvE (flS s) ∧ poD s = [] := by
  by_cases h : s.size = 0
  · rw [fl_e h] at h2; exact absurd rfl h2
  · rw [fl_n h] at h2 ⊢; exact po_2 h h2

def rpo_h (s : ByteArray) : Hint := .specg [] [] [] [RowT.mk (9 : TypeId) (1 : Nat) (List.length (flS s)) (cS (flS s))] (fun ads0 ads ↦ Value.slice (Prod.fst (nthA ads (0 : Nat))) (List.length (flS s)) (Prod.snd (nthA ads (0 : Nat)))) (.pl (.inv (rvL (flS s)) fun x0 ↦ .split (.ix (.lst (0 : Nat) (Int.toNat (↑(PD.i x0) : Int) * (1 :
 Nat)) (Value.string (gS (flS s) (Int.toNat (↑(PD.i x0) : Int)))) (.specg [] [] [] [] (fun ads0 x ↦ Value.tuple #[dlV (psV (gS (flS s) (Int.toNat (↑(PD.i x0) : Int)))), .int .i64 (psX (gS (flS s) (Int.toNat (↑(PD.i x0) : Int))))]) (ho 2 12 (.pl (.split (.perm [1000] .nil) (ho 2 12 (.app (1 : Nat) (3
 : Nat) (.perm [1] .nil))))))))) (.perm [1] .nil)))
theorem rpo_x (s : ByteArray) : wpG Tryd.prog rE ([]) 400 11 [.string s] (rpo_h s) ([⟨41, 12, (poD s).length, cD (poD s)⟩]) (fun ads => .tuple #[.slice (nthA ads 0).1 (poD s).length (nthA ads 0).2, .int .i64 (poE s)]) = ((SpecG Tryd.prog [] [] (23 : FuncId) #[Value.string s] [RowT.mk (9 : TypeId) (1 : Nat) (List.length (flS s)) (cS (flS s))] fun ads ↦ Value.slice (Prod.fst (nthA ads (0 : Nat))) (List.length (flS s)) (Prod.snd (nthA ads (0 : Nat)))) /\ (∀ (e : Ex), e ∈ [] -> e ∈ rE) /\ ∀ (a : Option Addr) (cap : Nat),
 AOK a (List.length (flS s)) -> List.length (flS s) ≤ cap -> (∃ x, pvI (flS s) x /\ Value.int .i64 0 = Value.int .i64 (↑(PD.i x) : Int) /\ Value.slice none (0 : Nat) (0 : Nat) = Value.slice (PD.a x) (List.length (PD.l x)) (PD.cap x) /\ ((0 : Nat) = (0 : Nat) /\ [] = cD (PD.l x) /\ (41 : Nat) = (41 :
 Nat) /\ some (Ow.mk none (0 : Nat) (0 : Nat) (12 : Nat)) = some (Ow.mk (PD.a x) (List.length (PD.l x)) (PD.cap x) (12 : Nat))) /\ True) /\ ∀ (x0 : PD), pvI (flS s) x0 -> ∀ (junk : Nat -> Value), (decide ((↑(PD.i x0) : Int) < (↑(List.length (flS s)) : Int)) = true -> (((0 : Int) ≤ (↑(PD.i x0) : Int)
 /\ (↑(PD.i x0) : Int) < (↑(List.length (flS s)) : Int)) /\ AOK a (List.length (flS s))) /\ bk a = bk a /\ ofs a + Int.toNat (↑(PD.i x0) : Int) * (1 : Nat) = ofs a + Int.toNat (↑(PD.i x0) : Int) * (1 : Nat) /\ lgo (cS (flS s)) (Int.toNat (↑(PD.i x0) : Int) * (1 : Nat)) = some (Value.string (gS (flS
 s) (Int.toNat (↑(PD.i x0) : Int)))) /\ (SpecG Tryd.prog [] [] (24 : FuncId) #[Value.string (gS (flS s) (Int.toNat (↑(PD.i x0) : Int)))] [] fun x ↦ Value.tuple #[dlV (psV (gS (flS s) (Int.toNat (↑(PD.i x0) : Int)))), .int .i64 (psX (gS (flS s) (Int.toNat (↑(PD.i x0) : Int))))]) /\ (∀ (e : Ex), e ∈ []
 -> e ∈ rE) /\ ∀ (b : Nat), e2 b 12 (((psX (gS (flS s) (Int.toNat (↑(PD.i x0) : Int))) != 0) = true -> List.length (poD s) = (0 : Nat) /\ cD (poD s) = [] /\ (1 : Nat) ≤ (12 : Nat) /\ Value.tuple (Array.mk [.slice none (0 : Nat) (0 : Nat), .int .i64 4]) = Value.tuple (Array.mk [.slice none
 (List.length (poD s)) (0 : Nat), .int .i64 (poE s)])) /\ ((psX (gS (flS s) (Int.toNat (↑(PD.i x0) : Int))) != 0) = false -> e1 b 12 (∀ (b : Nat), PD.a x0 = PD.a x0 /\ List.length (PD.l x0) = List.length (PD.l x0) /\ PD.cap x0 = PD.cap x0 /\ b = b /\ (List.length (PD.l x0) + (1 : Nat)) * (81 : Nat) ≤
 (140737488355328 : Nat) /\ ∀ (g cap : Nat), ∃ y, pvI (flS s) y /\ List.length (flS s) - PD.i y < List.length (flS s) - PD.i x0 /\ Value.int .i64 (IntKind.i64.wrap ((↑(PD.i x0) : Int) + (1 : Int))) = Value.int .i64 (↑(PD.i y) : Int) /\ Value.slice (some (Addr.mk g (0 : Nat) none)) (List.length (PD.l
 x0) + (1 : Nat)) cap = Value.slice (PD.a y) (List.length (PD.l y)) (PD.cap y) /\ ((0 : Nat) = (0 : Nat) /\ lapp (cD (PD.l x0)) [Value.int .u8 (Dl.t (psV (gS (flS s) (Int.toNat (↑(PD.i x0) : Int))))), .int .u8 (Dl.s (psV (gS (flS s) (Int.toNat (↑(PD.i x0) : Int))))), .int .i64 (Dl.r (psV (gS (flS s)
 (Int.toNat (↑(PD.i x0) : Int))))), .int .i64 (Dl.sh (psV (gS (flS s) (Int.toNat (↑(PD.i x0) : Int))))), .int .i64 (Dl.b (psV (gS (flS s) (Int.toNat (↑(PD.i x0) : Int))))), .bool (Dl.x (psV (gS (flS s) (Int.toNat (↑(PD.i x0) : Int))))), .int .u8 (Dl.h (psV (gS (flS s) (Int.toNat (↑(PD.i x0) :
 Int))))), .int .i64 (Dl.v (psV (gS (flS s) (Int.toNat (↑(PD.i x0) : Int))))), .int .i64 (Dl.f (psV (gS (flS s) (Int.toNat (↑(PD.i x0) : Int))))), .int .i64 (Dl.g (psV (gS (flS s) (Int.toNat (↑(PD.i x0) : Int))))), .bool (Dl.u (psV (gS (flS s) (Int.toNat (↑(PD.i x0) : Int))))), .int .i64 (Dl.z (psV
 (gS (flS s) (Int.toNat (↑(PD.i x0) : Int)))))] = cD (PD.l y) /\ (41 : Nat) = (41 : Nat) /\ some (Ow.mk (some (Addr.mk g (0 : Nat) none)) (List.length (PD.l x0) + (1 : Nat)) cap (12 : Nat)) = some (Ow.mk (PD.a y) (List.length (PD.l y)) (PD.cap y) (12 : Nat))) /\ True)))) /\ (decide ((↑(PD.i x0) :
 Int) < (↑(List.length (flS s)) : Int)) = false -> (41 : Nat) = (41 : Nat) /\ (12 : Nat) = (12 : Nat) /\ List.length (PD.l x0) = List.length (poD s) /\ cD (PD.l x0) = cD (poD s) /\ Value.tuple (Array.mk [.slice (PD.a x0) (List.length (PD.l x0)) (PD.cap x0), .int .i64 0]) = Value.tuple (Array.mk
 [.slice (PD.a x0) (List.length (poD s)) (PD.cap x0), .int .i64 (poE s)]))) := by kernel_rfl
set_option maxHeartbeats 4000000 in
theorem rpo_sp (s : ByteArray) (hs : s.size ≤ 1000000) : SpecG Tryd.prog rE ([]) 11 #[.string s] ([⟨41, 12, (poD s).length, cD (poD s)⟩]) (fun ads => .tuple #[.slice (nthA ads 0).1 (poD s).length (nthA ads 0).2, .int .i64 (poE s)]) := by
  refine specG_of (h := rpo_h s) (?_ : wpG Tryd.prog rE ([]) 400 11 [.string s] (rpo_h s) ([⟨41, 12, (poD s).length, cD (poD s)⟩]) (fun ads => .tuple #[.slice (nthA ads 0).1 (poD s).length (nthA ads 0).2, .int .i64 (poE s)]))
  rw [rpo_x]
  (repeat' (first | with_reducible exact rfl | exact trivial | with_reducible assumption | (with_reducible exact flr_sp _ hs) | exact cU_len _ | exact cI_len _ | exact cB_len _ | exact cU_one _ | exact cI_one _ | exact cB_one _ | exact (fun _ h => h) | exact (fun _ h => (List.not_mem_nil h).elim) | exact cS_len _ | exact cS_one _ | exact cD_len _ | exact cD_one _ | exact (fun _ h => h) | (with_reducible refine e1_in ?_) | (with_reducible refine e2_in ?_) | (with_reducible refine lx_in (Nat.le_of_ble_eq_true rfl) ?_) | (with_reducible refine rqx_rf ?_) | (with_reducible refine rqx_in ?_ ?_ ?_) | (with_reducible apply And.intro) | (with_reducible intro _)))
  all_goals (try simp only [Int.toNat_natCast] at *)
  all_goals first
    | omega
    | exact ⟨⟨0, none, 0, []⟩, ⟨Nat.zero_le _, rfl, rfl⟩, rfl, rfl, ⟨(by first | exact rfl | exact trivial), rfl, (by first | exact rfl | exact trivial), rfl⟩, trivial⟩
    | (have hx := ‹pvI _ _›; have hf := of_decide_eq_true ‹decide (((_ : Nat) : Int) < ((_ : Nat) : Int)) = true›; have hf2 := Int.ofNat_lt.1 hf; have hc := fl_cnt s; have hll := pv_len hx; first
        | omega
        | (refine cS_get ?_; omega)
        | exact rps_sp _ (gF_sz hs _)
        | (have hb := bne_t ‹(psX _ != 0) = true›
           have e := pv_bad hx hf2 hb
           have e2 := pf_2 (by rw [e]; exact hb)
           first | (rw [e2.2]; done) | (rw [e2.2]; rfl) | (rw [e2.1, e2.2, e, psX_4 hb]; done) | (rw [e2.1, e2.2, e, psX_4 hb]; rfl))
        | (have hb := bne_f ‹(psX _ != 0) = false›
           rename_i g cap
           exact ⟨nxP hx (some ⟨g, 0, none⟩) cap, pv_step hx hf2 hb _ _, (by show _ - (_ + 1) < _; omega), (by rw [IntWalk.i64_in _ (by omega)]; rfl), (by simp), ⟨(by first | exact rfl | exact trivial), cD_app _ _, (by first | exact rfl | exact trivial), (by simp)⟩, trivial⟩))
    | (have hx := ‹pvI _ _›; have hf := of_decide_eq_false ‹decide (((_ : Nat) : Int) < ((_ : Nat) : Int)) = false›; have e := pv_end hx hf; have e2 := pf_3 e.1; first | (rw [e2.2, e.2]; done) | (rw [e2.2, e.2]; rfl) | (rw [e2.1, e2.2, e.2]; done) | (rw [e2.1, e2.2, e.2]; rfl))
    | trace_state

def n12 (ds : List Dl) : Nat := (if (12 : Int) < ds.length then 12 else (ds.length : Int)).toNat
theorem n12_le (ds : List Dl) : n12 ds ≤ ds.length ∧ n12 ds ≤ 12 := by unfold n12; split <;> omega
theorem n12_eq (ds : List Dl) : (if (12 : Int) < (ds.length : Int) then (12 : Int) else (ds.length : Int)).toNat = n12 ds := rfl
def cut1 (b : ByteArray) : ByteArray := b.extract 0 (if (100 : Int) < b.size then 100 else (b.size : Int)).toNat
theorem cut1_eq (b : ByteArray) : b.extract 0 (if (100 : Int) < (b.size : Int) then (100 : Int) else (b.size : Int)).toNat = cut1 b := rfl
theorem cut1_sz (b : ByteArray) : (cut1 b).size ≤ 1000000 := by
  show (b.extract 0 _).size ≤ _
  rw [ByteArray.size_extract]
  split <;> omega


theorem smS_sp (a b : Option Addr) (l : List Dl) (c d : Nat) (hA : AOK a l.length) (hB : AOK b l.length) (hl : l.length ≤ 1000000) : SpecG Tryd.prog [] [(a, cD l), (b, cD l)] 12 #[.slice a l.length c, .slice b l.length d] [] (fun _ => .bool (decide True)) := by
  have h := smD_sp a b l l l.length l.length c d hA hB (Nat.le_refl _) (Nat.le_refl _) hl
  have e : decide (l.take l.length = l.take l.length) = decide True := by simp
  rw [e] at h
  exact h
theorem po_len (b : ByteArray) : (poD (cut1 b)).length ≤ 1000000 := by
  unfold poD
  split
  · simp
  · rw [List.length_map]
    have h1 := spB_cnt (cut1 b)
    have h2 : (cut1 b).size ≤ 100 := by
      show (b.extract 0 _).size ≤ _
      rw [ByteArray.size_extract]
      split <;> omega
    omega

def notationOvers_h (a : Option Addr) (ds : List Dl) (c : Nat) (b : ByteArray) : Hint := .specg [] [] [] [] (fun ads0 x ↦ Value.bool true) (.lit (.inl (.pl (.pl (.ix (.pl (.pl (.ix (.specg [] [0] [cD ds] [] (fun ads0 x ↦ Value.tuple #[Value.string (str (ovL (List.take (Int.toNat (if (12 : Int) < (↑(List.length ds) : Int) then (12 : Int) else (↑(List.length ds) : Int))) ds))), .int .i64
 (ovE (List.take (Int.toNat (if (12 : Int) < (↑(List.length ds) : Int) then (12 : Int) else (↑(List.length ds) : Int))) ds))]) (.specg [] [0] [cD ds] [] (fun ads0 x ↦ Value.tuple #[Value.string (str (ovL (List.take (Int.toNat (if (12 : Int) < (↑(List.length ds) : Int) then (12 : Int) else
 (↑(List.length ds) : Int))) ds))), .int .i64 (ovE (List.take (Int.toNat (if (12 : Int) < (↑(List.length ds) : Int) then (12 : Int) else (↑(List.length ds) : Int))) ds))]) (.specg rE [] [] [RowT.mk (41 : TypeId) (12 : Nat) (List.length (poD (ByteArray.extract b (0 : Nat) (Int.toNat (if (100 : Int) <
 (↑(ByteArray.size b) : Int) then (100 : Int) else (↑(ByteArray.size b) : Int)))))) (cD (poD (ByteArray.extract b (0 : Nat) (Int.toNat (if (100 : Int) < (↑(ByteArray.size b) : Int) then (100 : Int) else (↑(ByteArray.size b) : Int))))))] (fun ads0 ads ↦ Value.tuple #[Value.slice (Prod.fst (nthA ads (0
 : Nat))) (List.length (poD (ByteArray.extract b (0 : Nat) (Int.toNat (if (100 : Int) < (↑(ByteArray.size b) : Int) then (100 : Int) else (↑(ByteArray.size b) : Int)))))) (Prod.snd (nthA ads (0 : Nat))), .int .i64 (poE (ByteArray.extract b (0 : Nat) (Int.toNat (if (100 : Int) < (↑(ByteArray.size b) :
 Int) then (100 : Int) else (↑(ByteArray.size b) : Int)))))]) (.specg rE [] [] [RowT.mk (41 : TypeId) (12 : Nat) (List.length (poD (ByteArray.extract b (0 : Nat) (Int.toNat (if (100 : Int) < (↑(ByteArray.size b) : Int) then (100 : Int) else (↑(ByteArray.size b) : Int)))))) (cD (poD (ByteArray.extract
 b (0 : Nat) (Int.toNat (if (100 : Int) < (↑(ByteArray.size b) : Int) then (100 : Int) else (↑(ByteArray.size b) : Int))))))] (fun ads0 ads ↦ Value.tuple #[Value.slice (Prod.fst (nthA ads (0 : Nat))) (List.length (poD (ByteArray.extract b (0 : Nat) (Int.toNat (if (100 : Int) < (↑(ByteArray.size b) :
 Int) then (100 : Int) else (↑(ByteArray.size b) : Int)))))) (Prod.snd (nthA ads (0 : Nat))), .int .i64 (poE (ByteArray.extract b (0 : Nat) (Int.toNat (if (100 : Int) < (↑(ByteArray.size b) : Int) then (100 : Int) else (↑(ByteArray.size b) : Int)))))]) (.pl (.known true (.lit (.lit (.pl (.lit (.known
 true (.lit (.lit (.specg [] [1, 2] [cD (poD (ByteArray.extract b (0 : Nat) (Int.toNat (if (100 : Int) < (↑(ByteArray.size b) : Int) then (100 : Int) else (↑(ByteArray.size b) : Int))))), cD (poD (ByteArray.extract b (0 : Nat) (Int.toNat (if (100 : Int) < (↑(ByteArray.size b) : Int) then (100 : Int)
 else (↑(ByteArray.size b) : Int)))))] [] (fun ads0 x ↦ Value.bool (decide (List.take (List.length (poD (ByteArray.extract b (0 : Nat) (Int.toNat (if (100 : Int) < (↑(ByteArray.size b) : Int) then (100 : Int) else (↑(ByteArray.size b) : Int)))))) (poD (ByteArray.extract b (0 : Nat) (Int.toNat (if
 (100 : Int) < (↑(ByteArray.size b) : Int) then (100 : Int) else (↑(ByteArray.size b) : Int))))) = List.take (List.length (poD (ByteArray.extract b (0 : Nat) (Int.toNat (if (100 : Int) < (↑(ByteArray.size b) : Int) then (100 : Int) else (↑(ByteArray.size b) : Int)))))) (poD (ByteArray.extract b (0 :
 Nat) (Int.toNat (if (100 : Int) < (↑(ByteArray.size b) : Int) then (100 : Int) else (↑(ByteArray.size b) : Int)))))))) (.lit (.split (.lit (.lit (.pl (.lit (.perm [] .nil))))) (hl 3 (.perm [] .nil))))))))))))))))))))))))))
theorem notationOvers_x (a : Option Addr) (ds : List Dl) (c : Nat) (b : ByteArray) : wpG Tryd.prog rE ([(a, cD ds)]) 400 3 [.slice a ds.length c, .string b] (notationOvers_h a ds c b) ([]) (fun _ => .bool true) = ((SpecG Tryd.prog [] [] (6 : FuncId) #[] [] fun x ↦ Value.bool true) /\ (∀ (e : Ex), e ∈ [] -> e ∈ rE) /\ (((0 : Int) ≤ if (12 : Int) < (↑(List.length ds) : Int) then (12 : Int) else (↑(List.length ds) : Int)) /\ (if (12 : Int) < (↑(List.length ds) : Int) then (12 : Int) else (↑(List.length ds) : Int))
 ≤ (↑c : Int)) /\ (((0 : Int) ≤ if (100 : Int) < (↑(ByteArray.size b) : Int) then (100 : Int) else (↑(ByteArray.size b) : Int)) /\ (if (100 : Int) < (↑(ByteArray.size b) : Int) then (100 : Int) else (↑(ByteArray.size b) : Int)) ≤ (↑(ByteArray.size b) : Int)) /\ cD ds = cD ds /\ (SpecG Tryd.prog []
 [(a, cD ds)] (8 : FuncId) #[Value.slice a (Int.toNat (if (12 : Int) < (↑(List.length ds) : Int) then (12 : Int) else (↑(List.length ds) : Int))) c] [] fun x ↦ Value.tuple #[Value.string (str (ovL (List.take (Int.toNat (if (12 : Int) < (↑(List.length ds) : Int) then (12 : Int) else (↑(List.length ds)
 : Int))) ds))), .int .i64 (ovE (List.take (Int.toNat (if (12 : Int) < (↑(List.length ds) : Int) then (12 : Int) else (↑(List.length ds) : Int))) ds))]) /\ (∀ (e : Ex), e ∈ [] -> e ∈ rE) /\ cD ds = cD ds /\ (SpecG Tryd.prog [] [(a, cD ds)] (9 : FuncId) #[Value.slice a (Int.toNat (if (12 : Int) <
 (↑(List.length ds) : Int) then (12 : Int) else (↑(List.length ds) : Int))) c] [] fun x ↦ Value.tuple #[Value.string (str (ovL (List.take (Int.toNat (if (12 : Int) < (↑(List.length ds) : Int) then (12 : Int) else (↑(List.length ds) : Int))) ds))), .int .i64 (ovE (List.take (Int.toNat (if (12 : Int) <
 (↑(List.length ds) : Int) then (12 : Int) else (↑(List.length ds) : Int))) ds))]) /\ (∀ (e : Ex), e ∈ [] -> e ∈ rE) /\ (SpecG Tryd.prog rE [] (10 : FuncId) #[Value.string (ByteArray.extract b (0 : Nat) (Int.toNat (if (100 : Int) < (↑(ByteArray.size b) : Int) then (100 : Int) else (↑(ByteArray.size b)
 : Int))))] [RowT.mk (41 : TypeId) (12 : Nat) (List.length (poD (ByteArray.extract b (0 : Nat) (Int.toNat (if (100 : Int) < (↑(ByteArray.size b) : Int) then (100 : Int) else (↑(ByteArray.size b) : Int)))))) (cD (poD (ByteArray.extract b (0 : Nat) (Int.toNat (if (100 : Int) < (↑(ByteArray.size b) :
 Int) then (100 : Int) else (↑(ByteArray.size b) : Int))))))] fun ads ↦ Value.tuple #[Value.slice (Prod.fst (nthA ads (0 : Nat))) (List.length (poD (ByteArray.extract b (0 : Nat) (Int.toNat (if (100 : Int) < (↑(ByteArray.size b) : Int) then (100 : Int) else (↑(ByteArray.size b) : Int)))))) (Prod.snd
 (nthA ads (0 : Nat))), .int .i64 (poE (ByteArray.extract b (0 : Nat) (Int.toNat (if (100 : Int) < (↑(ByteArray.size b) : Int) then (100 : Int) else (↑(ByteArray.size b) : Int)))))]) /\ (∀ (e : Ex), e ∈ rE -> e ∈ rE) /\ ∀ (a : Option Addr) (cap : Nat), AOK a (List.length (poD (ByteArray.extract b (0
 : Nat) (Int.toNat (if (100 : Int) < (↑(ByteArray.size b) : Int) then (100 : Int) else (↑(ByteArray.size b) : Int)))))) -> List.length (poD (ByteArray.extract b (0 : Nat) (Int.toNat (if (100 : Int) < (↑(ByteArray.size b) : Int) then (100 : Int) else (↑(ByteArray.size b) : Int))))) ≤ cap -> (SpecG
 Tryd.prog rE [] (11 : FuncId) #[Value.string (ByteArray.extract b (0 : Nat) (Int.toNat (if (100 : Int) < (↑(ByteArray.size b) : Int) then (100 : Int) else (↑(ByteArray.size b) : Int))))] [RowT.mk (41 : TypeId) (12 : Nat) (List.length (poD (ByteArray.extract b (0 : Nat) (Int.toNat (if (100 : Int) <
 (↑(ByteArray.size b) : Int) then (100 : Int) else (↑(ByteArray.size b) : Int)))))) (cD (poD (ByteArray.extract b (0 : Nat) (Int.toNat (if (100 : Int) < (↑(ByteArray.size b) : Int) then (100 : Int) else (↑(ByteArray.size b) : Int))))))] fun ads ↦ Value.tuple #[Value.slice (Prod.fst (nthA ads (0 :
 Nat))) (List.length (poD (ByteArray.extract b (0 : Nat) (Int.toNat (if (100 : Int) < (↑(ByteArray.size b) : Int) then (100 : Int) else (↑(ByteArray.size b) : Int)))))) (Prod.snd (nthA ads (0 : Nat))), .int .i64 (poE (ByteArray.extract b (0 : Nat) (Int.toNat (if (100 : Int) < (↑(ByteArray.size b) :
 Int) then (100 : Int) else (↑(ByteArray.size b) : Int)))))]) /\ (∀ (e : Ex), e ∈ rE -> e ∈ rE) /\ ∀ (a_1 : Option Addr) (cap_1 : Nat), AOK a_1 (List.length (poD (ByteArray.extract b (0 : Nat) (Int.toNat (if (100 : Int) < (↑(ByteArray.size b) : Int) then (100 : Int) else (↑(ByteArray.size b) :
 Int)))))) -> List.length (poD (ByteArray.extract b (0 : Nat) (Int.toNat (if (100 : Int) < (↑(ByteArray.size b) : Int) then (100 : Int) else (↑(ByteArray.size b) : Int))))) ≤ cap_1 -> (ByteArray.toList (str (ovL (List.take (Int.toNat (if (12 : Int) < (↑(List.length ds) : Int) then (12 : Int) else
 (↑(List.length ds) : Int))) ds))) == ByteArray.toList (str (ovL (List.take (Int.toNat (if (12 : Int) < (↑(List.length ds) : Int) then (12 : Int) else (↑(List.length ds) : Int))) ds)))) = true /\ (ovE (List.take (Int.toNat (if (12 : Int) < (↑(List.length ds) : Int) then (12 : Int) else (↑(List.length
 ds) : Int))) ds) == ovE (List.take (Int.toNat (if (12 : Int) < (↑(List.length ds) : Int) then (12 : Int) else (↑(List.length ds) : Int))) ds)) = true /\ cD (poD (ByteArray.extract b (0 : Nat) (Int.toNat (if (100 : Int) < (↑(ByteArray.size b) : Int) then (100 : Int) else (↑(ByteArray.size b) :
 Int))))) = cD (poD (ByteArray.extract b (0 : Nat) (Int.toNat (if (100 : Int) < (↑(ByteArray.size b) : Int) then (100 : Int) else (↑(ByteArray.size b) : Int))))) /\ cD (poD (ByteArray.extract b (0 : Nat) (Int.toNat (if (100 : Int) < (↑(ByteArray.size b) : Int) then (100 : Int) else (↑(ByteArray.size
 b) : Int))))) = cD (poD (ByteArray.extract b (0 : Nat) (Int.toNat (if (100 : Int) < (↑(ByteArray.size b) : Int) then (100 : Int) else (↑(ByteArray.size b) : Int))))) /\ (SpecG Tryd.prog [] [(a, cD (poD (ByteArray.extract b (0 : Nat) (Int.toNat (if (100 : Int) < (↑(ByteArray.size b) : Int) then (100 :
 Int) else (↑(ByteArray.size b) : Int)))))), (a_1, cD (poD (ByteArray.extract b (0 : Nat) (Int.toNat (if (100 : Int) < (↑(ByteArray.size b) : Int) then (100 : Int) else (↑(ByteArray.size b) : Int))))))] (12 : FuncId) #[Value.slice a (List.length (poD (ByteArray.extract b (0 : Nat) (Int.toNat (if (100
 : Int) < (↑(ByteArray.size b) : Int) then (100 : Int) else (↑(ByteArray.size b) : Int)))))) cap, .slice a_1 (List.length (poD (ByteArray.extract b (0 : Nat) (Int.toNat (if (100 : Int) < (↑(ByteArray.size b) : Int) then (100 : Int) else (↑(ByteArray.size b) : Int)))))) cap_1] [] fun x ↦ Value.bool
 (decide (List.take (List.length (poD (ByteArray.extract b (0 : Nat) (Int.toNat (if (100 : Int) < (↑(ByteArray.size b) : Int) then (100 : Int) else (↑(ByteArray.size b) : Int)))))) (poD (ByteArray.extract b (0 : Nat) (Int.toNat (if (100 : Int) < (↑(ByteArray.size b) : Int) then (100 : Int) else
 (↑(ByteArray.size b) : Int))))) = List.take (List.length (poD (ByteArray.extract b (0 : Nat) (Int.toNat (if (100 : Int) < (↑(ByteArray.size b) : Int) then (100 : Int) else (↑(ByteArray.size b) : Int)))))) (poD (ByteArray.extract b (0 : Nat) (Int.toNat (if (100 : Int) < (↑(ByteArray.size b) : Int)
 then (100 : Int) else (↑(ByteArray.size b) : Int)))))))) /\ (∀ (e : Ex), e ∈ [] -> e ∈ rE) /\ (decide (List.take (List.length (poD (ByteArray.extract b (0 : Nat) (Int.toNat (if (100 : Int) < (↑(ByteArray.size b) : Int) then (100 : Int) else (↑(ByteArray.size b) : Int)))))) (poD (ByteArray.extract b
 (0 : Nat) (Int.toNat (if (100 : Int) < (↑(ByteArray.size b) : Int) then (100 : Int) else (↑(ByteArray.size b) : Int))))) = List.take (List.length (poD (ByteArray.extract b (0 : Nat) (Int.toNat (if (100 : Int) < (↑(ByteArray.size b) : Int) then (100 : Int) else (↑(ByteArray.size b) : Int)))))) (poD
 (ByteArray.extract b (0 : Nat) (Int.toNat (if (100 : Int) < (↑(ByteArray.size b) : Int) then (100 : Int) else (↑(ByteArray.size b) : Int)))))) = true -> Value.bool (poE (ByteArray.extract b (0 : Nat) (Int.toNat (if (100 : Int) < (↑(ByteArray.size b) : Int) then (100 : Int) else (↑(ByteArray.size b)
 : Int)))) == poE (ByteArray.extract b (0 : Nat) (Int.toNat (if (100 : Int) < (↑(ByteArray.size b) : Int) then (100 : Int) else (↑(ByteArray.size b) : Int))))) = Value.bool true) /\ (decide (List.take (List.length (poD (ByteArray.extract b (0 : Nat) (Int.toNat (if (100 : Int) < (↑(ByteArray.size b) :
 Int) then (100 : Int) else (↑(ByteArray.size b) : Int)))))) (poD (ByteArray.extract b (0 : Nat) (Int.toNat (if (100 : Int) < (↑(ByteArray.size b) : Int) then (100 : Int) else (↑(ByteArray.size b) : Int))))) = List.take (List.length (poD (ByteArray.extract b (0 : Nat) (Int.toNat (if (100 : Int) <
 (↑(ByteArray.size b) : Int) then (100 : Int) else (↑(ByteArray.size b) : Int)))))) (poD (ByteArray.extract b (0 : Nat) (Int.toNat (if (100 : Int) < (↑(ByteArray.size b) : Int) then (100 : Int) else (↑(ByteArray.size b) : Int)))))) = false -> Value.bool false = Value.bool true)) := by kernel_rfl
set_option maxHeartbeats 4000000 in
theorem notationOvers_sp (a : Option Addr) (ds : List Dl) (c : Nat) (b : ByteArray) (hA : AOK a ds.length) (hc : ds.length ≤ c ∧ c ≤ 9223372036854775807) (hw : ∀ d ∈ ds, Wf d) : SpecG Tryd.prog rE ([(a, cD ds)]) 3 #[.slice a ds.length c, .string b] ([]) (fun _ => .bool true) := by
  refine specG_of (h := notationOvers_h a ds c b) (?_ : wpG Tryd.prog rE ([(a, cD ds)]) 400 3 [.slice a ds.length c, .string b] (notationOvers_h a ds c b) ([]) (fun _ => .bool true))
  rw [notationOvers_x]
  (repeat' (first | with_reducible exact rfl | exact trivial | with_reducible assumption | (with_reducible exact awk_sp) | exact cU_len _ | exact cI_len _ | exact cB_len _ | exact cU_one _ | exact cI_one _ | exact cB_one _ | exact (fun _ h => h) | exact (fun _ h => (List.not_mem_nil h).elim) | exact cS_len _ | exact cS_one _ | exact cD_len _ | exact cD_one _ | exact (fun _ h => h) | (with_reducible refine e1_in ?_) | (with_reducible refine e2_in ?_) | (with_reducible refine lx_in (Nat.le_of_ble_eq_true rfl) ?_) | (with_reducible refine rqx_rf ?_) | (with_reducible refine rqx_in ?_ ?_ ?_) | (with_reducible apply And.intro) | (with_reducible intro _)))
  all_goals (try simp only [n12_eq, cut1_eq] at *)
  all_goals (have hn := n12_le ds; have hpl : (poD (cut1 b)).length ≤ 1000000 := po_len b)
  all_goals (try (first
    | (split <;> omega)
    | exact ovr_sp a ds (n12 ds) c ⟨(fun e => by have := hA.1 e; have := n12_le ds; omega), (fun h q hq => hA.2 (by have := n12_le ds; omega) q hq)⟩ hn.1 ⟨by omega, hc.2⟩ (by omega) hw
    | exact rov_sp a ds (n12 ds) c ⟨(fun e => by have := hA.1 e; have := n12_le ds; omega), (fun h q hq => hA.2 (by have := n12_le ds; omega) q hq)⟩ hn.1 (by omega) hw
    | exact pov_sp _ (cut1_sz b)
    | exact rpo_sp _ (cut1_sz b)
    | exact smS_sp _ _ _ _ _ (by assumption) (by assumption) hpl
    | exact smD_sp _ _ _ _ _ _ _ _ (by assumption) (by assumption) (Nat.le_refl _) (Nat.le_refl _) hpl
    | (simp; done)
    | (exfalso; simp at *; done)))
  all_goals trace_state
end Go.Proofs.YtkgdlimekkdekaaDoor
