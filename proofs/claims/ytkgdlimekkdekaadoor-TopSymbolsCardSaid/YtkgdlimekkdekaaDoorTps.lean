/- Over the layers: the symbols of a delivery in both books (TopSymbols). -/
import Derived.Test.YtkgdlimekkdekaaDoorVz
import Derived.KernelRfl
import Derived.Test.YtkgdlimekkdekaaDoorProg
import Derived.Test.YtkgdlimekkdekaaDoorBrd
import Derived.Test.YtkgdlimekkdekaaDoorRda
import Derived.Test.YtkgdlimekkdekaaDoorRuw
import Derived.Test.YtkgdlimekkdekaaDoorDvb
import Derived.Test.YtkgdlimekkdekaaDoorDvks
import Derived.Test.YtkgdlimekkdekaaDoorDmps
import Derived.Test.YtkgdlimekkdekaaDoorBxs
import Derived.Test.YtkgdlimekkdekaaDoorNoG
set_option linter.unusedSimpArgs false
set_option linter.unusedVariables false
set_option maxRecDepth 100000
namespace Go.Proofs.YtkgdlimekkdekaaDoor
open Go.RowKit


def prS (d : Dl) : ByteArray := str (prL d)
theorem sy_len (d : Dl) : (sym d).length ≤ 30 := by
  rw [sym_sum]
  have h1 := tyL_len d.t
  have h2 := pS_len d
  have h3 := pR_len d
  have h4 := bdL_len d.b
  have h5 := nuL_len 45 d.sh
  have h6 := flL_len 120 d.x
  have h7 := pW_len d
  have h8 := nuL_len 64 d.z
  simp only [List.length_append]
  omega
theorem prt_sp (d : Dl) (hw : Wf d) : SpecG Tryd.prog [] [] 14 #[dlV d] [] (fun _ => .tuple #[.string (prS d), .int .i64 (chk d)]) := specG_ofC (fun w => print_any d hw w)
theorem ps_sy (d : Dl) (hw : Wf d) (h : chk d = 0) : psD (sym d) = d ∧ psE (sym d) = 0 := by
  have e := read_back goodP d hw h
  have h0 : psOk (sym d) := by unfold psOk; rw [show rdP (sym d) = d from e]; exact ⟨h, rfl⟩
  unfold psD psE
  rw [if_pos h0, if_pos h0]
  exact ⟨e, rfl⟩
theorem pst_sp (d : Dl) (hw : Wf d) (h : chk d = 0) : SpecG Tryd.prog [] [] 17 #[.string (prS d)] [] (fun _ => .tuple #[dlV d, .int .i64 0]) := specG_ofC (fun w => by
  have hp : prL d = sym d := by unfold prL; rw [if_pos h]
  have h1 := parse_any (prL d) w (by rw [hp]; have := sy_len d; omega)
  rw [hp, (ps_sy d hw h).1, (ps_sy d hw h).2] at h1
  unfold prS
  rw [hp]
  exact h1)
theorem toG_sp (ba wi nb by' lb bo : Int) (co fa wk sw : Bool) : SpecG Tryd.prog [] [] 19 #[.agg #[.int .i64 ba, .int .i64 wi, .int .i64 nb, .int .i64 by', .int .i64 lb, .int .i64 bo, .bool co, .bool fa, .bool wk, .bool sw]] [] (fun _ => .int .i64 (crT ba wi nb by' lb)) :=
  fun w _ _ => (total_sp _ _ _ _ _ _ _ _ _ _ w).mono fun e w' ⟨he, hb⟩ => ⟨[], he, ownsL_nil _ _, hb⟩
theorem bs_ft {r : Rul} {d : Dl} (h : bsE r d = 0) : ftB d = true := by
  unfold bsE at h
  split at h
  · contradiction
  · split at h
    · assumption
    · cases h
theorem bs_lg {r : Rul} {d : Dl} (h : bsE r d = 0) : lg d = 0 ∧ psb d.t d.s d.r d.h d.v d.f d.g d.u false = 0 := by
  have := bs_ft h
  unfold ftB at this
  simpa using this
/-- What may be entered has a symbol. -/
theorem bs_chk {r : Rul} {d : Dl} (h : bsE r d = 0) : chk d = 0 := by
  obtain ⟨h1, h2⟩ := bs_lg h
  have hT : okT d ∧ (0 ≤ d.r ∧ d.r ≤ 7) ∧ (0 ≤ d.sh ∧ d.sh ≤ d.r) ∧ (d.b = 0 ∨ d.b = 4 ∨ d.b = 6) ∧ (0 ≤ d.z ∧ d.z ≤ 8) := by
    unfold lg lgKb lgRb at h1
    split at h1
    · rename_i k1
      split at h1
      · rename_i k2
        simp only [decide_eq_true_eq] at k1 k2
        exact ⟨⟨k1.1, k1.2.1, k1.2.2.1, k1.2.2.2.1⟩, k2.1, k2.2.1, k2.2.2, k1.2.2.2.2⟩
      · cases h1
    · cases h1
  have hF : (0 ≤ d.v ∧ d.v ≤ 2) ∧ (0 ≤ d.f ∧ d.f ≤ 11) ∧ (0 ≤ d.g ∧ d.g ≤ 11) := by
    unfold psb nob at h2
    split at h2
    · split at h2
      · cases h2
      · split at h2
        · cases h2
        · rename_i a b c
          simp only [not_or, Decidable.not_not] at b c
          omega
    · split at h2
      · cases h2
      · split at h2
        · cases h2
        · split at h2
          · cases h2
          · split at h2
            · cases h2
            · rename_i a b c e f
              have hf : ff d.h d.f d.g = true := by simpa using f
              unfold ff at hf
              simp only [decide_eq_true_eq] at hf
              refine ⟨by omega, ?_, ?_⟩
              · cases hw : wd d.h
                · have := hf.2.1 hw; omega
                · have := hf.1 hw; omega
              · have := hf.2.2; omega
  unfold chk
  rw [if_pos hT.1, if_pos ⟨hT.2.1, hT.2.2.1, hT.2.2.2.1, hF.1, hF.2.1, hF.2.2, hT.2.2.2.2⟩]
theorem bs_e1 {r : Rul} {d : Dl} (h : ¬ bsE r d = 0) : bsS r d = ⟨#[]⟩ ∧ ssS r d = ⟨#[]⟩ := by
  unfold bsS ssS
  rw [if_neg h, if_neg h]
  exact ⟨rfl, rfl⟩
theorem em_sz2 (b : ByteArray) : (ByteArray.toList b == ByteArray.toList (ByteArray.mk (Array.mk []))) = decide (b.size = 0) := em_sz b
theorem bs_fa {r : Rul} {d : Dl} (h : bsE r d = 0) : decide ((ssS r d).size = 0) = !(gc7 d) := by
  unfold ssS strB
  rw [if_pos h]
  cases gc7 d
  · rfl
  · rw [if_neg (by decide)]
    have := rnB_pos (gc0 d)
    rw [decide_eq_false (by omega)]
    rfl
theorem bs_tot (r : Rul) {d : Dl} (h : lg d = 0) : crT (gc0 d) (gc1 r.q6 d) (gc2 r.q7 d) (gc3 d) (gc4 d) = IntKind.i64.wrap (IntKind.i64.wrap (gc5 r.q6 r.q7 d + gc3 d) + gc4 d) := by
  unfold crT gc5 crb gc0 gc1 gc2
  rw [if_pos h, if_pos h, if_pos h, if_pos h]

def topSymbols_h (r : Rul) (B : RAd) (d : Dl) : Hint := ho 2 12 (.specg [] [] [] [] (fun ads0 x ↦ Value.tuple #[Value.string (prS d), .int .i64 (chk d)]) (ho 1 14 (ho 2 12 (.specg tE [0] [cP r.pw] [] (fun ads0 x ↦ Value.tuple #[Value.string (bsS r d), .int .i64 (bsE r d)]) (ho 1 14 (ho 2 12 (.specg tE [0] [cP r.pw] [] (fun ads0 x ↦ Value.tuple
 #[Value.string (ssS r d), .int .i64 (bsE r d)]) (.cut [((38 : Nat), .bool (bsE r d != 0 || bsE r d != 0))] (.pl (.split (.lit (.lit .nil)) (.lit (.pl (.lit .nil))))) (.split (.cut [((4 : Nat), .bool (ByteArray.toList (bsS r d) == ByteArray.toList (ByteArray.mk (Array.mk [])) && ByteArray.toList (ssS
 r d) == ByteArray.toList (ByteArray.mk (Array.mk []))))] (.pl (.known true (.lit (.pl (.lit (.split (.lit (.pl (.lit .nil))) (.lit (.lit .nil)))))))) (.perm [] .nil)) (.specg [] [] [] [] (fun ads0 x ↦ Value.tuple #[dlV d, .int .i64 0]) (ho 3 12 (ho 1 14 (ho 3 12 (.specg tE [0] [cP r.pw] [] (fun ads0
 x ↦ Value.tuple #[Value.string (bsS r d), .int .i64 (bsE r d)]) (ho 1 14 (ho 3 12 (.specg [] [] [] [] (fun ads0 x ↦ cdV r d) (ho 4 10 (.cut [((4 : Nat), .bool (chk d == 0 && (bsE r d == 0 && (d.t == d.t && (d.s == d.s && (d.r == d.r && (d.sh == d.sh && (d.b == d.b && (d.x == d.x && (d.h == d.h &&
 (d.v == d.v && (d.f == d.f && (d.g == d.g && (d.u == d.u && (d.z == d.z && true))))))))))) && ((ByteArray.toList (ssS r d) == ByteArray.toList (ByteArray.mk (Array.mk []))) == !gc7 d && crT (gc0 d) (gc1 r.q6 d) (gc2 r.q7 d) (gc3 d) (gc4 d) == IntKind.i64.wrap (IntKind.i64.wrap (gc5 r.q6 r.q7 d + gc3
 d) + gc4 d))))))] (.draw [0, 1, 2, 3, 4] none [0, 1, 2, 3, 4] (.take 0 (.take 1 (.pl (.take 2 (.take 3 (.split (.take 4 (.lit (.pl (.take 5 (.lit (.take 6 (.take 7 (.lit (.take 8 (.lit (.pl (.take 9 (.lit (.take 10 (.take 11 (.split (ho 3 12 (.take 12 (.lit (ho 2 12 (.take 13 (.lit (.take 14 (.lit
 (.take 15 (.take 16 (.split (.take 17 (.lit (.take 18 (.lit (.pl (.take 19 (.lit (.take 20 (.take 21 (.known true (.take 22 (.lit (.pl (.take 23 (.lit (.take 24 (.lit (.ob 4 (.take 25 (.lit (.take 26 (.lit (.pl (.take 27 (.lit (.take 28 (.take 29 (.split (ho 4 10 (.take 31 (.lit (.take 32 (.lit (.ob
 4 (.take 33 (.lit (.take 34 (.lit (.ob 4 (.take 35 (.lit (.take 36 (.lit (.take 37 (.lit (.ob 4 (.take 38 (.lit (.pl (.br (.lit (.specg [] [] [] [] (fun ads0 x ↦ Value.int .i64 (crT (gc0 d) (gc1 r.q6 d) (gc2 r.q7 d) (gc3 d) (gc4 d))) (.take 39 (.lit (.pl (.take 40 (.lit (.take 41 .nil))))))))
 .nil)))))))))))))))))))))) (.take 30 (.lit (.take 31 (.lit (.take 32 (.lit (.take 33 (.lit (.take 34 (.lit (.take 35 (.lit (.take 36 (.lit (.take 37 (.lit (.take 38 (.lit (.take 39 (.lit (.take 40 (.lit (.take 41 .nil))))))))))))))))))))))))))))))))))))))))))))))))))) (.take 17 (.lit (.take 18 (.lit
 (.take 19 (.lit (.take 20 (.take 21 (.lit (.take 22 (.lit (.take 23 (.lit (.take 24 (.lit (.take 25 (.lit (.take 26 (.lit (.take 27 (.lit (.take 28 (.take 29 (.lit (.take 30 (.lit (.take 31 (.lit (.take 32 (.lit (.take 33 (.lit (.take 34 (.lit (.take 35 (.lit (.take 36 (.lit (.take 37 (.lit (.take
 38 (.lit (.take 39 (.lit (.take 40 (.lit (.take 41 .nil)))))))))))))))))))))))))))))))))))))))))))))))))))))))))) (.take 12 (.lit (.take 13 (.lit (.take 14 (.lit (.take 15 (.take 16 (.lit (.take 17 (.lit (.take 18 (.lit (.take 19 (.lit (.take 20 (.take 21 (.lit (.take 22 (.lit (.take 23 (.lit (.take
 24 (.lit (.take 25 (.lit (.take 26 (.lit (.take 27 (.lit (.take 28 (.take 29 (.lit (.take 30 (.lit (.take 31 (.lit (.take 32 (.lit (.take 33 (.lit (.take 34 (.lit (.take 35 (.lit (.take 36 (.lit (.take 37 (.lit (.take 38 (.lit (.take 39 (.lit (.take 40 (.lit (.take 41
 .nil)))))))))))))))))))))))))))))))))))))))))))))))))))))))))))))))))))))))) (.take 4 (.lit (.take 5 (.lit (.take 6 (.take 7 (.lit (.take 8 (.lit (.take 9 (.lit (.take 10 (.take 11 (.lit (.take 12 (.lit (.take 13 (.lit (.take 14 (.lit (.take 15 (.take 16 (.lit (.take 17 (.lit (.take 18 (.lit (.take
 19 (.lit (.take 20 (.take 21 (.lit (.take 22 (.lit (.take 23 (.lit (.take 24 (.lit (.take 25 (.lit (.take 26 (.lit (.take 27 (.lit (.take 28 (.take 29 (.lit (.take 30 (.lit (.take 31 (.lit (.take 32 (.lit (.take 33 (.lit (.take 34 (.lit (.take 35 (.lit (.take 36 (.lit (.take 37 (.lit (.take 38 (.lit
 (.take 39 (.lit (.take 40 (.lit (.take 41 .nil))))))))))))))))))))))))))))))))))))))))))))))))))))))))))))))))))))))))))))) (.perm [] .nil))))))))))))))))))))
theorem topSymbols_x (r : Rul) (B : RAd) (d : Dl) : wpG Tryd.prog tE ([(B.a, cP r.pw)]) 400 5 [ruV r B, dlV d] (topSymbols_h r B d) ([]) (fun _ => .bool true) = (∀ (b b_1 : Nat), e1 b_1 12 ((SpecG Tryd.prog [] [] (14 : FuncId) #[dlV d] [] fun x ↦ Value.tuple #[Value.string (prS d), .int .i64 (chk d)]) /\ (∀ (e : Ex), e ∈ [] -> e ∈ tE) /\ e1 b 14 (e1 b_1 12 (cP r.pw = cP r.pw /\ (SpecG Tryd.prog tE [(RAd.a B, cP r.pw)] (15 : FuncId) #[ruV r B, dlV d] [] fun x ↦
 Value.tuple #[Value.string (bsS r d), .int .i64 (bsE r d)]) /\ (∀ (e : Ex), e ∈ tE -> e ∈ tE) /\ e1 b 14 (e1 b_1 12 (cP r.pw = cP r.pw /\ (SpecG Tryd.prog tE [(RAd.a B, cP r.pw)] (16 : FuncId) #[ruV r B, dlV d] [] fun x ↦ Value.tuple #[Value.string (ssS r d), .int .i64 (bsE r d)]) /\ (∀ (e : Ex), e ∈
 tE -> e ∈ tE) /\ (((bsE r d != 0) = true -> Value.bool true = Value.bool (bsE r d != 0 || bsE r d != 0) /\ True) /\ ((bsE r d != 0) = false -> Value.bool (bsE r d != 0) = Value.bool (bsE r d != 0 || bsE r d != 0) /\ True)) /\ ∀ (junk : Nat -> Value), ((bsE r d != 0 || bsE r d != 0) = true -> ((bsE r
 d == bsE r d) = true /\ ((ByteArray.toList (bsS r d) == ByteArray.toList (ByteArray.mk (Array.mk []))) = true -> Value.bool (ByteArray.toList (ssS r d) == ByteArray.toList (ByteArray.mk (Array.mk []))) = Value.bool (ByteArray.toList (bsS r d) == ByteArray.toList (ByteArray.mk (Array.mk [])) &&
 ByteArray.toList (ssS r d) == ByteArray.toList (ByteArray.mk (Array.mk []))) /\ True) /\ ((ByteArray.toList (bsS r d) == ByteArray.toList (ByteArray.mk (Array.mk []))) = false -> Value.bool false = Value.bool (ByteArray.toList (bsS r d) == ByteArray.toList (ByteArray.mk (Array.mk [])) &&
 ByteArray.toList (ssS r d) == ByteArray.toList (ByteArray.mk (Array.mk []))) /\ True)) /\ ∀ (junk : Nat -> Value), .bool (ByteArray.toList (bsS r d) == ByteArray.toList (ByteArray.mk (Array.mk [])) && ByteArray.toList (ssS r d) == ByteArray.toList (ByteArray.mk (Array.mk []))) = Value.bool true) /\
 ((bsE r d != 0 || bsE r d != 0) = false -> (SpecG Tryd.prog [] [] (17 : FuncId) #[Value.string (prS d)] [] fun x ↦ Value.tuple #[dlV d, .int .i64 0]) /\ (∀ (e : Ex), e ∈ [] -> e ∈ tE) /\ ∀ (b_2 : Nat), e2 b_2 12 (e1 b 14 (e1 b_2 12 (cP r.pw = cP r.pw /\ (SpecG Tryd.prog tE [(RAd.a B, cP r.pw)] (15 :
 FuncId) #[ruV r B, dlV d] [] fun x ↦ Value.tuple #[Value.string (bsS r d), .int .i64 (bsE r d)]) /\ (∀ (e : Ex), e ∈ tE -> e ∈ tE) /\ e1 b 14 (e1 b_2 12 ((SpecG Tryd.prog [] [] (18 : FuncId) #[ruV r B, dlV d] [] fun x ↦ cdV r d) /\ (∀ (e : Ex), e ∈ [] -> e ∈ tE) /\ ∀ (b : Nat), e2 b 10 ((((chk d ==
 0) = true -> ((bsE r d == 0) = true -> e1 b_2 12 (e1 b_1 12 (((d.t == d.t && (d.s == d.s && (d.r == d.r && (d.sh == d.sh && (d.b == d.b && (d.x == d.x && (d.h == d.h && (d.v == d.v && (d.f == d.f && (d.g == d.g && (d.u == d.u && (d.z == d.z && true)))))))))))) = true -> (ByteArray.toList (bsS r d)
 == ByteArray.toList (bsS r d)) = true /\ b = b /\ (((ByteArray.toList (ssS r d) == ByteArray.toList (ByteArray.mk (Array.mk []))) == !gc7 d) = true -> e1 b 12 (b = b /\ True /\ ((SpecG Tryd.prog [] [] (19 : FuncId) #[Value.agg #[Value.int .i64 (gc0 d), .int .i64 (gc1 r.q6 d), .int .i64 (gc2 r.q7 d),
 .int .i64 (gc3 d), .int .i64 (gc4 d), .int .i64 (gc5 r.q6 r.q7 d), .bool (gc6 d), .bool (gc7 d), .bool (gc8 d), .bool (gc9 d)]] [] fun x ↦ Value.int .i64 (crT (gc0 d) (gc1 r.q6 d) (gc2 r.q7 d) (gc3 d) (gc4 d))) /\ (∀ (e : Ex), e ∈ [] -> e ∈ tE) /\ Value.bool (crT (gc0 d) (gc1 r.q6 d) (gc2 r.q7 d)
 (gc3 d) (gc4 d) == IntKind.i64.wrap (IntKind.i64.wrap (gc5 r.q6 r.q7 d + gc3 d) + gc4 d)) = Value.bool (chk d == 0 && (bsE r d == 0 && (d.t == d.t && (d.s == d.s && (d.r == d.r && (d.sh == d.sh && (d.b == d.b && (d.x == d.x && (d.h == d.h && (d.v == d.v && (d.f == d.f && (d.g == d.g && (d.u == d.u
 && (d.z == d.z && true))))))))))) && ((ByteArray.toList (ssS r d) == ByteArray.toList (ByteArray.mk (Array.mk []))) == !gc7 d && crT (gc0 d) (gc1 r.q6 d) (gc2 r.q7 d) (gc3 d) (gc4 d) == IntKind.i64.wrap (IntKind.i64.wrap (gc5 r.q6 r.q7 d + gc3 d) + gc4 d))))) /\ True) /\ True)) /\
 (((ByteArray.toList (ssS r d) == ByteArray.toList (ByteArray.mk (Array.mk []))) == !gc7 d) = false -> Value.bool false = Value.bool (chk d == 0 && (bsE r d == 0 && (d.t == d.t && (d.s == d.s && (d.r == d.r && (d.sh == d.sh && (d.b == d.b && (d.x == d.x && (d.h == d.h && (d.v == d.v && (d.f == d.f &&
 (d.g == d.g && (d.u == d.u && (d.z == d.z && true))))))))))) && ((ByteArray.toList (ssS r d) == ByteArray.toList (ByteArray.mk (Array.mk []))) == !gc7 d && crT (gc0 d) (gc1 r.q6 d) (gc2 r.q7 d) (gc3 d) (gc4 d) == IntKind.i64.wrap (IntKind.i64.wrap (gc5 r.q6 r.q7 d + gc3 d) + gc4 d))))) /\ True)) /\
 ((d.t == d.t && (d.s == d.s && (d.r == d.r && (d.sh == d.sh && (d.b == d.b && (d.x == d.x && (d.h == d.h && (d.v == d.v && (d.f == d.f && (d.g == d.g && (d.u == d.u && (d.z == d.z && true)))))))))))) = false -> Value.bool false = Value.bool (chk d == 0 && (bsE r d == 0 && (d.t == d.t && (d.s == d.s
 && (d.r == d.r && (d.sh == d.sh && (d.b == d.b && (d.x == d.x && (d.h == d.h && (d.v == d.v && (d.f == d.f && (d.g == d.g && (d.u == d.u && (d.z == d.z && true))))))))))) && ((ByteArray.toList (ssS r d) == ByteArray.toList (ByteArray.mk (Array.mk []))) == !gc7 d && crT (gc0 d) (gc1 r.q6 d) (gc2 r.q7
 d) (gc3 d) (gc4 d) == IntKind.i64.wrap (IntKind.i64.wrap (gc5 r.q6 r.q7 d + gc3 d) + gc4 d))))) /\ True)))) /\ ((bsE r d == 0) = false -> Value.bool false = Value.bool (chk d == 0 && (bsE r d == 0 && (d.t == d.t && (d.s == d.s && (d.r == d.r && (d.sh == d.sh && (d.b == d.b && (d.x == d.x && (d.h ==
 d.h && (d.v == d.v && (d.f == d.f && (d.g == d.g && (d.u == d.u && (d.z == d.z && true))))))))))) && ((ByteArray.toList (ssS r d) == ByteArray.toList (ByteArray.mk (Array.mk []))) == !gc7 d && crT (gc0 d) (gc1 r.q6 d) (gc2 r.q7 d) (gc3 d) (gc4 d) == IntKind.i64.wrap (IntKind.i64.wrap (gc5 r.q6 r.q7
 d + gc3 d) + gc4 d))))) /\ True)) /\ ((chk d == 0) = false -> Value.bool false = Value.bool (chk d == 0 && (bsE r d == 0 && (d.t == d.t && (d.s == d.s && (d.r == d.r && (d.sh == d.sh && (d.b == d.b && (d.x == d.x && (d.h == d.h && (d.v == d.v && (d.f == d.f && (d.g == d.g && (d.u == d.u && (d.z ==
 d.z && true))))))))))) && ((ByteArray.toList (ssS r d) == ByteArray.toList (ByteArray.mk (Array.mk []))) == !gc7 d && crT (gc0 d) (gc1 r.q6 d) (gc2 r.q7 d) (gc3 d) (gc4 d) == IntKind.i64.wrap (IntKind.i64.wrap (gc5 r.q6 r.q7 d + gc3 d) + gc4 d))))) /\ True)) /\ ∀ (junk : Nat -> Value), .bool (chk d
 == 0 && (bsE r d == 0 && (d.t == d.t && (d.s == d.s && (d.r == d.r && (d.sh == d.sh && (d.b == d.b && (d.x == d.x && (d.h == d.h && (d.v == d.v && (d.f == d.f && (d.g == d.g && (d.u == d.u && (d.z == d.z && true))))))))))) && ((ByteArray.toList (ssS r d) == ByteArray.toList (ByteArray.mk (Array.mk
 []))) == !gc7 d && crT (gc0 d) (gc1 r.q6 d) (gc2 r.q7 d) (gc3 d) (gc4 d) == IntKind.i64.wrap (IntKind.i64.wrap (gc5 r.q6 r.q7 d + gc3 d) + gc4 d))))) = Value.bool true))))))))))))) := by kernel_rfl
set_option maxHeartbeats 4000000 in
theorem topSymbols_sp (r : Rul) (B : RAd) (d : Dl) (hB : AOK B.a r.pw.length) (hl : r.pw.length ≤ 9223372036854775807) (hn : r.nm.size ≤ 9223372036854775807) (hw : Wf d) (hh : 0 ≤ d.h ∧ d.h ≤ 255) : SpecG Tryd.prog tE ([(B.a, cP r.pw)]) 5 #[ruV r B, dlV d] ([]) (fun _ => .bool true) := by
  refine specG_of (h := topSymbols_h r B d) (?_ : wpG Tryd.prog tE ([(B.a, cP r.pw)]) 400 5 [ruV r B, dlV d] (topSymbols_h r B d) ([]) (fun _ => .bool true))
  rw [topSymbols_x]
  (repeat' (first | with_reducible exact rfl | exact trivial | with_reducible assumption | (with_reducible exact prt_sp _ hw) | (with_reducible exact bsy_sp _ _ _ hB hl hn hh) | (with_reducible exact ssy_sp _ _ _ hB hl hn hh) | (with_reducible exact gcG_sp _ _ _) | (with_reducible exact toG_sp _ _ _ _ _ _ _ _ _ _) | exact cU_len _ | exact cI_len _ | exact cB_len _ | exact cU_one _ | exact cI_one _ | exact cB_one _ | exact (fun _ h => h) | exact (fun _ h => (List.not_mem_nil h).elim) | exact wE_t | exact rE_t | (with_reducible refine e1_in ?_) | (with_reducible refine e2_in ?_) | (with_reducible refine lx_in (Nat.le_of_ble_eq_true rfl) ?_) | (with_reducible refine rqx_rf ?_) | (with_reducible refine rqx_in ?_ ?_ ?_) | (with_reducible apply And.intro) | (with_reducible intro _)))
  all_goals (try (first | (simp only [*, Bool.and_true, Bool.true_and, Bool.and_false, Bool.false_and, Bool.or_true, Bool.true_or, Bool.or_false, Bool.false_or, Bool.not_true, Bool.not_false, cond_true, cond_false]; done)))
  all_goals (try (first
    | (have hq : bsE r d = 0 := by have := ‹_ = false›; simp_all
       first
        | exact pst_sp _ hw (bs_chk hq)
        | (rw [em_sz2, bs_fa hq, bs_tot r (bs_lg hq).1, bs_chk hq, hq]; simp; done))
    | (have hq : ¬ bsE r d = 0 := by have := ‹_ = true›; simp_all
       rw [(bs_e1 hq).1, (bs_e1 hq).2]; simp; done)))
  all_goals (try (first | (simp; done) | (exfalso; simp at *; done) | (simp_all; done)))
  all_goals trace_state
end Go.Proofs.YtkgdlimekkdekaaDoor
