/- Layer 14 (innings): Step. -/
import Derived.Test.YtnhlpgdadbjmoaaGreatDoorVz
import Derived.KernelRfl
import Derived.Test.YtnhlpgdadbjmoaaGreatDoorProg
import Derived.Test.YtnhlpgdadbjmoaaGreatDoorFda
import Derived.Test.YtnhlpgdadbjmoaaGreatDoorFdb
import Derived.Test.YtnhlpgdadbjmoaaGreatDoorFdc
import Derived.Test.YtnhlpgdadbjmoaaGreatDoorFdd
import Derived.Test.YtnhlpgdadbjmoaaGreatDoorFdf
import Derived.Test.YtnhlpgdadbjmoaaGreatDoorRua
import Derived.Test.YtnhlpgdadbjmoaaGreatDoorCra
import Derived.Test.YtnhlpgdadbjmoaaGreatDoorCrb
import Derived.Test.YtnhlpgdadbjmoaaGreatDoorCrn
import Derived.Test.YtnhlpgdadbjmoaaGreatDoorSpa
import Derived.Test.YtnhlpgdadbjmoaaGreatDoorIva
import Derived.Test.YtnhlpgdadbjmoaaGreatDoorIvb
import Derived.Test.YtnhlpgdadbjmoaaGreatDoorIvc
import Derived.Test.YtnhlpgdadbjmoaaGreatDoorDvk
import Derived.Test.YtnhlpgdadbjmoaaGreatDoorEvz
import Derived.Test.YtnhlpgdadbjmoaaGreatDoorEvcs
import Derived.Test.YtnhlpgdadbjmoaaGreatDoorSta
import Derived.Test.YtnhlpgdadbjmoaaGreatDoorStb
import Derived.Test.YtnhlpgdadbjmoaaGreatDoorStes
set_option linter.unusedSimpArgs false
set_option linter.unusedVariables false
set_option maxRecDepth 100000
namespace Go.Proofs.YtnhlpgdadbjmoaaGreatDoor
open Go.RowKit


theorem cg_sp (r : Rul) (B : RAd) (s : Inn) (A : Adr) (k : Int) (e : Ev) (d : Dl) (hB : AOK B.a r.pw.length) (hl : r.pw.length ≤ 1000000) (hn : r.nm.size ≤ 1000000) (hA : OkI s A) (hd : 0 ≤ d.h ∧ d.h ≤ 255) (hs : Sm s) (hk : k = 2 ∨ k = 3 ∨ k = 4 ∨ k = 5 ∨ k = 8) : SpecG Tryz.prog wE ((B.a, cP r.pw) :: rdI s A) 55 #[ruV r B, inV s A, evV k e d] (rowI (cgS r s k e d)) (fun ads => .tuple #[inV (cgS r s k e d) (adA ads), .int .i64 (cgL r s k e d)]) := by
  rcases hk with rfl | rfl | rfl | rfl | rfl
  · exact cg_2_sp r B s A e d hB hl hn hA hd hs
  · exact cg_3_sp r B s A e d hB hl hn hA hd hs
  · exact cg_4_sp r B s A e d hB hl hn hA hd hs
  · exact cg_5_sp r B s A e d hB hl hn hA hd hs
  · exact cg_8_sp r B s A e d hB hl hn hA hd hs


def stE (r : Rul) (t : Inn) : Inn := { t with en := if t.en = 0 then edE r t else t.en }
def stT (r : Rul) (s : Inn) (k : Int) (e : Ev) (d : Dl) : Inn := { cgS r s k e d with fr := k == 4 }
/-- The law that refuses an event; the state behind it. -/
def stL (r : Rul) (s : Inn) (k : Int) (e : Ev) (d : Dl) : Int := if phL r s k e d ≠ 0 then phL r s k e d else cgL r s k e d
def stS (r : Rul) (s : Inn) (k : Int) (e : Ev) (d : Dl) : Inn := if phL r s k e d ≠ 0 then s else if cgL r s k e d ≠ 0 then cgS r s k e d else stE r (stT r s k e d)


theorem bd_len (r : Rul) (s : Inn) (d : Dl) : (bdS r s d).bts.length = s.bts.length ∧ (bdS r s d).bws.length ≤ s.bws.length + 1 ∧ (bdS r s d).bfs.length ≤ s.bfs.length + s.bws.length + 1 ∧ (bdS r s d).bwd.length = s.bwd.length ∧ (bdS r s d).sbs.length = s.sbs.length := by
  have h := bl_len r (ba1 r s d) (gc6 d)
  have e1 : (ba1 r s d).bts.length = s.bts.length := rn_len _ _ _ _ _
  rw [e1] at h
  have h : (ba2 r s d).bts.length = s.bts.length ∧ (ba2 r s d).bws.length ≤ s.bws.length + 1 ∧ (ba2 r s d).bfs.length ≤ s.bfs.length + s.bws.length + 1 ∧ (ba2 r s d).bwd.length = s.bwd.length ∧ (ba2 r s d).sbs.length = s.sbs.length := h
  unfold bdS
  split
  · unfold ba3
    split <;> exact h
  · exact ⟨rfl, by omega, by omega, rfl, rfl⟩
def LenP (s t : Inn) : Prop := t.bts.length = s.bts.length ∧ t.bws.length ≤ s.bws.length + 1 ∧ t.bfs.length ≤ s.bfs.length + s.bws.length + 1 ∧ t.bwd.length = s.bwd.length ∧ t.sbs.length = s.sbs.length
theorem cg_lenP (r : Rul) (s : Inn) (k : Int) (e : Ev) (d : Dl) : LenP s (cgS r s k e d) := by
  unfold cgS
  by_cases h2 : k = 2
  · rw [if_pos h2]
    (refine ⟨?_, by show s.bws.length ≤ _; omega, by show s.bfs.length ≤ _; omega, ?_, ?_⟩ <;> first | rfl | (show List.length (ite _ _ _) = _; split <;> first | rfl | simp only [List.length_set]))
  rw [if_neg h2]
  by_cases h3 : k = 3
  · rw [if_pos h3]
    (refine ⟨?_, by show s.bws.length ≤ _; omega, by show s.bfs.length ≤ _; omega, ?_, ?_⟩ <;> first | rfl | (show List.length (ite _ _ _) = _; split <;> first | rfl | simp only [List.length_set]))
  rw [if_neg h3]
  by_cases h4 : k = 4
  · rw [if_pos h4]
    exact bd_len r s d
  rw [if_neg h4]
  by_cases h5 : k = 5
  · rw [if_pos h5]
    unfold k5S
    by_cases hy : e.ys = true
    · rw [if_pos hy]
      (refine ⟨?_, by show s.bws.length ≤ _; omega, by show s.bfs.length ≤ _; omega, ?_, ?_⟩ <;> first | rfl | (show List.length (ite _ _ _) = _; split <;> first | rfl | simp only [List.length_set]))
    · rw [if_neg hy]
      (refine ⟨?_, by show s.bws.length ≤ _; omega, by show s.bfs.length ≤ _; omega, ?_, ?_⟩ <;> first | rfl | (show List.length (ite _ _ _) = _; split <;> first | rfl | simp only [List.length_set]))
  rw [if_neg h5]
  by_cases h6 : k = 6
  · rw [if_pos h6]
    (refine ⟨?_, by show s.bws.length ≤ _; omega, by show s.bfs.length ≤ _; omega, ?_, ?_⟩ <;> first | rfl | (show List.length (ite _ _ _) = _; split <;> first | rfl | simp only [List.length_set]))
  rw [if_neg h6]
  by_cases h7 : k = 7
  · rw [if_pos h7]
    (refine ⟨?_, by show s.bws.length ≤ _; omega, by show s.bfs.length ≤ _; omega, ?_, ?_⟩ <;> first | rfl | (show List.length (ite _ _ _) = _; split <;> first | rfl | simp only [List.length_set]))
  rw [if_neg h7]
  by_cases h8 : k = 8
  · rw [if_pos h8]
    (refine ⟨?_, by show s.bws.length ≤ _; omega, by show s.bfs.length ≤ _; omega, ?_, ?_⟩ <;> first | rfl | (show List.length (ite _ _ _) = _; split <;> first | rfl | simp only [List.length_set]))
  rw [if_neg h8]
  by_cases h9 : k = 9
  · rw [if_pos h9]
    (refine ⟨?_, by show s.bws.length ≤ _; omega, by show s.bfs.length ≤ _; omega, ?_, ?_⟩ <;> first | rfl | (show List.length (ite _ _ _) = _; split <;> first | rfl | simp only [List.length_set]))
  rw [if_neg h9]
  by_cases h10 : k = 10
  · rw [if_pos h10]
    (refine ⟨?_, by show s.bws.length ≤ _; omega, by show s.bfs.length ≤ _; omega, ?_, ?_⟩ <;> first | rfl | (show List.length (ite _ _ _) = _; split <;> first | rfl | simp only [List.length_set]))
  rw [if_neg h10]
  by_cases h11 : k = 11
  · rw [if_pos h11]
    (refine ⟨?_, by show s.bws.length ≤ _; omega, by show s.bfs.length ≤ _; omega, ?_, ?_⟩ <;> first | rfl | (show List.length (ite _ _ _) = _; split <;> first | rfl | simp only [List.length_set]))
  rw [if_neg h11]
  by_cases h13 : k = 13
  · rw [if_pos h13]
    (refine ⟨?_, by show s.bws.length ≤ _; omega, by show s.bfs.length ≤ _; omega, ?_, ?_⟩ <;> first | rfl | (show List.length (ite _ _ _) = _; split <;> first | rfl | simp only [List.length_set]))
  rw [if_neg h13]
  by_cases h14 : k = 14
  · rw [if_pos h14]
    (refine ⟨?_, by show s.bws.length ≤ _; omega, by show s.bfs.length ≤ _; omega, ?_, ?_⟩ <;> first | rfl | (show List.length (ite _ _ _) = _; split <;> first | rfl | simp only [List.length_set]))
  rw [if_neg h14]
  by_cases h15 : k = 15
  · rw [if_pos h15]
    (refine ⟨?_, by show s.bws.length ≤ _; omega, by show s.bfs.length ≤ _; omega, ?_, ?_⟩ <;> first | rfl | (show List.length (ite _ _ _) = _; split <;> first | rfl | simp only [List.length_set]))
  rw [if_neg h15]
  exact ⟨rfl, by omega, by omega, rfl, rfl⟩
theorem cg_len (r : Rul) (s : Inn) (k : Int) (e : Ev) (d : Dl) : (cgS r s k e d).bts.length = s.bts.length ∧ (cgS r s k e d).bws.length ≤ s.bws.length + 1 ∧ (cgS r s k e d).bfs.length ≤ s.bfs.length + s.bws.length + 1 ∧ (cgS r s k e d).bwd.length = s.bwd.length ∧ (cgS r s k e d).sbs.length = s.sbs.length := cg_lenP r s k e d
theorem ok_cg {r : Rul} {s : Inn} {k : Int} {e : Ev} {d : Dl} {A B : Adr} (hA : OkI s A) (hs : Sm s) (h1 : AOK B.a1 (cgS r s k e d).bts.length) (h2 : AOK B.a2 (cgS r s k e d).bws.length) (h3 : AOK B.a3 (cgS r s k e d).bfs.length) (h4 : AOK B.a4 (cgS r s k e d).bwd.length) (h5 : AOK B.a5 (cgS r s k e d).sbs.length) : OkI (stT r s k e d) B := by
  obtain ⟨e1, e2, e3, e4, e5⟩ := cg_len r s k e d
  have b1 := hA.l1; have b2 := hs.m2; have b3 := hs.m3; have b4 := hA.l4; have b5 := hA.l5
  exact ⟨h1, h2, h3, h4, h5, by show (cgS r s k e d).bts.length ≤ _; omega, by show (cgS r s k e d).bws.length ≤ _; omega, by show (cgS r s k e d).bfs.length ≤ _; omega, by show (cgS r s k e d).bwd.length ≤ _; omega, by show (cgS r s k e d).sbs.length ≤ _; omega⟩


theorem st_1 {r : Rul} {s : Inn} {k : Int} {e : Ev} {d : Dl} (h1 : (phL r s k e d != 0) = false) (h2 : (cgL r s k e d != 0) = false) (h3 : ((cgS r s k e d).en == 0) = true) : stS r s k e d = { stT r s k e d with en := edE r (stT r s k e d) } := by
  have a : ¬ phL r s k e d ≠ 0 := by simpa using h1
  have b : ¬ cgL r s k e d ≠ 0 := by simpa using h2
  have c : (stT r s k e d).en = 0 := eq_of_beq h3
  unfold stS
  rw [if_neg a, if_neg b]
  unfold stE
  rw [if_pos c]
theorem st_2 {r : Rul} {s : Inn} {k : Int} {e : Ev} {d : Dl} (h1 : (phL r s k e d != 0) = false) (h2 : (cgL r s k e d != 0) = false) (h3 : ((cgS r s k e d).en == 0) = false) : stS r s k e d = stT r s k e d := by
  have a : ¬ phL r s k e d ≠ 0 := by simpa using h1
  have b : ¬ cgL r s k e d ≠ 0 := by simpa using h2
  have c : ¬ (stT r s k e d).en = 0 := beq_eq_false_iff_ne.1 h3
  unfold stS
  rw [if_neg a, if_neg b]
  unfold stE
  rw [if_neg c]
theorem st_L {r : Rul} {s : Inn} {k : Int} {e : Ev} {d : Dl} (h1 : (phL r s k e d != 0) = false) (h2 : (cgL r s k e d != 0) = false) : stL r s k e d = 0 := by
  have a : ¬ phL r s k e d ≠ 0 := by simpa using h1
  have b : cgL r s k e d = 0 := by simpa using h2
  unfold stL
  rw [if_neg a, b]

def stp_h (r : Rul) (B : RAd) (s : Inn) (A : Adr) (k : Int) (e : Ev) (d : Dl) : Hint := ho 6 14 (ho 7 28 (ho 8 19 (.specg wE [0, 1, 2, 3, 4, 5] [cP r.pw, cU s.bts, cI s.bws, cI s.bfs, cI s.bwd, cB s.sbs] [] (fun ads0 x ↦ Value.int .i64 (phL r s k e d)) (.pl (.split (ho 7 28 (.specg [] [1, 2, 3, 4, 5] [cU s.bts, cI s.bws, cI s.bfs, cI s.bwd, cB s.sbs] (rowI s) (fun ads0 ads ↦ inV s (adA
 ads)) (ho 9 56 (.perm [10, 11, 12, 13, 14] .nil)))) (ho 6 14 (ho 7 28 (ho 8 19 (.specg wE [0, 1, 2, 3, 4, 5] [cP r.pw, cU s.bts, cI s.bws, cI s.bfs, cI s.bwd, cB s.sbs] (rowI (cgS r s k e d)) (fun ads0 ads ↦ Value.tuple #[inV (cgS r s k e d) (adA ads), .int .i64 (cgL r s k e d)]) (ho 15 28 (.pl
 (.split (ho 15 28 (ho 9 56 (.perm [10, 11, 12, 13, 14] .nil))) (.ob 8 (.pl (ho 15 2 (.pl (.split (ho 6 14 (ho 15 28 (.specg [] [0, 10, 11, 12, 13, 14] [cP r.pw, cU (Inn.bts (cgS r s k e d)), cI (Inn.bws (cgS r s k e d)), cI (Inn.bfs (cgS r s k e d)), cI (Inn.bwd (cgS r s k e d)), cB (Inn.sbs (cgS r
 s k e d))] [] (fun ads0 x ↦ Value.int .u8 (edE r (Inn.mk (Inn.sd (cgS r s k e d)) (Inn.tg (cgS r s k e d)) (Inn.ov (cgS r s k e d)) (Inn.rn (cgS r s k e d)) (Inn.wk (cgS r s k e d)) (Inn.e1 (cgS r s k e d)) (Inn.e2 (cgS r s k e d)) (Inn.e3 (cgS r s k e d)) (Inn.e4 (cgS r s k e d)) (Inn.e5 (cgS r s k
 e d)) (Inn.cm (cgS r s k e d)) (Inn.io (cgS r s k e d)) (Inn.st (cgS r s k e d)) (Inn.ot (cgS r s k e d)) (Inn.bts (cgS r s k e d)) (Inn.bw (cgS r s k e d)) (Inn.bws (cgS r s k e d)) (Inn.bfs (cgS r s k e d)) (k == 4) (Inn.bwd (cgS r s k e d)) (Inn.fh (cgS r s k e d)) (Inn.ba (cgS r s k e d))
 (Inn.kp (cgS r s k e d)) (Inn.ou (cgS r s k e d)) (Inn.sbs (cgS r s k e d)) (Inn.r1 (cgS r s k e d)) (Inn.r2 (cgS r s k e d)) (Inn.en (cgS r s k e d))))) (ho 15 29 (ho 9 56 (.perm [10, 11, 12, 13, 14] .nil)))))) (ho 15 28 (ho 9 56 (.perm [10, 11, 12, 13, 14] .nil))))))))))))))))))))
theorem stp_x (r : Rul) (B : RAd) (s : Inn) (A : Adr) (k : Int) (e : Ev) (d : Dl) : wpG Tryz.prog wE ((B.a, cP r.pw) :: rdI s A) 400 24 [ruV r B, inV s A, evV k e d] (stp_h r B s A k e d) (rowI (stS r s k e d)) (fun ads => .tuple #[inV (stS r s k e d) (adA ads), .int .i64 (stL r s k e d)]) = (∀ (b b_1 b_2 b_3 : Nat), e1 b 14 (e1 b_1 28 (e1 b_2 19 (cP r.pw = cP r.pw /\ cU s.bts = cU s.bts /\ cI s.bws = cI s.bws /\ cI s.bfs = cI s.bfs /\ cI s.bwd = cI s.bwd /\ cB s.sbs = cB s.sbs /\ (SpecG Tryz.prog wE ((RAd.a B, cP r.pw) :: rdI s A) (54 : FuncId) #[ruV r B, inV s A, evV k e d] [] fun x ↦
 Value.int .i64 (phL r s k e d)) /\ (∀ (e : Ex), e ∈ wE -> e ∈ wE) /\ ((phL r s k e d != 0) = true -> e1 b_1 28 (cU s.bts = cU s.bts /\ cI s.bws = cI s.bws /\ cI s.bfs = cI s.bfs /\ cI s.bwd = cI s.bwd /\ cB s.sbs = cB s.sbs /\ (SpecG Tryz.prog [] (rdI s A) (52 : FuncId) #[inV s A] (rowI s) fun ads ↦
 inV s (adA ads)) /\ (∀ (e : Ex), e ∈ [] -> e ∈ wE) /\ ∀ (a : Option Addr) (cap : Nat), AOK a (s.bts.length) -> s.bts.length ≤ cap -> ∀ (a_1 : Option Addr) (cap_1 : Nat), AOK a_1 (s.bws.length) -> s.bws.length ≤ cap_1 -> ∀ (a_2 : Option Addr) (cap_2 : Nat), AOK a_2 (s.bfs.length) -> s.bfs.length ≤
 cap_2 -> ∀ (a_3 : Option Addr) (cap_3 : Nat), AOK a_3 (s.bwd.length) -> s.bwd.length ≤ cap_3 -> ∀ (a_4 : Option Addr) (cap_4 : Nat), AOK a_4 (s.sbs.length) -> s.sbs.length ≤ cap_4 -> e2 b_3 28 (e1 b_3 28 (rqx cU 70 1 s.bts (Inn.bts (stS r s k e d)) (rqx cI 3 1 s.bws (Inn.bws (stS r s k e d)) (rqx cI
 3 1 s.bfs (Inn.bfs (stS r s k e d)) (rqx cI 3 1 s.bwd (Inn.bwd (stS r s k e d)) (rqx cB 4 1 s.sbs (Inn.sbs (stS r s k e d)) (Value.tuple (Array.mk [inV s ⟨a, a_1, a_2, a_3, a_4, cap, cap_1, cap_2, cap_3, cap_4⟩, .int .i64 (phL r s k e d)]) = Value.tuple (Array.mk [inV (stS r s k e d) ⟨a, a_1, a_2,
 a_3, a_4, cap, cap_1, cap_2, cap_3, cap_4⟩, .int .i64 (stL r s k e d)])))))))))) /\ ((phL r s k e d != 0) = false -> e1 b 14 (e1 b_1 28 (e1 b_2 19 (cP r.pw = cP r.pw /\ cU s.bts = cU s.bts /\ cI s.bws = cI s.bws /\ cI s.bfs = cI s.bfs /\ cI s.bwd = cI s.bwd /\ cB s.sbs = cB s.sbs /\ (SpecG Tryz.prog
 wE ((RAd.a B, cP r.pw) :: rdI s A) (55 : FuncId) #[ruV r B, inV s A, evV k e d] (rowI (cgS r s k e d)) fun ads ↦ Value.tuple #[inV (cgS r s k e d) (adA ads), .int .i64 (cgL r s k e d)]) /\ (∀ (e : Ex), e ∈ wE -> e ∈ wE) /\ ∀ (a : Option Addr) (cap : Nat), AOK a (List.length (Inn.bts (cgS r s k e
 d))) -> List.length (Inn.bts (cgS r s k e d)) ≤ cap -> ∀ (a_1 : Option Addr) (cap_1 : Nat), AOK a_1 (List.length (Inn.bws (cgS r s k e d))) -> List.length (Inn.bws (cgS r s k e d)) ≤ cap_1 -> ∀ (a_2 : Option Addr) (cap_2 : Nat), AOK a_2 (List.length (Inn.bfs (cgS r s k e d))) -> List.length (Inn.bfs
 (cgS r s k e d)) ≤ cap_2 -> ∀ (a_3 : Option Addr) (cap_3 : Nat), AOK a_3 (List.length (Inn.bwd (cgS r s k e d))) -> List.length (Inn.bwd (cgS r s k e d)) ≤ cap_3 -> ∀ (a_4 : Option Addr) (cap_4 : Nat), AOK a_4 (List.length (Inn.sbs (cgS r s k e d))) -> List.length (Inn.sbs (cgS r s k e d)) ≤ cap_4
 -> ∀ (b_4 : Nat), e2 b_4 28 (((cgL r s k e d != 0) = true -> e1 b_4 28 (e2 b_3 28 (e1 b_3 28 (rqx cU 70 1 (Inn.bts (cgS r s k e d)) (Inn.bts (stS r s k e d)) (rqx cI 3 1 (Inn.bws (cgS r s k e d)) (Inn.bws (stS r s k e d)) (rqx cI 3 1 (Inn.bfs (cgS r s k e d)) (Inn.bfs (stS r s k e d)) (rqx cI 3 1
 (Inn.bwd (cgS r s k e d)) (Inn.bwd (stS r s k e d)) (rqx cB 4 1 (Inn.sbs (cgS r s k e d)) (Inn.sbs (stS r s k e d)) (Value.tuple (Array.mk [inV (cgS r s k e d) ⟨a, a_1, a_2, a_3, a_4, cap, cap_1, cap_2, cap_3, cap_4⟩, .int .i64 (cgL r s k e d)]) = Value.tuple (Array.mk [inV (stS r s k e d) ⟨a, a_1,
 a_2, a_3, a_4, cap, cap_1, cap_2, cap_3, cap_4⟩, .int .i64 (stL r s k e d)])))))))))) /\ ((cgL r s k e d != 0) = false -> b_2 = b_2 /\ b_4 = b_4 /\ True /\ b_4 = b_4 /\ ((Inn.en (cgS r s k e d) == 0) = true -> e1 b 14 (e1 b_4 28 (cP r.pw = cP r.pw /\ cU (Inn.bts (cgS r s k e d)) = cU (Inn.bts (cgS r
 s k e d)) /\ cI (Inn.bws (cgS r s k e d)) = cI (Inn.bws (cgS r s k e d)) /\ cI (Inn.bfs (cgS r s k e d)) = cI (Inn.bfs (cgS r s k e d)) /\ cI (Inn.bwd (cgS r s k e d)) = cI (Inn.bwd (cgS r s k e d)) /\ cB (Inn.sbs (cgS r s k e d)) = cB (Inn.sbs (cgS r s k e d)) /\ (SpecG Tryz.prog [] ((RAd.a B, cP
 r.pw) :: rdI (Inn.mk (Inn.sd (cgS r s k e d)) (Inn.tg (cgS r s k e d)) (Inn.ov (cgS r s k e d)) (Inn.rn (cgS r s k e d)) (Inn.wk (cgS r s k e d)) (Inn.e1 (cgS r s k e d)) (Inn.e2 (cgS r s k e d)) (Inn.e3 (cgS r s k e d)) (Inn.e4 (cgS r s k e d)) (Inn.e5 (cgS r s k e d)) (Inn.cm (cgS r s k e d))
 (Inn.io (cgS r s k e d)) (Inn.st (cgS r s k e d)) (Inn.ot (cgS r s k e d)) (Inn.bts (cgS r s k e d)) (Inn.bw (cgS r s k e d)) (Inn.bws (cgS r s k e d)) (Inn.bfs (cgS r s k e d)) (k == 4) (Inn.bwd (cgS r s k e d)) (Inn.fh (cgS r s k e d)) (Inn.ba (cgS r s k e d)) (Inn.kp (cgS r s k e d)) (Inn.ou (cgS
 r s k e d)) (Inn.sbs (cgS r s k e d)) (Inn.r1 (cgS r s k e d)) (Inn.r2 (cgS r s k e d)) (Inn.en (cgS r s k e d))) (Adr.mk a a_1 a_2 a_3 a_4 cap cap_1 cap_2 cap_3 cap_4)) (14 : FuncId) #[ruV r B, inV (Inn.mk (Inn.sd (cgS r s k e d)) (Inn.tg (cgS r s k e d)) (Inn.ov (cgS r s k e d)) (Inn.rn (cgS r s k
 e d)) (Inn.wk (cgS r s k e d)) (Inn.e1 (cgS r s k e d)) (Inn.e2 (cgS r s k e d)) (Inn.e3 (cgS r s k e d)) (Inn.e4 (cgS r s k e d)) (Inn.e5 (cgS r s k e d)) (Inn.cm (cgS r s k e d)) (Inn.io (cgS r s k e d)) (Inn.st (cgS r s k e d)) (Inn.ot (cgS r s k e d)) (Inn.bts (cgS r s k e d)) (Inn.bw (cgS r s k
 e d)) (Inn.bws (cgS r s k e d)) (Inn.bfs (cgS r s k e d)) (k == 4) (Inn.bwd (cgS r s k e d)) (Inn.fh (cgS r s k e d)) (Inn.ba (cgS r s k e d)) (Inn.kp (cgS r s k e d)) (Inn.ou (cgS r s k e d)) (Inn.sbs (cgS r s k e d)) (Inn.r1 (cgS r s k e d)) (Inn.r2 (cgS r s k e d)) (Inn.en (cgS r s k e d)))
 (Adr.mk a a_1 a_2 a_3 a_4 cap cap_1 cap_2 cap_3 cap_4)] [] fun x ↦ Value.int .u8 (edE r (Inn.mk (Inn.sd (cgS r s k e d)) (Inn.tg (cgS r s k e d)) (Inn.ov (cgS r s k e d)) (Inn.rn (cgS r s k e d)) (Inn.wk (cgS r s k e d)) (Inn.e1 (cgS r s k e d)) (Inn.e2 (cgS r s k e d)) (Inn.e3 (cgS r s k e d))
 (Inn.e4 (cgS r s k e d)) (Inn.e5 (cgS r s k e d)) (Inn.cm (cgS r s k e d)) (Inn.io (cgS r s k e d)) (Inn.st (cgS r s k e d)) (Inn.ot (cgS r s k e d)) (Inn.bts (cgS r s k e d)) (Inn.bw (cgS r s k e d)) (Inn.bws (cgS r s k e d)) (Inn.bfs (cgS r s k e d)) (k == 4) (Inn.bwd (cgS r s k e d)) (Inn.fh (cgS
 r s k e d)) (Inn.ba (cgS r s k e d)) (Inn.kp (cgS r s k e d)) (Inn.ou (cgS r s k e d)) (Inn.sbs (cgS r s k e d)) (Inn.r1 (cgS r s k e d)) (Inn.r2 (cgS r s k e d)) (Inn.en (cgS r s k e d))))) /\ (∀ (e : Ex), e ∈ [] -> e ∈ wE) /\ b_4 = b_4 /\ True /\ e1 b_4 28 (e2 b_3 28 (e1 b_3 28 (rqx cU 70 1
 (Inn.bts (cgS r s k e d)) (Inn.bts (stS r s k e d)) (rqx cI 3 1 (Inn.bws (cgS r s k e d)) (Inn.bws (stS r s k e d)) (rqx cI 3 1 (Inn.bfs (cgS r s k e d)) (Inn.bfs (stS r s k e d)) (rqx cI 3 1 (Inn.bwd (cgS r s k e d)) (Inn.bwd (stS r s k e d)) (rqx cB 4 1 (Inn.sbs (cgS r s k e d)) (Inn.sbs (stS r s
 k e d)) (Value.tuple (Array.mk [.agg (Array.mk [.int .i64 (Inn.sd (cgS r s k e d)), .int .i64 (Inn.tg (cgS r s k e d)), .int .i64 (Inn.ov (cgS r s k e d)), .int .i64 (Inn.rn (cgS r s k e d)), .int .i64 (Inn.wk (cgS r s k e d)), .int .i64 (Inn.e1 (cgS r s k e d)), .int .i64 (Inn.e2 (cgS r s k e d)),
 .int .i64 (Inn.e3 (cgS r s k e d)), .int .i64 (Inn.e4 (cgS r s k e d)), .int .i64 (Inn.e5 (cgS r s k e d)), .int .i64 (Inn.cm (cgS r s k e d)), .int .i64 (Inn.io (cgS r s k e d)), .int .i64 (Inn.st (cgS r s k e d)), .int .i64 (Inn.ot (cgS r s k e d)), .slice a (List.length (Inn.bts (cgS r s k e d)))
 cap, .int .i64 (Inn.bw (cgS r s k e d)), .slice a_1 (List.length (Inn.bws (cgS r s k e d))) cap_1, .slice a_2 (List.length (Inn.bfs (cgS r s k e d))) cap_2, .bool (k == 4), .slice a_3 (List.length (Inn.bwd (cgS r s k e d))) cap_3, .bool (Inn.fh (cgS r s k e d)), .int .i64 (Inn.ba (cgS r s k e d)),
 .int .i64 (Inn.kp (cgS r s k e d)), .int .i64 (Inn.ou (cgS r s k e d)), .slice a_4 (List.length (Inn.sbs (cgS r s k e d))) cap_4, .int .i64 (Inn.r1 (cgS r s k e d)), .int .i64 (Inn.r2 (cgS r s k e d)), .int .u8 (edE r (Inn.mk (Inn.sd (cgS r s k e d)) (Inn.tg (cgS r s k e d)) (Inn.ov (cgS r s k e d))
 (Inn.rn (cgS r s k e d)) (Inn.wk (cgS r s k e d)) (Inn.e1 (cgS r s k e d)) (Inn.e2 (cgS r s k e d)) (Inn.e3 (cgS r s k e d)) (Inn.e4 (cgS r s k e d)) (Inn.e5 (cgS r s k e d)) (Inn.cm (cgS r s k e d)) (Inn.io (cgS r s k e d)) (Inn.st (cgS r s k e d)) (Inn.ot (cgS r s k e d)) (Inn.bts (cgS r s k e d))
 (Inn.bw (cgS r s k e d)) (Inn.bws (cgS r s k e d)) (Inn.bfs (cgS r s k e d)) (k == 4) (Inn.bwd (cgS r s k e d)) (Inn.fh (cgS r s k e d)) (Inn.ba (cgS r s k e d)) (Inn.kp (cgS r s k e d)) (Inn.ou (cgS r s k e d)) (Inn.sbs (cgS r s k e d)) (Inn.r1 (cgS r s k e d)) (Inn.r2 (cgS r s k e d)) (Inn.en (cgS
 r s k e d))))]), .int .i64 0]) = Value.tuple (Array.mk [inV (stS r s k e d) ⟨a, a_1, a_2, a_3, a_4, cap, cap_1, cap_2, cap_3, cap_4⟩, .int .i64 (stL r s k e d)])))))))))))) /\ ((Inn.en (cgS r s k e d) == 0) = false -> e1 b_4 28 (e2 b_3 28 (e1 b_3 28 (rqx cU 70 1 (Inn.bts (cgS r s k e d)) (Inn.bts
 (stS r s k e d)) (rqx cI 3 1 (Inn.bws (cgS r s k e d)) (Inn.bws (stS r s k e d)) (rqx cI 3 1 (Inn.bfs (cgS r s k e d)) (Inn.bfs (stS r s k e d)) (rqx cI 3 1 (Inn.bwd (cgS r s k e d)) (Inn.bwd (stS r s k e d)) (rqx cB 4 1 (Inn.sbs (cgS r s k e d)) (Inn.sbs (stS r s k e d)) (Value.tuple (Array.mk
 [.agg (Array.mk [.int .i64 (Inn.sd (cgS r s k e d)), .int .i64 (Inn.tg (cgS r s k e d)), .int .i64 (Inn.ov (cgS r s k e d)), .int .i64 (Inn.rn (cgS r s k e d)), .int .i64 (Inn.wk (cgS r s k e d)), .int .i64 (Inn.e1 (cgS r s k e d)), .int .i64 (Inn.e2 (cgS r s k e d)), .int .i64 (Inn.e3 (cgS r s k e
 d)), .int .i64 (Inn.e4 (cgS r s k e d)), .int .i64 (Inn.e5 (cgS r s k e d)), .int .i64 (Inn.cm (cgS r s k e d)), .int .i64 (Inn.io (cgS r s k e d)), .int .i64 (Inn.st (cgS r s k e d)), .int .i64 (Inn.ot (cgS r s k e d)), .slice a (List.length (Inn.bts (cgS r s k e d))) cap, .int .i64 (Inn.bw (cgS r
 s k e d)), .slice a_1 (List.length (Inn.bws (cgS r s k e d))) cap_1, .slice a_2 (List.length (Inn.bfs (cgS r s k e d))) cap_2, .bool (k == 4), .slice a_3 (List.length (Inn.bwd (cgS r s k e d))) cap_3, .bool (Inn.fh (cgS r s k e d)), .int .i64 (Inn.ba (cgS r s k e d)), .int .i64 (Inn.kp (cgS r s k e
 d)), .int .i64 (Inn.ou (cgS r s k e d)), .slice a_4 (List.length (Inn.sbs (cgS r s k e d))) cap_4, .int .i64 (Inn.r1 (cgS r s k e d)), .int .i64 (Inn.r2 (cgS r s k e d)), .int .u8 (Inn.en (cgS r s k e d))]), .int .i64 0]) = Value.tuple (Array.mk [inV (stS r s k e d) ⟨a, a_1, a_2, a_3, a_4, cap,
 cap_1, cap_2, cap_3, cap_4⟩, .int .i64 (stL r s k e d)])))))))))))))))))))) := by kernel_rfl
set_option maxHeartbeats 4000000 in
theorem stp_sp (r : Rul) (B : RAd) (s : Inn) (A : Adr) (k : Int) (e : Ev) (d : Dl) (hB : AOK B.a r.pw.length) (hl : r.pw.length ≤ 1000000) (hn : r.nm.size ≤ 1000000) (hA : OkI s A) (hc : CapI s A) (hd : 0 ≤ d.h ∧ d.h ≤ 255) (hs : Sm s) (hk : k = 2 ∨ k = 3 ∨ k = 4 ∨ k = 5 ∨ k = 8) : SpecG Tryz.prog wE ((B.a, cP r.pw) :: rdI s A) 24 #[ruV r B, inV s A, evV k e d] (rowI (stS r s k e d)) (fun ads => .tuple #[inV (stS r s k e d) (adA ads), .int .i64 (stL r s k e d)]) := by
  refine specG_of (h := stp_h r B s A k e d) (?_ : wpG Tryz.prog wE ((B.a, cP r.pw) :: rdI s A) 400 24 [ruV r B, inV s A, evV k e d] (stp_h r B s A k e d) (rowI (stS r s k e d)) (fun ads => .tuple #[inV (stS r s k e d) (adA ads), .int .i64 (stL r s k e d)]))
  rw [stp_x]
  (repeat' (first | with_reducible exact rfl | exact trivial | with_reducible assumption | exact phl_sp _ _ _ _ _ _ _ hB hl hn hA hc hk | exact cg_sp _ _ _ _ _ _ _ hB hl hn hA hd hs hk | exact fin_sp _ _ hA | exact end_sp _ _ _ _ hB hl hn (ok_cg hA hs (by assumption) (by assumption) (by assumption) (by assumption) (by assumption)) ⟨by assumption, by assumption, by assumption, by assumption, by assumption⟩ | exact cU_len _ | exact cI_len _ | exact cB_len _ | exact cU_one _ | exact cI_one _ | exact cB_one _ | exact (fun _ h => h) | exact (fun _ h => (List.not_mem_nil h).elim) | (with_reducible refine e1_in ?_) | (with_reducible refine e2_in ?_) | (with_reducible refine lx_in (Nat.le_of_ble_eq_true rfl) ?_) | (with_reducible refine rqx_rf ?_) | (with_reducible refine rqx_in ?_ ?_ ?_) | (with_reducible apply And.intro) | (with_reducible intro _)))
  all_goals (try (first | (rw [st_L (by with_reducible assumption) (by with_reducible assumption), st_1 (by with_reducible assumption) (by with_reducible assumption) (by with_reducible assumption)]; done) | (rw [st_L (by with_reducible assumption) (by with_reducible assumption), st_1 (by with_reducible assumption) (by with_reducible assumption) (by with_reducible assumption)]; rfl) | (rw [st_L (by with_reducible assumption) (by with_reducible assumption), st_2 (by with_reducible assumption) (by with_reducible assumption) (by with_reducible assumption)]; done) | (rw [st_L (by with_reducible assumption) (by with_reducible assumption), st_2 (by with_reducible assumption) (by with_reducible assumption) (by with_reducible assumption)]; rfl)))
  all_goals (first | (simp only [*, Bool.and_true, Bool.true_and, Bool.and_false, Bool.false_and, Bool.or_true, Bool.true_or, Bool.or_false, Bool.false_or, Bool.not_true, Bool.not_false, cond_true, cond_false]; done) | (simp_all [stS, stL, stE, stT]; done) | ((simp only [decide_eq_true_eq, decide_eq_false_iff_not, Bool.or_eq_true, Bool.and_eq_true, Bool.or_eq_false_iff, Bool.and_eq_false_iff, Bool.not_eq_true', Bool.not_eq_false', beq_iff_eq, bne_iff_ne, beq_eq_false_iff_ne, bne_eq_false_iff_eq, ne_eq] at *); simp_all [stS, stL, stE, stT]; done) | trace_state)
end Go.Proofs.YtnhlpgdadbjmoaaGreatDoor
