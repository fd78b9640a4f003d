/- Layer 14 (innings): an innings that has ended takes no event (InningsEnds). -/
import Derived.Test.YtnhlpgdadbjmoaaGreatDoorVz
import Derived.KernelRfl
import Derived.Test.YtnhlpgdadbjmoaaGreatDoorProg
import Derived.Test.YtnhlpgdadbjmoaaGreatDoorFda
import Derived.Test.YtnhlpgdadbjmoaaGreatDoorFdb
import Derived.Test.YtnhlpgdadbjmoaaGreatDoorFdf
import Derived.Test.YtnhlpgdadbjmoaaGreatDoorFdh
import Derived.Test.YtnhlpgdadbjmoaaGreatDoorFdk
import Derived.Test.YtnhlpgdadbjmoaaGreatDoorRua
import Derived.Test.YtnhlpgdadbjmoaaGreatDoorCra
import Derived.Test.YtnhlpgdadbjmoaaGreatDoorSpa
import Derived.Test.YtnhlpgdadbjmoaaGreatDoorIva
import Derived.Test.YtnhlpgdadbjmoaaGreatDoorIvb
import Derived.Test.YtnhlpgdadbjmoaaGreatDoorIvc
import Derived.Test.YtnhlpgdadbjmoaaGreatDoorDvk
import Derived.Test.YtnhlpgdadbjmoaaGreatDoorEvz
import Derived.Test.YtnhlpgdadbjmoaaGreatDoorSta
import Derived.Test.YtnhlpgdadbjmoaaGreatDoorStb
import Derived.Test.YtnhlpgdadbjmoaaGreatDoorStg
import Derived.Test.YtnhlpgdadbjmoaaGreatDoorSte
import Derived.Test.YtnhlpgdadbjmoaaGreatDoorStc
import Derived.Test.YtnhlpgdadbjmoaaGreatDoorLwa
set_option linter.unusedSimpArgs false
set_option linter.unusedVariables false
set_option maxRecDepth 100000
namespace Go.Proofs.YtnhlpgdadbjmoaaGreatDoor
open Go.RowKit


theorem st_of0 {r : Rul} {s : Inn} {k : Int} {e : Ev} {d : Dl} (h : stL r s k e d = 0) : phL r s k e d = 0 ∧ cgL r s k e d = 0 ∧ stS r s k e d = stE r (stT r s k e d) := by
  unfold stL at h
  by_cases c : phL r s k e d ≠ 0
  · rw [if_pos c] at h; exact absurd h c
  · rw [if_neg c] at h
    have c' : phL r s k e d = 0 := Decidable.not_not.1 c
    refine ⟨c', h, ?_⟩
    unfold stS
    rw [if_neg c, if_neg (by rw [h]; decide)]
theorem st_len (r : Rul) (s : Inn) (k : Int) (e : Ev) (d : Dl) : (stS r s k e d).bts.length = s.bts.length ∧ (stS r s k e d).bws.length ≤ s.bws.length + 1 ∧ (stS r s k e d).bfs.length ≤ s.bfs.length + s.bws.length + 1 ∧ (stS r s k e d).bwd.length = s.bwd.length ∧ (stS r s k e d).sbs.length = s.sbs.length := by
  have h := cg_len r s k e d
  unfold stS
  split
  · exact ⟨rfl, by omega, by omega, rfl, rfl⟩
  · split
    · exact h
    · exact h
theorem ok_st {r : Rul} {s : Inn} {k : Int} {e : Ev} {d : Dl} {B : Adr} (h1 : AOK B.a1 (stS r (few s) k e d).bts.length) (h2 : AOK B.a2 (stS r (few s) k e d).bws.length) (h3 : AOK B.a3 (stS r (few s) k e d).bfs.length) (h4 : AOK B.a4 (stS r (few s) k e d).bwd.length) (h5 : AOK B.a5 (stS r (few s) k e d).sbs.length) : OkI (stS r (few s) k e d) B := by
  obtain ⟨a1, a2, a3, a4, a5⟩ := st_len r (few s) k e d
  obtain ⟨b1, b2, b3, b4, b5⟩ := few_len s
  exact ⟨h1, h2, h3, h4, h5, by omega, by omega, by omega, by omega, by omega⟩
theorem sm_st (r : Rul) (s : Inn) (k : Int) (e : Ev) (d : Dl) : Sm (stS r (few s) k e d) := by
  obtain ⟨a1, a2, a3, a4, a5⟩ := st_len r (few s) k e d
  obtain ⟨b1, b2, b3, b4, b5⟩ := few_len s
  exact ⟨by omega, by omega⟩
/-- What has ended refuses every event. -/
theorem en_again {r : Rul} {t : Inn} {k : Int} {e : Ev} {d : Dl} (h : ¬ t.en = 0) : stL r t k e d = 26 ∨ stL r t k e d = 1 := by
  have hp : phL r t k e d = 26 ∨ phL r t k e d = 1 := by
    unfold phL
    by_cases c : vlB r t = false ∨ evC k e d ≠ 0
    · rw [if_pos c]; exact Or.inr rfl
    · rw [if_neg c, if_pos h]; exact Or.inl rfl
  unfold stL
  rw [if_pos (by omega)]
  exact hp
theorem en_eq {t : Inn} (h : t.en = 0) : ({ t with en := 0 } : Inn) = t := by
  cases t
  simp only at h
  subst h
  rfl
theorem en_last {r : Rul} {s : Inn} {k : Int} {e : Ev} {d : Dl} (h : stL r s k e d = 0) (hz : (stS r s k e d).en = 0) : edE r (stS r s k e d) = 0 ∧ (vlB r (stS r s k e d) = true → ¬ (0 < (stS r s k e d).tg ∧ (stS r s k e d).rn ≥ (stS r s k e d).tg) ∧ ¬ (0 < (stS r s k e d).ov ∧ (stS r s k e d).cm ≥ (stS r s k e d).ov)) := by
  obtain ⟨_, _, e0⟩ := st_of0 h
  rw [e0] at hz ⊢
  generalize stT r s k e d = t at hz ⊢
  have ht : t.en = 0 := by
    by_cases c : t.en = 0
    · exact c
    · have : (if t.en = 0 then edE r t else t.en) = 0 := hz
      rw [if_neg c] at this
      exact this
  have hd : edE r t = 0 := by
    have : (if t.en = 0 then edE r t else t.en) = 0 := hz
    rw [if_pos ht] at this
    exact this
  have e1 : stE r t = t := by
    unfold stE
    rw [if_pos ht, hd]
    exact en_eq ht
  rw [e1]
  refine ⟨hd, fun hv => ?_⟩
  unfold edE at hd
  rw [if_neg (by rw [hv]; decide)] at hd
  by_cases c1 : 0 < t.tg ∧ t.rn ≥ t.tg
  · rw [if_pos c1] at hd; omega
  · refine ⟨c1, fun c3 => ?_⟩
    rw [if_neg c1] at hd
    by_cases c2 : vac t = true ∧ lft t.bts t.bts.length = []
    · rw [if_pos c2] at hd; omega
    · rw [if_neg c2, if_pos c3] at hd; omega
theorem en_fin {r : Rul} {s : Inn} {k : Int} {e : Ev} {d : Dl} (h : stL r s k e d = 0) (hz : (stS r s k e d).en = 0) : (!vlB r (stS r s k e d) || !(decide ((stS r s k e d).tg > 0) && decide ((stS r s k e d).rn ≥ (stS r s k e d).tg)) && (!(decide ((stS r s k e d).ov > 0) && decide ((stS r s k e d).cm ≥ (stS r s k e d).ov)) && edE r (stS r s k e d) == 0)) = true := by
  obtain ⟨h7, h8⟩ := en_last h hz
  generalize stS r s k e d = t at h7 h8 ⊢
  cases hv : vlB r t with
  | false => rfl
  | true =>
    obtain ⟨c1, c3⟩ := h8 hv
    have a1 : (decide (t.tg > 0) && decide (t.rn ≥ t.tg)) = false := by rw [← Bool.decide_and, decide_eq_false_iff_not]; exact c1
    have a2 : (decide (t.ov > 0) && decide (t.cm ≥ t.ov)) = false := by rw [← Bool.decide_and, decide_eq_false_iff_not]; exact c3
    rw [a1, a2, h7]
    rfl
theorem u8eq (a b : Int) : (a == b) = decide (a = b) := rfl

def inningsEnds_h (r : Rul) (B : RAd) (s : Inn) (A : Adr) (k : Int) (e : Ev) (d : Dl) : Hint := Hint.specg wE [] [] [] (fun ads0 x ↦ Value.bool true) (Hint.lit (Hint.draw [0, 1, 2, 3, 4, 5, 6, 7, 8] (some 3) [0, 1, 2, 3, 4, 5, 8] (Hint.take 2 (ho 7 28 (Hint.pl (Hint.br (ho 6 14 (Hint.pl (Hint.br (Hint.specg [] [] [] [] (fun ads0 x ↦ ruV (bnd r) B) (Hint.pl (Hint.br (Hint.specg [] [] [] [] (fun
 ads0 x ↦ inV (few s) A) (Hint.pl (Hint.br (ho 6 14 (Hint.pl (Hint.br (ho 7 28 (ho 6 14 (ho 7 28 (ho 8 19 (Hint.specg wE [0, 1, 2, 3, 4, 5] [cP (Rul.pw (bnd r)), cU (Inn.bts (few s)), cI (Inn.bws (few s)), cI (Inn.bfs (few s)), cI (Inn.bwd (few s)), cB (Inn.sbs (few s))] (rowI (stS (bnd r) (few s) k
 e d)) (fun ads0 ads ↦ Value.tuple #[inV (stS (bnd r) (few s) k e d) (adA ads), .int .i64 (stL (bnd r) (few s) k e d)]) (ho 14 28 (Hint.pl (Hint.split (Hint.perm [] Hint.nil) (Hint.ob 14 (Hint.pl (Hint.split (ho 6 14 (ho 14 28 (ho 8 19 (Hint.specg wE [0, 9, 10, 11, 12, 13] [cP (Rul.pw (bnd r)), cU
 (Inn.bts (stS (bnd r) (few s) k e d)), cI (Inn.bws (stS (bnd r) (few s) k e d)), cI (Inn.bfs (stS (bnd r) (few s) k e d)), cI (Inn.bwd (stS (bnd r) (few s) k e d)), cB (Inn.sbs (stS (bnd r) (few s) k e d))] (rowI (stS (bnd r) (stS (bnd r) (few s) k e d) k e d)) (fun ads0 ads ↦ Value.tuple #[inV (stS
 (bnd r) (stS (bnd r) (few s) k e d) k e d) (adA ads), .int .i64 (stL (bnd r) (stS (bnd r) (few s) k e d) k e d)]) (ho 20 28 (Hint.cut [((6 : Nat), .bool (stL (bnd r) (stS (bnd r) (few s) k e d) k e d == 26 || stL (bnd r) (stS (bnd r) (few s) k e d) k e d == 1))] (Hint.pl (Hint.split (Hint.lit
 (Hint.lit Hint.nil)) (Hint.lit (Hint.pl (Hint.lit Hint.nil))))) (Hint.perm [] Hint.nil))))))) (Hint.cut [((11 : Nat), .bool (decide (Inn.tg (stS (bnd r) (few s) k e d) > 0) && decide (Inn.rn (stS (bnd r) (few s) k e d) ≥ Inn.tg (stS (bnd r) (few s) k e d))))] (Hint.ob 14 (Hint.split (Hint.lit
 (Hint.ob 14 (Hint.lit (Hint.lit (Hint.ob 14 (Hint.lit (Hint.lit Hint.nil))))))) (hl 4 (Hint.lit Hint.nil)))) (Hint.cut [((12 : Nat), .bool (decide (Inn.ov (stS (bnd r) (few s) k e d) > 0) && decide (Inn.cm (stS (bnd r) (few s) k e d) ≥ Inn.ov (stS (bnd r) (few s) k e d))))] (Hint.ob 14 (Hint.split
 (Hint.lit (Hint.ob 14 (Hint.lit (Hint.lit (Hint.ob 14 (Hint.lit (Hint.lit Hint.nil))))))) (hl 4 (Hint.lit Hint.nil)))) (Hint.cut [((6 : Nat), .bool (!vlB (bnd r) (stS (bnd r) (few s) k e d) || !(decide (Inn.tg (stS (bnd r) (few s) k e d) > 0) && decide (Inn.rn (stS (bnd r) (few s) k e d) ≥ Inn.tg
 (stS (bnd r) (few s) k e d))) && (!(decide (Inn.ov (stS (bnd r) (few s) k e d) > 0) && decide (Inn.cm (stS (bnd r) (few s) k e d) ≥ Inn.ov (stS (bnd r) (few s) k e d))) && edE (bnd r) (stS (bnd r) (few s) k e d) == 0)))] (ho 6 14 (ho 14 28 (Hint.specg [] [0, 9, 10, 11, 12, 13] [cP (Rul.pw (bnd r)),
 cU (Inn.bts (stS (bnd r) (few s) k e d)), cI (Inn.bws (stS (bnd r) (few s) k e d)), cI (Inn.bfs (stS (bnd r) (few s) k e d)), cI (Inn.bwd (stS (bnd r) (few s) k e d)), cB (Inn.sbs (stS (bnd r) (few s) k e d))] [] (fun ads0 x ↦ Value.bool (vlB (bnd r) (stS (bnd r) (few s) k e d))) (Hint.split (hl 5
 (Hint.lit Hint.nil)) (Hint.lit (Hint.lit (Hint.split (hl 4 (Hint.split (ho 6 14 (Hint.lit (ho 14 28 (Hint.lit (Hint.specg [] [0, 9, 10, 11, 12, 13] [cP (Rul.pw (bnd r)), cU (Inn.bts (stS (bnd r) (few s) k e d)), cI (Inn.bws (stS (bnd r) (few s) k e d)), cI (Inn.bfs (stS (bnd r) (few s) k e d)), cI
 (Inn.bwd (stS (bnd r) (few s) k e d)), cB (Inn.sbs (stS (bnd r) (few s) k e d))] [] (fun ads0 x ↦ Value.int .u8 (edE (bnd r) (stS (bnd r) (few s) k e d))) (Hint.lit (Hint.pl (Hint.lit (Hint.lit (Hint.lit Hint.nil)))))))))) (hl 5 (Hint.lit Hint.nil)))) (hl 10 (Hint.lit Hint.nil))))))))) (Hint.perm []
 Hint.nil))))))))))))))) Hint.nil))) Hint.nil))) Hint.nil))) Hint.nil))) Hint.nil))))))
theorem inningsEnds_x (r : Rul) (B : RAd) (s : Inn) (A : Adr) (k : Int) (e : Ev) (d : Dl) : wpG Tryz.prog wE ((B.a, cP (bnd r).pw) :: rdI (few s) A) 400 8 [ruV r B, inV s A, evV k e d] (inningsEnds_h r B s A k e d) ([]) (fun _ => .bool true) = (∀ (b b_1 b_2 : Nat), (SpecG Tryz.prog wE [] (9 : FuncId) #[] [] fun x ↦ Value.bool true) /\ (∀ (e : Ex), e ∈ wE -> e ∈ wE) /\ e1 b_1 27 (b_1 = b_1 /\ True /\ (e1 b 13 (b = b /\ True /\ ((SpecG Tryz.prog [] [] (10 : FuncId) #[ruV r B] [] fun x ↦ ruV (bnd r) B) /\ (∀ (e : Ex), e ∈ [] -> e ∈ wE) /\ True
 /\ ((SpecG Tryz.prog [] [] (11 : FuncId) #[inV s A] [] fun x ↦ inV (few s) A) /\ (∀ (e : Ex), e ∈ [] -> e ∈ wE) /\ True /\ (e2 b 14 (True /\ (e2 b_1 28 (e1 b 14 (e1 b_1 28 (e1 b_2 19 (cP (Rul.pw (bnd r)) = cP (Rul.pw (bnd r)) /\ cU (Inn.bts (few s)) = cU (Inn.bts (few s)) /\ cI (Inn.bws (few s)) = cI
 (Inn.bws (few s)) /\ cI (Inn.bfs (few s)) = cI (Inn.bfs (few s)) /\ cI (Inn.bwd (few s)) = cI (Inn.bwd (few s)) /\ cB (Inn.sbs (few s)) = cB (Inn.sbs (few s)) /\ (SpecG Tryz.prog wE ((RAd.a B, cP (Rul.pw (bnd r))) :: rdI (few s) A) (24 : FuncId) #[ruV (bnd r) B, inV (few s) A, evV k e d] (rowI (stS
 (bnd r) (few s) k e d)) fun ads ↦ Value.tuple #[inV (stS (bnd r) (few s) k e d) (adA ads), .int .i64 (stL (bnd r) (few s) k e d)]) /\ (∀ (e : Ex), e ∈ wE -> e ∈ wE) /\ ∀ (a : Option Addr) (cap : Nat), AOK a (List.length (Inn.bts (stS (bnd r) (few s) k e d))) -> List.length (Inn.bts (stS (bnd r) (few
 s) k e d)) ≤ cap -> ∀ (a_1 : Option Addr) (cap_1 : Nat), AOK a_1 (List.length (Inn.bws (stS (bnd r) (few s) k e d))) -> List.length (Inn.bws (stS (bnd r) (few s) k e d)) ≤ cap_1 -> ∀ (a_2 : Option Addr) (cap_2 : Nat), AOK a_2 (List.length (Inn.bfs (stS (bnd r) (few s) k e d))) -> List.length
 (Inn.bfs (stS (bnd r) (few s) k e d)) ≤ cap_2 -> ∀ (a_3 : Option Addr) (cap_3 : Nat), AOK a_3 (List.length (Inn.bwd (stS (bnd r) (few s) k e d))) -> List.length (Inn.bwd (stS (bnd r) (few s) k e d)) ≤ cap_3 -> ∀ (a_4 : Option Addr) (cap_4 : Nat), AOK a_4 (List.length (Inn.sbs (stS (bnd r) (few s) k
 e d))) -> List.length (Inn.sbs (stS (bnd r) (few s) k e d)) ≤ cap_4 -> ∀ (b_3 : Nat), e2 b_3 28 (((stL (bnd r) (few s) k e d != 0) = true -> Value.bool true = Value.bool true) /\ ((stL (bnd r) (few s) k e d != 0) = false -> b_3 = b_3 /\ ((Inn.en (stS (bnd r) (few s) k e d) != 0) = true -> e1 b 14
 (e1 b_3 28 (e1 b_2 19 (cP (Rul.pw (bnd r)) = cP (Rul.pw (bnd r)) /\ cU (Inn.bts (stS (bnd r) (few s) k e d)) = cU (Inn.bts (stS (bnd r) (few s) k e d)) /\ cI (Inn.bws (stS (bnd r) (few s) k e d)) = cI (Inn.bws (stS (bnd r) (few s) k e d)) /\ cI (Inn.bfs (stS (bnd r) (few s) k e d)) = cI (Inn.bfs
 (stS (bnd r) (few s) k e d)) /\ cI (Inn.bwd (stS (bnd r) (few s) k e d)) = cI (Inn.bwd (stS (bnd r) (few s) k e d)) /\ cB (Inn.sbs (stS (bnd r) (few s) k e d)) = cB (Inn.sbs (stS (bnd r) (few s) k e d)) /\ (SpecG Tryz.prog wE ((RAd.a B, cP (Rul.pw (bnd r))) :: rdI (stS (bnd r) (few s) k e d) (Adr.mk
 a a_1 a_2 a_3 a_4 cap cap_1 cap_2 cap_3 cap_4)) (24 : FuncId) #[ruV (bnd r) B, inV (stS (bnd r) (few s) k e d) (Adr.mk a a_1 a_2 a_3 a_4 cap cap_1 cap_2 cap_3 cap_4), evV k e d] (rowI (stS (bnd r) (stS (bnd r) (few s) k e d) k e d)) fun ads ↦ Value.tuple #[inV (stS (bnd r) (stS (bnd r) (few s) k e
 d) k e d) (adA ads), .int .i64 (stL (bnd r) (stS (bnd r) (few s) k e d) k e d)]) /\ (∀ (e : Ex), e ∈ wE -> e ∈ wE) /\ ∀ (a : Option Addr) (cap : Nat), AOK a (List.length (Inn.bts (stS (bnd r) (stS (bnd r) (few s) k e d) k e d))) -> List.length (Inn.bts (stS (bnd r) (stS (bnd r) (few s) k e d) k e
 d)) ≤ cap -> ∀ (a : Option Addr) (cap : Nat), AOK a (List.length (Inn.bws (stS (bnd r) (stS (bnd r) (few s) k e d) k e d))) -> List.length (Inn.bws (stS (bnd r) (stS (bnd r) (few s) k e d) k e d)) ≤ cap -> ∀ (a : Option Addr) (cap : Nat), AOK a (List.length (Inn.bfs (stS (bnd r) (stS (bnd r) (few s)
 k e d) k e d))) -> List.length (Inn.bfs (stS (bnd r) (stS (bnd r) (few s) k e d) k e d)) ≤ cap -> ∀ (a : Option Addr) (cap : Nat), AOK a (List.length (Inn.bwd (stS (bnd r) (stS (bnd r) (few s) k e d) k e d))) -> List.length (Inn.bwd (stS (bnd r) (stS (bnd r) (few s) k e d) k e d)) ≤ cap -> ∀ (a :
 Option Addr) (cap : Nat), AOK a (List.length (Inn.sbs (stS (bnd r) (stS (bnd r) (few s) k e d) k e d))) -> List.length (Inn.sbs (stS (bnd r) (stS (bnd r) (few s) k e d) k e d)) ≤ cap -> ∀ (b : Nat), e2 b 28 ((((stL (bnd r) (stS (bnd r) (few s) k e d) k e d == 26) = true -> Value.bool true =
 Value.bool (stL (bnd r) (stS (bnd r) (few s) k e d) k e d == 26 || stL (bnd r) (stS (bnd r) (few s) k e d) k e d == 1) /\ True) /\ ((stL (bnd r) (stS (bnd r) (few s) k e d) k e d == 26) = false -> Value.bool (stL (bnd r) (stS (bnd r) (few s) k e d) k e d == 1) = Value.bool (stL (bnd r) (stS (bnd r)
 (few s) k e d) k e d == 26 || stL (bnd r) (stS (bnd r) (few s) k e d) k e d == 1) /\ True)) /\ ∀ (junk : Nat -> Value), .bool (stL (bnd r) (stS (bnd r) (few s) k e d) k e d == 26 || stL (bnd r) (stS (bnd r) (few s) k e d) k e d == 1) = Value.bool true))))) /\ ((Inn.en (stS (bnd r) (few s) k e d) !=
 0) = false -> (b_3 = b_3 /\ (decide (Inn.tg (stS (bnd r) (few s) k e d) > 0) = true -> b_3 = b_3 /\ b_3 = b_3 /\ Value.bool (decide (Inn.rn (stS (bnd r) (few s) k e d) ≥ Inn.tg (stS (bnd r) (few s) k e d))) = Value.bool (decide (Inn.tg (stS (bnd r) (few s) k e d) > 0) && decide (Inn.rn (stS (bnd r)
 (few s) k e d) ≥ Inn.tg (stS (bnd r) (few s) k e d))) /\ True) /\ (decide (Inn.tg (stS (bnd r) (few s) k e d) > 0) = false -> Value.bool false = Value.bool (decide (Inn.tg (stS (bnd r) (few s) k e d) > 0) && decide (Inn.rn (stS (bnd r) (few s) k e d) ≥ Inn.tg (stS (bnd r) (few s) k e d))) /\ True))
 /\ ∀ (junk : Nat -> Value), (b_3 = b_3 /\ (decide (Inn.ov (stS (bnd r) (few s) k e d) > 0) = true -> b_3 = b_3 /\ b_3 = b_3 /\ Value.bool (decide (Inn.cm (stS (bnd r) (few s) k e d) ≥ Inn.ov (stS (bnd r) (few s) k e d))) = Value.bool (decide (Inn.ov (stS (bnd r) (few s) k e d) > 0) && decide (Inn.cm
 (stS (bnd r) (few s) k e d) ≥ Inn.ov (stS (bnd r) (few s) k e d))) /\ True) /\ (decide (Inn.ov (stS (bnd r) (few s) k e d) > 0) = false -> Value.bool false = Value.bool (decide (Inn.ov (stS (bnd r) (few s) k e d) > 0) && decide (Inn.cm (stS (bnd r) (few s) k e d) ≥ Inn.ov (stS (bnd r) (few s) k e
 d))) /\ True)) /\ ∀ (junk : Nat -> Value), (e1 b 14 (e1 b_3 28 (cP (Rul.pw (bnd r)) = cP (Rul.pw (bnd r)) /\ cU (Inn.bts (stS (bnd r) (few s) k e d)) = cU (Inn.bts (stS (bnd r) (few s) k e d)) /\ cI (Inn.bws (stS (bnd r) (few s) k e d)) = cI (Inn.bws (stS (bnd r) (few s) k e d)) /\ cI (Inn.bfs (stS
 (bnd r) (few s) k e d)) = cI (Inn.bfs (stS (bnd r) (few s) k e d)) /\ cI (Inn.bwd (stS (bnd r) (few s) k e d)) = cI (Inn.bwd (stS (bnd r) (few s) k e d)) /\ cB (Inn.sbs (stS (bnd r) (few s) k e d)) = cB (Inn.sbs (stS (bnd r) (few s) k e d)) /\ (SpecG Tryz.prog [] ((RAd.a B, cP (Rul.pw (bnd r))) ::
 rdI (stS (bnd r) (few s) k e d) (Adr.mk a a_1 a_2 a_3 a_4 cap cap_1 cap_2 cap_3 cap_4)) (12 : FuncId) #[ruV (bnd r) B, inV (stS (bnd r) (few s) k e d) (Adr.mk a a_1 a_2 a_3 a_4 cap cap_1 cap_2 cap_3 cap_4)] [] fun x ↦ Value.bool (vlB (bnd r) (stS (bnd r) (few s) k e d))) /\ (∀ (e : Ex), e ∈ [] -> e
 ∈ wE) /\ ((!vlB (bnd r) (stS (bnd r) (few s) k e d)) = true -> Value.bool true = Value.bool (!vlB (bnd r) (stS (bnd r) (few s) k e d) || !(decide (Inn.tg (stS (bnd r) (few s) k e d) > 0) && decide (Inn.rn (stS (bnd r) (few s) k e d) ≥ Inn.tg (stS (bnd r) (few s) k e d))) && (!(decide (Inn.ov (stS
 (bnd r) (few s) k e d) > 0) && decide (Inn.cm (stS (bnd r) (few s) k e d) ≥ Inn.ov (stS (bnd r) (few s) k e d))) && edE (bnd r) (stS (bnd r) (few s) k e d) == 0)) /\ True) /\ ((!vlB (bnd r) (stS (bnd r) (few s) k e d)) = false -> ((!(decide (Inn.tg (stS (bnd r) (few s) k e d) > 0) && decide (Inn.rn
 (stS (bnd r) (few s) k e d) ≥ Inn.tg (stS (bnd r) (few s) k e d)))) = true -> ((!(decide (Inn.ov (stS (bnd r) (few s) k e d) > 0) && decide (Inn.cm (stS (bnd r) (few s) k e d) ≥ Inn.ov (stS (bnd r) (few s) k e d)))) = true -> e1 b 14 (e1 b_3 28 (cP (Rul.pw (bnd r)) = cP (Rul.pw (bnd r)) /\ cU
 (Inn.bts (stS (bnd r) (few s) k e d)) = cU (Inn.bts (stS (bnd r) (few s) k e d)) /\ cI (Inn.bws (stS (bnd r) (few s) k e d)) = cI (Inn.bws (stS (bnd r) (few s) k e d)) /\ cI (Inn.bfs (stS (bnd r) (few s) k e d)) = cI (Inn.bfs (stS (bnd r) (few s) k e d)) /\ cI (Inn.bwd (stS (bnd r) (few s) k e d)) =
 cI (Inn.bwd (stS (bnd r) (few s) k e d)) /\ cB (Inn.sbs (stS (bnd r) (few s) k e d)) = cB (Inn.sbs (stS (bnd r) (few s) k e d)) /\ (SpecG Tryz.prog [] ((RAd.a B, cP (Rul.pw (bnd r))) :: rdI (stS (bnd r) (few s) k e d) (Adr.mk a a_1 a_2 a_3 a_4 cap cap_1 cap_2 cap_3 cap_4)) (14 : FuncId) #[ruV (bnd r)
 B, inV (stS (bnd r) (few s) k e d) (Adr.mk a a_1 a_2 a_3 a_4 cap cap_1 cap_2 cap_3 cap_4)] [] fun x ↦ Value.int .u8 (edE (bnd r) (stS (bnd r) (few s) k e d))) /\ (∀ (e : Ex), e ∈ [] -> e ∈ wE) /\ Value.bool (edE (bnd r) (stS (bnd r) (few s) k e d) == 0) = Value.bool (!vlB (bnd r) (stS (bnd r) (few
 s) k e d) || !(decide (Inn.tg (stS (bnd r) (few s) k e d) > 0) && decide (Inn.rn (stS (bnd r) (few s) k e d) ≥ Inn.tg (stS (bnd r) (few s) k e d))) && (!(decide (Inn.ov (stS (bnd r) (few s) k e d) > 0) && decide (Inn.cm (stS (bnd r) (few s) k e d) ≥ Inn.ov (stS (bnd r) (few s) k e d))) && edE (bnd
 r) (stS (bnd r) (few s) k e d) == 0)) /\ True))) /\ ((!(decide (Inn.ov (stS (bnd r) (few s) k e d) > 0) && decide (Inn.cm (stS (bnd r) (few s) k e d) ≥ Inn.ov (stS (bnd r) (few s) k e d)))) = false -> Value.bool false = Value.bool (!vlB (bnd r) (stS (bnd r) (few s) k e d) || !(decide (Inn.tg (stS
 (bnd r) (few s) k e d) > 0) && decide (Inn.rn (stS (bnd r) (few s) k e d) ≥ Inn.tg (stS (bnd r) (few s) k e d))) && (!(decide (Inn.ov (stS (bnd r) (few s) k e d) > 0) && decide (Inn.cm (stS (bnd r) (few s) k e d) ≥ Inn.ov (stS (bnd r) (few s) k e d))) && edE (bnd r) (stS (bnd r) (few s) k e d) ==
 0)) /\ True)) /\ ((!(decide (Inn.tg (stS (bnd r) (few s) k e d) > 0) && decide (Inn.rn (stS (bnd r) (few s) k e d) ≥ Inn.tg (stS (bnd r) (few s) k e d)))) = false -> Value.bool false = Value.bool (!vlB (bnd r) (stS (bnd r) (few s) k e d) || !(decide (Inn.tg (stS (bnd r) (few s) k e d) > 0) && decide
 (Inn.rn (stS (bnd r) (few s) k e d) ≥ Inn.tg (stS (bnd r) (few s) k e d))) && (!(decide (Inn.ov (stS (bnd r) (few s) k e d) > 0) && decide (Inn.cm (stS (bnd r) (few s) k e d) ≥ Inn.ov (stS (bnd r) (few s) k e d))) && edE (bnd r) (stS (bnd r) (few s) k e d) == 0)) /\ True))))) /\ ∀ (junk : Nat ->
 Value), .bool (!vlB (bnd r) (stS (bnd r) (few s) k e d) || !(decide (Inn.tg (stS (bnd r) (few s) k e d) > 0) && decide (Inn.rn (stS (bnd r) (few s) k e d) ≥ Inn.tg (stS (bnd r) (few s) k e d))) && (!(decide (Inn.ov (stS (bnd r) (few s) k e d) > 0) && decide (Inn.cm (stS (bnd r) (few s) k e d) ≥
 Inn.ov (stS (bnd r) (few s) k e d))) && edE (bnd r) (stS (bnd r) (few s) k e d) == 0)) = Value.bool true)))))))) /\ True)) /\ True) /\ True) /\ True)) /\ True)) := by kernel_rfl
set_option maxHeartbeats 4000000 in
theorem inningsEnds_sp (r : Rul) (B : RAd) (s : Inn) (A : Adr) (k : Int) (e : Ev) (d : Dl) (hA : OkA s A) (hc : CapI s A) (hB : AOK B.a r.pw.length) (hBc : r.pw.length ≤ B.c) (hd : 0 ≤ d.h ∧ d.h ≤ 255) : SpecG Tryz.prog wE ((B.a, cP (bnd r).pw) :: rdI (few s) A) 8 #[ruV r B, inV s A, evV k e d] ([]) (fun _ => .bool true) := by
  refine specG_of (h := inningsEnds_h r B s A k e d) (?_ : wpG Tryz.prog wE ((B.a, cP (bnd r).pw) :: rdI (few s) A) 400 8 [ruV r B, inV s A, evV k e d] (inningsEnds_h r B s A k e d) ([]) (fun _ => .bool true))
  rw [inningsEnds_x]
  (repeat' (first | with_reducible exact rfl | exact trivial | with_reducible assumption | (with_reducible exact aw14_sp) | (with_reducible exact few4_sp _ _ hc) | (with_reducible exact bnd4_sp _ _ hBc) | (with_reducible exact stp_sp _ _ _ _ _ _ _ (aok_b hB) (bnd_pw r) (bnd_nm r) (ok_few hA) (cap_few hc) hd (sm_few s)) | (with_reducible exact stp_sp _ _ _ _ _ _ _ (aok_b hB) (bnd_pw r) (bnd_nm r) (ok_st (by assumption) (by assumption) (by assumption) (by assumption) (by assumption)) ⟨by assumption, by assumption, by assumption, by assumption, by assumption⟩ hd (sm_st _ _ _ _ _)) | (with_reducible exact ivl_sp _ _ _ _ (aok_b hB) (bnd_pw r) (bnd_nm r) (ok_st (by assumption) (by assumption) (by assumption) (by assumption) (by assumption)) ⟨by assumption, by assumption, by assumption, by assumption, by assumption⟩) | (with_reducible exact end_sp _ _ _ _ (aok_b hB) (bnd_pw r) (bnd_nm r) (ok_st (by assumption) (by assumption) (by assumption) (by assumption) (by assumption)) ⟨by assumption, by assumption, by assumption, by assumption, by assumption⟩) | exact cU_len _ | exact cI_len _ | exact cB_len _ | exact cU_one _ | exact cI_one _ | exact cB_one _ | exact (fun _ h => h) | exact (fun _ h => (List.not_mem_nil h).elim) | (with_reducible refine e1_in ?_) | (with_reducible refine e2_in ?_) | (with_reducible refine lx_in (Nat.le_of_ble_eq_true rfl) ?_) | (with_reducible refine rqx_rf ?_) | (with_reducible refine rqx_in ?_ ?_ ?_) | (with_reducible apply And.intro) | (with_reducible intro _)))
  all_goals (try (first | (simp only [*, Bool.and_true, Bool.true_and, Bool.and_false, Bool.false_and, Bool.or_true, Bool.true_or, Bool.or_false, Bool.false_or, Bool.not_true, Bool.not_false, cond_true, cond_false]; done)))
  all_goals first
    | (have h := ‹(stL (bnd r) (few s) k e d != 0) = false›; have h0 : stL (bnd r) (few s) k e d = 0 := (by simpa using h); first
        | (have hz := ‹((stS (bnd r) (few s) k e d).en != 0) = true›; have hz : ¬ (stS (bnd r) (few s) k e d).en = 0 := (by simpa using hz); rcases en_again (r := bnd r) (k := k) (e := e) (d := d) hz with h9 | h9 <;> rw [h9] <;> rfl)
        | (have hz := ‹((stS (bnd r) (few s) k e d).en != 0) = false›; have hz : (stS (bnd r) (few s) k e d).en = 0 := (by simpa using hz); exact congrArg Value.bool (en_fin h0 hz)))
    | trace_state
end Go.Proofs.YtnhlpgdadbjmoaaGreatDoor
