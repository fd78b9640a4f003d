/- Plain words for a delivery's symbol: the parts of the symbol, the reader of it (over any reader of numbers and of the letter of a dismissal), and that the reader reads back what was written. No run of the program. -/
import Derived.Lib.ItoaLen
import Derived.Test.YtdgmogmldfhgcaaGreatDoorDl
set_option linter.unusedSimpArgs false
set_option linter.unusedVariables false
namespace Go.Proofs.YtdgmogmldfhgcaaGreatDoor

/-- The kinds are bytes. -/
def Wf (d : Dl) : Prop := 0 ≤ d.t ∧ 0 ≤ d.s ∧ 0 ≤ d.h
def okT (d : Dl) : Prop := 1 ≤ d.t ∧ d.t ≤ 3 ∧ d.s ≤ 3 ∧ d.h ≤ 10
def okR (d : Dl) : Prop := (0 ≤ d.r ∧ d.r ≤ 7) ∧ (0 ≤ d.sh ∧ d.sh ≤ d.r) ∧ (d.b = 0 ∨ d.b = 4 ∨ d.b = 6) ∧ (0 ≤ d.v ∧ d.v ≤ 2) ∧ (0 ≤ d.f ∧ d.f ≤ 11) ∧ (0 ≤ d.g ∧ d.g ≤ 11) ∧ (0 ≤ d.z ∧ d.z ≤ 8)
instance (d : Dl) : Decidable (okT d) := by unfold okT; infer_instance
instance (d : Dl) : Decidable (okR d) := by unfold okR; infer_instance
def chk (d : Dl) : Int := if okT d then (if okR d then 0 else 2) else 3
theorem chk_ok {d : Dl} (h : chk d = 0) : okT d ∧ okR d := by
  unfold chk at h
  by_cases h1 : okT d
  · by_cases h2 : okR d
    · exact ⟨h1, h2⟩
    · simp [h1, h2] at h
  · simp [h1] at h

def dg (n : Int) : List UInt8 := if n ≤ 9 then [UInt8.ofNat (48 + n.toNat)] else [49, UInt8.ofNat (38 + n.toNat)]
theorem upto11 {n : Int} (h0 : 0 ≤ n) (h1 : n ≤ 11) : n = 0 ∨ n = 1 ∨ n = 2 ∨ n = 3 ∨ n = 4 ∨ n = 5 ∨ n = 6 ∨ n = 7 ∨ n = 8 ∨ n = 9 ∨ n = 10 ∨ n = 11 := by omega
theorem dg_itoa {n : Int} (h0 : 0 ≤ n) (h1 : n ≤ 11) : Lib.itoa n = dg n := by
  obtain ⟨k, rfl⟩ : ∃ k : Nat, n = (k : Int) := ⟨n.toNat, by omega⟩
  rw [Lib.itoa_nonneg]
  unfold dg
  by_cases h : k < 10
  · rw [Lib.decDigits_one h, if_pos (by omega)]; rfl
  · have : k = 10 ∨ k = 11 := by omega
    rw [if_neg (by omega), Lib.decDigits, dif_neg h]
    rcases this with rfl | rfl
    · rw [Lib.decDigits_one (by omega)]; rfl
    · rw [Lib.decDigits_one (by omega)]; rfl

def plS (t : Int) : Int := if t = 2 then 0 else 1
def hows : List UInt8 := [78, 66, 67, 76, 83, 72, 82, 84, 79, 77, 81]
def hch (h : Int) : UInt8 := hows.getD h.toNat 0
def srcs : List UInt8 := [46, 111, 98, 108]
def pT (d : Dl) : List UInt8 := if d.t = 2 then [119] else if d.t = 3 then [110] else []
def pS (d : Dl) : List UInt8 := if d.s = plS d.t then [] else [srcs.getD d.s.toNat 0]
def pR (d : Dl) : List UInt8 := if d.r = 0 ∧ ¬ (d.t ≠ 2 ∧ d.s = plS d.t ∧ d.b = 0) then [] else dg d.r
def pB (d : Dl) : List UInt8 := if d.b = 0 then [] else if d.b = 4 then [70] else [83]
def pH (d : Dl) : List UInt8 := if d.sh = 0 then [] else 45 :: dg d.sh
def pX (d : Dl) : List UInt8 := if d.x = true then [120] else []
def pG (d : Dl) : List UInt8 := if d.g = 0 then [] else 44 :: dg d.g
def pU (d : Dl) : List UInt8 := if d.u = true then [115] else []
def fdz (d : Dl) : Prop := d.f = 0 ∧ d.g = 0 ∧ d.u = false
instance (d : Dl) : Decidable (fdz d) := by unfold fdz; infer_instance
def pF (d : Dl) : List UInt8 := if fdz d then [] else 40 :: (dg d.f ++ (pG d ++ (pU d ++ [41])))
def pW (d : Dl) : List UInt8 := if d.h = 0 ∧ d.v = 0 ∧ fdz d then [] else 47 :: hch d.h :: (dg d.v ++ pF d)
def pZ (d : Dl) : List UInt8 := if d.z = 0 then [] else 64 :: dg d.z
def sym (d : Dl) : List UInt8 := pT d ++ (pS d ++ (pR d ++ (pB d ++ (pH d ++ (pX d ++ (pW d ++ pZ d))))))

/-- The first byte, 0 if there is none. -/
def sg (l : List UInt8) : Nat := match l with | [] => 0 | c :: _ => c.toNat
def isD (n : Nat) : Bool := decide (48 ≤ n) && decide (n ≤ 57)
abbrev Rdr := List UInt8 → List UInt8 × Int
def stT : Rdr := fun l => if sg l = 119 then (l.tail, 2) else if sg l = 110 then (l.tail, 3) else (l, 1)
def stS (t : Int) : Rdr := fun l => if sg l = 46 then (l.tail, 0) else if sg l = 111 then (l.tail, 1) else if sg l = 98 then (l.tail, 2) else if sg l = 108 then (l.tail, 3) else (l, plS t)
def stB : Rdr := fun l => if sg l = 70 then (l.tail, 4) else if sg l = 83 then (l.tail, 6) else (l, 0)
/-- A number behind a mark. -/
def stN (nm : Rdr) (c : Nat) : Rdr := fun l => if sg l = c then nm l.tail else (l, 0)
def stX (c : Nat) (l : List UInt8) : List UInt8 × Bool := if sg l = c then (l.tail, true) else (l, false)
structure Wk where
  h : Int
  v : Int
  f : Int
  g : Int
  u : Bool
def stF (nm : Rdr) (h v : Int) (l : List UInt8) : List UInt8 × Wk :=
  if sg l = 40 then ((stX 41 (stX 115 (stN nm 44 (nm l.tail).1).1).1).1, ⟨h, v, (nm l.tail).2, (stN nm 44 (nm l.tail).1).2, (stX 115 (stN nm 44 (nm l.tail).1).1).2⟩) else (l, ⟨h, v, 0, 0, false⟩)
def stO (nm wc : Rdr) (l : List UInt8) : List UInt8 × Wk := stF nm (wc l).2 (nm (wc l).1).2 (nm (wc l).1).1
def stW (nm wc : Rdr) (l : List UInt8) : List UInt8 × Wk := if sg l = 47 then stO nm wc l.tail else (l, ⟨0, 0, 0, 0, false⟩)
def rdG (nm wc : Rdr) (l : List UInt8) : Dl :=
  let a1 := stT l
  let a2 := stS a1.2 a1.1
  let a3 := nm a2.1
  let a4 := stB a3.1
  let a5 := stN nm 45 a4.1
  let a6 := stX 120 a5.1
  let a7 := stW nm wc a6.1
  let a8 := stN nm 64 a7.1
  ⟨a1.2, a2.2, a3.2, a5.2, a4.2, a6.2, a7.2.h, a7.2.v, a7.2.f, a7.2.g, a7.2.u, a8.2⟩

structure Good (nm wc : Rdr) : Prop where
  num : ∀ n : Int, 0 ≤ n → n ≤ 11 → ∀ l, isD (sg l) = false → nm (dg n ++ l) = (l, n)
  none : ∀ l, isD (sg l) = false → nm l = (l, 0)
  how : ∀ h : Int, 0 ≤ h → h ≤ 10 → ∀ l, wc (hch h :: l) = (l, h)

theorem sg_dg {n : Int} (h0 : 0 ≤ n) (h1 : n ≤ 11) (l : List UInt8) : 48 ≤ sg (dg n ++ l) ∧ sg (dg n ++ l) ≤ 57 := by
  rcases upto11 h0 h1 with rfl | rfl | rfl | rfl | rfl | rfl | rfl | rfl | rfl | rfl | rfl | rfl <;> exact ⟨Nat.le_of_ble_eq_true rfl, Nat.le_of_ble_eq_true rfl⟩
theorem isD_no {n : Nat} (h : n < 48 ∨ 57 < n) : isD n = false := by unfold isD; simp; omega
theorem sgZ (d : Dl) : sg (pZ d) = 0 ∨ sg (pZ d) = 64 := by
  unfold pZ; by_cases h : d.z = 0
  · rw [if_pos h]; left; rfl
  · rw [if_neg h]; right; rfl
theorem sgW (d : Dl) : sg (pW d ++ pZ d) = 47 ∨ sg (pW d ++ pZ d) = 0 ∨ sg (pW d ++ pZ d) = 64 := by
  unfold pW; by_cases h : d.h = 0 ∧ d.v = 0 ∧ fdz d
  · rw [if_pos h, List.nil_append]; right; exact sgZ d
  · rw [if_neg h]; left; rfl
theorem sgX (d : Dl) (l : List UInt8) : sg (pX d ++ l) = 120 ∨ sg (pX d ++ l) = sg l := by
  unfold pX; by_cases h : d.x = true
  · rw [if_pos h]; left; rfl
  · rw [if_neg h]; right; rfl
theorem sgH (d : Dl) (l : List UInt8) : sg (pH d ++ l) = 45 ∨ sg (pH d ++ l) = sg l := by
  unfold pH; by_cases h : d.sh = 0
  · rw [if_pos h]; right; rfl
  · rw [if_neg h]; left; rfl
theorem sgB (d : Dl) (l : List UInt8) : sg (pB d ++ l) = 70 ∨ sg (pB d ++ l) = 83 ∨ sg (pB d ++ l) = sg l := by
  unfold pB; by_cases h : d.b = 0
  · rw [if_pos h]; right; right; rfl
  · by_cases h4 : d.b = 4
    · rw [if_neg h, if_pos h4]; left; rfl
    · rw [if_neg h, if_neg h4]; right; left; rfl
theorem sgR (d : Dl) (h0 : 0 ≤ d.r) (h1 : d.r ≤ 11) (l : List UInt8) : (48 ≤ sg (pR d ++ l) ∧ sg (pR d ++ l) ≤ 57) ∨ sg (pR d ++ l) = sg l := by
  unfold pR; split
  · right; rfl
  · left; exact sg_dg h0 h1 l

section
variable {nm wc : Rdr} (hg : Good nm wc)
include hg
theorem back_N (c : UInt8) (n : Int) (h0 : 0 ≤ n) (h1 : n ≤ 11) (l : List UInt8) (hl : isD (sg l) = false) (hc : sg l ≠ c.toNat) :
    stN nm c.toNat ((if n = 0 then [] else c :: dg n) ++ l) = (l, n) := by
  unfold stN
  by_cases h : n = 0
  · rw [if_pos h, List.nil_append, if_neg hc, h]
  · rw [if_neg h, List.cons_append, if_pos (show sg (c :: (dg n ++ l)) = c.toNat from rfl), List.tail_cons]
    exact hg.num n h0 h1 l hl
theorem back_F (d : Dl) (hf : 0 ≤ d.f ∧ d.f ≤ 11) (hg2 : 0 ≤ d.g ∧ d.g ≤ 11) (l : List UInt8) (hl : sg l ≠ 40) : stF nm d.h d.v (pF d ++ l) = (l, ⟨d.h, d.v, d.f, d.g, d.u⟩) := by
  unfold stF pF
  by_cases h : fdz d
  · rw [if_pos h, List.nil_append, if_neg hl]
    obtain ⟨h1, h2, h3⟩ := h
    rw [h1, h2, h3]
  · rw [if_neg h, List.cons_append, if_pos (show sg (40 :: (dg d.f ++ (pG d ++ (pU d ++ [41])) ++ l)) = 40 from rfl), List.tail_cons]
    have e : dg d.f ++ (pG d ++ (pU d ++ [41])) ++ l = dg d.f ++ (pG d ++ (pU d ++ 41 :: l)) := by simp
    rw [e]
    have sU : sg (pU d ++ 41 :: l) = 115 ∨ sg (pU d ++ 41 :: l) = 41 := by
      unfold pU; by_cases h : d.u = true
      · rw [if_pos h]; left; rfl
      · rw [if_neg h]; right; rfl
    have sG : sg (pG d ++ (pU d ++ 41 :: l)) = 44 ∨ sg (pG d ++ (pU d ++ 41 :: l)) = sg (pU d ++ 41 :: l) := by
      unfold pG; by_cases h : d.g = 0
      · rw [if_pos h]; right; rfl
      · rw [if_neg h]; left; rfl
    have n1 := hg.num d.f hf.1 hf.2 (pG d ++ (pU d ++ 41 :: l)) (isD_no (by omega))
    have n2 : stN nm 44 (pG d ++ (pU d ++ 41 :: l)) = (pU d ++ 41 :: l, d.g) := back_N hg 44 d.g hg2.1 hg2.2 _ (isD_no (by omega)) (by show _ ≠ 44; omega)
    have n3 : stX 115 (pU d ++ 41 :: l) = (41 :: l, d.u) := by
      cases hu : d.u
      · have hp : pU d = [] := by unfold pU; rw [hu]; rfl
        rw [hp]; rfl
      · have hp : pU d = [115] := by unfold pU; rw [hu]; rfl
        rw [hp]; rfl
    have n4 : stX 41 (41 :: l) = (l, true) := rfl
    rw [n1, n2, n3, n4]
theorem back_W (d : Dl) (h1 : okT d) (h2 : okR d) (hw : Wf d) (l : List UInt8) (hl : sg l = 0 ∨ sg l = 64) : stW nm wc (pW d ++ l) = (l, ⟨d.h, d.v, d.f, d.g, d.u⟩) := by
  unfold stW pW
  by_cases h : d.h = 0 ∧ d.v = 0 ∧ fdz d
  · rw [if_pos h, List.nil_append, if_neg (by omega)]
    obtain ⟨e1, e2, e3, e4, e5⟩ := h
    rw [e1, e2, e3, e4, e5]
  · rw [if_neg h, List.cons_append, List.cons_append, if_pos (show sg (47 :: hch d.h :: (dg d.v ++ pF d ++ l)) = 47 from rfl), List.tail_cons]
    unfold stO
    rw [hg.how d.h hw.2.2 h1.2.2.2]
    have e : dg d.v ++ pF d ++ l = dg d.v ++ (pF d ++ l) := by simp
    have sF : sg (pF d ++ l) = 40 ∨ sg (pF d ++ l) = sg l := by
      unfold pF; by_cases h : fdz d
      · rw [if_pos h]; right; rfl
      · rw [if_neg h]; left; rfl
    rw [e, hg.num d.v h2.2.2.2.1.1 (by have := h2.2.2.2.1.2; omega) _ (isD_no (by omega))]
    exact back_F hg d h2.2.2.2.2.1 h2.2.2.2.2.2.1 l (by omega)
theorem read_back (d : Dl) (hw : Wf d) (hc : chk d = 0) : rdG nm wc (sym d) = d := by
  obtain ⟨h1, h2⟩ := chk_ok hc
  have z0 := sgZ d
  have z1 := sgW d
  have z2 := sgX d (pW d ++ pZ d)
  have z3 := sgH d (pX d ++ (pW d ++ pZ d))
  have z4 := sgB d (pH d ++ (pX d ++ (pW d ++ pZ d)))
  have z5 := sgR d h2.1.1 (by have := h2.1.2; omega) (pB d ++ (pH d ++ (pX d ++ (pW d ++ pZ d))))
  have z6 : sg (pS d ++ (pR d ++ (pB d ++ (pH d ++ (pX d ++ (pW d ++ pZ d)))))) = 46 ∨ sg (pS d ++ (pR d ++ (pB d ++ (pH d ++ (pX d ++ (pW d ++ pZ d)))))) = 111 ∨ sg (pS d ++ (pR d ++ (pB d ++ (pH d ++ (pX d ++ (pW d ++ pZ d)))))) = 98 ∨ sg (pS d ++ (pR d ++ (pB d ++ (pH d ++ (pX d ++ (pW d ++ pZ d)))))) = 108 ∨ sg (pS d ++ (pR d ++ (pB d ++ (pH d ++ (pX d ++ (pW d ++ pZ d)))))) = sg (pR d ++ (pB d ++ (pH d ++ (pX d ++ (pW d ++ pZ d))))) := by
    unfold pS
    by_cases h : d.s = plS d.t
    · rw [if_pos h, List.nil_append]; right; right; right; right; rfl
    · rw [if_neg h]
      have : d.s = 0 ∨ d.s = 1 ∨ d.s = 2 ∨ d.s = 3 := by have := h1.2.2.1; have := hw.2.1; omega
      rcases this with e | e | e | e <;> rw [e]
      · left; rfl
      · right; left; rfl
      · right; right; left; rfl
      · right; right; right; left; rfl
  have f1 : stT (sym d) = (pS d ++ (pR d ++ (pB d ++ (pH d ++ (pX d ++ (pW d ++ pZ d))))), d.t) := by
    unfold sym stT pT
    by_cases t2 : d.t = 2
    · rw [if_pos t2, if_pos (by rfl)]; rw [t2]; rfl
    · by_cases t3 : d.t = 3
      · rw [if_neg t2, if_pos t3, if_neg (by show ¬ (110 : Nat) = 119; decide), if_pos (by rfl)]; rw [t3]; rfl
      · rw [if_neg t2, if_neg t3, List.nil_append, if_neg (by omega), if_neg (by omega)]
        have : d.t = 1 := by have := h1.1; have := h1.2.1; omega
        rw [this]
  have f2 : stS d.t (pS d ++ (pR d ++ (pB d ++ (pH d ++ (pX d ++ (pW d ++ pZ d)))))) = (pR d ++ (pB d ++ (pH d ++ (pX d ++ (pW d ++ pZ d)))), d.s) := by
    unfold stS pS
    by_cases h : d.s = plS d.t
    · rw [if_pos h, List.nil_append, if_neg (by omega), if_neg (by omega), if_neg (by omega), if_neg (by omega), ← h]
    · rw [if_neg h]
      have : d.s = 0 ∨ d.s = 1 ∨ d.s = 2 ∨ d.s = 3 := by have := h1.2.2.1; have := hw.2.1; omega
      rcases this with e | e | e | e <;> rw [e] <;> rfl
  have f3 : nm (pR d ++ (pB d ++ (pH d ++ (pX d ++ (pW d ++ pZ d))))) = (pB d ++ (pH d ++ (pX d ++ (pW d ++ pZ d))), d.r) := by
    unfold pR
    split
    · rename_i h
      rw [List.nil_append, hg.none _ (isD_no (by omega)), h.1]
    · exact hg.num d.r h2.1.1 (by have := h2.1.2; omega) _ (isD_no (by omega))
  have f4 : stB (pB d ++ (pH d ++ (pX d ++ (pW d ++ pZ d)))) = (pH d ++ (pX d ++ (pW d ++ pZ d)), d.b) := by
    rcases h2.2.2.1 with e | e | e
    · have hp : pB d = [] := by unfold pB; rw [if_pos e]
      rw [hp, e, List.nil_append]; unfold stB; rw [if_neg (by omega), if_neg (by omega)]
    · have hp : pB d = [70] := by unfold pB; rw [e]; rfl
      rw [hp, e]; rfl
    · have hp : pB d = [83] := by unfold pB; rw [e]; rfl
      rw [hp, e]; rfl
  have f5 : stN nm 45 (pH d ++ (pX d ++ (pW d ++ pZ d))) = (pX d ++ (pW d ++ pZ d), d.sh) :=
    back_N hg 45 d.sh h2.2.1.1 (by have := h2.2.1.2; have := h2.1.2; omega) _ (isD_no (by omega)) (by show _ ≠ 45; omega)
  have f6 : stX 120 (pX d ++ (pW d ++ pZ d)) = (pW d ++ pZ d, d.x) := by
    cases hx : d.x
    · have hp : pX d = [] := by unfold pX; rw [hx]; rfl
      rw [hp, List.nil_append]; unfold stX; rw [if_neg (by omega)]
    · have hp : pX d = [120] := by unfold pX; rw [hx]; rfl
      rw [hp]; rfl
  have f7 := back_W hg d h1 h2 hw (pZ d) z0
  have f8 : stN nm 64 (pZ d) = ([], d.z) := by
    have := back_N hg 64 d.z h2.2.2.2.2.2.2.1 (by have := h2.2.2.2.2.2.2.2; omega) [] rfl (by decide)
    rw [List.append_nil] at this
    exact this
  unfold rdG
  rw [f1]
  dsimp only
  rw [f2]
  dsimp only
  rw [f3]
  dsimp only
  rw [f4]
  dsimp only
  rw [f5]
  dsimp only
  rw [f6]
  dsimp only
  rw [f7]
  dsimp only
  rw [f8]
end

/-- The program's reader of numbers: digits till the number is too great. -/
def nmP : List UInt8 → Int → List UInt8 × Int
  | [], n => ([], n)
  | c :: r, n => if n ≤ 11 ∧ isD c.toNat = true then nmP r (10 * n + ((c.toNat : Int) - 48)) else (c :: r, n)
theorem nmP_stop (l : List UInt8) (n : Int) (h : isD (sg l) = false) : nmP l n = (l, n) := by
  cases l with
  | nil => rfl
  | cons c r => unfold nmP; rw [if_neg (fun h2 => by have h3 : isD c.toNat = false := h; rw [h2.2] at h3; cases h3)]
/-- The reference's: two digits at most. -/
def nmR (l : List UInt8) : List UInt8 × Int :=
  if isD (sg l) = true then (if isD (sg l.tail) = true then (l.tail.tail, 10 * ((sg l : Int) - 48) + ((sg l.tail : Int) - 48)) else (l.tail, (sg l : Int) - 48)) else (l, 0)
def wcP (l : List UInt8) : List UInt8 × Int := match l with | [] => ([], 0) | c :: r => if c ∈ hows then (r, (hows.idxOf c : Int)) else (c :: r, 0)
def wcR (l : List UInt8) : List UInt8 × Int := match l with | [] => ([], 0) | c :: r => if c ∈ hows then (r, (hows.idxOf c : Int)) else (r, 0)
theorem upto10 {n : Int} (h0 : 0 ≤ n) (h1 : n ≤ 10) : n = 0 ∨ n = 1 ∨ n = 2 ∨ n = 3 ∨ n = 4 ∨ n = 5 ∨ n = 6 ∨ n = 7 ∨ n = 8 ∨ n = 9 ∨ n = 10 := by omega
theorem goodP : Good (fun l => nmP l 0) wcP := by
  refine ⟨?_, fun l h => nmP_stop l 0 h, ?_⟩
  · intro n h0 h1 l hl
    rcases upto11 h0 h1 with rfl | rfl | rfl | rfl | rfl | rfl | rfl | rfl | rfl | rfl | rfl | rfl
    all_goals
      first
        | exact nmP_stop l _ hl
  · intro h h0 h1 l
    rcases upto10 h0 h1 with rfl | rfl | rfl | rfl | rfl | rfl | rfl | rfl | rfl | rfl | rfl <;> rfl
theorem goodR : Good nmR wcR := by
  refine ⟨?_, fun l h => by unfold nmR; rw [if_neg (by rw [h]; simp)], ?_⟩
  · intro n h0 h1 l hl
    have h2 : ¬ isD (sg l) = true := by rw [hl]; simp
    rcases upto11 h0 h1 with rfl | rfl | rfl | rfl | rfl | rfl | rfl | rfl | rfl | rfl | rfl | rfl
    iterate 10
      · unfold nmR
        rw [if_pos (by rfl)]
        exact if_neg h2
    all_goals rfl
  · intro h h0 h1 l
    rcases upto10 h0 h1 with rfl | rfl | rfl | rfl | rfl | rfl | rfl | rfl | rfl | rfl | rfl <;> rfl
abbrev rdP (l : List UInt8) : Dl := rdG (fun l => nmP l 0) wcP l
abbrev rdR (l : List UInt8) : Dl := rdG nmR wcR l
end Go.Proofs.YtdgmogmldfhgcaaGreatDoor
