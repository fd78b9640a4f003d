/- Contracts of Text and Parse of package overs. -/
import Derived.Test.YtnpnippgfkehaaaDoorOvB
set_option linter.unusedSimpArgs false
set_option linter.unusedVariables false
namespace Go.Proofs.YtnpnippgfkehaaaDoor
open Go.RowKit

def txL (b p : Int) : List UInt8 := if cntB b && perB p then Lib.itoa (ofQ b p) ++ 46 :: Lib.itoa (ofR b p) else []
def txE (b p : Int) : Int := if cntB b && perB p then 0 else 2
theorem ofQ_bd (b p : Int) : 0 ≤ ofQ b p ∧ ofQ b p ≤ 1000000 := by
  unfold ofQ
  cases h : (cntB b && perB p)
  · simp
  · simp only [Bool.and_eq_true] at h
    obtain ⟨p1, p2⟩ := perB_1 h.2
    obtain ⟨b1, b2⟩ := cntB_1 h.1
    have h1 := Int.ediv_nonneg b1 (show 0 ≤ p by omega)
    have h2 := Int.ediv_le_self p b1
    simp only [if_true]; omega
theorem ofR_bd (b p : Int) : 0 ≤ ofR b p ∧ ofR b p ≤ 7 := by
  unfold ofR
  cases h : (cntB b && perB p)
  · simp
  · simp only [Bool.and_eq_true] at h
    obtain ⟨p1, p2⟩ := perB_1 h.2
    have h1 := Int.emod_nonneg b (show p ≠ 0 by omega)
    have h2 := Int.emod_lt_of_pos b (show 0 < p by omega)
    simp only [if_true]; omega
theorem itoa_small (n : Int) (h0 : 0 ≤ n) (h1 : n ≤ 1000000) : (str (Lib.itoa n)).size ≤ 30 := by
  rw [str_size]
  have := Lib.itoa_length_le n (by omega) (by omega)
  omega
theorem str_dot : (⟨#[46]⟩ : ByteArray) = str [46] := rfl
theorem str_dots (a b : List UInt8) : str a ++ ⟨#[46]⟩ ++ str b = str (a ++ 46 :: b) := by
  rw [str_dot, str_app, str_app]; simp

theorem text_any (b p : Int) (w : World) (henv : Env w) :
    Calls Tryd.prog 13 #[.int .i64 b, .int .i64 p] w fun e w' => e = .returned (.tuple #[S (txL b p), .int .i64 (txE b p)]) ∧ Below w.heap.size w w' := by
  have HC : Hid (∀ w, Calls Tryd.prog 26 #[.int .i64 b] w fun e w' => e = .returned (.bool (cntB b)) ∧ w = w') := Lib.hid (isCount_any b)
  have HP : Hid (∀ w, Calls Tryd.prog 27 #[.int .i64 p] w fun e w' => e = .returned (.bool (perB p)) ∧ w = w') := Lib.hid (isPer_any p)
  have HE := Lib.hid henv
  rcases two_cases (cntB b) (perB p) with ⟨h1, e⟩ | ⟨h1, h2, e⟩ | ⟨h1, h2, e⟩
  · have e1 : txL b p = [] := by unfold txL; rw [e]; rfl
    have e2 : txE b p = 2 := by unfold txE; rw [e]; rfl
    rw [e1, e2]
    rw [h1] at HC
    clear h1 e e1 e2 henv
    go_enter Tryd.func13, Tryd.ntmps13
    go_wp2_with (go_at_call 26; ((with_reducible refine (HC.out _).mono ?_); rintro e w' ⟨rfl, rfl⟩))
    go_returns
    exact ⟨rfl, by (repeat' (first | (with_reducible exact Below.refl _ _) | (with_reducible refine Below.setCell ?_ ?_ _) | (with_reducible refine Below.alloc ?_ ?_ _) | (with_reducible refine Below.drew ?_) | (with_reducible refine belowN ?_ _) | (with_reducible refine below_step ?_ ?_ (by with_reducible assumption)) | go_size))⟩
  · have e1 : txL b p = [] := by unfold txL; rw [e]; rfl
    have e2 : txE b p = 2 := by unfold txE; rw [e]; rfl
    rw [e1, e2]
    rw [h1] at HC
    rw [h2] at HP
    clear h1 h2 e e1 e2 henv
    go_enter Tryd.func13, Tryd.ntmps13
    go_wp2_with (first | (go_at_call 26; ((with_reducible refine (HC.out _).mono ?_); rintro e w' ⟨rfl, rfl⟩)) | (go_at_call 27; ((with_reducible refine (HP.out _).mono ?_); rintro e w' ⟨rfl, rfl⟩)))
    go_returns
    exact ⟨rfl, by (repeat' (first | (with_reducible exact Below.refl _ _) | (with_reducible refine Below.setCell ?_ ?_ _) | (with_reducible refine Below.alloc ?_ ?_ _) | (with_reducible refine Below.drew ?_) | (with_reducible refine belowN ?_ _) | (with_reducible refine below_step ?_ ?_ (by with_reducible assumption)) | go_size))⟩
  · have e1 : txL b p = Lib.itoa (ofQ b p) ++ 46 :: Lib.itoa (ofR b p) := by unfold txL; rw [e]; rfl
    have e2 : txE b p = 0 := by unfold txE; rw [e]; rfl
    rw [e1, e2]
    have HO : Hid (∀ w, Calls Tryd.prog 11 #[.int .i64 b, .int .i64 p] w fun e w' => e = .returned (.tuple #[.int .i64 (ofQ b p), .int .i64 (ofR b p)]) ∧ ∃ k, w' = w.drewN k) := Lib.hid (of_any b p)
    obtain ⟨q0, q1⟩ := ofQ_bd b p
    obtain ⟨r0, r1⟩ := ofR_bd b p
    rw [h1] at HC
    rw [h2] at HP
    clear h1 h2 e e1 e2 henv
    generalize ofQ b p = x at *
    generalize ofR b p = y at *
    have z1 := itoa_small x q0 q1
    have z2 := itoa_small y r0 (by omega)
    have HX : Hid (∀ w', Env w' → Calls Tryd.prog 29 #[.int .i64 x] w' fun e w'' => e = .returned (S (Lib.itoa x)) ∧ Below w'.heap.size w' w'') := Lib.hid (fun w' h => decimal_any x w' (by unfold I64; omega) h)
    have HY : Hid (∀ w', Env w' → Calls Tryd.prog 29 #[.int .i64 y] w' fun e w'' => e = .returned (S (Lib.itoa y)) ∧ Below w'.heap.size w' w'') := Lib.hid (fun w' h => decimal_any y w' (by unfold I64; omega) h)
    go_enter Tryd.func13, Tryd.ntmps13
    go_wp2_with (first | (go_at_call 26; ((with_reducible refine (HC.out _).mono ?_); rintro e w' ⟨rfl, rfl⟩)) | (go_at_call 27; ((with_reducible refine (HP.out _).mono ?_); rintro e w' ⟨rfl, rfl⟩)) | (go_at_call 11; ((with_reducible refine (HO.out _).mono ?_); rintro e w' ⟨rfl, k, rfl⟩)) | (go_at_call 29; (with_reducible refine (HX.out _ ?_).mono ?_); (focus (exact HE.out.stays (by (repeat' (first | (with_reducible exact Below.refl _ _) | (with_reducible refine Below.setCell ?_ ?_ _) | (with_reducible refine Below.alloc ?_ ?_ _) | (with_reducible refine Below.drew ?_) | (with_reducible refine belowN ?_ _) | (with_reducible refine below_step ?_ ?_ (by with_reducible assumption)) | go_size))))); rintro e w1 ⟨rfl, hb1⟩; have hz1 := hb1.size; (try simp only [World.size_alloc, World.size_setCell, World.size_drew, size_drewN'] at hz1)) | (go_at_call 29; (with_reducible refine (HY.out _ ?_).mono ?_); (focus (exact HE.out.stays (by (repeat' (first | (with_reducible exact Below.refl _ _) | (with_reducible refine Below.setCell ?_ ?_ _) | (with_reducible refine Below.alloc ?_ ?_ _) | (with_reducible refine Below.drew ?_) | (with_reducible refine belowN ?_ _) | (with_reducible refine below_step ?_ ?_ (by with_reducible assumption)) | go_size))))); rintro e w2 ⟨rfl, hb2⟩; have hz2 := hb2.size; (try simp only [World.size_alloc, World.size_setCell, World.size_drew, size_drewN'] at hz2)))
    go_returns
    exact ⟨by rw [str_dots]; rfl, by (repeat' (first | (with_reducible exact Below.refl _ _) | (with_reducible refine Below.setCell ?_ ?_ _) | (with_reducible refine Below.alloc ?_ ?_ _) | (with_reducible refine Below.drew ?_) | (with_reducible refine belowN ?_ _) | (with_reducible refine below_step ?_ ?_ (by with_reducible assumption)) | go_size))⟩

def prA (l : List UInt8) : List UInt8 := (Lib.cut l [46]).1
def prB (l : List UInt8) : List UInt8 := (Lib.cut l [46]).2.1
def prS (l : List UInt8) (p : Int) : Int := numV (prA l) 0 1000000 * p + numV (prB l) 0 (p - 1)
def prE (l : List UInt8) (p : Int) : Int := if perB p then (if numE (prA l) 0 1000000 = 0 ∧ numE (prB l) 0 (p - 1) = 0 ∧ prS l p ≤ 1000000 then 0 else 4) else 2
def prV (l : List UInt8) (p : Int) : Int := if prE l p = 0 then prS l p else 0
theorem cut_len (l : List UInt8) : (prA l).length ≤ l.length ∧ (prB l).length ≤ l.length := by
  unfold prA prB Lib.cut
  split <;> simp
  · omega
theorem numV_bd (l : List UInt8) (lo hi : Int) (h0 : lo ≤ 0) (h1 : 0 ≤ hi) : lo ≤ numV l lo hi ∧ numV l lo hi ≤ hi := by
  unfold numV
  split
  · rename_i h
    unfold numE at h
    split at h
    · split at h
      · rename_i h2; simp at h2; omega
      · omega
    · omega
  · omega
theorem numE_cases (l : List UInt8) (lo hi : Int) : numE l lo hi = 0 ∨ (numE l lo hi != 0) = true := by
  by_cases h : numE l lo hi = 0
  · left; exact h
  · right; simpa using h
set_option maxHeartbeats 1000000 in
theorem parse_any (l : List UInt8) (p : Int) (w : World) (hl : l.length < 4294967281) (henv : Env w) :
    Calls Tryd.prog 15 #[S l, .int .i64 p] w fun e w' => e = .returned (.tuple #[.int .i64 (prV l p), .int .i64 (prE l p)]) ∧ Below w.heap.size w w' := by
  have HP : Hid (∀ w, Calls Tryd.prog 27 #[.int .i64 p] w fun e w' => e = .returned (.bool (perB p)) ∧ w = w') := Lib.hid (isPer_any p)
  have HE := Lib.hid henv
  cases hp : perB p
  · have e1 : prE l p = 2 := by simp [prE, hp]
    have e2 : prV l p = 0 := by simp [prV, e1]
    rw [e1, e2]
    rw [hp] at HP
    clear hp e1 e2 henv
    go_enter Tryd.func15, Tryd.ntmps15
    go_wp2_with (go_at_call 27; ((with_reducible refine (HP.out _).mono ?_); rintro e w' ⟨rfl, rfl⟩))
    go_returns
    exact ⟨rfl, by (repeat' (first | (with_reducible exact Below.refl _ _) | (with_reducible refine Below.setCell ?_ ?_ _) | (with_reducible refine Below.alloc ?_ ?_ _) | (with_reducible refine Below.drew ?_) | (with_reducible refine belowN ?_ _) | (with_reducible refine below_step ?_ ?_ (by with_reducible assumption)) | go_size))⟩
  · obtain ⟨p1, p2⟩ := perB_1 hp
    obtain ⟨c1, c2⟩ := cut_len l
    have HC : Hid (∀ w', Env w' → ∃ o : Bool, Calls Tryd.prog 31 #[S l, .string ⟨#[46]⟩] w' fun e w'' => e = .returned (.tuple #[S (prA l), S (prB l), .bool o]) ∧ Below w'.heap.size w' w'') := Lib.hid (fun w' h => ⟨_, cut_any l [46] w' hl h⟩)
    have HN1 : Hid (∀ w', Env w' → Calls Tryd.prog 32 #[S (prA l), .int .i64 0, .int .i64 1000000] w' fun e w'' => e = .returned (.tuple #[.int .i64 (numV (prA l) 0 1000000), .int .i64 (numE (prA l) 0 1000000)]) ∧ Below w'.heap.size w' w'') := Lib.hid (fun w' h => number_any _ _ _ w' (by omega) (by unfold I64; omega) (by unfold I64; omega) h)
    have HN2 : Hid (∀ w', Env w' → Calls Tryd.prog 32 #[S (prB l), .int .i64 0, .int .i64 (p - 1)] w' fun e w'' => e = .returned (.tuple #[.int .i64 (numV (prB l) 0 (p - 1)), .int .i64 (numE (prB l) 0 (p - 1))]) ∧ Below w'.heap.size w' w'') := Lib.hid (fun w' h => number_any _ _ _ w' (by omega) (by unfold I64; omega) (by unfold I64; omega) h)
    obtain ⟨a0, a1⟩ := numV_bd (prA l) 0 1000000 (by omega) (by omega)
    obtain ⟨b0, b1⟩ := numV_bd (prB l) 0 (p - 1) (by omega) (by omega)
    obtain ⟨m1, m2⟩ := mul_bd (a := numV (prA l) 0 1000000) (b := p) a0 a1 (by omega) p2
    have ht : ((numE (prA l) 0 1000000 != 0) = true ∧ prE l p = 4 ∧ prV l p = 0) ∨ (numE (prA l) 0 1000000 = 0 ∧ (numE (prB l) 0 (p - 1) != 0) = true ∧ prE l p = 4 ∧ prV l p = 0) ∨ (numE (prA l) 0 1000000 = 0 ∧ numE (prB l) 0 (p - 1) = 0 ∧ 1000000 < numV (prA l) 0 1000000 * p + numV (prB l) 0 (p - 1) ∧ prE l p = 4 ∧ prV l p = 0) ∨
        (numE (prA l) 0 1000000 = 0 ∧ numE (prB l) 0 (p - 1) = 0 ∧ ¬ 1000000 < numV (prA l) 0 1000000 * p + numV (prB l) 0 (p - 1) ∧ prE l p = 0 ∧ prV l p = numV (prA l) 0 1000000 * p + numV (prB l) 0 (p - 1)) := by
      rcases numE_cases (prA l) 0 1000000 with h1 | h1
      · rcases numE_cases (prB l) 0 (p - 1) with h2 | h2
        · by_cases h3 : 1000000 < numV (prA l) 0 1000000 * p + numV (prB l) 0 (p - 1)
          · have e1 : prE l p = 4 := by unfold prE; rw [if_pos hp, if_neg (by unfold prS; omega)]
            exact Or.inr (Or.inr (Or.inl ⟨h1, h2, h3, e1, by simp [prV, e1]⟩))
          · have e1 : prE l p = 0 := by unfold prE; rw [if_pos hp, if_pos ⟨h1, h2, by unfold prS; omega⟩]
            exact Or.inr (Or.inr (Or.inr ⟨h1, h2, h3, e1, by unfold prV; rw [if_pos e1]; rfl⟩))
        · have h2' := bne_iff_ne.1 h2
          have e1 : prE l p = 4 := by unfold prE; rw [if_pos hp, if_neg (fun h => h2' h.2.1)]
          exact Or.inr (Or.inl ⟨h1, h2, e1, by simp [prV, e1]⟩)
      · have h1' := bne_iff_ne.1 h1
        have e1 : prE l p = 4 := by unfold prE; rw [if_pos hp, if_neg (fun h => h1' h.1)]
        exact Or.inl ⟨h1, e1, by simp [prV, e1]⟩
    rw [hp] at HP
    clear hp henv
    generalize numV (prA l) 0 1000000 = x at *
    generalize numV (prB l) 0 (p - 1) = y at *
    generalize numE (prA l) 0 1000000 = ex at *
    generalize numE (prB l) 0 (p - 1) = ey at *
    generalize prA l = A at *
    generalize prB l = B at *
    rcases ht with ⟨h1, e1, e2⟩ | ⟨h1, h2, e1, e2⟩ | ⟨h1, h2, h3, e1, e2⟩ | ⟨h1, h2, h3, e1, e2⟩
    all_goals
      rw [e1, e2]
      clear e1 e2
      (try subst h1)
      (try subst h2)
      go_enter Tryd.func15, Tryd.ntmps15
      go_wp2_with (first | (go_at_call 27; ((with_reducible refine (HP.out _).mono ?_); rintro e w' ⟨rfl, rfl⟩)) | (go_at_call 31; (obtain ⟨o, ho⟩ := HC.out _ (HE.out.stays (by (repeat' (first | (with_reducible exact Below.refl _ _) | (with_reducible refine Below.setCell ?_ ?_ _) | (with_reducible refine Below.alloc ?_ ?_ _) | (with_reducible refine Below.drew ?_) | (with_reducible refine belowN ?_ _) | (with_reducible refine below_step ?_ ?_ (by with_reducible assumption)) | go_size))))); ((with_reducible refine ho.mono ?_); clear ho; rintro e w1 ⟨rfl, hb1⟩; have hz1 := hb1.size; (try simp only [World.size_alloc, World.size_setCell, World.size_drew, size_drewN'] at hz1))) | (go_at_call 32; (with_reducible refine (HN1.out _ ?_).mono ?_); (focus (exact HE.out.stays (by (repeat' (first | (with_reducible exact Below.refl _ _) | (with_reducible refine Below.setCell ?_ ?_ _) | (with_reducible refine Below.alloc ?_ ?_ _) | (with_reducible refine Below.drew ?_) | (with_reducible refine belowN ?_ _) | (with_reducible refine below_step ?_ ?_ (by with_reducible assumption)) | go_size))))); rintro e w2 ⟨rfl, hb2⟩; have hz2 := hb2.size; (try simp only [World.size_alloc, World.size_setCell, World.size_drew, size_drewN'] at hz2)) | (go_at_call 32; (with_reducible refine (HN2.out _ ?_).mono ?_); (focus (exact HE.out.stays (by (repeat' (first | (with_reducible exact Below.refl _ _) | (with_reducible refine Below.setCell ?_ ?_ _) | (with_reducible refine Below.alloc ?_ ?_ _) | (with_reducible refine Below.drew ?_) | (with_reducible refine belowN ?_ _) | (with_reducible refine below_step ?_ ?_ (by with_reducible assumption)) | go_size))))); rintro e w3 ⟨rfl, hb3⟩; have hz3 := hb3.size; (try simp only [World.size_alloc, World.size_setCell, World.size_drew, size_drewN'] at hz3)))
      go_returns
      exact ⟨rfl, by (repeat' (first | (with_reducible exact Below.refl _ _) | (with_reducible refine Below.setCell ?_ ?_ _) | (with_reducible refine Below.alloc ?_ ?_ _) | (with_reducible refine Below.drew ?_) | (with_reducible refine belowN ?_ _) | (with_reducible refine below_step ?_ ?_ (by with_reducible assumption)) | go_size))⟩
end Go.Proofs.YtnpnippgfkehaaaDoor
