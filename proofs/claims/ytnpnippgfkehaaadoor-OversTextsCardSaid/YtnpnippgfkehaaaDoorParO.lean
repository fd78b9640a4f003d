/- Contract of the reference's Parse of overs. -/
import Derived.Test.YtnpnippgfkehaaaDoorNumO
set_option linter.unusedSimpArgs false
set_option linter.unusedVariables false
namespace Go.Proofs.YtnpnippgfkehaaaDoor
open Go.RowKit

theorem ext_at (A B : List UInt8) (c : UInt8) (k : Nat) (hk : k = A.length) : (str (A ++ c :: B)).extract 0 k = str A := by
  subst hk
  apply ByteArray.ext
  apply Array.toList_inj.1
  rw [ByteArray.data_extract]
  simp [str, Array.toList_extract, List.extract_eq_take_drop]
theorem parted (c : UInt8) : ∀ l : List UInt8, (∃ A B, l = A ++ c :: B ∧ ∀ x ∈ A, x ≠ c) ∨ (∀ x ∈ l, x ≠ c) := by
  intro l
  induction l with
  | nil => right; intro x hx; cases hx
  | cons a r ih =>
    by_cases h : a = c
    · left; exact ⟨[], r, by rw [h]; rfl, fun x hx => by cases hx⟩
    · rcases ih with ⟨A, B, e, hA⟩ | hn
      · left; exact ⟨a :: A, B, by rw [e]; rfl, fun x hx => by
          rcases List.mem_cons.1 hx with rfl | hx
          · exact h
          · exact hA x hx⟩
      · right; intro x hx
        rcases List.mem_cons.1 hx with rfl | hx
        · exact h
        · exact hn x hx
theorem nat_ne {x c : UInt8} (h : x ≠ c) : ((x.toNat : Int) != (c.toNat : Int)) = true := by
  have : x.toNat ≠ c.toNat := fun e => h (UInt8.toNat_inj.1 e)
  simp; omega

set_option maxHeartbeats 4000000 in
theorem rparse_any (l : List UInt8) (p : Int) (w : World) (hl : l.length ≤ 1000) (hp64 : I64 p) :
    Calls Tryd.prog 16 #[S l, .int .i64 p] w fun e w' => e = .returned (.tuple #[.int .i64 (prV l p), .int .i64 (prE l p)]) ∧ Below w.heap.size w w' := by
  have HP : Hid (∀ w, Calls Tryd.prog 28 #[.int .i64 p] w fun e w' => e = .returned (.bool (perB p)) ∧ w = w') := Lib.hid (rper_any p)
  cases hp : perB p
  · have e1 : prE l p = 2 := by simp [prE, hp]
    have e2 : prV l p = 0 := by simp [prV, e1]
    rw [e1, e2]
    rw [hp] at HP
    clear hp e1 e2
    go_enter Tryd.func16, Tryd.ntmps16
    go_wp2_with (go_at_call 28; ((with_reducible refine (HP.out _).mono ?_); rintro e w' ⟨rfl, rfl⟩))
    go_returns
    exact ⟨rfl, by (repeat' (first | (with_reducible exact Below.refl _ _) | (with_reducible refine Below.setCell ?_ ?_ _) | (with_reducible refine Below.alloc ?_ ?_ _) | (with_reducible refine Below.drew ?_) | (with_reducible refine belowN ?_ _) | (with_reducible refine below_step ?_ ?_ (by with_reducible assumption)) | go_size))⟩
  · obtain ⟨p1, p2⟩ := perB_1 hp
    rw [hp] at HP
    rcases parted 46 l with ⟨A, B, hAB, hA⟩ | hA
    · have la : A.length ≤ 1000 := by rw [hAB] at hl; simp at hl; omega
      have lb : B.length ≤ 1000 := by rw [hAB] at hl; simp at hl; omega
      have hcut : Lib.cut l [46] = (A, B, true) := by rw [hAB]; exact cut_at 46 A B hA
      have ea : prA l = A := by unfold prA; rw [hcut]
      have eb : prB l = B := by unfold prB; rw [hcut]
      have HN1 : Hid (∀ w', Calls Tryd.prog 33 #[S A, .int .i64 0, .int .i64 1000000] w' fun e w'' => e = .returned (.tuple #[.int .i64 (numV A 0 1000000), .int .i64 (numE A 0 1000000)]) ∧ Below w'.heap.size w' w'') := Lib.hid (fun w' => rnumber_any A _ _ w' la (by unfold I64; omega) (by unfold I64; omega))
      have HN2 : Hid (∀ w', Calls Tryd.prog 33 #[S B, .int .i64 0, .int .i64 (p - 1)] w' fun e w'' => e = .returned (.tuple #[.int .i64 (numV B 0 (p - 1)), .int .i64 (numE B 0 (p - 1))]) ∧ Below w'.heap.size w' w'') := Lib.hid (fun w' => rnumber_any B _ _ w' lb (by unfold I64; omega) (by unfold I64; omega))
      obtain ⟨a0, a1⟩ := numV_bd A 0 1000000 (by omega) (by omega)
      obtain ⟨b0, b1⟩ := numV_bd B 0 (p - 1) (by omega) (by omega)
      obtain ⟨m1, m2⟩ := mul_bd (a := numV A 0 1000000) (b := p) a0 a1 (by omega) p2
      have ht : ((numE A 0 1000000 != 0) = true ∧ prE l p = 4 ∧ prV l p = 0) ∨ (numE A 0 1000000 = 0 ∧ (numE B 0 (p - 1) != 0) = true ∧ prE l p = 4 ∧ prV l p = 0) ∨ (numE A 0 1000000 = 0 ∧ numE B 0 (p - 1) = 0 ∧ 1000000 < numV A 0 1000000 * p + numV B 0 (p - 1) ∧ prE l p = 4 ∧ prV l p = 0) ∨
          (numE A 0 1000000 = 0 ∧ numE B 0 (p - 1) = 0 ∧ ¬ 1000000 < numV A 0 1000000 * p + numV B 0 (p - 1) ∧ prE l p = 0 ∧ prV l p = numV A 0 1000000 * p + numV B 0 (p - 1)) := by
        rcases numE_cases A 0 1000000 with h1 | h1
        · rcases numE_cases B 0 (p - 1) with h2 | h2
          · by_cases h3 : 1000000 < numV A 0 1000000 * p + numV B 0 (p - 1)
            · have e1 : prE l p = 4 := by unfold prE; rw [if_pos hp, ea, eb, if_neg (by unfold prS; rw [ea, eb]; omega)]
              exact Or.inr (Or.inr (Or.inl ⟨h1, h2, h3, e1, by simp [prV, e1]⟩))
            · have e1 : prE l p = 0 := by unfold prE; rw [if_pos hp, ea, eb, if_pos ⟨h1, h2, by unfold prS; rw [ea, eb]; omega⟩]
              exact Or.inr (Or.inr (Or.inr ⟨h1, h2, h3, e1, by unfold prV; rw [if_pos e1]; unfold prS; rw [ea, eb]⟩))
          · have h2' := bne_iff_ne.1 h2
            have e1 : prE l p = 4 := by unfold prE; rw [if_pos hp, ea, eb, if_neg (fun h => h2' h.2.1)]
            exact Or.inr (Or.inl ⟨h1, h2, e1, by simp [prV, e1]⟩)
        · have h1' := bne_iff_ne.1 h1
          have e1 : prE l p = 4 := by unfold prE; rw [if_pos hp, ea, eb, if_neg (fun h => h1' h.1)]
          exact Or.inl ⟨h1, e1, by simp [prV, e1]⟩
      have HR : Hid (∃ V E : Int, V = prV l p ∧ E = prE l p) := Lib.hid ⟨_, _, rfl, rfl⟩
      generalize hV : prV l p = V at *
      generalize hE : prE l p = E at *
      have z := str_size l
      have hz : (str l).size ≤ 1000 := by omega
      have hAl : A.length < (str l).size := by rw [z, hAB]; simp
      have HG : Hid (∀ (k : Nat) (h : k < (str l).size), k < A.length → (((((str l)[k]'h).toNat : Int)) != 46) = true) := Lib.hid (fun k h hk => by
        subst hAB
        rw [str_get _ k h (by omega), List.getElem_append_left hk]
        exact nat_ne (hA _ (List.getElem_mem hk)))
      have HEQ : Hid (∀ (h : A.length < (str l).size), ((str l)[A.length]'h).toNat = 46) := Lib.hid (fun h => by
        subst hAB
        rw [str_get _ _ h (by omega)]; simp)
      have HX : Hid (∀ k, k = A.length → (str l).extract 0 k = str A) := Lib.hid (fun k h => by subst hAB; exact ext_at A B 46 k h)
      have HY : Hid (∀ k n, k = A.length + 1 → n = (str l).size → (str l).extract k n = str B) := Lib.hid (fun k n h h2 => by subst hAB; exact ext_from A B 46 k n h h2)
      unfold S at HN1 HN2 ⊢
      clear hp hl hAB hA la lb hcut ea eb HR hV hE z hp64
      generalize str l = t at *
      have hxA := HX.out A.length rfl
      have hyB := HY.out (A.length + 1) t.size rfl rfl
      generalize A.length = a at *
      generalize numV A 0 1000000 = x at *
      generalize numV B 0 (p - 1) = y at *
      generalize numE A 0 1000000 = ex at *
      generalize numE B 0 (p - 1) = ey at *
      generalize str A = SA at *
      generalize str B = SB at *
      go_enter Tryd.func16, Tryd.ntmps16
      go_wp2_with (go_at_call 28; ((with_reducible refine (HP.out _).mono ?_); rintro e w' ⟨rfl, rfl⟩))
      go_loop [16] (fun i => ∃ k : Nat, k ≤ a ∧ i = .int .i64 (k : Int)) (fun i => a - (intOf i).toNat)
      case atStart => exact ⟨0, Nat.zero_le _, rfl⟩
      case round =>
        obtain ⟨k, hk, rfl⟩ := hrel
        have hlt : k < t.size := by omega
        by_cases hka : k < a
        · have hne := HG.out k hlt hka
          go_wp2
          go_round
          case rel => exact ⟨k + 1, by omega, by go_num⟩
          case measure => simp [intOf]; omega
        · obtain rfl : k = a := by omega
          have heq : ((t[k]'hlt).toNat : Int) = 46 := by rw [HEQ.out hlt]; rfl
          clear HG HEQ HX HY
          rcases ht with ⟨h1, e1, e2⟩ | ⟨h1, h2, e1, e2⟩ | ⟨h1, h2, h3, e1, e2⟩ | ⟨h1, h2, h3, e1, e2⟩
          all_goals
            (try subst h1)
            (try subst h2)
            have HEV := Lib.hid (And.intro e1 e2)
            clear e1 e2
            go_wp2_with (first | (go_at_call 33; ((with_reducible refine (HN1.out _).mono ?_); rintro e w2 ⟨rfl, hb2⟩); have hz2 := hb2.size; (try simp only [World.size_alloc, World.size_setCell, World.size_drew, size_drewN'] at hz2)) | (go_at_call 33; ((with_reducible refine (HN2.out _).mono ?_); rintro e w3 ⟨rfl, hb3⟩); have hz3 := hb3.size; (try simp only [World.size_alloc, World.size_setCell, World.size_drew, size_drewN'] at hz3)))
            go_returns
            exact ⟨by rw [HEV.out.1, HEV.out.2]; rfl, by (repeat' (first | (with_reducible exact Below.refl _ _) | (with_reducible refine Below.setCell ?_ ?_ _) | (with_reducible refine Below.alloc ?_ ?_ _) | (with_reducible refine Below.drew ?_) | (with_reducible refine belowN ?_ _) | (with_reducible refine below_step ?_ ?_ (by with_reducible assumption)) | go_size))⟩
    · have hcut : Lib.cut l [46] = (l, [], false) := cut_no 46 l hA
      have e1 : prE l p = 4 := by
        unfold prE
        have eb : prB l = [] := by unfold prB; rw [hcut]
        have en : numE [] 0 (p - 1) = 4 := by unfold numE; rfl
        rw [if_pos hp, eb, en, if_neg (fun h => by omega)]
      have e2 : prV l p = 0 := by simp [prV, e1]
      rw [e1, e2]
      have z := str_size l
      have hz : (str l).size ≤ 1000 := by omega
      have HG : Hid (∀ (k : Nat) (h : k < (str l).size), (((((str l)[k]'h).toNat : Int)) != 46) = true) := Lib.hid (fun k h => by
        rw [str_get _ k h (by omega)]
        exact nat_ne (hA _ (List.getElem_mem (by omega))))
      unfold S
      clear hp hl hA hcut e1 e2 z hp64
      generalize str l = t at *
      go_enter Tryd.func16, Tryd.ntmps16
      go_wp2_with (go_at_call 28; ((with_reducible refine (HP.out _).mono ?_); rintro e w' ⟨rfl, rfl⟩))
      go_loop [16] (fun i => ∃ k : Nat, k ≤ t.size ∧ i = .int .i64 (k : Int)) (fun i => t.size - (intOf i).toNat)
      case atStart => exact ⟨0, Nat.zero_le _, rfl⟩
      case round =>
        obtain ⟨k, hk, rfl⟩ := hrel
        by_cases hlt : k < t.size
        · have hne := HG.out k hlt
          go_wp2
          go_round
          case rel => exact ⟨k + 1, by omega, by go_num⟩
          case measure => simp [intOf]; omega
        · obtain rfl : k = t.size := by omega
          go_wp2
          go_returns
          exact ⟨rfl, by (repeat' (first | (with_reducible exact Below.refl _ _) | (with_reducible refine Below.setCell ?_ ?_ _) | (with_reducible refine Below.alloc ?_ ?_ _) | (with_reducible refine Below.drew ?_) | (with_reducible refine belowN ?_ _) | (with_reducible refine below_step ?_ ?_ (by with_reducible assumption)) | go_size))⟩
end Go.Proofs.YtnpnippgfkehaaaDoor
