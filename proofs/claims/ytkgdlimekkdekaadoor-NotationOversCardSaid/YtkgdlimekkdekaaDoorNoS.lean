/- Contracts of the reference's has, number and out of layer 7. -/
import Derived.Test.YtkgdlimekkdekaaDoorNoF
set_option linter.unusedSimpArgs false
set_option linter.unusedVariables false
namespace Go.Proofs.YtkgdlimekkdekaaDoor
open Go.RowKit

theorem has_any (c : UInt8) (l : List UInt8) (w : World) (hc : c.toNat ≠ 0) : Calls Tryd.prog 76 #[S l, .int .u8 (c.toNat : Int)] w fun e w' => e = .returned (.bool (sg l == c.toNat)) ∧ w = w' := by
  have z := str_size l
  cases l with
  | nil =>
    have e : (sg [] == c.toNat) = false := by simp [sg]; omega
    rw [e]
    have hz : (str []).size = 0 := str_size []
    clear e z
    go_enter Tryd.func76, Tryd.ntmps76
    go_wp2
    go_ret
    exact ⟨rfl, rfl⟩
  | cons b r =>
    have zl : (b :: r).length = r.length + 1 := rfl
    have hlt : 0 < (str (b :: r)).size := by omega
    have hg := str_get (b :: r) 0 hlt (by omega)
    have hz : 0 < (str (b :: r)).size := hlt
    by_cases h : b = c
    · have e : (sg (b :: r) == c.toNat) = true := by rw [h]; simp [sg]
      have k : ((((str (b :: r))[0]'hlt).toNat : Int) == (c.toNat : Int)) = true := by rw [hg, h]; simp
      rw [e]
      clear e h hg
      go_enter Tryd.func76, Tryd.ntmps76
      go_wp2
      go_ret
      exact ⟨rfl, rfl⟩
    · have e : (sg (b :: r) == c.toNat) = false := by
        simp [sg]; exact fun h2 => h (UInt8.toNat_inj.1 h2)
      have k : ((((str (b :: r))[0]'hlt).toNat : Int) == (c.toNat : Int)) = false := by
        rw [hg]; simp; exact fun h2 => h (UInt8.toNat_inj.1 (by omega))
      rw [e]
      clear e h hg
      go_enter Tryd.func76, Tryd.ntmps76
      go_wp2
      go_ret
      exact ⟨rfl, rfl⟩

def gn1 (N : Int) (m : List UInt8) : List UInt8 × Int := if isD (sg m) = true then (m.tail, 10 * N + ((sg m : Int) - 48)) else (m, N)
def gnK (k : Nat) (N : Int) (m : List UInt8) : List UInt8 × Int := if 2 ≤ k then (m, N) else if k = 1 then gn1 N m else (if isD (sg m) = true then gn1 (10 * N + ((sg m : Int) - 48)) m.tail else (m, N))
theorem nmR_gn (l : List UInt8) : nmR l = gnK 0 0 l := by
  by_cases h : isD (sg l) = true
  · by_cases h2 : isD (sg l.tail) = true
    · simp [nmR, gnK, gn1, h, h2]
    · simp [nmR, gnK, gn1, h, h2]
  · simp [nmR, gnK, gn1, h]
theorem gnK_go (k : Nat) (N : Int) (m : List UInt8) (hk : k < 2) (h : isD (sg m) = true) : gnK k N m = gnK (k + 1) (10 * N + ((sg m : Int) - 48)) m.tail := by
  have : k = 0 ∨ k = 1 := by omega
  rcases this with rfl | rfl
  · simp [gnK, gn1, h]
  · simp [gnK, gn1, h]
theorem gnK_stop (k : Nat) (N : Int) (m : List UInt8) (h : isD (sg m) = false ∨ 2 ≤ k) : gnK k N m = (m, N) := by
  by_cases h2 : 2 ≤ k
  · simp [gnK, h2]
  · have h1 : isD (sg m) = false := by rcases h with h | h; exact h; exact absurd h h2
    simp [gnK, gn1, h2, h1]
set_option maxHeartbeats 2000000 in
theorem rnumber_any (l : List UInt8) (w : World) (hl : l.length ≤ 4611686018427387904) :
    Calls Tryd.prog 77 #[S l] w fun e w' => e = .returned (.tuple #[.int .i64 (nmR l).2, S (nmR l).1]) ∧ Below w.heap.size w w' := by
  obtain ⟨F, hF⟩ : ∃ F, F = nmR l := ⟨_, rfl⟩
  rw [← hF]
  have z := str_size l
  have H0 : Hid (F = gnK 0 0 l) := Lib.hid (by rw [hF, nmR_gn])
  clear hF
  go_enter Tryd.func77, Tryd.ntmps77
  go_wp2
  go_loop [4, 5] (fun n i => ∃ (k : Nat) (N : Int), n = .int .i64 N ∧ i = .int .i64 (k : Int) ∧ k ≤ 2 ∧ k ≤ l.length ∧ Hid (0 ≤ N ∧ ((k = 0 ∧ N ≤ 0) ∨ (k = 1 ∧ N ≤ 9) ∨ (k = 2 ∧ N ≤ 99))) ∧ Hid (F = gnK k N (l.drop k))) (fun n i => 2 - (intOf i).toNat)
  case atStart => exact ⟨0, 0, rfl, rfl, by omega, by omega, Lib.hid ⟨by omega, by omega⟩, H0⟩
  case round =>
    obtain ⟨k, N, rfl, rfl, hk2, hkl, HN, HF⟩ := hrel
    have hN0 := HN.out.1
    have hN1 := HN.out.2
    clear H0
    have hx : Hid ((str l).extract k l.length = str (l.drop k)) := Lib.hid (by rw [str_ext]; congr 1; rw [List.take_of_length_le]; simp)
    have hNb : N ≤ 1000 := by omega
    have hend : Hid (gnK k N (l.drop k) = (l.drop k, N) → Ending.returned (.tuple #[.int .i64 N, .string ((str l).extract k l.length)]) = .returned (.tuple #[.int .i64 F.2, S F.1])) := Lib.hid (fun h => by rw [HF.out, h, hx.out])
    by_cases hlt : k < l.length
    · have hlt2 : k < (str l).size := by omega
      have hg := str_get l k hlt2 hlt
      have hsg : sg (l.drop k) = l[k].toNat := by rw [List.drop_eq_getElem_cons hlt]; rfl
      have htl : (l.drop k).tail = l.drop (k + 1) := by rw [List.drop_eq_getElem_cons hlt]; rfl
      by_cases h2 : k < 2
      · cases hd : isD (sg (l.drop k))
        · have HE := Lib.hid (hend.out (gnK_stop k N _ (Or.inl hd)))
          rw [hsg] at hd
          have hdd : (¬ (48 : Int) ≤ (((str l)[k]'hlt2).toNat : Int)) ∨ ((48 : Int) ≤ (((str l)[k]'hlt2).toNat : Int) ∧ ¬ (((str l)[k]'hlt2).toNat : Int) ≤ 57) := by
            rw [hg]; unfold isD at hd; simp at hd; omega
          clear hg hsg htl hd hN1
          rcases hdd with h3 | ⟨h3, h4⟩
          all_goals
            go_wp2
            go_region
            go_wp2
            go_returns
            exact ⟨HE.out, by (repeat' (first | (with_reducible exact Below.refl _ _) | (with_reducible refine Below.setCell ?_ ?_ _) | (with_reducible refine Below.alloc ?_ ?_ _) | (with_reducible refine Below.drew ?_) | (with_reducible refine belowN ?_ _) | (with_reducible refine below_step ?_ ?_ (by with_reducible assumption)) | go_size))⟩
        · obtain ⟨b0, b1⟩ := isD_bd hd
          have HG : Hid (F = gnK (k + 1) (10 * N + ((sg (l.drop k) : Int) - 48)) (l.drop (k + 1))) := Lib.hid (by rw [HF.out, gnK_go k N _ h2 hd, htl])
          have e3 : (sg (l.drop k) : Int) = (((str l)[k]'hlt2).toNat : Int) := by rw [hsg]; exact congrArg (fun c : UInt8 => (c.toNat : Int)) hg.symm
          rw [e3] at HG
          have h3 : (48 : Int) ≤ (((str l)[k]'hlt2).toNat : Int) := by omega
          have h4 : (((str l)[k]'hlt2).toNat : Int) ≤ 57 := by omega
          have hkk : k = 0 ∨ k = 1 := by omega
          clear hg hsg htl hd b0 b1 e3 hend hx hN1
          go_wp2
          go_round
          case rel => exact ⟨k + 1, _, by first | rfl | go_num, by go_num, by omega, by omega, Lib.hid ⟨by omega, by have := HN.out.2; omega⟩, HG⟩
          case measure => simp [intOf]; omega
      · have HE := Lib.hid (hend.out (gnK_stop k N _ (Or.inr (by omega))))
        clear hg hsg htl hN1
        go_wp2
        go_region
        go_wp2
        go_returns
        exact ⟨HE.out, by (repeat' (first | (with_reducible exact Below.refl _ _) | (with_reducible refine Below.setCell ?_ ?_ _) | (with_reducible refine Below.alloc ?_ ?_ _) | (with_reducible refine Below.drew ?_) | (with_reducible refine belowN ?_ _) | (with_reducible refine below_step ?_ ?_ (by with_reducible assumption)) | go_size))⟩
    · have HE := Lib.hid (hend.out (gnK_stop k N _ (Or.inl (by rw [List.drop_eq_nil_of_le (by omega)]; rfl))))
      clear hN1
      go_wp2
      go_region
      go_wp2
      go_returns
      exact ⟨HE.out, by (repeat' (first | (with_reducible exact Below.refl _ _) | (with_reducible refine Below.setCell ?_ ?_ _) | (with_reducible refine Below.alloc ?_ ?_ _) | (with_reducible refine Below.drew ?_) | (with_reducible refine belowN ?_ _) | (with_reducible refine below_step ?_ ?_ (by with_reducible assumption)) | go_size))⟩
end Go.Proofs.YtkgdlimekkdekaaDoor
