/- The program's Parse gives a wide number back from its text. -/
import Derived.Test.YtgdpeajompccnaaParW
set_option linter.unusedSimpArgs false
set_option linter.unusedVariables false
namespace Go.Proofs.Ytgdpeajompccnaa
open Go.RowKit

theorem ext_tail (r : List UInt8) (c : UInt8) (n : Nat) (hn : n = r.length + 1) : (str (c :: r)).extract 1 n = str r := by
  subst hn
  apply ByteArray.ext
  apply Array.toList_inj.1
  rw [ByteArray.data_extract, Array.toList_extract, str_list, str_list, List.extract_eq_take_drop]
  simp

set_option maxHeartbeats 2000000 in
theorem wparse_ok (a : Int) (w : World) (ha : fits a) :
    Calls Try.prog 33 #[S (Lib.itoa a)] w fun e w' => e = .returned (.tuple #[W a, .int .i64 0]) ∧ Below w.heap.size w w' := by
  obtain ⟨D, hD⟩ : ∃ D, D = Lib.decDigits a.natAbs := ⟨_, rfl⟩
  obtain ⟨i1, i2, i3, i4⟩ := dec_all a.natAbs
  rw [← hD] at i1 i2 i3
  have hb : body (Lib.itoa a) = D := by rw [body_itoa, hD]
  have hDl : D.length ≤ 39 := by rw [← hb]; exact body_len a ha
  have hD0 : 1 ≤ D.length := by cases D with | nil => exact absurd rfl i3 | cons c r => simp
  have hu : (digF 0 D : Int) = (a.natAbs : Int) := by rw [i2]
  have hfit := ha
  unfold fits lo127 hi127 at ha
  have hpb : pdB D = true := by
    unfold pdB; rw [i1, hu]
    have : decide ((a.natAbs : Int) < two128) = true := decide_eq_true (by unfold two128; omega)
    rw [this]; rfl
  have hpv : pdV D = (a.natAbs : Int) := by unfold pdV; rw [hpb, hu]; rfl
  have HPd : Hid (∀ w, Calls Try.prog 53 #[S D] w fun e w' => e = .returned (.tuple #[M (a.natAbs : Int), .bool true]) ∧ Below w.heap.size w w') := Lib.hid (fun w => by
    have h := pdigits_any D w (by omega)
    rw [hpb, hpv] at h; exact h)
  have HTx : Hid (∀ w, Calls Try.prog 32 #[W a] w fun e w' => e = .returned (S (Lib.itoa a)) ∧ Below w.heap.size w w') := Lib.hid (fun w => ptext_any a w hfit)
  have zD := str_size D
  rcases Int.lt_or_le a 0 with hn | hn
  · have hl : Lib.itoa a = 45 :: D := by
      have e : a = -(a.natAbs : Int) := by omega
      rw [hD, e, Lib.itoa_neg _ (by omega)]; simp
    have HSg : Hid (∀ w, Calls Try.prog 41 #[M (a.natAbs : Int), .bool true] w fun e w' => e = .returned (.tuple #[W a, .bool true]) ∧ Below w.heap.size w w') := Lib.hid (fun w => by
      have h := signed_any (a.natAbs : Int) true w (by omega) (by omega)
      have e : sgn (a.natAbs : Int) true = a := by unfold sgn; simp; omega
      rw [e, clip_yes hfit, fit_yes hfit] at h; exact h)
    rw [hl] at HTx ⊢
    have zl := str_size (45 :: D)
    have zl2 : (str (45 :: D)).size = D.length + 1 := by rw [zl]; rfl
    have hlt0 : 0 < (str (45 :: D)).size := by omega
    have h45 : ((((str (45 :: D))[0]'hlt0).toNat : Int)) = 45 := by rw [str_get _ 0 hlt0 (by simp)]; rfl
    have hx1 : (str (45 :: D)).extract 1 (D.length + 1) = str D := ext_tail D 45 _ rfl
    have hem : ((str (45 :: D)).toList == []) = false := by rw [str_toList]; simp
    clear hb hu ha hpb hpv hl hD i1 i2 i3 i4 hn hfit zl
    generalize (a.natAbs : Int) = m at *
    go_enter Try.func33, Try.ntmps33
    go_wp2_with (first | (go_at_call 53; ((with_reducible refine (HPd.out _).mono ?_); rintro e w1 ⟨rfl, hb1⟩); have hz1 := hb1.size; (try simp only [World.size_alloc, World.size_setCell, World.size_drew, size_drewN'] at hz1); have : w.heap.size < w1.heap.size := (by omega); have := hb1.cell (p := ⟨w.heap.size, 0, none⟩) (by go_size); simp [go_sem, *] at this; have := hb1.frozen (p := ⟨w.heap.size, 0, none⟩) (by go_size); simp [go_sem, *] at this; have := hb1.cell (p := ⟨w.heap.size, 1, none⟩) (by go_size); simp [go_sem, *] at this; have := hb1.frozen (p := ⟨w.heap.size, 1, none⟩) (by go_size); simp [go_sem, *] at this) | (go_at_call 41; ((with_reducible refine (HSg.out _).mono ?_); rintro e w2 ⟨rfl, hb2⟩); have hz2 := hb2.size; (try simp only [World.size_alloc, World.size_setCell, World.size_drew, size_drewN'] at hz2); have : w.heap.size < w2.heap.size := (by omega); have := hb2.cell (p := ⟨w.heap.size, 0, none⟩) (by go_size); simp [go_sem, *] at this; have := hb2.frozen (p := ⟨w.heap.size, 0, none⟩) (by go_size); simp [go_sem, *] at this; have := hb2.cell (p := ⟨w.heap.size, 1, none⟩) (by go_size); simp [go_sem, *] at this; have := hb2.frozen (p := ⟨w.heap.size, 1, none⟩) (by go_size); simp [go_sem, *] at this) | (go_at_call 32; ((with_reducible refine (HTx.out _).mono ?_); rintro e w3 ⟨rfl, hb3⟩); have hz3 := hb3.size; (try simp only [World.size_alloc, World.size_setCell, World.size_drew, size_drewN'] at hz3); have : w.heap.size < w3.heap.size := (by omega); have := hb3.cell (p := ⟨w.heap.size, 0, none⟩) (by go_size); simp [go_sem, *] at this; have := hb3.frozen (p := ⟨w.heap.size, 0, none⟩) (by go_size); simp [go_sem, *] at this; have := hb3.cell (p := ⟨w.heap.size, 1, none⟩) (by go_size); simp [go_sem, *] at this; have := hb3.frozen (p := ⟨w.heap.size, 1, none⟩) (by go_size); simp [go_sem, *] at this; have : w2.heap.size < w3.heap.size := (by omega); have := hb3.cell (p := ⟨w2.heap.size, 0, none⟩) (by go_size); simp [go_sem, *] at this; have := hb3.frozen (p := ⟨w2.heap.size, 0, none⟩) (by go_size); simp [go_sem, *] at this; have := hb3.cell (p := ⟨w2.heap.size, 1, none⟩) (by go_size); simp [go_sem, *] at this; have := hb3.frozen (p := ⟨w2.heap.size, 1, none⟩) (by go_size); simp [go_sem, *] at this))
    refine bodyPost_ret (v := .tuple #[W a, .int .i64 0]) (by simp [results, Try.results33, go_sem, *]) rfl ?_
    exact ⟨rfl, by (repeat' (first | (with_reducible exact Below.refl _ _) | (with_reducible refine Below.setCell ?_ ?_ _) | (with_reducible refine Below.alloc ?_ ?_ _) | (with_reducible refine Below.drew ?_) | (with_reducible refine belowN ?_ _) | (with_reducible refine below_step ?_ ?_ (by with_reducible assumption)) | go_size))⟩
  · have hl : Lib.itoa a = D := by
      have e : a = (a.natAbs : Int) := by omega
      rw [hD, e, Lib.itoa_nonneg]; simp
    have HSg : Hid (∀ w, Calls Try.prog 41 #[M (a.natAbs : Int), .bool false] w fun e w' => e = .returned (.tuple #[W a, .bool true]) ∧ Below w.heap.size w w') := Lib.hid (fun w => by
      have h := signed_any (a.natAbs : Int) false w (by omega) (by omega)
      have e : sgn (a.natAbs : Int) false = a := by unfold sgn; simp; omega
      rw [e, clip_yes hfit, fit_yes hfit] at h; exact h)
    rw [hl] at HTx ⊢
    have hlt0 : 0 < (str D).size := by omega
    have h45 : ((((str D)[0]'hlt0).toNat : Int) == 45) = false := by
      rw [str_get _ 0 hlt0 (by omega)]
      have h0 := List.all_eq_true.1 i1 (D[0]'(by omega)) (List.getElem_mem _)
      rw [isDig_iff] at h0
      exact beq_eq_false_iff_ne.2 (by omega)
    have hem : ((str D).toList == []) = false := by rw [str_toList]; simpa using i3
    clear hb hu ha hpb hpv hl hD i1 i2 i3 i4 hn hfit
    generalize (a.natAbs : Int) = m at *
    go_enter Try.func33, Try.ntmps33
    go_wp2_with (first | (go_at_call 53; ((with_reducible refine (HPd.out _).mono ?_); rintro e w1 ⟨rfl, hb1⟩); have hz1 := hb1.size; (try simp only [World.size_alloc, World.size_setCell, World.size_drew, size_drewN'] at hz1); have : w.heap.size < w1.heap.size := (by omega); have := hb1.cell (p := ⟨w.heap.size, 0, none⟩) (by go_size); simp [go_sem, *] at this; have := hb1.frozen (p := ⟨w.heap.size, 0, none⟩) (by go_size); simp [go_sem, *] at this; have := hb1.cell (p := ⟨w.heap.size, 1, none⟩) (by go_size); simp [go_sem, *] at this; have := hb1.frozen (p := ⟨w.heap.size, 1, none⟩) (by go_size); simp [go_sem, *] at this) | (go_at_call 41; ((with_reducible refine (HSg.out _).mono ?_); rintro e w2 ⟨rfl, hb2⟩); have hz2 := hb2.size; (try simp only [World.size_alloc, World.size_setCell, World.size_drew, size_drewN'] at hz2); have : w.heap.size < w2.heap.size := (by omega); have := hb2.cell (p := ⟨w.heap.size, 0, none⟩) (by go_size); simp [go_sem, *] at this; have := hb2.frozen (p := ⟨w.heap.size, 0, none⟩) (by go_size); simp [go_sem, *] at this; have := hb2.cell (p := ⟨w.heap.size, 1, none⟩) (by go_size); simp [go_sem, *] at this; have := hb2.frozen (p := ⟨w.heap.size, 1, none⟩) (by go_size); simp [go_sem, *] at this) | (go_at_call 32; ((with_reducible refine (HTx.out _).mono ?_); rintro e w3 ⟨rfl, hb3⟩); have hz3 := hb3.size; (try simp only [World.size_alloc, World.size_setCell, World.size_drew, size_drewN'] at hz3); have : w.heap.size < w3.heap.size := (by omega); have := hb3.cell (p := ⟨w.heap.size, 0, none⟩) (by go_size); simp [go_sem, *] at this; have := hb3.frozen (p := ⟨w.heap.size, 0, none⟩) (by go_size); simp [go_sem, *] at this; have := hb3.cell (p := ⟨w.heap.size, 1, none⟩) (by go_size); simp [go_sem, *] at this; have := hb3.frozen (p := ⟨w.heap.size, 1, none⟩) (by go_size); simp [go_sem, *] at this; have : w2.heap.size < w3.heap.size := (by omega); have := hb3.cell (p := ⟨w2.heap.size, 0, none⟩) (by go_size); simp [go_sem, *] at this; have := hb3.frozen (p := ⟨w2.heap.size, 0, none⟩) (by go_size); simp [go_sem, *] at this; have := hb3.cell (p := ⟨w2.heap.size, 1, none⟩) (by go_size); simp [go_sem, *] at this; have := hb3.frozen (p := ⟨w2.heap.size, 1, none⟩) (by go_size); simp [go_sem, *] at this))
    refine bodyPost_ret (v := .tuple #[W a, .int .i64 0]) (by simp [results, Try.results33, go_sem, *]) rfl ?_
    exact ⟨rfl, by (repeat' (first | (with_reducible exact Below.refl _ _) | (with_reducible refine Below.setCell ?_ ?_ _) | (with_reducible refine Below.alloc ?_ ?_ _) | (with_reducible refine Below.drew ?_) | (with_reducible refine belowN ?_ _) | (with_reducible refine below_step ?_ ?_ (by with_reducible assumption)) | go_size))⟩
end Go.Proofs.Ytgdpeajompccnaa
