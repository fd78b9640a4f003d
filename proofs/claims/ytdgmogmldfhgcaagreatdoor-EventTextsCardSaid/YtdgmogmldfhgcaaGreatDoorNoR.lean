/- Contracts of the reference's typeOf, sourceOf, dec and Print of layer 7. -/
import Derived.Test.YtdgmogmldfhgcaaGreatDoorNoD
import Derived.Test.YtdgmogmldfhgcaaGreatDoorPad
import Derived.Deep.CutBlock
set_option linter.unusedSimpArgs false
set_option linter.unusedVariables false
namespace Go.Proofs.YtdgmogmldfhgcaaGreatDoor
open Go.RowKit

theorem typeOf_any (t : Int) (h1 : 1 ≤ t) (h3 : t ≤ 3) (w : World) : Calls Tryz.prog 64 #[.int .u8 t] w fun e w' => e = .returned (S (tyL t)) ∧ w = w' := by
  have : t = 1 ∨ t = 2 ∨ t = 3 := by omega
  clear h1 h3
  rcases this with rfl | rfl | rfl
  all_goals
    go_enter Tryz.func64, Tryz.ntmps64
    go_wp2
    go_ret
    exact ⟨rfl, rfl⟩
def soL (t s : Int) : List UInt8 := if s = plS t then [] else [srcs.getD s.toNat 0]
theorem sourceOf_any (t s : Int) (h1 : 1 ≤ t) (h3 : t ≤ 3) (s0 : 0 ≤ s) (s3 : s ≤ 3) (w : World) : Calls Tryz.prog 63 #[.int .u8 t, .int .u8 s] w fun e w' => e = .returned (S (soL t s)) ∧ w = w' := by
  have h : t = 1 ∨ t = 2 ∨ t = 3 := by omega
  have h2 : s = 0 ∨ s = 1 ∨ s = 2 ∨ s = 3 := by omega
  clear h1 h3 s0 s3
  rcases h with rfl | rfl | rfl <;> rcases h2 with rfl | rfl | rfl | rfl
  all_goals
    go_enter Tryz.func63, Tryz.ntmps63
    go_wp2
    go_ret
    exact ⟨rfl, rfl⟩
theorem dec_any (n : Int) (h0 : 0 ≤ n) (h1 : n ≤ 11) (w : World) : Calls Tryz.prog 65 #[.int .i64 n] w fun e w' => e = .returned (S (dg n)) ∧ Below w.heap.size w w' := by
  have HD : Hid (∀ w, Calls Tryz.prog 30 #[.int .i64 n] w fun e w' => e = .returned (S (dg n)) ∧ Below w.heap.size w w') := Lib.hid (fun w => by rw [← dg_itoa h0 h1]; exact rdecimal_small n w h0 (by omega))
  clear h0 h1
  go_enter Tryz.func65, Tryz.ntmps65
  go_wp2_with (go_at_call 30; ((with_reducible refine (HD.out _).mono ?_); rintro e w1 ⟨rfl, hb1⟩); have hz1 := hb1.size; (try simp only [World.size_alloc, World.size_setCell, World.size_drew, size_drewN'] at hz1))
  go_ret
  exact ⟨rfl, by (repeat' (first | (with_reducible exact Below.refl _ _) | (with_reducible refine Below.setCell ?_ ?_ _) | (with_reducible refine Below.alloc ?_ ?_ _) | (with_reducible refine Below.drew ?_) | (with_reducible refine belowN ?_ _) | (with_reducible refine below_step ?_ ?_ (by with_reducible assumption)) | go_size))⟩
theorem t6_cases (d : Dl) (hr : 0 ≤ d.r) : (0 < d.r ∧ pR d = dg d.r) ∨ (¬ 0 < d.r ∧ (str (pS d)).toList.isEmpty = false ∧ pR d = []) ∨ (¬ 0 < d.r ∧ (str (pS d)).toList.isEmpty = true ∧ (d.b == 0) = false ∧ pR d = []) ∨
    (¬ 0 < d.r ∧ (str (pS d)).toList.isEmpty = true ∧ (d.b == 0) = true ∧ (d.t != 2) = false ∧ pR d = []) ∨ (¬ 0 < d.r ∧ (str (pS d)).toList.isEmpty = true ∧ (d.b == 0) = true ∧ (d.t != 2) = true ∧ pR d = dg d.r) := by
  rw [str_toList]
  have hs : (d.s = plS d.t ∧ (pS d).isEmpty = true) ∨ (d.s ≠ plS d.t ∧ (pS d).isEmpty = false) := by
    unfold pS; by_cases h : d.s = plS d.t
    · left; rw [if_pos h]; exact ⟨h, rfl⟩
    · right; rw [if_neg h]; exact ⟨h, rfl⟩
  unfold pR
  by_cases h0 : 0 < d.r
  · left; exact ⟨h0, if_neg (fun h => by omega)⟩
  have e0 : d.r = 0 := by omega
  rcases hs with ⟨h1, h2⟩ | ⟨h1, h2⟩
  · rw [h2]
    by_cases hb : d.b = 0
    · by_cases ht : d.t = 2
      · right; right; right; left; exact ⟨h0, rfl, by simpa using hb, by simpa using ht, if_pos ⟨e0, fun h => h.1 ht⟩⟩
      · right; right; right; right; exact ⟨h0, rfl, by simpa using hb, by simpa using ht, if_neg (fun h => h.2 ⟨ht, h1, hb⟩)⟩
    · right; right; left; exact ⟨h0, rfl, by simpa using hb, if_pos ⟨e0, fun h => hb h.2.2⟩⟩
  · right; left; exact ⟨h0, h2, if_pos ⟨e0, fun h => h1 h.2.1⟩⟩
theorem t17_cases (d : Dl) : ((d.h != 0) = true ∧ pW d = [47] ++ [hch d.h] ++ dg d.v ++ pF d) ∨ ((d.h != 0) = false ∧ (d.v != 0) = true ∧ pW d = [47] ++ [hch d.h] ++ dg d.v ++ pF d) ∨ ((d.h != 0) = false ∧ (d.v != 0) = false ∧ (d.f != 0) = true ∧ pW d = [47] ++ [hch d.h] ++ dg d.v ++ pF d) ∨
    ((d.h != 0) = false ∧ (d.v != 0) = false ∧ (d.f != 0) = false ∧ (d.g != 0) = true ∧ pW d = [47] ++ [hch d.h] ++ dg d.v ++ pF d) ∨ ((d.h != 0) = false ∧ (d.v != 0) = false ∧ (d.f != 0) = false ∧ (d.g != 0) = false ∧ d.u = true ∧ pW d = [47] ++ [hch d.h] ++ dg d.v ++ pF d) ∨
    ((d.h != 0) = false ∧ (d.v != 0) = false ∧ (d.f != 0) = false ∧ (d.g != 0) = false ∧ d.u = false ∧ pW d = []) := by
  have e : ¬ (d.h = 0 ∧ d.v = 0 ∧ fdz d) → pW d = [47] ++ [hch d.h] ++ dg d.v ++ pF d := fun h => by unfold pW; rw [if_neg h]; rfl
  by_cases h1 : d.h = 0
  · by_cases h2 : d.v = 0
    · by_cases h3 : d.f = 0
      · by_cases h4 : d.g = 0
        · cases h5 : d.u
          · right; right; right; right; right; exact ⟨by simpa using h1, by simpa using h2, by simpa using h3, by simpa using h4, rfl, by unfold pW; rw [if_pos ⟨h1, h2, h3, h4, h5⟩]⟩
          · right; right; right; right; left; exact ⟨by simpa using h1, by simpa using h2, by simpa using h3, by simpa using h4, rfl, e (fun h => by have := h.2.2.2.2; rw [h5] at this; cases this)⟩
        · right; right; right; left; exact ⟨by simpa using h1, by simpa using h2, by simpa using h3, by simpa using h4, e (fun h => h4 h.2.2.2.1)⟩
      · right; right; left; exact ⟨by simpa using h1, by simpa using h2, by simpa using h3, e (fun h => h3 h.2.2.1)⟩
    · right; left; exact ⟨by simpa using h1, by simpa using h2, e (fun h => h2 h.2.1)⟩
  · left; exact ⟨by simpa using h1, e (fun h => h1 h.1)⟩
theorem t19_cases (d : Dl) : ((d.f != 0) = true ∧ pF d = [40] ++ dg d.f ++ nuL 44 d.g ++ flL 115 d.u ++ [41]) ∨ ((d.f != 0) = false ∧ (d.g != 0) = true ∧ pF d = [40] ++ dg d.f ++ nuL 44 d.g ++ flL 115 d.u ++ [41]) ∨
    ((d.f != 0) = false ∧ (d.g != 0) = false ∧ d.u = true ∧ pF d = [40] ++ dg d.f ++ nuL 44 d.g ++ flL 115 d.u ++ [41]) ∨ ((d.f != 0) = false ∧ (d.g != 0) = false ∧ d.u = false ∧ pF d = []) := by
  rcases pF_cases d with ⟨h1, h2, h3, h4⟩ | ⟨h1, h2, h3, h4⟩ | ⟨h1, h2, h4⟩ | ⟨h1, h4⟩
  · right; right; right; exact ⟨by simpa using h1, by simpa using h2, h3, h4⟩
  · right; right; left; exact ⟨by simpa using h1, by simpa using h2, h3, h4⟩
  · right; left; exact ⟨by simpa using h1, by simpa using h2, h4⟩
  · left; exact ⟨by simpa using h1, h4⟩

set_option maxRecDepth 20000 in
set_option maxHeartbeats 8000000 in
theorem rprint_any (d : Dl) (hw : Wf d) (w : World) : Calls Tryz.prog 32 #[DV d] w fun e w' => e = .returned (.tuple #[S (prL d), .int .i64 (chk d)]) ∧ Below w.heap.size w w' := by
  have HC := Lib.hid (rcheck_any d)
  have hrow := Lib.hid (box_row d w)
  by_cases hk : chk d = 0
  · obtain ⟨hT, hR⟩ := chk_ok hk
    obtain ⟨r1, r2, r3, r4, r5, r6, r7⟩ := hR
    have e0 : prL d = sym d := by unfold prL; rw [if_pos hk]
    rw [hk] at HC
    have e1 := Lib.hid (show Ending.returned (.tuple #[S (sym d), .int .i64 0]) = Ending.returned (.tuple #[S (prL d), .int .i64 (chk d)]) by rw [e0, hk])
    have D1 := Lib.hid (typeOf_any d.t hT.1 hT.2.1)
    have D2 : Hid (∀ w, Calls Tryz.prog 63 #[.int .u8 d.t, .int .u8 d.s] w fun e w' => e = .returned (S (pS d)) ∧ w = w') := Lib.hid (sourceOf_any d.t d.s hT.1 hT.2.1 hw.2.1 hT.2.2.1)
    have D3 := Lib.hid (dec_any d.r r1.1 (by omega))
    have D4 := Lib.hid (dec_any d.sh r2.1 (by omega))
    have D5 := Lib.hid (dec_any d.v r4.1 (by omega))
    have D6 := Lib.hid (dec_any d.f r5.1 r5.2)
    have D7 := Lib.hid (dec_any d.g r6.1 r6.2)
    have D8 := Lib.hid (dec_any d.z r7.1 (by omega))
    have T6 := Lib.hid (t6_cases d r1.1)
    have T17 := Lib.hid (t17_cases d)
    have T19 := Lib.hid (t19_cases d)
    have zt := tyL_len d.t
    have zs := pS_len d
    have zr := pR_len d
    have zb := bdL_len d.b
    have zh := nuL_len 45 d.sh
    have zx := flL_len 120 d.x
    have zF := pF_len d
    have zW := pW_len d
    have zz := nuL_len 64 d.z
    have zdr := dg_len d.r
    have zdh := dg_len d.sh
    have zdv := dg_len d.v
    have zdf := dg_len d.f
    have zdg := dg_len d.g
    have zdz := dg_len d.z
    have hb3 : (d.b = 0 ∧ bdL d.b = []) ∨ (d.b = 4 ∧ bdL d.b = [70]) ∨ (d.b = 6 ∧ bdL d.b = [83]) := by
      rcases r3 with h | h | h <;> rw [h] <;> simp [bdL]
    have HB3 := Lib.hid hb3
    have hsh : (¬ 0 < d.sh ∧ nuL 45 d.sh = []) ∨ (0 < d.sh ∧ nuL 45 d.sh = 45 :: dg d.sh) := by
      unfold nuL; by_cases h : d.sh = 0
      · left; exact ⟨by omega, if_pos h⟩
      · right; exact ⟨by have := r2.1; omega, if_neg h⟩
    have hz : (¬ 0 < d.z ∧ nuL 64 d.z = []) ∨ (0 < d.z ∧ nuL 64 d.z = 64 :: dg d.z) := by
      unfold nuL; by_cases h : d.z = 0
      · left; exact ⟨by omega, if_pos h⟩
      · right; exact ⟨by have := r7.1; omega, if_neg h⟩
    have hg : ((d.g != 0) = false ∧ nuL 44 d.g = []) ∨ ((d.g != 0) = true ∧ nuL 44 d.g = 44 :: dg d.g) := by
      unfold nuL; by_cases h : d.g = 0
      · left; exact ⟨by simpa using h, if_pos h⟩
      · right; exact ⟨by simpa using h, if_neg h⟩
    have HSH := Lib.hid hsh
    have HZ := Lib.hid hz
    have HG := Lib.hid hg
    have hE : Hid (tyL d.t ++ pS d ++ pR d ++ bdL d.b ++ nuL 45 d.sh ++ flL 120 d.x ++ pW d ++ nuL 64 d.z = sym d) := Lib.hid (sym_sum d).symm
    have hh : 0 ≤ d.h ∧ d.h ≤ 10 := ⟨hw.2.2, hT.2.2.2⟩
    have hH : Hid ((⟨#[78, 66, 67, 76, 83, 72, 82, 84, 79, 77, 81]⟩ : ByteArray).extract d.h.toNat (d.h + 1).toNat = str [hch d.h]) := Lib.hid (by
      rcases upto10 hh.1 hh.2 with e | e | e | e | e | e | e | e | e | e | e <;> rw [e] <;> rfl)
    clear hb3 hsh hz hg r1 r2 r3 r4 r5 r6 r7 hT hw hk e0
    generalize pR d = xR at *
    generalize pW d = xW at *
    generalize pF d = xF at *
    generalize pS d = xS at *
    generalize prL d = xP at *
    generalize sym d = xA at *
    generalize chk d = xC at *
    obtain ⟨t, s, r, sh, b, x, h, v, f, g, u, z⟩ := d
    dsimp only at *
    generalize tyL t = xT at *
    generalize nuL 45 sh = xH at *
    generalize nuL 64 z = xZ at *
    generalize hxB : bdL b = xB at *
    clear hxB
    go_enter Tryz.func32, Tryz.ntmps32
    go_wp2_with fail
    refine (HC.out _).mono ?_
    rintro e w1 ⟨rfl, hb1⟩
    have hr := Lib.hid (hrow.out.below hb1 (by go_size))
    have hB : Hid (Below w.heap.size w w1) := Lib.hid (below_step (Below.alloc (Below.refl _ w) (Nat.le_refl _) _) (by go_size) hb1)
    clear hb1
    have c0 : w1.cell? ⟨w.heap.size, 0, none⟩ = some (.int .u8 t) := hr.out.cell 0
    have c1 : w1.cell? ⟨w.heap.size, 1, none⟩ = some (.int .u8 s) := hr.out.cell 1
    go_wp2_with fail
    refine (D2.out _).mono ?_
    rintro e w' ⟨rfl, rfl⟩
    go_wp2_with fail
    refine (D1.out _).mono ?_
    rintro e w' ⟨rfl, rfl⟩
    have zTs := str_size_le zt
    have zSs := str_size_le zs
    have k2 : w1.cell? ⟨w.heap.size, 2, none⟩ = some (.int .i64 r) := hr.out.cell 2
    have k4 : w1.cell? ⟨w.heap.size, 4, none⟩ = some (.int .i64 b) := hr.out.cell 4
    go_upto_region 6 with fail
    go_cut [38] (fun c wx => ((c = .bool true ∧ xR = dg r) ∨ (c = .bool false ∧ xR = [])) ∧ Hid (Row wx w.heap.size DT (DC ⟨t, s, r, sh, b, x, h, v, f, g, u, z⟩)) ∧ Hid (Below w.heap.size w wx))
    case first =>
      as_aux_lemma =>
      rcases T6.out with ⟨q1, q2⟩ | ⟨q1, q2, q3⟩ | ⟨q1, q2, q3, q4⟩ | ⟨q1, q2, q3, q4, q5⟩ | ⟨q1, q2, q3, q4, q5⟩
      · have Q := Lib.hid q2
        clear q2
        go_wp2
        go_meet
        case rel => exact ⟨Or.inl ⟨by first | rfl | (simp; omega), Q.out⟩, hr, hB⟩
      · have Q := Lib.hid q3
        clear q3
        go_wp2
        go_meet
        case rel => exact ⟨Or.inr ⟨by first | rfl | (simp; omega), Q.out⟩, hr, hB⟩
      · have Q := Lib.hid q4
        clear q4
        go_wp2
        go_meet
        case rel => exact ⟨Or.inr ⟨by first | rfl | (simp; omega), Q.out⟩, hr, hB⟩
      · have Q := Lib.hid q5
        clear q5
        go_wp2
        go_meet
        case rel => exact ⟨Or.inr ⟨by first | rfl | (simp; omega), Q.out⟩, hr, hB⟩
      · have Q := Lib.hid q5
        clear q5
        go_wp2
        go_meet
        case rel => exact ⟨Or.inl ⟨by first | rfl | (simp; omega), Q.out⟩, hr, hB⟩
    case rest =>
    obtain ⟨hq, hr, hB⟩ := hcut
    clear k2 k4 c0 c1
    go_upto_if 38 with fail
    go_cut [6] (fun v6 wx => v6 = S (xT ++ xS ++ xR) ∧ Hid (Row wx w.heap.size DT (DC ⟨t, s, r, sh, b, x, h, v, f, g, u, z⟩)) ∧ Hid (Below w.heap.size w wx))
    case first =>
      as_aux_lemma =>
      rcases hq with ⟨rfl, q⟩ | ⟨rfl, q⟩
      · have Q := Lib.hid q
        clear q
        have c2 : wc.cell? ⟨w.heap.size, 2, none⟩ = some (.int .i64 r) := hr.out.cell 2
        have zd := str_size_le zdr
        go_wp2_with fail
        refine (D3.out _).mono ?_
        rintro e w2 ⟨rfl, hb2⟩
        go_wp2
        go_meet
        case rel => exact ⟨by show Value.string _ = Value.string _; rw [Q.out, str_app, str_app], Lib.hid (hr.out.below hb2 hr.out.lt), Lib.hid (below_step hB.out hB.out.size hb2)⟩
      · have Q := Lib.hid q
        clear q
        go_wp2
        go_meet
        case rel => exact ⟨by show Value.string _ = Value.string _; rw [Q.out, str_app, List.append_nil], hr, hB⟩
    case rest =>
    obtain ⟨rfl, hr, hB⟩ := hcut
    obtain ⟨X2, eX2⟩ : ∃ X, X = xT ++ xS ++ xR := ⟨_, rfl⟩
    rw [← eX2]
    have zX2 : (str X2).size ≤ 4 := str_size_le (by rw [eX2]; simp only [List.length_append, List.length_cons, List.length_nil]; omega)
    have lX2 : X2.length ≤ 4 := by rw [str_size] at zX2; exact zX2
    have EX2 := Lib.hid eX2
    clear eX2 hq
    have c4 : wc.cell? ⟨w.heap.size, 4, none⟩ = some (.int .i64 b) := hr.out.cell 4
    go_upto_block 0 with fail
    go_cut [6] (fun v6 wx => v6 = S (X2 ++ xB) ∧ Hid (Row wx w.heap.size DT (DC ⟨t, s, r, sh, b, x, h, v, f, g, u, z⟩)) ∧ Hid (Below w.heap.size w wx))
    case first =>
      as_aux_lemma =>
      rcases HB3.out with ⟨rfl, q⟩ | ⟨rfl, q⟩ | ⟨rfl, q⟩
      · have Q := Lib.hid q
        clear q
        go_wp2
        go_meet
        case rel => exact ⟨by show Value.string _ = Value.string _; rw [Q.out, List.append_nil], hr, hB⟩
      · have Q := Lib.hid q
        clear q
        go_wp2
        go_meet
        case rel => exact ⟨by show Value.string _ = Value.string _; rw [Q.out, ← str_app]; rfl, hr, hB⟩
      · have Q := Lib.hid q
        clear q
        go_wp2
        go_meet
        case rel => exact ⟨by show Value.string _ = Value.string _; rw [Q.out, ← str_app]; rfl, hr, hB⟩
    case rest =>
    obtain ⟨rfl, hr, hB⟩ := hcut
    obtain ⟨X3, eX3⟩ : ∃ X, X = X2 ++ xB := ⟨_, rfl⟩
    rw [← eX3]
    have zX3 : (str X3).size ≤ 5 := str_size_le (by rw [eX3]; simp only [List.length_append, List.length_cons, List.length_nil]; omega)
    have lX3 : X3.length ≤ 5 := by rw [str_size] at zX3; exact zX3
    have EX3 := Lib.hid eX3
    clear eX3 c4
    have c3 : wc.cell? ⟨w.heap.size, 3, none⟩ = some (.int .i64 sh) := hr.out.cell 3
    go_upto_if 56 with fail
    go_cut [6] (fun v6 wx => v6 = S (X3 ++ xH) ∧ Hid (Row wx w.heap.size DT (DC ⟨t, s, r, sh, b, x, h, v, f, g, u, z⟩)) ∧ Hid (Below w.heap.size w wx))
    case first =>
      as_aux_lemma =>
      rcases HSH.out with ⟨h0, q⟩ | ⟨h0, q⟩
      · have Q := Lib.hid q
        clear q
        go_wp2
        go_meet
        case rel => exact ⟨by show Value.string _ = Value.string _; rw [Q.out, List.append_nil], hr, hB⟩
      · have Q := Lib.hid q
        clear q
        have zd := str_size_le zdh
        go_wp2_with fail
        refine (D4.out _).mono ?_
        rintro e w2 ⟨rfl, hb2⟩
        go_wp2
        go_meet
        case rel => exact ⟨by show Value.string _ = Value.string _; rw [Q.out, show (45 :: dg sh) = [45] ++ dg sh from rfl, ← str_app, ← str_app]; rfl, Lib.hid (hr.out.below hb2 hr.out.lt), Lib.hid (below_step hB.out hB.out.size hb2)⟩
    case rest =>
    obtain ⟨rfl, hr, hB⟩ := hcut
    obtain ⟨X4, eX4⟩ : ∃ X, X = X3 ++ xH := ⟨_, rfl⟩
    rw [← eX4]
    have zX4 : (str X4).size ≤ 8 := str_size_le (by rw [eX4]; simp only [List.length_append, List.length_cons, List.length_nil]; omega)
    have lX4 : X4.length ≤ 8 := by rw [str_size] at zX4; exact zX4
    have EX4 := Lib.hid eX4
    clear eX4 c3
    have c5 : wc.cell? ⟨w.heap.size, 5, none⟩ = some (.bool x) := hr.out.cell 5
    go_upto_if 64 with fail
    go_cut [6] (fun v6 wx => v6 = S (X4 ++ flL 120 x) ∧ Hid (Row wx w.heap.size DT (DC ⟨t, s, r, sh, b, x, h, v, f, g, u, z⟩)) ∧ Hid (Below w.heap.size w wx))
    case first =>
      as_aux_lemma =>
      cases x
      · go_wp2
        go_meet
        case rel => exact ⟨by show Value.string _ = Value.string _; rw [show flL 120 false = [] from rfl, List.append_nil], hr, hB⟩
      · go_wp2
        go_meet
        case rel => exact ⟨by show Value.string _ = Value.string _; rw [show flL 120 true = [120] from rfl, ← str_app]; rfl, hr, hB⟩
    case rest =>
    obtain ⟨rfl, hr, hB⟩ := hcut
    obtain ⟨X5, eX5⟩ : ∃ X, X = X4 ++ flL 120 x := ⟨_, rfl⟩
    rw [← eX5]
    have zX5 : (str X5).size ≤ 9 := str_size_le (by rw [eX5]; simp only [List.length_append, List.length_cons, List.length_nil]; omega)
    have lX5 : X5.length ≤ 9 := by rw [str_size] at zX5; exact zX5
    have EX5 := Lib.hid eX5
    clear eX5 c5
    have c6 : wc.cell? ⟨w.heap.size, 6, none⟩ = some (.int .u8 h) := hr.out.cell 6
    have c7 : wc.cell? ⟨w.heap.size, 7, none⟩ = some (.int .i64 v) := hr.out.cell 7
    have c8 : wc.cell? ⟨w.heap.size, 8, none⟩ = some (.int .i64 f) := hr.out.cell 8
    have c9 : wc.cell? ⟨w.heap.size, 9, none⟩ = some (.int .i64 g) := hr.out.cell 9
    have c10 : wc.cell? ⟨w.heap.size, 10, none⟩ = some (.bool u) := hr.out.cell 10
    go_upto_region 17 with fail
    go_cut [88] (fun c wx => ((c = .bool true ∧ xW = [47] ++ [hch h] ++ dg v ++ xF) ∨ (c = .bool false ∧ xW = [])) ∧ Hid (Row wx w.heap.size DT (DC ⟨t, s, r, sh, b, x, h, v, f, g, u, z⟩)) ∧ Hid (Below w.heap.size w wx))
    case first =>
      as_aux_lemma =>
      rcases T17.out with ⟨q1, q⟩ | ⟨q1, q2, q⟩ | ⟨q1, q2, q3, q⟩ | ⟨q1, q2, q3, q4, q⟩ | ⟨q1, q2, q3, q4, q5, q⟩ | ⟨q1, q2, q3, q4, q5, q⟩
      · have Q := Lib.hid q
        clear q
        go_wp2
        go_meet
        case rel => exact ⟨Or.inl ⟨by first | rfl | simp [*], Q.out⟩, hr, hB⟩
      · have Q := Lib.hid q
        clear q
        go_wp2
        go_meet
        case rel => exact ⟨Or.inl ⟨by first | rfl | simp [*], Q.out⟩, hr, hB⟩
      · have Q := Lib.hid q
        clear q
        go_wp2
        go_meet
        case rel => exact ⟨Or.inl ⟨by first | rfl | simp [*], Q.out⟩, hr, hB⟩
      · have Q := Lib.hid q
        clear q
        go_wp2
        go_meet
        case rel => exact ⟨Or.inl ⟨by first | rfl | simp [*], Q.out⟩, hr, hB⟩
      · have Q := Lib.hid q
        clear q
        subst q5
        go_wp2
        go_meet
        case rel => exact ⟨Or.inl ⟨by first | rfl | simp [*], Q.out⟩, hr, hB⟩
      · have Q := Lib.hid q
        clear q
        subst q5
        go_wp2
        go_meet
        case rel => exact ⟨Or.inr ⟨by first | rfl | simp [*], Q.out⟩, hr, hB⟩
    case rest =>
    obtain ⟨hq, hr, hB⟩ := hcut
    clear c6 c7 c8 c9 c10
    go_upto_if 88 with fail
    go_cut [6] (fun v6 wx => v6 = S (X5 ++ xW) ∧ Hid (Row wx w.heap.size DT (DC ⟨t, s, r, sh, b, x, h, v, f, g, u, z⟩)) ∧ Hid (Below w.heap.size w wx))
    case first =>
      as_aux_lemma =>
      rcases hq with ⟨rfl, q⟩ | ⟨rfl, q⟩
      · have Q := Lib.hid q
        clear q
        have c6 : wc.cell? ⟨w.heap.size, 6, none⟩ = some (.int .u8 h) := hr.out.cell 6
        have c7 : wc.cell? ⟨w.heap.size, 7, none⟩ = some (.int .i64 v) := hr.out.cell 7
        have g6 := cell_regrown c6
        have g7 := cell_regrown c7
        have B1 := at_class (W := wc) D5.out
        have zd := str_size_le zdv
        have zk : (str [hch h]).size = 1 := str_size _
        have hw8 : IntKind.u8.wrap (h + 1) = h + 1 := by rw [IntKind.wrap_u8]; omega
        obtain ⟨hh0, hh1⟩ := hh
        go_wp2_with fail
        refine wp_region_quiet_below (by kernel_rfl) (by kernel_rfl) ?_; (repeat (first | go_big_quiet_step (with_reducible exact B1 _ _) | quiet_step (with_reducible exact B1 _ _))); refine wpQuiet_nil ?_; intro _ hw'; obtain ⟨⟨dq, osq⟩, hw''⟩ := hw'; subst hw''
        have hb8 := below_regrown wc dq osq
        have hr2 := Lib.hid (hr.out.below hb8 hr.out.lt)
        have hB2 := Lib.hid (below_step hB.out hB.out.size hb8)
        clear B1 hb8 g6 g7 c6 c7
        generalize «Sort».grow (redrawn wc dq) osq = w9 at *
        try rw [hH.out]
        have c8 : w9.cell? ⟨w.heap.size, 8, none⟩ = some (.int .i64 f) := hr2.out.cell 8
        have c9 : w9.cell? ⟨w.heap.size, 9, none⟩ = some (.int .i64 g) := hr2.out.cell 9
        have c10 : w9.cell? ⟨w.heap.size, 10, none⟩ = some (.bool u) := hr2.out.cell 10
        go_upto_region 19 with fail
        obtain ⟨Y, eY⟩ : ∃ Y, Y = X5 ++ ([47] ++ [hch h] ++ dg v) := ⟨_, rfl⟩
        have hY : str X5 ++ ((⟨#[47]⟩ : ByteArray) ++ str [hch h] ++ str (dg v)) = str Y := by rw [eY, ← str_app, ← str_app, ← str_app]; rfl
        rw [hY]
        have zY : (str Y).size ≤ 13 := str_size_le (by rw [eY]; simp only [List.length_append, List.length_cons, List.length_nil]; omega)
        have lY : Y.length ≤ 13 := by rw [str_size] at zY; exact zY
        have EY := Lib.hid eY
        clear eY hY zd
        go_cut [113] (fun c wx => ((c = .bool true ∧ xF = [40] ++ dg f ++ nuL 44 g ++ flL 115 u ++ [41]) ∨ (c = .bool false ∧ xF = [])) ∧ Hid (Row wx w.heap.size DT (DC ⟨t, s, r, sh, b, x, h, v, f, g, u, z⟩)) ∧ Hid (Below w.heap.size w wx))
        case first =>
          as_aux_lemma =>
          rcases T19.out with ⟨q1, q⟩ | ⟨q1, q2, q⟩ | ⟨q1, q2, q3, q⟩ | ⟨q1, q2, q3, q⟩
          · have Q2 := Lib.hid q
            clear q
            go_wp2
            go_meet
            case rel => exact ⟨Or.inl ⟨by first | rfl | simp [*], Q2.out⟩, hr2, hB2⟩
          · have Q2 := Lib.hid q
            clear q
            go_wp2
            go_meet
            case rel => exact ⟨Or.inl ⟨by first | rfl | simp [*], Q2.out⟩, hr2, hB2⟩
          · have Q2 := Lib.hid q
            clear q
            subst q3
            go_wp2
            go_meet
            case rel => exact ⟨Or.inl ⟨by first | rfl | simp [*], Q2.out⟩, hr2, hB2⟩
          · have Q2 := Lib.hid q
            clear q
            subst q3
            go_wp2
            go_meet
            case rel => exact ⟨Or.inr ⟨by first | rfl | simp [*], Q2.out⟩, hr2, hB2⟩
        case rest =>
        obtain ⟨hq, hr, hB⟩ := hcut
        clear c8 c9 c10 hr2 hB2
        go_upto_if 113 with fail
        rcases hq with ⟨rfl, q⟩ | ⟨rfl, q⟩
        · have Q2 := Lib.hid q
          clear q
          have c8 : wc.cell? ⟨w.heap.size, 8, none⟩ = some (.int .i64 f) := hr.out.cell 8
          have zd := str_size_le zdf
          go_wp2_with fail
          refine (D6.out _).mono ?_
          rintro e w2 ⟨rfl, hb2⟩
          have hr3 := Lib.hid (hr.out.below hb2 hr.out.lt)
          have hB3 := Lib.hid (below_step hB.out hB.out.size hb2)
          clear hb2 c8
          have c9 : w2.cell? ⟨w.heap.size, 9, none⟩ = some (.int .i64 g) := hr3.out.cell 9
          go_upto_if 122 with fail
          obtain ⟨Y1, eY1⟩ : ∃ Y1, Y1 = Y ++ ([40] ++ dg f) := ⟨_, rfl⟩
          have hY1 : str Y ++ ((⟨#[40]⟩ : ByteArray) ++ str (dg f)) = str Y1 := by rw [eY1, ← str_app, ← str_app]; rfl
          rw [hY1]
          have zY1 : (str Y1).size ≤ 16 := str_size_le (by rw [eY1]; simp only [List.length_append, List.length_cons, List.length_nil]; omega)
          have lY1 : Y1.length ≤ 16 := by rw [str_size] at zY1; exact zY1
          have EY1 := Lib.hid eY1
          clear eY1 hY1 zd
          go_cut [6] (fun v6 wx => v6 = S (Y1 ++ nuL 44 g) ∧ Hid (Row wx w.heap.size DT (DC ⟨t, s, r, sh, b, x, h, v, f, g, u, z⟩)) ∧ Hid (Below w.heap.size w wx))
          case first =>
            as_aux_lemma =>
            rcases HG.out with ⟨h0, q⟩ | ⟨h0, q⟩
            · have Q3 := Lib.hid q
              clear q
              go_wp2
              go_meet
              case rel => exact ⟨by show Value.string _ = Value.string _; rw [Q3.out, List.append_nil], hr3, hB3⟩
            · have Q3 := Lib.hid q
              clear q
              have zd := str_size_le zdg
              go_wp2_with fail
              refine (D7.out _).mono ?_
              rintro e w4 ⟨rfl, hb4⟩
              go_wp2
              go_meet
              case rel => exact ⟨by show Value.string _ = Value.string _; rw [Q3.out, show (44 :: dg g) = [44] ++ dg g from rfl, ← str_app, ← str_app]; rfl, Lib.hid (hr3.out.below hb4 hr3.out.lt), Lib.hid (below_step hB3.out hB3.out.size hb4)⟩
          case rest =>
          have znu := nuL_len 44 g
          have zfl := flL_len 115 u
          obtain ⟨rfl, hr, hB⟩ := hcut
          obtain ⟨Y2, eY2⟩ : ∃ X, X = Y1 ++ nuL 44 g := ⟨_, rfl⟩
          rw [← eY2]
          have zY2 : (str Y2).size ≤ 19 := str_size_le (by rw [eY2]; simp only [List.length_append, List.length_cons, List.length_nil]; omega)
          have lY2 : Y2.length ≤ 19 := by rw [str_size] at zY2; exact zY2
          have EY2 := Lib.hid eY2
          clear eY2 c9
          have c10 : wc.cell? ⟨w.heap.size, 10, none⟩ = some (.bool u) := hr.out.cell 10
          go_upto_if 130 with fail
          go_cut [6] (fun v6 wx => v6 = S (Y2 ++ flL 115 u) ∧ Hid (Row wx w.heap.size DT (DC ⟨t, s, r, sh, b, x, h, v, f, g, u, z⟩)) ∧ Hid (Below w.heap.size w wx))
          case first =>
            as_aux_lemma =>
            cases u
            · go_wp2
              go_meet
              case rel => exact ⟨by show Value.string _ = Value.string _; rw [show flL 115 false = [] from rfl, List.append_nil], hr, hB⟩
            · go_wp2
              go_meet
              case rel => exact ⟨by show Value.string _ = Value.string _; rw [show flL 115 true = [115] from rfl, ← str_app]; rfl, hr, hB⟩
          case rest =>
          obtain ⟨rfl, hr, hB⟩ := hcut
          obtain ⟨Y3, eY3⟩ : ∃ X, X = Y2 ++ flL 115 u := ⟨_, rfl⟩
          rw [← eY3]
          have zY3 : (str Y3).size ≤ 20 := str_size_le (by rw [eY3]; simp only [List.length_append, List.length_cons, List.length_nil]; omega)
          have lY3 : Y3.length ≤ 20 := by rw [str_size] at zY3; exact zY3
          have EY3 := Lib.hid eY3
          clear eY3 c10
          go_wp2
          go_meet
          case rel => exact ⟨by show Value.string _ = Value.string _; rw [show (⟨#[41]⟩ : ByteArray) = str [41] from rfl, str_app, EY3.out, EY2.out, EY1.out, EY.out, Q.out, Q2.out]; congr 1; simp only [List.append_assoc], hr, hB⟩
        · have Q2 := Lib.hid q
          clear q
          go_wp2
          go_meet
          case rel => exact ⟨by show Value.string _ = Value.string _; rw [EY.out, Q.out, Q2.out, List.append_nil], hr, hB⟩
      · have Q := Lib.hid q
        clear q
        go_wp2
        go_meet
        case rel => exact ⟨by show Value.string _ = Value.string _; rw [Q.out, List.append_nil], hr, hB⟩
    case rest =>
    obtain ⟨rfl, hr, hB⟩ := hcut
    obtain ⟨X6, eX6⟩ : ∃ X, X = X5 ++ xW := ⟨_, rfl⟩
    rw [← eX6]
    have zX6 : (str X6).size ≤ 23 := str_size_le (by rw [eX6]; simp only [List.length_append, List.length_cons, List.length_nil]; omega)
    have lX6 : X6.length ≤ 23 := by rw [str_size] at zX6; exact zX6
    have EX6 := Lib.hid eX6
    clear eX6 hq
    have c11 : wc.cell? ⟨w.heap.size, 11, none⟩ = some (.int .i64 z) := hr.out.cell 11
    have HF : Hid (X6 ++ xZ = xA) := Lib.hid (by rw [EX6.out, EX5.out, EX4.out, EX3.out, EX2.out]; exact hE.out)
    rcases HZ.out with ⟨h0, q⟩ | ⟨h0, q⟩
    · have Q := Lib.hid q
      clear q
      go_wp2
      go_returns
      exact ⟨by rw [← e1.out, ← HF.out, Q.out, List.append_nil]; rfl, hB.out⟩
    · have Q := Lib.hid q
      clear q
      have zd := str_size_le zdz
      go_wp2_with fail
      refine (D8.out _).mono ?_
      rintro e w2 ⟨rfl, hb2⟩
      go_wp2
      go_returns
      exact ⟨by rw [← e1.out, ← HF.out, Q.out, show (64 :: dg z) = [64] ++ dg z from rfl]; show Ending.returned (Value.tuple #[Value.string (str X6 ++ (str [64] ++ str (dg z))), Value.int .i64 0]) = _; rw [str_app, str_app], below_step hB.out hB.out.size hb2⟩
  · have e0 : prL d = [] := by unfold prL; rw [if_neg hk]
    have kk : (chk d != 0) = true := by simpa using hk
    rw [e0]
    generalize chk d = C at *
    obtain ⟨t, s, r, sh, b, x, h, v, f, g, u, z⟩ := d
    dsimp only at *
    clear hk e0 hw
    go_enter Tryz.func32, Tryz.ntmps32
    go_wp2_with (go_at_call 38; ((with_reducible refine (HC.out _).mono ?_); rintro e w1 ⟨rfl, hb1⟩); have hz1 := hb1.size; (try simp only [World.size_alloc, World.size_setCell, World.size_drew, size_drewN'] at hz1))
    go_returns
    exact ⟨rfl, below_step (by (repeat' (first | (with_reducible exact Below.refl _ _) | (with_reducible refine Below.setCell ?_ ?_ _) | (with_reducible refine Below.alloc ?_ ?_ _) | (with_reducible refine Below.drew ?_) | (with_reducible refine belowN ?_ _) | (with_reducible refine below_step ?_ ?_ (by with_reducible assumption)) | go_size))) (by go_size) hb1⟩
end Go.Proofs.YtdgmogmldfhgcaaGreatDoor
