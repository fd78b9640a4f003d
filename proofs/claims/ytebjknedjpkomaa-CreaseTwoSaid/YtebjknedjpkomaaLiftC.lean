/- Openers of the arguments of the laws of layer 12: acts, lists of acts, bytes. -/
import Derived.Test.YtebjknedjpkomaaLiftF
import Derived.Test.YtebjknedjpkomaaCrl
set_option linter.unusedSimpArgs false
set_option linter.unusedVariables false
set_option maxRecDepth 100000
namespace Go.Proofs.Ytebjknedjpkomaa
open Go.ChangeShapes Go.WideShapes Go.ChangeAt Go.RowKit Go.Joins

attribute [local simp] ga
section
variable {H : Type} {enc : TypeId × Value → H} {w : World} {base b0 : Nat} {spare : Nat → Bool} {held : Bool} {r : Reach} {fuel : Nat} {x : DataW H × List MemPlace}
theorem q_del_0 : Try.prog.cellsOf 36 = 1 := by kernel_rfl
theorem q_del_1 : Try.prog.cellsOf 37 = 1 := by kernel_rfl
theorem q_del_2 : Try.prog.cellsOf 3 = 1 := by kernel_rfl
theorem q_del_3 : Try.prog.cellsOf 4 = 1 := by kernel_rfl
theorem q_del_4 : Try.prog.cellsOf 38 = 1 := by kernel_rfl
set_option maxRecDepth 100000 in
theorem oc_del {cs : List Value} (h : DataW.trod enc Try.prog w base spare held fuel 40 cs = some x) : ∃ (z0 : Int) (z1 : Int) (z2 : Int) (z3 : Int) (z4 : Int) (z5 : Bool) (z6 : Int) (z7 : Int) (z8 : Int) (z9 : Int) (z10 : Bool) (z11 : Int), cs = [.int .u8 z0, .int .u8 z1, .int .i64 z2, .int .i64 z3, .int .i64 z4, .bool z5, .int .u8 z6, .int .i64 z7, .int .i64 z8, .int .i64 z9, .bool z10, .int .i64 z11] ∧ (0 ≤ z0 ∧ z0 ≤ 255) ∧ (0 ≤ z1 ∧ z1 ≤ 255) ∧ (-9223372036854775808 ≤ z2 ∧ z2 ≤ 9223372036854775807) ∧ (-9223372036854775808 ≤ z3 ∧ z3 ≤ 9223372036854775807) ∧ (-9223372036854775808 ≤ z4 ∧ z4 ≤ 9223372036854775807) ∧ (0 ≤ z6 ∧ z6 ≤ 255) ∧ (-9223372036854775808 ≤ z7 ∧ z7 ≤ 9223372036854775807) ∧ (-9223372036854775808 ≤ z8 ∧ z8 ≤ 9223372036854775807) ∧ (-9223372036854775808 ≤ z9 ∧ z9 ≤ 9223372036854775807) ∧ (-9223372036854775808 ≤ z11 ∧ z11 ≤ 9223372036854775807) := by
  obtain ⟨xs, n2, _, _, hl, hxl, hf⟩ := DataW.trod_struct Try.underlying40 h
  have hln : cs.length = 12 := hl.trans (by kernel_rfl)
  obtain ⟨c0, c1, c2, c3, c4, c5, c6, c7, c8, c9, c10, c11, rfl⟩ : ∃ c0 c1 c2 c3 c4 c5 c6 c7 c8 c9 c10 c11, cs = [c0, c1, c2, c3, c4, c5, c6, c7, c8, c9, c10, c11] := by
    match cs, hln with
    | [c0, c1, c2, c3, c4, c5, c6, c7, c8, c9, c10, c11], _ => exact ⟨c0, c1, c2, c3, c4, c5, c6, c7, c8, c9, c10, c11, rfl⟩
  obtain ⟨y0, y1, y2, y3, y4, y5, y6, y7, y8, y9, y10, y11, rfl⟩ : ∃ y0 y1 y2 y3 y4 y5 y6 y7 y8 y9 y10 y11, xs = [y0, y1, y2, y3, y4, y5, y6, y7, y8, y9, y10, y11] := by
    match xs, hxl with
    | [y0, y1, y2, y3, y4, y5, y6, y7, y8, y9, y10, y11], _ => exact ⟨y0, y1, y2, y3, y4, y5, y6, y7, y8, y9, y10, y11, rfl⟩
  have h0 := hf 0 _ rfl
  have h1 := hf 1 _ rfl
  have h2 := hf 2 _ rfl
  have h3 := hf 3 _ rfl
  have h4 := hf 4 _ rfl
  have h5 := hf 5 _ rfl
  have h6 := hf 6 _ rfl
  have h7 := hf 7 _ rfl
  have h8 := hf 8 _ rfl
  have h9 := hf 9 _ rfl
  have h10 := hf 10 _ rfl
  have h11 := hf 11 _ rfl
  simp only [q_del_0, q_del_1, q_del_2, q_del_3, q_del_4, List.drop_succ_cons, List.drop_zero, List.take_succ_cons, List.take_zero, List.getElem?_cons_zero, List.getElem?_cons_succ] at h0 h1 h2 h3 h4 h5 h6 h7 h8 h9 h10 h11
  obtain ⟨z0, e0, _, g0⟩ := DataW.trod_int Try.underlying36 h0
  injection e0 with e0
  subst e0
  obtain ⟨z1, e1, _, g1⟩ := DataW.trod_int Try.underlying37 h1
  injection e1 with e1
  subst e1
  obtain ⟨z2, e2, _, g2⟩ := DataW.trod_int Try.underlying3 h2
  injection e2 with e2
  subst e2
  obtain ⟨z3, e3, _, g3⟩ := DataW.trod_int Try.underlying3 h3
  injection e3 with e3
  subst e3
  obtain ⟨z4, e4, _, g4⟩ := DataW.trod_int Try.underlying3 h4
  injection e4 with e4
  subst e4
  obtain ⟨z5, e5, _⟩ := DataW.trod_bool Try.underlying4 h5
  injection e5 with e5
  subst e5
  obtain ⟨z6, e6, _, g6⟩ := DataW.trod_int Try.underlying38 h6
  injection e6 with e6
  subst e6
  obtain ⟨z7, e7, _, g7⟩ := DataW.trod_int Try.underlying3 h7
  injection e7 with e7
  subst e7
  obtain ⟨z8, e8, _, g8⟩ := DataW.trod_int Try.underlying3 h8
  injection e8 with e8
  subst e8
  obtain ⟨z9, e9, _, g9⟩ := DataW.trod_int Try.underlying3 h9
  injection e9 with e9
  subst e9
  obtain ⟨z10, e10, _⟩ := DataW.trod_bool Try.underlying4 h10
  injection e10 with e10
  subst e10
  obtain ⟨z11, e11, _, g11⟩ := DataW.trod_int Try.underlying3 h11
  injection e11 with e11
  subst e11
  exact ⟨z0, z1, z2, z3, z4, z5, z6, z7, z8, z9, z10, z11, rfl, (by simp [Lit.wf, IntKind.min, IntKind.max, IntKind.signed, IntKind.bits] at g0; omega), (by simp [Lit.wf, IntKind.min, IntKind.max, IntKind.signed, IntKind.bits] at g1; omega), (by simp [Lit.wf, IntKind.min, IntKind.max, IntKind.signed, IntKind.bits] at g2; omega), (by simp [Lit.wf, IntKind.min, IntKind.max, IntKind.signed, IntKind.bits] at g3; omega), (by simp [Lit.wf, IntKind.min, IntKind.max, IntKind.signed, IntKind.bits] at g4; omega), (by simp [Lit.wf, IntKind.min, IntKind.max, IntKind.signed, IntKind.bits] at g6; omega), (by simp [Lit.wf, IntKind.min, IntKind.max, IntKind.signed, IntKind.bits] at g7; omega), (by simp [Lit.wf, IntKind.min, IntKind.max, IntKind.signed, IntKind.bits] at g8; omega), (by simp [Lit.wf, IntKind.min, IntKind.max, IntKind.signed, IntKind.bits] at g9; omega), (by simp [Lit.wf, IntKind.min, IntKind.max, IntKind.signed, IntKind.bits] at g11; omega)⟩
end

section
variable {H : Type} {enc : TypeId × Value → H} {w : World} {base b0 : Nat} {spare : Nat → Bool} {held : Bool} {r : Reach} {fuel : Nat} {x : DataW H × List MemPlace}
theorem q_act2_0 : Try.prog.cellsOf 5 = 1 := by kernel_rfl
theorem q_act2_1 : Try.prog.cellsOf 3 = 1 := by kernel_rfl
theorem q_act2_2 : Try.prog.cellsOf 4 = 1 := by kernel_rfl
theorem q_act2_3 : Try.prog.cellsOf 40 = 12 := by kernel_rfl
set_option maxRecDepth 100000 in
theorem oc_act2 {cs : List Value} (h : DataW.trod enc Try.prog w base spare held fuel 42 cs = some x) : ∃ (z0 : Int) (z1 : Int) (z2 : Int) (z3 : Bool) (z4_0 : Int) (z4_1 : Int) (z4_2 : Int) (z4_3 : Int) (z4_4 : Int) (z4_5 : Bool) (z4_6 : Int) (z4_7 : Int) (z4_8 : Int) (z4_9 : Int) (z4_10 : Bool) (z4_11 : Int), cs = [.int .u8 z0, .int .i64 z1, .int .i64 z2, .bool z3, .int .u8 z4_0, .int .u8 z4_1, .int .i64 z4_2, .int .i64 z4_3, .int .i64 z4_4, .bool z4_5, .int .u8 z4_6, .int .i64 z4_7, .int .i64 z4_8, .int .i64 z4_9, .bool z4_10, .int .i64 z4_11] ∧ (0 ≤ z0 ∧ z0 ≤ 255) ∧ (-9223372036854775808 ≤ z1 ∧ z1 ≤ 9223372036854775807) ∧ (-9223372036854775808 ≤ z2 ∧ z2 ≤ 9223372036854775807) ∧ (0 ≤ z4_0 ∧ z4_0 ≤ 255) ∧ (0 ≤ z4_1 ∧ z4_1 ≤ 255) ∧ (-9223372036854775808 ≤ z4_2 ∧ z4_2 ≤ 9223372036854775807) ∧ (-9223372036854775808 ≤ z4_3 ∧ z4_3 ≤ 9223372036854775807) ∧ (-9223372036854775808 ≤ z4_4 ∧ z4_4 ≤ 9223372036854775807) ∧ (0 ≤ z4_6 ∧ z4_6 ≤ 255) ∧ (-9223372036854775808 ≤ z4_7 ∧ z4_7 ≤ 9223372036854775807) ∧ (-9223372036854775808 ≤ z4_8 ∧ z4_8 ≤ 9223372036854775807) ∧ (-9223372036854775808 ≤ z4_9 ∧ z4_9 ≤ 9223372036854775807) ∧ (-9223372036854775808 ≤ z4_11 ∧ z4_11 ≤ 9223372036854775807) := by
  obtain ⟨xs, n2, _, _, hl, hxl, hf⟩ := DataW.trod_struct Try.underlying42 h
  have hln : cs.length = 16 := hl.trans (by kernel_rfl)
  obtain ⟨c0, c1, c2, c3, c4, c5, c6, c7, c8, c9, c10, c11, c12, c13, c14, c15, rfl⟩ : ∃ c0 c1 c2 c3 c4 c5 c6 c7 c8 c9 c10 c11 c12 c13 c14 c15, cs = [c0, c1, c2, c3, c4, c5, c6, c7, c8, c9, c10, c11, c12, c13, c14, c15] := by
    match cs, hln with
    | [c0, c1, c2, c3, c4, c5, c6, c7, c8, c9, c10, c11, c12, c13, c14, c15], _ => exact ⟨c0, c1, c2, c3, c4, c5, c6, c7, c8, c9, c10, c11, c12, c13, c14, c15, rfl⟩
  obtain ⟨y0, y1, y2, y3, y4, rfl⟩ : ∃ y0 y1 y2 y3 y4, xs = [y0, y1, y2, y3, y4] := by
    match xs, hxl with
    | [y0, y1, y2, y3, y4], _ => exact ⟨y0, y1, y2, y3, y4, rfl⟩
  have h0 := hf 0 _ rfl
  have h1 := hf 1 _ rfl
  have h2 := hf 2 _ rfl
  have h3 := hf 3 _ rfl
  have h4 := hf 4 _ rfl
  simp only [q_act2_0, q_act2_1, q_act2_2, q_act2_3, List.drop_succ_cons, List.drop_zero, List.take_succ_cons, List.take_zero, List.getElem?_cons_zero, List.getElem?_cons_succ] at h0 h1 h2 h3 h4
  obtain ⟨z0, e0, _, g0⟩ := DataW.trod_int Try.underlying5 h0
  injection e0 with e0
  subst e0
  obtain ⟨z1, e1, _, g1⟩ := DataW.trod_int Try.underlying3 h1
  injection e1 with e1
  subst e1
  obtain ⟨z2, e2, _, g2⟩ := DataW.trod_int Try.underlying3 h2
  injection e2 with e2
  subst e2
  obtain ⟨z3, e3, _⟩ := DataW.trod_bool Try.underlying4 h3
  injection e3 with e3
  subst e3
  obtain ⟨z4_0, z4_1, z4_2, z4_3, z4_4, z4_5, z4_6, z4_7, z4_8, z4_9, z4_10, z4_11, e4, g4_0, g4_1, g4_2, g4_3, g4_4, g4_5, g4_6, g4_7, g4_8, g4_9⟩ := oc_del h4
  have e4 : [c4, c5, c6, c7, c8, c9, c10, c11, c12, c13, c14, c15] = [.int .u8 z4_0, .int .u8 z4_1, .int .i64 z4_2, .int .i64 z4_3, .int .i64 z4_4, .bool z4_5, .int .u8 z4_6, .int .i64 z4_7, .int .i64 z4_8, .int .i64 z4_9, .bool z4_10, .int .i64 z4_11] := e4
  simp only [List.cons.injEq, and_true] at e4
  obtain ⟨rfl, rfl, rfl, rfl, rfl, rfl, rfl, rfl, rfl, rfl, rfl, rfl⟩ := e4
  exact ⟨z0, z1, z2, z3, z4_0, z4_1, z4_2, z4_3, z4_4, z4_5, z4_6, z4_7, z4_8, z4_9, z4_10, z4_11, rfl, (by simp [Lit.wf, IntKind.min, IntKind.max, IntKind.signed, IntKind.bits] at g0; omega), (by simp [Lit.wf, IntKind.min, IntKind.max, IntKind.signed, IntKind.bits] at g1; omega), (by simp [Lit.wf, IntKind.min, IntKind.max, IntKind.signed, IntKind.bits] at g2; omega), g4_0, g4_1, g4_2, g4_3, g4_4, g4_5, g4_6, g4_7, g4_8, g4_9⟩
end

section
variable {H : Type} {enc : TypeId × Value → H} {w : World} {base b0 : Nat} {spare : Nat → Bool} {held : Bool} {r : Reach} {fuel : Nat} {x : DataW H × List MemPlace}
theorem op_act2 {v : Value} {d : DataW H} {p : List MemPlace} (hv : Value.okWide Try.prog w r b0 42 v) (h : DataW.Trod enc Try.prog w base spare held 42 v d p) : ∃ (e : Ac2), v = acV e ∧ (0 ≤ e.k ∧ e.k ≤ 255) := by
  obtain ⟨cs, rfl, _⟩ := okWide_struct Try.underlying42 hv
  obtain ⟨fuel, h⟩ := h
  have hh : DataW.trod enc Try.prog w base spare held fuel 42 cs.toList = some (d, p) := by simpa [Value.cells] using h
  obtain ⟨z0, z1, z2, z3, z4_0, z4_1, z4_2, z4_3, z4_4, z4_5, z4_6, z4_7, z4_8, z4_9, z4_10, z4_11, ecs, f0, f1, f2, f3, f4, f5, f6, f7, f8, f9, f10, f11, f12⟩ := oc_act2 hh
  refine ⟨⟨z0, z1, z2, z3, z4_0, z4_1, z4_2, z4_3, z4_4, z4_5, z4_6, z4_7, z4_8, z4_9, z4_10, z4_11⟩, ?_, f0⟩
  rw [← Array.toArray_toList (xs := cs), ecs]
  rfl
end

section
variable {H : Type} {enc : TypeId × Value → H} {w : World} {base b0 : Nat} {spare : Nat → Bool} {held : Bool} {r : Reach} {fuel : Nat} {x : DataW H × List MemPlace}
theorem s1_cAc : Try.prog.cellsOf 42 = 16 := by kernel_rfl
set_option maxRecDepth 100000 in
theorem ol_cAc {t : TypeId} {cs : List Value} (ht : Try.prog.underlying t = some (.slice 42)) (h : DataW.trod enc Try.prog w base spare held fuel t cs = some x) :
    ∃ (a : Option Addr) (l : List Ac2) (c : Nat), cs = [.slice a l.length c] ∧ AOK a l.length ∧ l.length ≤ c ∧ Rd w a (cAc l) ∧ ∀ e ∈ l, 0 ≤ e.k ∧ e.k ≤ 255 := by
  rcases Go.Deep.open_slice ht h with ⟨rfl, _⟩ | ⟨a, len, cap, m, k, D, Pl, rfl, hb, hl, hc, hm, hx, hi⟩
  · exact ⟨none, [], 0, rfl, ⟨(fun _ => rfl), (fun hn => absurd rfl hn)⟩, Nat.le_refl _, (fun k v hv => by simp [cAc] at hv), (fun e he => by cases he)⟩
  · have hml : len ≤ m := by rw [hm]; split <;> omega
    obtain ⟨l, hll, hq⟩ := list_of (fun i (e : Ac2) => (∀ j, j < 16 → w.cell? ((a.add (i * 16)).add j) = some (cAc_rd [e] 0 j)) ∧ 0 ≤ e.k ∧ e.k ≤ 255) len (fun i hil => by
      obtain ⟨cs', h1, h2⟩ := hi i (by omega)
      rw [s1_cAc] at h1
      obtain ⟨z0, z1, z2, z3, z4_0, z4_1, z4_2, z4_3, z4_4, z4_5, z4_6, z4_7, z4_8, z4_9, z4_10, z4_11, rfl, f0, f1, f2, f3, f4, f5, f6, f7, f8, f9, f10, f11, f12⟩ := oc_act2 h2
      obtain ⟨_, _, hat⟩ := World.cells?_some h1
      refine ⟨⟨z0, z1, z2, z3, z4_0, z4_1, z4_2, z4_3, z4_4, z4_5, z4_6, z4_7, z4_8, z4_9, z4_10, z4_11⟩, ?_, f0⟩
      intro j hj
      rw [hat j hj]
      have : j = 0 ∨ j = 1 ∨ j = 2 ∨ j = 3 ∨ j = 4 ∨ j = 5 ∨ j = 6 ∨ j = 7 ∨ j = 8 ∨ j = 9 ∨ j = 10 ∨ j = 11 ∨ j = 12 ∨ j = 13 ∨ j = 14 ∨ j = 15 := by omega
      rcases this with rfl | rfl | rfl | rfl | rfl | rfl | rfl | rfl | rfl | rfl | rfl | rfl | rfl | rfl | rfl | rfl <;> rfl)
    have hsp : len ≠ 0 → a.spot = none := fun hn => by
      obtain ⟨e, he⟩ : ∃ e, l[0]? = some e := by cases l with | nil => simp at hll; omega | cons e r => exact ⟨e, rfl⟩
      have := World.cell?_spot ((hq 0 e he).1 0 (by omega))
      simpa [Addr.add] using this
    refine ⟨some a, l, cap, by rw [hll], ⟨(fun e => by cases e), fun hn q hq => ?_⟩, by rw [hll]; exact hl, (fun k v hv => ?_), (fun e he => by obtain ⟨i, hi2⟩ := List.getElem?_of_mem he; exact (hq i e hi2).2)⟩
    · injection hq with hq
      subst hq
      exact hsp (by rw [← hll]; exact hn)
    · have hk : k < l.length * 16 := by
        have := (List.getElem?_eq_some_iff.1 hv).1
        rwa [cAc_len] at this
      have hk1 : k / 16 < l.length := by omega
      have hk2 : k % 16 < 16 := by omega
      have hk3 : k / 16 * 16 + k % 16 = k := by omega
      have hv2 := cAc_at hk1 hk2
      rw [hk3] at hv2
      rw [hv2] at hv
      injection hv with hv
      have he : l[k / 16]? = some l[k / 16] := by simp [hk1]
      have hc1 := (hq _ _ he).1 (k % 16) hk2
      have e1 : cAc_rd l (k / 16) (k % 16) = cAc_rd [l[k / 16]] 0 (k % 16) := by
        have : k % 16 = 0 ∨ k % 16 = 1 ∨ k % 16 = 2 ∨ k % 16 = 3 ∨ k % 16 = 4 ∨ k % 16 = 5 ∨ k % 16 = 6 ∨ k % 16 = 7 ∨ k % 16 = 8 ∨ k % 16 = 9 ∨ k % 16 = 10 ∨ k % 16 = 11 ∨ k % 16 = 12 ∨ k % 16 = 13 ∨ k % 16 = 14 ∨ k % 16 = 15 := by omega
        rcases this with e | e | e | e | e | e | e | e | e | e | e | e | e | e | e | e <;> rw [e] <;> simp [cAc_rd, hk1]
      rw [← hv, e1, ← hc1]
      have hs := hsp (by omega)
      obtain ⟨bb, oo, ss⟩ := a
      simp only at hs
      subst hs
      congr 1
      rw [Go.Deep.add_add]
      unfold Addr.add
      by_cases hz : k / 16 * 16 + k % 16 = 0
      · rw [if_pos hz]; simp [bk, ofs]; omega
      · rw [if_neg hz]; simp [bk, ofs]; omega
end

section
variable {H : Type} {enc : TypeId × Value → H} {w : World} {base b0 : Nat} {spare : Nat → Bool} {held : Bool} {r : Reach}
theorem op_acts2 {v : Value} {d : DataW H} {p : List MemPlace} (hv : Value.okWide Try.prog w r b0 22 v) (h : DataW.Trod enc Try.prog w base spare held 22 v d p) : ∃ (a : Option Addr) (l : List Ac2) (c : Nat), v = .slice a l.length c ∧ AOK a l.length ∧ l.length ≤ c ∧ Rd w a (cAc l) ∧ ∀ e ∈ l, 0 ≤ e.k ∧ e.k ≤ 255 := by
  obtain ⟨a, n, c, rfl⟩ := okWide_slice Try.underlying22 hv
  obtain ⟨fuel, h⟩ := h
  have hh : DataW.trod enc Try.prog w base spare held fuel 22 [.slice a n c] = some (d, p) := by simpa [Value.cells] using h
  obtain ⟨a', l, c', e, f0, f1, f2, f3⟩ := ol_cAc Try.underlying22 hh
  simp only [List.cons.injEq, and_true] at e
  exact ⟨a', l, c', e, f0, f1, f2, f3⟩
end
end Go.Proofs.Ytebjknedjpkomaa
