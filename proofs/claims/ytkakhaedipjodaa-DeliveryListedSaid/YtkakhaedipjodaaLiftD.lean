/- Openers of the arguments of layer 9's laws. -/
import Derived.Test.YtkakhaedipjodaaRows
import Derived.Test.YtkakhaedipjodaaFrame
import Derived.Lib.SmallJoins
import Derived.ProofKit
import Derived.OpenShut
import Derived.Deep.Fields
set_option linter.unusedSimpArgs false
set_option linter.unusedVariables false
namespace Go.Proofs.Ytkakhaedipjodaa
open Go.ChangeShapes Go.WideShapes Go.ChangeAt Go.RowKit Go.Joins

theorem own : ownKnob Try.prog.godebug = none := by kernel_rfl
theorem laidOut : laidOutB Try.prog = true := by kernel_rfl
section
variable {H : Type} {enc : TypeId × Value → H} {w : World} {base b0 : Nat} {spare : Nat → Bool} {held : Bool} {r : Reach}
theorem c_del_0 : Try.prog.cellsOf 22 = 1 := by kernel_rfl
theorem c_del_1 : Try.prog.cellsOf 23 = 1 := by kernel_rfl
theorem c_del_2 : Try.prog.cellsOf 3 = 1 := by kernel_rfl
theorem c_del_3 : Try.prog.cellsOf 4 = 1 := by kernel_rfl
theorem c_del_4 : Try.prog.cellsOf 24 = 1 := by kernel_rfl
set_option maxRecDepth 100000 in
theorem op_del {v : Value} {d : DataW H} {p : List MemPlace} (hv : Value.okWide Try.prog w r b0 26 v) (h : DataW.Trod enc Try.prog w base spare held 26 v d p) : ∃ (x0 : Int) (x1 : Int) (x2 : Int) (x3 : Int) (x4 : Int) (x5 : Bool) (x6 : Int) (x7 : Int) (x8 : Int) (x9 : Int) (x10 : Bool) (x11 : Int), v = .agg #[.int .u8 x0, .int .u8 x1, .int .i64 x2, .int .i64 x3, .int .i64 x4, .bool x5, .int .u8 x6, .int .i64 x7, .int .i64 x8, .int .i64 x9, .bool x10, .int .i64 x11] ∧ (0 ≤ x0 ∧ x0 ≤ 255) ∧ (0 ≤ x1 ∧ x1 ≤ 255) ∧ (-9223372036854775808 ≤ x2 ∧ x2 ≤ 9223372036854775807) ∧ (-9223372036854775808 ≤ x3 ∧ x3 ≤ 9223372036854775807) ∧ (-9223372036854775808 ≤ x4 ∧ x4 ≤ 9223372036854775807) ∧ (0 ≤ x6 ∧ x6 ≤ 255) ∧ (-9223372036854775808 ≤ x7 ∧ x7 ≤ 9223372036854775807) ∧ (-9223372036854775808 ≤ x8 ∧ x8 ≤ 9223372036854775807) ∧ (-9223372036854775808 ≤ x9 ∧ x9 ≤ 9223372036854775807) ∧ (-9223372036854775808 ≤ x11 ∧ x11 ≤ 9223372036854775807) := by
  obtain ⟨cs, rfl, _⟩ := okWide_struct Try.underlying26 hv
  obtain ⟨fuel, h⟩ := h
  have hh : DataW.trod enc Try.prog w base spare held fuel 26 cs.toList = some (d, p) := by simpa [Value.cells] using h
  obtain ⟨xs, n', _, hx, hl, hxl, hf⟩ := DataW.trod_struct Try.underlying26 hh
  have hln : cs.toList.length = 12 := hl.trans (by kernel_rfl)
  obtain ⟨c0, c1, c2, c3, c4, c5, c6, c7, c8, c9, c10, c11, ecs⟩ : ∃ c0 c1 c2 c3 c4 c5 c6 c7 c8 c9 c10 c11, cs.toList = [c0, c1, c2, c3, c4, c5, c6, c7, c8, c9, c10, c11] := by
    match cs.toList, hln with
    | [c0, c1, c2, c3, c4, c5, c6, c7, c8, c9, c10, c11], _ => exact ⟨c0, c1, c2, c3, c4, c5, c6, c7, c8, c9, c10, c11, rfl⟩
  obtain ⟨y0, y1, y2, y3, y4, y5, y6, y7, y8, y9, y10, y11, rfl⟩ : ∃ y0 y1 y2 y3 y4 y5 y6 y7 y8 y9 y10 y11, xs = [y0, y1, y2, y3, y4, y5, y6, y7, y8, y9, y10, y11] := by
    match xs, hxl with
    | [y0, y1, y2, y3, y4, y5, y6, y7, y8, y9, y10, y11], _ => exact ⟨y0, y1, y2, y3, y4, y5, y6, y7, y8, y9, y10, y11, rfl⟩
  rw [ecs] at hf
  have h0 := hf 0 _ rfl
  have h1 := hf 1 _ rfl
  have h2 := hf 2 _ rfl
  have h3 := hf 3 _ rfl
  have h4 := hf 4 _ rfl
  have h5 := hf 5 _ rfl
  have h6 := hf 6 _ rfl
  have h7 := hf 7 _ rfl
  have h8 := hf 8 _ rfl
  have h9 := hf 9 _ rfl
  have h10 := hf 10 _ rfl
  have h11 := hf 11 _ rfl
  simp only [c_del_0, c_del_1, c_del_2, c_del_3, c_del_4, List.drop_succ_cons, List.drop_zero, List.take_succ_cons, List.take_zero, List.getElem?_cons_zero, List.getElem?_cons_succ] at h0 h1 h2 h3 h4 h5 h6 h7 h8 h9 h10 h11
  obtain ⟨z0, e0, _, q0⟩ := DataW.trod_int Try.underlying22 h0
  obtain ⟨z1, e1, _, q1⟩ := DataW.trod_int Try.underlying23 h1
  obtain ⟨z2, e2, _, q2⟩ := DataW.trod_int Try.underlying3 h2
  obtain ⟨z3, e3, _, q3⟩ := DataW.trod_int Try.underlying3 h3
  obtain ⟨z4, e4, _, q4⟩ := DataW.trod_int Try.underlying3 h4
  obtain ⟨z5, e5, _⟩ := DataW.trod_bool Try.underlying4 h5
  obtain ⟨z6, e6, _, q6⟩ := DataW.trod_int Try.underlying24 h6
  obtain ⟨z7, e7, _, q7⟩ := DataW.trod_int Try.underlying3 h7
  obtain ⟨z8, e8, _, q8⟩ := DataW.trod_int Try.underlying3 h8
  obtain ⟨z9, e9, _, q9⟩ := DataW.trod_int Try.underlying3 h9
  obtain ⟨z10, e10, _⟩ := DataW.trod_bool Try.underlying4 h10
  obtain ⟨z11, e11, _, q11⟩ := DataW.trod_int Try.underlying3 h11
  injection e0 with e0
  injection e1 with e1
  injection e2 with e2
  injection e3 with e3
  injection e4 with e4
  injection e5 with e5
  injection e6 with e6
  injection e7 with e7
  injection e8 with e8
  injection e9 with e9
  injection e10 with e10
  injection e11 with e11
  subst e0 e1 e2 e3 e4 e5 e6 e7 e8 e9 e10 e11
  refine ⟨z0, z1, z2, z3, z4, z5, z6, z7, z8, z9, z10, z11, (by rw [← Array.toArray_toList (xs := cs), ecs]), (by simp [Lit.wf, IntKind.min, IntKind.max, IntKind.signed, IntKind.bits] at q0; omega), (by simp [Lit.wf, IntKind.min, IntKind.max, IntKind.signed, IntKind.bits] at q1; omega), (by simp [Lit.wf, IntKind.min, IntKind.max, IntKind.signed, IntKind.bits] at q2; omega), (by simp [Lit.wf, IntKind.min, IntKind.max, IntKind.signed, IntKind.bits] at q3; omega), (by simp [Lit.wf, IntKind.min, IntKind.max, IntKind.signed, IntKind.bits] at q4; omega), (by simp [Lit.wf, IntKind.min, IntKind.max, IntKind.signed, IntKind.bits] at q6; omega), (by simp [Lit.wf, IntKind.min, IntKind.max, IntKind.signed, IntKind.bits] at q7; omega), (by simp [Lit.wf, IntKind.min, IntKind.max, IntKind.signed, IntKind.bits] at q8; omega), (by simp [Lit.wf, IntKind.min, IntKind.max, IntKind.signed, IntKind.bits] at q9; omega), (by simp [Lit.wf, IntKind.min, IntKind.max, IntKind.signed, IntKind.bits] at q11; omega)⟩
end

section
variable {H : Type} {enc : TypeId × Value → H} {w : World} {base b0 : Nat} {spare : Nat → Bool} {held : Bool} {r : Reach}
theorem c_runs2_0 : Try.prog.cellsOf 3 = 1 := by kernel_rfl
set_option maxRecDepth 100000 in
theorem op_runs2 {v : Value} {d : DataW H} {p : List MemPlace} (hv : Value.okWide Try.prog w r b0 33 v) (h : DataW.Trod enc Try.prog w base spare held 33 v d p) : ∃ (x0 : Int) (x1 : Int), v = .agg #[.int .i64 x0, .int .i64 x1] ∧ (-9223372036854775808 ≤ x0 ∧ x0 ≤ 9223372036854775807) ∧ (-9223372036854775808 ≤ x1 ∧ x1 ≤ 9223372036854775807) := by
  obtain ⟨cs, rfl, _⟩ := okWide_struct Try.underlying33 hv
  obtain ⟨fuel, h⟩ := h
  have hh : DataW.trod enc Try.prog w base spare held fuel 33 cs.toList = some (d, p) := by simpa [Value.cells] using h
  obtain ⟨xs, n', _, hx, hl, hxl, hf⟩ := DataW.trod_struct Try.underlying33 hh
  have hln : cs.toList.length = 2 := hl.trans (by kernel_rfl)
  obtain ⟨c0, c1, ecs⟩ : ∃ c0 c1, cs.toList = [c0, c1] := by
    match cs.toList, hln with
    | [c0, c1], _ => exact ⟨c0, c1, rfl⟩
  obtain ⟨y0, y1, rfl⟩ : ∃ y0 y1, xs = [y0, y1] := by
    match xs, hxl with
    | [y0, y1], _ => exact ⟨y0, y1, rfl⟩
  rw [ecs] at hf
  have h0 := hf 0 _ rfl
  have h1 := hf 1 _ rfl
  simp only [c_runs2_0, List.drop_succ_cons, List.drop_zero, List.take_succ_cons, List.take_zero, List.getElem?_cons_zero, List.getElem?_cons_succ] at h0 h1
  obtain ⟨z0, e0, _, q0⟩ := DataW.trod_int Try.underlying3 h0
  obtain ⟨z1, e1, _, q1⟩ := DataW.trod_int Try.underlying3 h1
  injection e0 with e0
  injection e1 with e1
  subst e0 e1
  refine ⟨z0, z1, (by rw [← Array.toArray_toList (xs := cs), ecs]), (by simp [Lit.wf, IntKind.min, IntKind.max, IntKind.signed, IntKind.bits] at q0; omega), (by simp [Lit.wf, IntKind.min, IntKind.max, IntKind.signed, IntKind.bits] at q1; omega)⟩
end

section
variable {H : Type} {enc : TypeId × Value → H} {w : World} {base b0 : Nat} {spare : Nat → Bool} {held : Bool} {r : Reach}
theorem op_int {v : Value} {d : DataW H} {p : List MemPlace} (hv : Value.okWide Try.prog w r b0 3 v) (h : DataW.Trod enc Try.prog w base spare held 3 v d p) : ∃ (x0 : Int), v = .int .i64 x0 ∧ (-9223372036854775808 ≤ x0 ∧ x0 ≤ 9223372036854775807) := by
  obtain ⟨n, rfl, _, _, hw⟩ := open_int Try.underlying3 hv h
  refine ⟨n, rfl, ?_⟩
  simp [Lit.wf, IntKind.min, IntKind.max, IntKind.signed, IntKind.bits] at hw
  omega
end

section
variable {H : Type} {enc : TypeId × Value → H} {w : World} {base b0 : Nat} {spare : Nat → Bool} {held : Bool} {r : Reach}
theorem op_u8 {v : Value} {d : DataW H} {p : List MemPlace} (hv : Value.okWide Try.prog w r b0 5 v) (h : DataW.Trod enc Try.prog w base spare held 5 v d p) : ∃ (x0 : Int), v = .int .u8 x0 ∧ (0 ≤ x0 ∧ x0 ≤ 255) := by
  obtain ⟨n, rfl, _, _, hw⟩ := open_int Try.underlying5 hv h
  refine ⟨n, rfl, ?_⟩
  simp [Lit.wf, IntKind.min, IntKind.max, IntKind.signed, IntKind.bits] at hw
  omega
end

end Go.Proofs.Ytkakhaedipjodaa
