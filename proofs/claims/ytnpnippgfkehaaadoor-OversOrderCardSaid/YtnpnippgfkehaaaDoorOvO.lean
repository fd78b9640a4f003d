/- Arguments opened: an array of four ints. -/
import Derived.Test.YtnpnippgfkehaaaDoorLift
set_option linter.unusedSimpArgs false
set_option linter.unusedVariables false
namespace Go.Proofs.YtnpnippgfkehaaaDoor
open Go.ChangeShapes Go.WideShapes Go.ChangeAt Go.RowKit Go.Joins
set_option maxRecDepth 20000 in
theorem open_int4 {H : Type} {enc : TypeId × Value → H} {w : World} {base b0 : Nat} {spare : Nat → Bool} {held : Bool} {r : Reach} {v : Value} {d : DataW H} {p : List MemPlace}
    (hv : Value.okWide Tryd.prog w r b0 38 v) (h : DataW.Trod enc Tryd.prog w base spare held 38 v d p) :
    ∃ x y z u, v = .agg #[.int .i64 x, .int .i64 y, .int .i64 z, .int .i64 u] ∧ I64 x ∧ I64 y ∧ I64 z ∧ I64 u := by
  have hC : Tryd.prog.cellsOf 38 = 4 := by kernel_rfl
  have hC1 : Tryd.prog.cellsOf 3 = 1 := by kernel_rfl
  have hag : ∃ cs : Array Value, v = .agg cs := by
    simp only [Value.okWide, Tryd.underlying38] at hv
    obtain ⟨cs, h, _⟩ := hv
    exact ⟨cs, h⟩
  obtain ⟨cs, rfl⟩ := hag
  obtain ⟨fuel, hf⟩ := h
  obtain ⟨xs, m, _, _, hl, hn, hi⟩ := DataW.trod_array (P := Tryd.prog) Tryd.underlying38 hf
  rw [hC] at hl
  obtain ⟨l⟩ := cs
  have hl' : l.length = 4 := by simpa [Value.cells] using hl
  match l, hl' with
  | [c0, c1, c2, c3], _ =>
    have h0 := hi 0 (by omega)
    have h1 := hi 1 (by omega)
    have h2 := hi 2 (by omega)
    have h3 := hi 3 (by omega)
    rw [hC1] at h0 h1 h2 h3
    match xs, hn with
    | [x0, x1, x2, x3], _ =>
      simp [Value.cells] at h0 h1 h2 h3
      obtain ⟨n0, e0, _, w0⟩ := DataW.trod_int (P := Tryd.prog) Tryd.underlying3 h0
      obtain ⟨n1, e1, _, w1⟩ := DataW.trod_int (P := Tryd.prog) Tryd.underlying3 h1
      obtain ⟨n2, e2, _, w2⟩ := DataW.trod_int (P := Tryd.prog) Tryd.underlying3 h2
      obtain ⟨n3, e3, _, w3⟩ := DataW.trod_int (P := Tryd.prog) Tryd.underlying3 h3
      simp only [List.cons.injEq, and_true] at e0 e1 e2 e3
      subst e0 e1 e2 e3
      exact ⟨n0, n1, n2, n3, rfl, wf64 n0 w0, wf64 n1 w1, wf64 n2 w2, wf64 n3 w3⟩
end Go.Proofs.YtnpnippgfkehaaaDoor
