/- The step from a law's walk to its row (seat of layer 7), and the openers of its arguments. -/
import Derived.Test.YtbekfghnkeecaaaDoorNoK
import Derived.Test.YtbekfghnkeecaaaDoorFrame
import Derived.Test.YtbekfghnkeecaaaDoorCards
import Derived.Test.YtbekfghnkeecaaaDoorTie
import Derived.Lib.SmallJoins
import Derived.ProofKit
import Derived.LaidMore
import Derived.OpenShut
import Derived.Stop.Joined
import Derived.SevenTiedAt
import Derived.Lay
import Derived.ChangeMaps5
import Derived.Deep.Fields
set_option linter.unusedSimpArgs false
set_option linter.unusedVariables false
namespace Go.Proofs.YtbekfghnkeecaaaDoor
open Go.ChangeShapes Go.WideShapes Go.ChangeAt Go.RowKit Go.Joins

section
variable {H : Type} {enc : TypeId × Value → H} {w : World} {base b0 : Nat} {spare : Nat → Bool} {held : Bool} {r : Reach}
set_option maxRecDepth 20000 in
theorem open_str {v : Value} {d : DataW H} {p : List MemPlace} (hv : Value.okWide Tryd.prog w r b0 9 v) (h : DataW.Trod enc Tryd.prog w base spare held 9 v d p) : ∃ s : ByteArray, v = .string s ∧ s.size ≤ maxLen := by
  obtain ⟨s, rfl, _, _, hs⟩ := Go.ChangeMaps.open_string (P := Tryd.prog) Tryd.underlying9 hv h
  exact ⟨s, rfl, hs⟩
theorem cTy : Tryd.prog.cellsOf 22 = 1 := by kernel_rfl
theorem cSo : Tryd.prog.cellsOf 23 = 1 := by kernel_rfl
theorem cHo : Tryd.prog.cellsOf 24 = 1 := by kernel_rfl
theorem cInt : Tryd.prog.cellsOf 3 = 1 := by kernel_rfl
theorem cBool : Tryd.prog.cellsOf 4 = 1 := by kernel_rfl
theorem wf8 (n : Int) (hw : (Lit.int IntKind.u8 n).wf = true) : 0 ≤ n := by
  simp [Lit.wf, IntKind.min, IntKind.max, IntKind.signed, IntKind.bits] at hw
  exact hw.1
set_option maxRecDepth 100000 in
theorem open_cells {n : Nat} {cs : List Value} {d : DataW H} {p : List MemPlace} (hh : DataW.trod enc Tryd.prog w base spare held n DT cs = some (d, p)) : ∃ dl : Dl, cs = DC dl ∧ Wf dl := by
  obtain ⟨xs, n', _, hx, hl, hxl, hf⟩ := DataW.trod_struct Tryd.underlying26 hh
  have hl12 : cs.length = 12 := hl.trans (by kernel_rfl)
  obtain ⟨c0, c1, c2, c3, c4, c5, c6, c7, c8, c9, c10, c11, rfl⟩ : ∃ c0 c1 c2 c3 c4 c5 c6 c7 c8 c9 c10 c11, cs = [c0, c1, c2, c3, c4, c5, c6, c7, c8, c9, c10, c11] := by
    match cs, hl12 with
    | [c0, c1, c2, c3, c4, c5, c6, c7, c8, c9, c10, c11], _ => exact ⟨c0, c1, c2, c3, c4, c5, c6, c7, c8, c9, c10, c11, rfl⟩
  obtain ⟨x0, x1, x2, x3, x4, x5, x6, x7, x8, x9, x10, x11, rfl⟩ : ∃ x0 x1 x2 x3 x4 x5 x6 x7 x8 x9 x10 x11, xs = [x0, x1, x2, x3, x4, x5, x6, x7, x8, x9, x10, x11] := by
    match xs, hxl with
    | [x0, x1, x2, x3, x4, x5, x6, x7, x8, x9, x10, x11], _ => exact ⟨x0, x1, x2, x3, x4, x5, x6, x7, x8, x9, x10, x11, rfl⟩
  have h0 := hf 0 _ rfl
  have h1 := hf 1 _ rfl
  have h2 := hf 2 _ rfl
  have h3 := hf 3 _ rfl
  have h4 := hf 4 _ rfl
  have h5 := hf 5 _ rfl
  have h6 := hf 6 _ rfl
  have h7 := hf 7 _ rfl
  have h8 := hf 8 _ rfl
  have h9 := hf 9 _ rfl
  have h10 := hf 10 _ rfl
  have h11 := hf 11 _ rfl
  simp only [cTy, cSo, cHo, cInt, cBool, List.drop_succ_cons, List.drop_zero, List.take_succ_cons, List.take_zero, List.getElem?_cons_zero, List.getElem?_cons_succ] at h0 h1 h2 h3 h4 h5 h6 h7 h8 h9 h10 h11
  obtain ⟨t, e0, _, q0⟩ := DataW.trod_int Tryd.underlying22 h0
  obtain ⟨s, e1, _, q1⟩ := DataW.trod_int Tryd.underlying23 h1
  obtain ⟨r, e2, _, q2⟩ := DataW.trod_int Tryd.underlying3 h2
  obtain ⟨sh, e3, _, q3⟩ := DataW.trod_int Tryd.underlying3 h3
  obtain ⟨b, e4, _, q4⟩ := DataW.trod_int Tryd.underlying3 h4
  obtain ⟨x, e5, _⟩ := DataW.trod_bool Tryd.underlying4 h5
  obtain ⟨h, e6, _, q6⟩ := DataW.trod_int Tryd.underlying24 h6
  obtain ⟨v, e7, _, q7⟩ := DataW.trod_int Tryd.underlying3 h7
  obtain ⟨f, e8, _, q8⟩ := DataW.trod_int Tryd.underlying3 h8
  obtain ⟨g, e9, _, q9⟩ := DataW.trod_int Tryd.underlying3 h9
  obtain ⟨u, e10, _⟩ := DataW.trod_bool Tryd.underlying4 h10
  obtain ⟨z, e11, _, q11⟩ := DataW.trod_int Tryd.underlying3 h11
  injection e0 with e0
  injection e1 with e1
  injection e2 with e2
  injection e3 with e3
  injection e4 with e4
  injection e5 with e5
  injection e6 with e6
  injection e7 with e7
  injection e8 with e8
  injection e9 with e9
  injection e10 with e10
  injection e11 with e11
  subst e0 e1 e2 e3 e4 e5 e6 e7 e8 e9 e10 e11
  exact ⟨⟨t, s, r, sh, b, x, h, v, f, g, u, z⟩, rfl, ⟨wf8 t q0, wf8 s q1, wf8 h q6⟩⟩
set_option maxRecDepth 100000 in
theorem open_del {v : Value} {d : DataW H} {p : List MemPlace} (hv : Value.okWide Tryd.prog w r b0 DT v) (h : DataW.Trod enc Tryd.prog w base spare held DT v d p) : ∃ dl : Dl, v = DV dl ∧ Wf dl := by
  obtain ⟨cs, rfl, _⟩ := okWide_struct Tryd.underlying26 hv
  obtain ⟨fuel, h⟩ := h
  have h' : DataW.trod enc Tryd.prog w base spare held fuel DT cs.toList = some (d, p) := by simpa [Value.cells] using h
  obtain ⟨dl, e, hw⟩ := open_cells h'
  refine ⟨dl, ?_, hw⟩
  have : cs = (DC dl).toArray := by rw [← e]
  rw [this]; rfl
end

/-- A law whose walk answers true and leaves old memory alone, in every world of the row's shape that meets X. -/
theorem law_lift {H : Type} {enc : TypeId × Value → H} {C : Checked} {os : Os} {f : FuncId} {fn : Func} {s : ChangeSpec} {X : World → Array Value → Prop} {tb : TypeId}
    (hX : ∀ (w w' : World) (args : Array Value), w.heap = w'.heap → X w args → X w' args)
    (own : ownKnob C.prog.godebug = none) (started : os.Started) (noInit : C.prog.inits.idxOf? f = none) (hfn : C.prog.funcs[f]? = some fn)
    (hl : laidOutB C.prog = true) (hts : ∀ t ∈ fn.params.toList, C.prog.readableRec t = true ∧ t < C.prog.types.size) (hvs : s.vars = [])
    (hrt : fn.resultTypes = #[tb]) (htb : C.prog.underlying tb = some .bool)
    (witness : ∃ (w : World) (tape : Tape) (i : Input), w.os = os ∧ (w.forCall tape i).Shaped C.prog ∧ i.vars = [] ∧ Input.okWide C.prog (w.forCall tape i) .any w.heap.size f i ∧
      ((s.pre enc C.prog fn [] false (w.forCall tape i).memory i.args ∧ X (w.forCall tape i).memory i.args) ∧ sizedMet enc C.prog fn (OpenSpec.ofChange s) false (w.forCall tape i).memory i.args) ∧ Assume.holds {} C.prog (lone (Frame.enter C.prog f i.args .normal) [] (w.forCall tape i)))
    (walk : ∀ (W : World) (base : Nat) (args : Array Value) (ds gs : List (DataW H)) (p : List MemPlace), (∀ (j : Nat) t v, fn.params[j]? = some t → args[j]? = some v → Value.okWide C.prog W .any base t v) →
      DataW.TrodAll enc C.prog W 0 (fun _ => true) true fn.params.toList args.toList ds p → (DataW.weightsEach C.prog (fn.params.toList ++ s.plain.varTypes C.prog) (ds ++ gs)).all (· ≤ reachBytes) = true → X W args → W.ShapedOpen C.prog →
      s.fn H (ds ++ []) = { results := [.lit (.bool true)], args := ds } ∧ Calls C.prog f args W fun e W' => e = .returned (.bool true) ∧ Below W.heap.size W W') :
    ReturnsInHanded {} C os f .any (fun w args => (s.pre enc C.prog fn [] false w args ∧ X w args) ∧ sizedMet enc C.prog fn (OpenSpec.ofChange s) false w args) (s.post enc C.prog fn false true false false) := by
  refine returnsInHanded_of_calls own started noInit witness ?_
  intro w tape i _ shape _ fits asked _
  obtain ⟨_, _, _, fn2, hfn2, _, _, _, _, vals⟩ := fits
  obtain rfl : fn2 = fn := Option.some.inj (hfn2.symm.trans hfn)
  obtain ⟨⟨⟨ds, gs, before, whole, _⟩, hx⟩, sized⟩ := asked
  have whole2 := DataW.Whole.of_heap (w' := w.forCall tape i) (by rfl) whole
  have reach := sized.weights whole
  have keep := whole2
  obtain ⟨p, q, hA, hV, e, _, _⟩ := keep
  obtain ⟨h1, h2⟩ := walk (w.forCall tape i) w.heap.size i.args ds gs p vals hA reach (hX _ _ _ (by rfl) hx) shape
  refine h2.mono fun e W' ⟨he, hb⟩ => ?_
  subst he
  exact ChangeSpec.post_blind (post_of_law (fresh := true) (handsOn := false) hl hts hvs whole2 hrt htb h1 hb)

/-- What the rows list. -/
def laidA : List (String × DataW Unit) := [("math/bits.deBruijn32tab", Rows.laid_math_bits_deBruijn32tab), ("math/bits.deBruijn64tab", Rows.laid_math_bits_deBruijn64tab), ("internal/strconv.uint64pow10", Rows.laid_internal_strconv_uint64pow10)]
set_option maxRecDepth 100000 in
theorem laidA_met (os : Os) (args : Array Value) : laidMetH Tryd.prog laidA ((World.doorLaid Tryd.prog 400 os).forCall (fun _ _ => 0) ⟨#[], args, []⟩).memory :=
  laidMetH_of_parts3 (fuel := 8) (laidMet_of_run' 8 (by kernel_rfl) (by kernel_rfl)) (by kernel_rfl) (by kernel_rfl)
theorem own : ownKnob Tryd.prog.godebug = none := by kernel_rfl
theorem laidOut : laidOutB Tryd.prog = true := by kernel_rfl
end Go.Proofs.YtbekfghnkeecaaaDoor
