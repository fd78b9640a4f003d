/- (Event: eight listed variables.) The step from a law's walk to its row (seat of the texts, seven listed variables), the world's shape and the listed variables kept; and what both give: the library's variables as the contracts ask for them. -/
import Derived.Test.YtdgmogmldfhgcaaGreatDoorEnv
import Derived.Test.YtdgmogmldfhgcaaGreatDoorFrame
import Derived.Test.YtdgmogmldfhgcaaGreatDoorEvw
import Derived.Lib.LaidTab
import Derived.Test.YtdgmogmldfhgcaaGreatDoorCards
import Derived.Test.YtdgmogmldfhgcaaGreatDoorTie
import Derived.Lib.SmallJoins
import Derived.ProofKit
import Derived.LaidMore
import Derived.OpenShut
import Derived.Stop.Joined
import Derived.SevenTiedAt
import Derived.Lay
import Derived.Shelf.Vars
import Derived.Stop.LaidErr
import Derived.ChangeMaps5
set_option linter.unusedSimpArgs false
set_option linter.unusedVariables false
set_option maxRecDepth 100000
namespace Go.Proofs.YtdgmogmldfhgcaaGreatDoor
open Go.ChangeShapes Go.WideShapes Go.ChangeAt Go.RowKit Go.Joins

section
variable {H : Type} {enc : TypeId × Value → H} {w : World} {base b0 : Nat} {spare : Nat → Bool} {held : Bool} {r : Reach}
set_option maxRecDepth 20000 in
theorem open_str {v : Value} {d : DataW H} {p : List MemPlace} (hv : Value.okWide Tryz.prog w r b0 9 v) (h : DataW.Trod enc Tryz.prog w base spare held 9 v d p) : ∃ s : ByteArray, v = .string s ∧ s.size ≤ maxLen := by
  obtain ⟨s, rfl, _, _, hs⟩ := Go.ChangeMaps.open_string (P := Tryz.prog) Tryz.underlying9 hv h
  exact ⟨s, rfl, hs⟩
end

/-- A law whose walk answers true and leaves old memory alone, in every world of the row's shape that meets X. -/
theorem law_lift {H : Type} {enc : TypeId × Value → H} {C : Checked} {os : Os} {f : FuncId} {fn : Func} {s : ChangeSpec} {X : World → Array Value → Prop} {tb : TypeId}
    (hX : ∀ (w w' : World) (args : Array Value), w.heap = w'.heap → X w args → X w' args)
    (own : ownKnob C.prog.godebug = none) (started : os.Started) (noInit : C.prog.inits.idxOf? f = none) (hfn : C.prog.funcs[f]? = some fn)
    (hl : laidOutB C.prog = true) (hts : ∀ t ∈ fn.params.toList, C.prog.readableRec t = true ∧ t < C.prog.types.size) (hvs : s.vars = [])
    (hrt : fn.resultTypes = #[tb]) (htb : C.prog.underlying tb = some .bool)
    (witness : ∃ (w : World) (tape : Tape) (i : Input), w.os = os ∧ (w.forCall tape i).Shaped C.prog ∧ i.vars = [] ∧ Input.okWide C.prog (w.forCall tape i) .any w.heap.size f i ∧
      ((s.pre enc C.prog fn [] false (w.forCall tape i).memory i.args ∧ X (w.forCall tape i).memory i.args) ∧ sizedMet enc C.prog fn (OpenSpec.ofChange s) false (w.forCall tape i).memory i.args) ∧ Assume.holds {} C.prog (lone (Frame.enter C.prog f i.args .normal) [] (w.forCall tape i)))
    (walk : ∀ (W : World) (base : Nat) (args : Array Value) (ds gs : List (DataW H)) (p : List MemPlace), (∀ (j : Nat) t v, fn.params[j]? = some t → args[j]? = some v → Value.okWide C.prog W .any base t v) →
      DataW.TrodAll enc C.prog W 0 (fun _ => true) true fn.params.toList args.toList ds p → (DataW.weightsEach C.prog (fn.params.toList ++ s.plain.varTypes C.prog) (ds ++ gs)).all (· ≤ reachBytes) = true → X W args → W.ShapedOpen C.prog →
      s.fn H (ds ++ []) = { results := [.lit (.bool true)], args := ds } ∧ Calls C.prog f args W fun e W' => e = .returned (.bool true) ∧ Below W.heap.size W W') :
    ReturnsInHanded {} C os f .any (fun w args => (s.pre enc C.prog fn [] false w args ∧ X w args) ∧ sizedMet enc C.prog fn (OpenSpec.ofChange s) false w args) (s.post enc C.prog fn false true false false) := by
  refine returnsInHanded_of_calls own started noInit witness ?_
  intro w tape i _ shape _ fits asked _
  obtain ⟨_, _, _, fn2, hfn2, _, _, _, _, vals⟩ := fits
  obtain rfl : fn2 = fn := Option.some.inj (hfn2.symm.trans hfn)
  obtain ⟨⟨⟨ds, gs, before, whole, _⟩, hx⟩, sized⟩ := asked
  have whole2 := DataW.Whole.of_heap (w' := w.forCall tape i) (by rfl) whole
  have reach := sized.weights whole
  have keep := whole2
  obtain ⟨p, q, hA, hV, e, _, _⟩ := keep
  obtain ⟨h1, h2⟩ := walk (w.forCall tape i) w.heap.size i.args ds gs p vals hA reach (hX _ _ _ (by rfl) hx) shape
  refine h2.mono fun e W' ⟨he, hb⟩ => ?_
  subst he
  exact ChangeSpec.post_blind (post_of_law (fresh := true) (handsOn := false) hl hts hvs whole2 hrt htb h1 hb)

/-- What the rows list. -/
def laidA : List (String × DataW Unit) := [("math/bits.deBruijn32tab", Rows.laid_math_bits_deBruijn32tab), ("math/bits.deBruijn64tab", Rows.laid_math_bits_deBruijn64tab), ("internal/strconv.uint64pow10", Rows.laid_internal_strconv_uint64pow10), ("unicode/utf8.acceptRanges", Rows.laid_unicode_utf8_acceptRanges), ("strconv.ErrRange", Rows.laid_strconv_ErrRange), ("strconv.ErrSyntax", Rows.laid_strconv_ErrSyntax), ("scorebook/event.forms", Rows.laid_scorebook_event_forms), ("unicode/utf8.first", Rows.laid_unicode_utf8_first)]
set_option maxRecDepth 100000 in
theorem laidA_met (os : Os) (args : Array Value) : laidMetH Tryz.prog laidA ((World.laidAll Tryz.prog os laidA).forCall (fun _ _ => 0) ⟨#[], args, []⟩).memory := by
  rw [MakeChecks.laidMetH_plain _ _ _ (by kernel_rfl)]
  exact laidMet_laidAll _ (by kernel_rfl) (by kernel_rfl)
set_option maxRecDepth 100000 in
theorem laidA_shaped (os : Os) : (World.laidAll Tryz.prog os laidA).Shaped Tryz.prog := World.shaped_of_ZipB (by kernel_rfl) (by kernel_rfl)
theorem own : ownKnob Tryz.prog.godebug = none := by kernel_rfl
theorem laidOut : laidOutB Tryz.prog = true := by kernel_rfl
theorem tErr : (Tryz.prog.globals[6]?).map (·.type) = some 87 := by kernel_rfl
theorem tSyn : (Tryz.prog.globals[5]?).map (·.type) = some 87 := by kernel_rfl
theorem star : "*errors.errorString" = "*" ++ "errors.errorString" := by decide
theorem rowErr (u : TypeId) (h : Tryz.prog.typeName? 3 u = some "*errors.errorString") : u = 192 :=
  typeName_ptr_named (nm := "errors.errorString") (by rw [star.symm]; kernel_rfl) (by kernel_rfl) (by decide) u (by rw [star.symm]; exact h)
theorem cellsE : Tryz.prog.cellsOf 194 = 1 := by kernel_rfl
theorem cellsS : Tryz.prog.cellsOf 9 = 1 := by kernel_rfl
set_option maxRecDepth 100000 in
theorem env_of_laid {W : World} (h : laidMetH Tryz.prog laidA W) (hs : W.ShapedOpen Tryz.prog) : Env W := by
  rw [MakeChecks.laidMetH_plain _ _ _ (by kernel_rfl)] at h
  have h2 := h.tail.tail
  have h3 := h2.tail.tail
  have h4 := h3.tail
  refine ⟨?_, ?_, ?_, ?_⟩
  · exact Lib.tabIs_of_head (g := 4) (t := 174) (e := 129) (n := 20) (by kernel_rfl) (by kernel_rfl) Tryz.underlying174 Tryz.underlying129 (by kernel_rfl) (by kernel_rfl) h2
  · exact Go.Proofs.cell_of_shapedOpen_int (zero := #[.int .i64 0]) (t := 3) hs (of_decide_eq_true (by kernel_rfl)) (by kernel_rfl) rfl (by kernel_rfl) (by kernel_rfl) Tryz.underlying3
  · obtain ⟨a, s, hv, _⟩ := laid_sentinel h4 (g := 5) (by kernel_rfl) tSyn Tryz.underlying87 rowErr Tryz.underlying192 Tryz.underlying194 rfl rfl Tryz.underlying9 cellsE cellsS
    exact ⟨_, _, hv⟩
  · obtain ⟨a, s, hv, _⟩ := laid_sentinel h3 (g := 6) (by kernel_rfl) tErr Tryz.underlying87 rowErr Tryz.underlying192 Tryz.underlying194 rfl rfl Tryz.underlying9 cellsE cellsS
    exact ⟨_, _, hv⟩
theorem c_str : Tryz.prog.cellsOf 9 = 1 := by kernel_rfl
theorem c_boo : Tryz.prog.cellsOf 4 = 1 := by kernel_rfl
theorem str_bytes {s : ByteArray} {l : List UInt8} (h : s.data.toList = l) : s = ⟨l.toArray⟩ := by
  obtain ⟨⟨x⟩⟩ := s
  simp at h
  rw [h]
theorem c_knd : Tryz.prog.cellsOf 22 = 1 := by kernel_rfl
theorem c_frm : Tryz.prog.cellsOf 56 = 4 := by kernel_rfl
section
variable {H : Type} {enc : TypeId × Value → H} {w : World} {base b0 : Nat} {spare : Nat → Bool} {held : Bool} {r : Reach}
set_option maxRecDepth 100000 in
theorem form_cells {m : Nat} {cs : List Value} {q : List MemPlace} {k : Int} {a : Bool} {n l : List UInt8} (hh : DataW.trod enc Tryz.prog w base spare held m 56 cs = some (.agg [.lit (.int .u8 k), .lit (.bool a), .lit (.string n), .lit (.string l)], q)) :
    cs = [.int .u8 k, .bool a, .string ⟨n.toArray⟩, .string ⟨l.toArray⟩] := by
  obtain ⟨xs, n', _, hx, hl, hxl, hf⟩ := DataW.trod_struct Tryz.underlying56 hh
  have hl5 : cs.length = 4 := hl.trans c_frm
  obtain ⟨c0, c1, c2, c3, rfl⟩ : ∃ c0 c1 c2 c3, cs = [c0, c1, c2, c3] := by
    match cs, hl5 with
    | [c0, c1, c2, c3], _ => exact ⟨c0, c1, c2, c3, rfl⟩
  obtain ⟨y0, y1, y2, y3, rfl⟩ : ∃ y0 y1 y2 y3, xs = [y0, y1, y2, y3] := by
    match xs, hxl with
    | [y0, y1, y2, y3], _ => exact ⟨y0, y1, y2, y3, rfl⟩
  have h0 := hf 0 _ rfl
  have h1 := hf 1 _ rfl
  have h2 := hf 2 _ rfl
  have h3 := hf 3 _ rfl
  simp only [c_str, c_boo, c_knd, List.drop_succ_cons, List.drop_zero, List.take_succ_cons, List.take_zero, List.getElem?_cons_zero, List.getElem?_cons_succ] at h0 h1 h2 h3
  obtain ⟨k0, e0, f0, _⟩ := DataW.trod_int Tryz.underlying22 h0
  obtain ⟨b1, e1, f1⟩ := DataW.trod_bool Tryz.underlying4 h1
  obtain ⟨s2, e2, f2, _⟩ := DataW.trod_string Tryz.underlying9 h2
  obtain ⟨s3, e3, f3, _⟩ := DataW.trod_string Tryz.underlying9 h3
  injection e0 with e0
  injection e1 with e1
  injection e2 with e2
  injection e3 with e3
  subst e0 e1 e2 e3 f0 f1 f2 f3
  simp only [List.map_cons, List.map_nil, Prod.mk.injEq, DataW.agg.injEq, List.cons.injEq, DataW.lit.injEq, Lit.string.injEq, Lit.bool.injEq, Lit.int.injEq, true_and, and_true] at hx
  obtain ⟨⟨g0, g1, g2, g3⟩, _⟩ := hx
  rw [str_bytes g2.symm, str_bytes g3.symm, g0, g1]
end
set_option maxRecDepth 100000 in
theorem tab_f {W : World} {t' : TypeId} {cs : Array Value} {fuel : Nat} {q : List MemPlace} {base : Nat} {spare : Nat → Bool} {held : Bool} (ht' : t' = 104) (hd : DataW.trod (fun _ => ()) Tryz.prog W base spare held fuel t' cs.toList = some (Rows.laid_scorebook_event_forms, q)) : ∀ off v, lgo fC off = some v → cs[off]? = some v := by
  subst ht'
  obtain ⟨xs, m, _, hx, hl, hxl, hf⟩ := DataW.trod_array Tryz.underlying104 hd
  have hx1 : xs.map (·.1) = (match (Rows.laid_scorebook_event_forms : DataW Unit) with | .agg l => l | _ => []) := by
    have := congrArg Prod.fst hx
    simp only [Rows.laid_scorebook_event_forms] at this ⊢
    injection this with this
    exact this.symm
  have key : ∀ i, i < 22 → ((cs.toList.drop (i * 4)).take 4) = ((fC.drop (i * 4)).take 4) := by
    intro i hi
    have h1 := hf i hi
    rw [c_frm] at h1
    have h2 : xs[i]? = some (xs[i]'(by omega)) := by simp [hxl, hi]
    have h3 : (xs[i]'(by omega)).1 = (xs.map (·.1))[i]'(by simp; omega) := by simp
    rw [h2] at h1
    have h4 : (xs.map (·.1))[i]? = some (xs[i]'(by omega)).1 := by simp [hxl, hi]
    rw [hx1] at h4
    have hc : i = 0 ∨ i = 1 ∨ i = 2 ∨ i = 3 ∨ i = 4 ∨ i = 5 ∨ i = 6 ∨ i = 7 ∨ i = 8 ∨ i = 9 ∨ i = 10 ∨ i = 11 ∨ i = 12 ∨ i = 13 ∨ i = 14 ∨ i = 15 ∨ i = 16 ∨ i = 17 ∨ i = 18 ∨ i = 19 ∨ i = 20 ∨ i = 21 := by omega
    generalize (xs[i]'(by omega)) = y at h1 h4
    obtain ⟨y1, y2⟩ := y
    rcases hc with rfl | rfl | rfl | rfl | rfl | rfl | rfl | rfl | rfl | rfl | rfl | rfl | rfl | rfl | rfl | rfl | rfl | rfl | rfl | rfl | rfl | rfl <;>
      (simp only [Rows.laid_scorebook_event_forms, List.getElem?_cons_zero, List.getElem?_cons_succ, Option.some.injEq] at h4
       subst h4
       rw [form_cells h1]
       rfl)
  intro off v hv
  rw [← Array.getElem?_toList]
  rw [lgo_eq] at hv
  have hlt : off < 88 := by
    have : off < fC.length := (List.getElem?_eq_some_iff.1 hv).1
    simpa [fC] using this
  have hk := congrArg (fun l => l[off % 4]?) (key (off / 4) (by omega))
  simp only [List.getElem?_take, List.getElem?_drop] at hk
  rw [if_pos (by omega), if_pos (by omega), show off / 4 * 4 + off % 4 = off by omega] at hk
  rw [← hv, ← hk]
theorem forms_of_laid {W : World} (h : laidMetH Tryz.prog laidA W) : ExtOK wE W := by
  rw [MakeChecks.laidMetH_plain _ _ _ (by kernel_rfl)] at h
  have h2 := h.tail.tail.tail.tail.tail.tail
  obtain ⟨ps, ⟨g', t', cs, fuel, p, q, hg', ht', hvar, hd, _, _⟩, _⟩ := h2
  obtain rfl : g' = 0 := Option.some.inj (hg'.symm.trans (by kernel_rfl))
  have e1 : t' = 104 := Option.some.inj (ht'.symm.trans (by kernel_rfl))
  intro e he
  simp only [wE, List.mem_singleton] at he
  subst he
  refine ⟨fun off v hv => ?_, trivial⟩
  simp only at hv ⊢
  rw [World.var?_cell (by kernel_rfl) hvar off]
  exact tab_f e1 hd off v hv
theorem vE_of_laid {W : World} (h : laidMetH Tryz.prog laidA W) (hs : W.ShapedOpen Tryz.prog) : ExtOK vE W := vE_of (forms_of_laid h) (env_of_laid h hs)
section
variable {H : Type} {enc : TypeId × Value → H} {w : World} {base b0 : Nat} {spare : Nat → Bool} {held : Bool} {r : Reach} {fuel : Nat} {x : DataW H × List MemPlace}
theorem q_del_0 : Tryz.prog.cellsOf 23 = 1 := by kernel_rfl
theorem q_del_1 : Tryz.prog.cellsOf 24 = 1 := by kernel_rfl
theorem q_del_2 : Tryz.prog.cellsOf 3 = 1 := by kernel_rfl
theorem q_del_3 : Tryz.prog.cellsOf 4 = 1 := by kernel_rfl
theorem q_del_4 : Tryz.prog.cellsOf 25 = 1 := by kernel_rfl
set_option maxRecDepth 100000 in
theorem oc_del {cs : List Value} (h : DataW.trod enc Tryz.prog w base spare held fuel 27 cs = some x) : ∃ (z0 : Int) (z1 : Int) (z2 : Int) (z3 : Int) (z4 : Int) (z5 : Bool) (z6 : Int) (z7 : Int) (z8 : Int) (z9 : Int) (z10 : Bool) (z11 : Int), cs = [.int .u8 z0, .int .u8 z1, .int .i64 z2, .int .i64 z3, .int .i64 z4, .bool z5, .int .u8 z6, .int .i64 z7, .int .i64 z8, .int .i64 z9, .bool z10, .int .i64 z11] ∧ (0 ≤ z0 ∧ z0 ≤ 255) ∧ (0 ≤ z1 ∧ z1 ≤ 255) ∧ (-9223372036854775808 ≤ z2 ∧ z2 ≤ 9223372036854775807) ∧ (-9223372036854775808 ≤ z3 ∧ z3 ≤ 9223372036854775807) ∧ (-9223372036854775808 ≤ z4 ∧ z4 ≤ 9223372036854775807) ∧ (0 ≤ z6 ∧ z6 ≤ 255) ∧ (-9223372036854775808 ≤ z7 ∧ z7 ≤ 9223372036854775807) ∧ (-9223372036854775808 ≤ z8 ∧ z8 ≤ 9223372036854775807) ∧ (-9223372036854775808 ≤ z9 ∧ z9 ≤ 9223372036854775807) ∧ (-9223372036854775808 ≤ z11 ∧ z11 ≤ 9223372036854775807) := by
  obtain ⟨xs, n2, _, _, hl, hxl, hf⟩ := DataW.trod_struct Tryz.underlying27 h
  have hln : cs.length = 12 := hl.trans (by kernel_rfl)
  obtain ⟨c0, c1, c2, c3, c4, c5, c6, c7, c8, c9, c10, c11, rfl⟩ : ∃ c0 c1 c2 c3 c4 c5 c6 c7 c8 c9 c10 c11, cs = [c0, c1, c2, c3, c4, c5, c6, c7, c8, c9, c10, c11] := by
    match cs, hln with
    | [c0, c1, c2, c3, c4, c5, c6, c7, c8, c9, c10, c11], _ => exact ⟨c0, c1, c2, c3, c4, c5, c6, c7, c8, c9, c10, c11, rfl⟩
  obtain ⟨y0, y1, y2, y3, y4, y5, y6, y7, y8, y9, y10, y11, rfl⟩ : ∃ y0 y1 y2 y3 y4 y5 y6 y7 y8 y9 y10 y11, xs = [y0, y1, y2, y3, y4, y5, y6, y7, y8, y9, y10, y11] := by
    match xs, hxl with
    | [y0, y1, y2, y3, y4, y5, y6, y7, y8, y9, y10, y11], _ => exact ⟨y0, y1, y2, y3, y4, y5, y6, y7, y8, y9, y10, y11, rfl⟩
  have h0 := hf 0 _ rfl
  have h1 := hf 1 _ rfl
  have h2 := hf 2 _ rfl
  have h3 := hf 3 _ rfl
  have h4 := hf 4 _ rfl
  have h5 := hf 5 _ rfl
  have h6 := hf 6 _ rfl
  have h7 := hf 7 _ rfl
  have h8 := hf 8 _ rfl
  have h9 := hf 9 _ rfl
  have h10 := hf 10 _ rfl
  have h11 := hf 11 _ rfl
  simp only [q_del_0, q_del_1, q_del_2, q_del_3, q_del_4, List.drop_succ_cons, List.drop_zero, List.take_succ_cons, List.take_zero, List.getElem?_cons_zero, List.getElem?_cons_succ] at h0 h1 h2 h3 h4 h5 h6 h7 h8 h9 h10 h11
  obtain ⟨z0, e0, _, g0⟩ := DataW.trod_int Tryz.underlying23 h0
  injection e0 with e0
  subst e0
  obtain ⟨z1, e1, _, g1⟩ := DataW.trod_int Tryz.underlying24 h1
  injection e1 with e1
  subst e1
  obtain ⟨z2, e2, _, g2⟩ := DataW.trod_int Tryz.underlying3 h2
  injection e2 with e2
  subst e2
  obtain ⟨z3, e3, _, g3⟩ := DataW.trod_int Tryz.underlying3 h3
  injection e3 with e3
  subst e3
  obtain ⟨z4, e4, _, g4⟩ := DataW.trod_int Tryz.underlying3 h4
  injection e4 with e4
  subst e4
  obtain ⟨z5, e5, _⟩ := DataW.trod_bool Tryz.underlying4 h5
  injection e5 with e5
  subst e5
  obtain ⟨z6, e6, _, g6⟩ := DataW.trod_int Tryz.underlying25 h6
  injection e6 with e6
  subst e6
  obtain ⟨z7, e7, _, g7⟩ := DataW.trod_int Tryz.underlying3 h7
  injection e7 with e7
  subst e7
  obtain ⟨z8, e8, _, g8⟩ := DataW.trod_int Tryz.underlying3 h8
  injection e8 with e8
  subst e8
  obtain ⟨z9, e9, _, g9⟩ := DataW.trod_int Tryz.underlying3 h9
  injection e9 with e9
  subst e9
  obtain ⟨z10, e10, _⟩ := DataW.trod_bool Tryz.underlying4 h10
  injection e10 with e10
  subst e10
  obtain ⟨z11, e11, _, g11⟩ := DataW.trod_int Tryz.underlying3 h11
  injection e11 with e11
  subst e11
  exact ⟨z0, z1, z2, z3, z4, z5, z6, z7, z8, z9, z10, z11, rfl, (by simp [Lit.wf, IntKind.min, IntKind.max, IntKind.signed, IntKind.bits] at g0; omega), (by simp [Lit.wf, IntKind.min, IntKind.max, IntKind.signed, IntKind.bits] at g1; omega), (by simp [Lit.wf, IntKind.min, IntKind.max, IntKind.signed, IntKind.bits] at g2; omega), (by simp [Lit.wf, IntKind.min, IntKind.max, IntKind.signed, IntKind.bits] at g3; omega), (by simp [Lit.wf, IntKind.min, IntKind.max, IntKind.signed, IntKind.bits] at g4; omega), (by simp [Lit.wf, IntKind.min, IntKind.max, IntKind.signed, IntKind.bits] at g6; omega), (by simp [Lit.wf, IntKind.min, IntKind.max, IntKind.signed, IntKind.bits] at g7; omega), (by simp [Lit.wf, IntKind.min, IntKind.max, IntKind.signed, IntKind.bits] at g8; omega), (by simp [Lit.wf, IntKind.min, IntKind.max, IntKind.signed, IntKind.bits] at g9; omega), (by simp [Lit.wf, IntKind.min, IntKind.max, IntKind.signed, IntKind.bits] at g11; omega)⟩
end

section
variable {H : Type} {enc : TypeId × Value → H} {w : World} {base b0 : Nat} {spare : Nat → Bool} {held : Bool} {r : Reach} {fuel : Nat} {x : DataW H × List MemPlace}
theorem q_ev_0 : Tryz.prog.cellsOf 22 = 1 := by kernel_rfl
theorem q_ev_1 : Tryz.prog.cellsOf 3 = 1 := by kernel_rfl
theorem q_ev_2 : Tryz.prog.cellsOf 4 = 1 := by kernel_rfl
theorem q_ev_3 : Tryz.prog.cellsOf 27 = 12 := by kernel_rfl
set_option maxRecDepth 100000 in
theorem oc_ev {cs : List Value} (h : DataW.trod enc Tryz.prog w base spare held fuel 29 cs = some x) : ∃ (z0 : Int) (z1 : Int) (z2 : Int) (z3 : Int) (z4 : Bool) (z5 : Int) (z6 : Int) (z7_0 : Int) (z7_1 : Int) (z7_2 : Int) (z7_3 : Int) (z7_4 : Int) (z7_5 : Bool) (z7_6 : Int) (z7_7 : Int) (z7_8 : Int) (z7_9 : Int) (z7_10 : Bool) (z7_11 : Int), cs = [.int .u8 z0, .int .i64 z1, .int .i64 z2, .int .i64 z3, .bool z4, .int .i64 z5, .int .i64 z6, .int .u8 z7_0, .int .u8 z7_1, .int .i64 z7_2, .int .i64 z7_3, .int .i64 z7_4, .bool z7_5, .int .u8 z7_6, .int .i64 z7_7, .int .i64 z7_8, .int .i64 z7_9, .bool z7_10, .int .i64 z7_11] ∧ (0 ≤ z0 ∧ z0 ≤ 255) ∧ (-9223372036854775808 ≤ z1 ∧ z1 ≤ 9223372036854775807) ∧ (-9223372036854775808 ≤ z2 ∧ z2 ≤ 9223372036854775807) ∧ (-9223372036854775808 ≤ z3 ∧ z3 ≤ 9223372036854775807) ∧ (-9223372036854775808 ≤ z5 ∧ z5 ≤ 9223372036854775807) ∧ (-9223372036854775808 ≤ z6 ∧ z6 ≤ 9223372036854775807) ∧ (0 ≤ z7_0 ∧ z7_0 ≤ 255) ∧ (0 ≤ z7_1 ∧ z7_1 ≤ 255) ∧ (-9223372036854775808 ≤ z7_2 ∧ z7_2 ≤ 9223372036854775807) ∧ (-9223372036854775808 ≤ z7_3 ∧ z7_3 ≤ 9223372036854775807) ∧ (-9223372036854775808 ≤ z7_4 ∧ z7_4 ≤ 9223372036854775807) ∧ (0 ≤ z7_6 ∧ z7_6 ≤ 255) ∧ (-9223372036854775808 ≤ z7_7 ∧ z7_7 ≤ 9223372036854775807) ∧ (-9223372036854775808 ≤ z7_8 ∧ z7_8 ≤ 9223372036854775807) ∧ (-9223372036854775808 ≤ z7_9 ∧ z7_9 ≤ 9223372036854775807) ∧ (-9223372036854775808 ≤ z7_11 ∧ z7_11 ≤ 9223372036854775807) := by
  obtain ⟨xs, n2, _, _, hl, hxl, hf⟩ := DataW.trod_struct Tryz.underlying29 h
  have hln : cs.length = 19 := hl.trans (by kernel_rfl)
  obtain ⟨c0, c1, c2, c3, c4, c5, c6, c7, c8, c9, c10, c11, c12, c13, c14, c15, c16, c17, c18, rfl⟩ : ∃ c0 c1 c2 c3 c4 c5 c6 c7 c8 c9 c10 c11 c12 c13 c14 c15 c16 c17 c18, cs = [c0, c1, c2, c3, c4, c5, c6, c7, c8, c9, c10, c11, c12, c13, c14, c15, c16, c17, c18] := by
    match cs, hln with
    | [c0, c1, c2, c3, c4, c5, c6, c7, c8, c9, c10, c11, c12, c13, c14, c15, c16, c17, c18], _ => exact ⟨c0, c1, c2, c3, c4, c5, c6, c7, c8, c9, c10, c11, c12, c13, c14, c15, c16, c17, c18, rfl⟩
  obtain ⟨y0, y1, y2, y3, y4, y5, y6, y7, rfl⟩ : ∃ y0 y1 y2 y3 y4 y5 y6 y7, xs = [y0, y1, y2, y3, y4, y5, y6, y7] := by
    match xs, hxl with
    | [y0, y1, y2, y3, y4, y5, y6, y7], _ => exact ⟨y0, y1, y2, y3, y4, y5, y6, y7, rfl⟩
  have h0 := hf 0 _ rfl
  have h1 := hf 1 _ rfl
  have h2 := hf 2 _ rfl
  have h3 := hf 3 _ rfl
  have h4 := hf 4 _ rfl
  have h5 := hf 5 _ rfl
  have h6 := hf 6 _ rfl
  have h7 := hf 7 _ rfl
  simp only [q_ev_0, q_ev_1, q_ev_2, q_ev_3, List.drop_succ_cons, List.drop_zero, List.take_succ_cons, List.take_zero, List.getElem?_cons_zero, List.getElem?_cons_succ] at h0 h1 h2 h3 h4 h5 h6 h7
  obtain ⟨z0, e0, _, g0⟩ := DataW.trod_int Tryz.underlying22 h0
  injection e0 with e0
  subst e0
  obtain ⟨z1, e1, _, g1⟩ := DataW.trod_int Tryz.underlying3 h1
  injection e1 with e1
  subst e1
  obtain ⟨z2, e2, _, g2⟩ := DataW.trod_int Tryz.underlying3 h2
  injection e2 with e2
  subst e2
  obtain ⟨z3, e3, _, g3⟩ := DataW.trod_int Tryz.underlying3 h3
  injection e3 with e3
  subst e3
  obtain ⟨z4, e4, _⟩ := DataW.trod_bool Tryz.underlying4 h4
  injection e4 with e4
  subst e4
  obtain ⟨z5, e5, _, g5⟩ := DataW.trod_int Tryz.underlying3 h5
  injection e5 with e5
  subst e5
  obtain ⟨z6, e6, _, g6⟩ := DataW.trod_int Tryz.underlying3 h6
  injection e6 with e6
  subst e6
  obtain ⟨z7_0, z7_1, z7_2, z7_3, z7_4, z7_5, z7_6, z7_7, z7_8, z7_9, z7_10, z7_11, e7, g7_0, g7_1, g7_2, g7_3, g7_4, g7_5, g7_6, g7_7, g7_8, g7_9⟩ := oc_del h7
  have e7 : [c7, c8, c9, c10, c11, c12, c13, c14, c15, c16, c17, c18] = [.int .u8 z7_0, .int .u8 z7_1, .int .i64 z7_2, .int .i64 z7_3, .int .i64 z7_4, .bool z7_5, .int .u8 z7_6, .int .i64 z7_7, .int .i64 z7_8, .int .i64 z7_9, .bool z7_10, .int .i64 z7_11] := e7
  simp only [List.cons.injEq, and_true] at e7
  obtain ⟨rfl, rfl, rfl, rfl, rfl, rfl, rfl, rfl, rfl, rfl, rfl, rfl⟩ := e7
  exact ⟨z0, z1, z2, z3, z4, z5, z6, z7_0, z7_1, z7_2, z7_3, z7_4, z7_5, z7_6, z7_7, z7_8, z7_9, z7_10, z7_11, rfl, (by simp [Lit.wf, IntKind.min, IntKind.max, IntKind.signed, IntKind.bits] at g0; omega), (by simp [Lit.wf, IntKind.min, IntKind.max, IntKind.signed, IntKind.bits] at g1; omega), (by simp [Lit.wf, IntKind.min, IntKind.max, IntKind.signed, IntKind.bits] at g2; omega), (by simp [Lit.wf, IntKind.min, IntKind.max, IntKind.signed, IntKind.bits] at g3; omega), (by simp [Lit.wf, IntKind.min, IntKind.max, IntKind.signed, IntKind.bits] at g5; omega), (by simp [Lit.wf, IntKind.min, IntKind.max, IntKind.signed, IntKind.bits] at g6; omega), g7_0, g7_1, g7_2, g7_3, g7_4, g7_5, g7_6, g7_7, g7_8, g7_9⟩
end

section
variable {H : Type} {enc : TypeId × Value → H} {w : World} {base b0 : Nat} {spare : Nat → Bool} {held : Bool} {r : Reach} {fuel : Nat} {x : DataW H × List MemPlace}
theorem op_evw {v : Value} {d : DataW H} {p : List MemPlace} (hv : Value.okWide Tryz.prog w r b0 29 v) (h : DataW.Trod enc Tryz.prog w base spare held 29 v d p) : ∃ (k : Int) (e : Ev) (d : Dl), v = evV k e d ∧ Wf d := by
  obtain ⟨cs, rfl, _⟩ := okWide_struct Tryz.underlying29 hv
  obtain ⟨fuel, h⟩ := h
  have hh : DataW.trod enc Tryz.prog w base spare held fuel 29 cs.toList = some (d, p) := by simpa [Value.cells] using h
  obtain ⟨z0, z1, z2, z3, z4, z5, z6, z7_0, z7_1, z7_2, z7_3, z7_4, z7_5, z7_6, z7_7, z7_8, z7_9, z7_10, z7_11, ecs, f0, f1, f2, f3, f4, f5, f6, f7, f8, f9, f10, f11, f12, f13, f14, f15⟩ := oc_ev hh
  refine ⟨z0, ⟨z1, z2, z3, z4, z5, z6⟩, ⟨z7_0, z7_1, z7_2, z7_3, z7_4, z7_5, z7_6, z7_7, z7_8, z7_9, z7_10, z7_11⟩, ?_, ⟨f6.1, f7.1, f11.1⟩⟩
  rw [← Array.toArray_toList (xs := cs), ecs]
  rfl
end

end Go.Proofs.YtdgmogmldfhgcaaGreatDoor
