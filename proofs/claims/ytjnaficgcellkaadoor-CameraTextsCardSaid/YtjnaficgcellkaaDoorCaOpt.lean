/- The step from a law's walk to its card, and the openers of the arguments of layer 31; the library's variables and the limits of observations hold what their text lays (the rows with the text's reading). -/
import Derived.Test.YtjnaficgcellkaaDoorCma
import Derived.Test.YtjnaficgcellkaaDoorBlc
import Derived.Test.YtjnaficgcellkaaDoorBlt
import Derived.Test.YtjnaficgcellkaaDoorEnv
import Derived.Test.YtjnaficgcellkaaDoorFrame
import Derived.Test.YtjnaficgcellkaaDoorCards
import Derived.Test.YtjnaficgcellkaaDoorTie
import Derived.Lib.SmallJoins
import Derived.Lib.LaidTab
import Derived.ProofKit
import Derived.LaidMore
import Derived.OpenShut
import Derived.Stop.Joined
import Derived.Stop.LaidErr
import Derived.Shelf.Vars
import Derived.SevenTiedAt
import Derived.Lay
import Derived.ChangeMaps5
import Derived.Deep.Fields
import Derived.Deep.Slices
set_option linter.unusedSimpArgs false
set_option linter.unusedVariables false
set_option maxRecDepth 100000
namespace Go.Proofs.YtjnaficgcellkaaDoor
open Go.ChangeShapes Go.WideShapes Go.ChangeAt Go.RowKit Go.Joins

/-- A law whose walk answers true and leaves old memory alone, in every world of the row's shape that meets X. -/
theorem law_lift {H : Type} {enc : TypeId × Value → H} {C : Checked} {os : Os} {f : FuncId} {fn : Func} {s : ChangeSpec} {X : World → Array Value → Prop} {tb : TypeId}
    (hX : ∀ (w w' : World) (args : Array Value), w.heap = w'.heap → X w args → X w' args)
    (own : ownKnob C.prog.godebug = none) (started : os.Started) (noInit : C.prog.inits.idxOf? f = none) (hfn : C.prog.funcs[f]? = some fn)
    (hl : laidOutB C.prog = true) (hts : ∀ t ∈ fn.params.toList, C.prog.readableRec t = true ∧ t < C.prog.types.size) (hvs : s.vars = [])
    (hrt : fn.resultTypes = #[tb]) (htb : C.prog.underlying tb = some .bool)
    (witness : ∃ (w : World) (tape : Tape) (i : Input), w.os = os ∧ (w.forCall tape i).Shaped C.prog ∧ i.vars = [] ∧ Input.okWide C.prog (w.forCall tape i) .any w.heap.size f i ∧
      ((s.pre enc C.prog fn [] false (w.forCall tape i).memory i.args ∧ X (w.forCall tape i).memory i.args) ∧ sizedMet enc C.prog fn (OpenSpec.ofChange s) false (w.forCall tape i).memory i.args) ∧ Assume.holds {} C.prog (lone (Frame.enter C.prog f i.args .normal) [] (w.forCall tape i)))
    (walk : ∀ (W : World) (base : Nat) (args : Array Value) (ds gs : List (DataW H)) (p : List MemPlace), (∀ (j : Nat) t v, fn.params[j]? = some t → args[j]? = some v → Value.okWide C.prog W .any base t v) →
      DataW.TrodAll enc C.prog W 0 (fun _ => true) true fn.params.toList args.toList ds p → (DataW.weightsEach C.prog (fn.params.toList ++ s.plain.varTypes C.prog) (ds ++ gs)).all (· ≤ reachBytes) = true → X W args → W.ShapedOpen C.prog →
      s.fn H (ds ++ []) = { results := [.lit (.bool true)], args := ds } ∧ Calls C.prog f args W fun e W' => e = .returned (.bool true) ∧ Below W.heap.size W W') :
    ReturnsInHanded {} C os f .any (fun w args => (s.pre enc C.prog fn [] false w args ∧ X w args) ∧ sizedMet enc C.prog fn (OpenSpec.ofChange s) false w args) (s.post enc C.prog fn false true false false) := by
  refine returnsInHanded_of_calls own started noInit witness ?_
  intro w tape i _ shape _ fits asked _
  obtain ⟨_, _, _, fn2, hfn2, _, _, _, _, vals⟩ := fits
  obtain rfl : fn2 = fn := Option.some.inj (hfn2.symm.trans hfn)
  obtain ⟨⟨⟨ds, gs, before, whole, _⟩, hx⟩, sized⟩ := asked
  have whole2 := DataW.Whole.of_heap (w' := w.forCall tape i) (by rfl) whole
  have reach := sized.weights whole
  have keep := whole2
  obtain ⟨p, q, hA, hV, e, _, _⟩ := keep
  obtain ⟨h1, h2⟩ := walk (w.forCall tape i) w.heap.size i.args ds gs p vals hA reach (hX _ _ _ (by rfl) hx) shape
  refine h2.mono fun e W' ⟨he, hb⟩ => ?_
  subst he
  exact ChangeSpec.post_blind (post_of_law (fresh := true) (handsOn := false) hl hts hvs whole2 hrt htb h1 hb)



/-- What the rows list. -/
def laidA : List (String × DataW Unit) := [("math/bits.deBruijn32tab", Rows.laid_math_bits_deBruijn32tab), ("math/bits.deBruijn64tab", Rows.laid_math_bits_deBruijn64tab), ("internal/strconv.uint64pow10", Rows.laid_internal_strconv_uint64pow10), ("unicode/utf8.acceptRanges", Rows.laid_unicode_utf8_acceptRanges), ("strconv.ErrRange", Rows.laid_strconv_ErrRange), ("strconv.ErrSyntax", Rows.laid_strconv_ErrSyntax), ("scorebook/camera.least", Rows.laid_scorebook_camera_least), ("scorebook/camera.most", Rows.laid_scorebook_camera_most), ("unicode/utf8.first", Rows.laid_unicode_utf8_first)]
set_option maxRecDepth 100000 in
theorem laidA_met (os : Os) (args : Array Value) : laidMetH Tryd.prog laidA ((World.laidAll Tryd.prog os laidA).forCall (fun _ _ => 0) ⟨#[], args, []⟩).memory := by
  rw [MakeChecks.laidMetH_plain _ _ _ (by kernel_rfl)]
  exact laidMet_laidAll _ (by kernel_rfl) (by kernel_rfl)
set_option maxRecDepth 100000 in
theorem laidA_shaped (os : Os) : (World.laidAll Tryd.prog os laidA).Shaped Tryd.prog := World.shaped_of_ZipB (by kernel_rfl) (by kernel_rfl)
theorem own : ownKnob Tryd.prog.godebug = none := by kernel_rfl
theorem laidOut : laidOutB Tryd.prog = true := by kernel_rfl
theorem list_of {α : Type} (Q : Nat → α → Prop) : ∀ n, (∀ i, i < n → ∃ a, Q i a) → ∃ l : List α, l.length = n ∧ ∀ i a, l[i]? = some a → Q i a := by
  intro n
  induction n with
  | zero => intro _; exact ⟨[], rfl, fun i a h => by simp at h⟩
  | succ n ih =>
    intro h
    obtain ⟨l, hl, hq⟩ := ih (fun i hi => h i (by omega))
    obtain ⟨a, ha⟩ := h n (by omega)
    refine ⟨l ++ [a], by simp [hl], fun i b hb => ?_⟩
    by_cases hi : i < l.length
    · rw [List.getElem?_append_left hi] at hb; exact hq i b hb
    · rw [List.getElem?_append_right (by omega)] at hb
      have h0 : i - l.length = 0 := by
        have := (List.getElem?_eq_some_iff.1 hb).1
        simp at this; omega
      rw [h0] at hb
      simp at hb
      subst hb
      have : i = n := by omega
      subst this; exact ha

section
variable {H : Type} {enc : TypeId × Value → H} {w : World} {base b0 : Nat} {spare : Nat → Bool} {held : Bool} {r : Reach}
theorem c_i64 : Tryd.prog.cellsOf 2 = 1 := by kernel_rfl
theorem int_cell {m : Nat} {cs : List Value} {q : List MemPlace} {n : Int} (h : DataW.trod enc Tryd.prog w base spare held m 2 cs = some (.lit (.int .i64 n), q)) : cs = [.int .i64 n] := by
  obtain ⟨z, e, f, _⟩ := DataW.trod_int Tryd.underlying2 h
  simp only [Prod.mk.injEq, DataW.lit.injEq, Lit.int.injEq, true_and] at f
  rw [e, f.1]
set_option maxRecDepth 100000 in
theorem row_cells {m : Nat} {cs : List Value} {q : List MemPlace} {t : TypeId} {a b c d e : Int} (ht : t = 43) (hh : DataW.trod enc Tryd.prog w base spare held m t cs = some (.agg [.lit (.int .i64 a), .lit (.int .i64 b), .lit (.int .i64 c), .lit (.int .i64 d), .lit (.int .i64 e)], q)) :
    cs = [.int .i64 a, .int .i64 b, .int .i64 c, .int .i64 d, .int .i64 e] := by
  subst ht
  obtain ⟨xs, n', _, hx, hl, hxl, hf⟩ := DataW.trod_array Tryd.underlying43 hh
  have hl5 : cs.length = 5 := hl.trans (by kernel_rfl)
  obtain ⟨c0, c1, c2, c3, c4, rfl⟩ : ∃ c0 c1 c2 c3 c4, cs = [c0, c1, c2, c3, c4] := by
    match cs, hl5 with
    | [c0, c1, c2, c3, c4], _ => exact ⟨c0, c1, c2, c3, c4, rfl⟩
  obtain ⟨y0, y1, y2, y3, y4, rfl⟩ : ∃ y0 y1 y2 y3 y4, xs = [y0, y1, y2, y3, y4] := by
    match xs, hxl with
    | [y0, y1, y2, y3, y4], _ => exact ⟨y0, y1, y2, y3, y4, rfl⟩
  have h0 := hf 0 (by omega)
  have h1 := hf 1 (by omega)
  have h2 := hf 2 (by omega)
  have h3 := hf 3 (by omega)
  have h4 := hf 4 (by omega)
  simp only [c_i64, Nat.zero_mul, Nat.one_mul, Nat.mul_one, List.drop_succ_cons, List.drop_zero, List.take_succ_cons, List.take_zero, List.getElem?_cons_zero, List.getElem?_cons_succ] at h0 h1 h2 h3 h4
  obtain ⟨a0, b0⟩ := y0
  obtain ⟨a1, b1⟩ := y1
  obtain ⟨a2, b2⟩ := y2
  obtain ⟨a3, b3⟩ := y3
  obtain ⟨a4, b4⟩ := y4
  simp only [List.map_cons, List.map_nil, Prod.mk.injEq, DataW.agg.injEq, List.cons.injEq, and_true] at hx
  obtain ⟨⟨g0, g1, g2, g3, g4⟩, _⟩ := hx
  subst g0 g1 g2 g3 g4
  have e0 := int_cell h0
  have e1 := int_cell h1
  have e2 := int_cell h2
  have e3 := int_cell h3
  have e4 := int_cell h4
  injection e0 with e0
  injection e1 with e1
  injection e2 with e2
  injection e3 with e3
  injection e4 with e4
  rw [e0, e1, e2, e3, e4]
end
theorem tErr : (Tryd.prog.globals[5]?).map (·.type) = some 52 := by kernel_rfl
theorem tSyn : (Tryd.prog.globals[4]?).map (·.type) = some 52 := by kernel_rfl
theorem star : "*errors.errorString" = "*" ++ "errors.errorString" := by decide
theorem rowErr (u : TypeId) (h : Tryd.prog.typeName? 3 u = some "*errors.errorString") : u = 124 :=
  typeName_ptr_named (nm := "errors.errorString") (by rw [star.symm]; kernel_rfl) (by kernel_rfl) (by decide) u (by rw [star.symm]; exact h)
theorem cellsE : Tryd.prog.cellsOf 126 = 1 := by kernel_rfl
theorem cellsS : Tryd.prog.cellsOf 9 = 1 := by kernel_rfl
set_option maxRecDepth 100000 in
theorem env0_of_laid {W : World} (h : laidMetH Tryd.prog laidA W) (hs : W.ShapedOpen Tryd.prog) : Env W := by
  rw [MakeChecks.laidMetH_plain _ _ _ (by kernel_rfl)] at h
  have h2 := h.tail.tail
  have h3 := h2.tail.tail
  have h4 := h3.tail
  refine ⟨?_, ?_, ?_, ?_⟩
  · exact Lib.tabIs_of_head (g := 3) (t := 109) (e := 90) (n := 20) (by kernel_rfl) (by kernel_rfl) Tryd.underlying109 Tryd.underlying90 (by kernel_rfl) (by kernel_rfl) h2
  · exact Go.Proofs.cell_of_shapedOpen_int (zero := #[.int .i64 0]) (t := 3) hs (of_decide_eq_true (by kernel_rfl)) (by kernel_rfl) rfl (by kernel_rfl) (by kernel_rfl) Tryd.underlying3
  · obtain ⟨a, s, hv, _⟩ := laid_sentinel h4 (g := 4) (by kernel_rfl) tSyn Tryd.underlying52 rowErr Tryd.underlying124 Tryd.underlying126 rfl rfl Tryd.underlying9 cellsE cellsS
    exact ⟨_, _, hv⟩
  · obtain ⟨a, s, hv, _⟩ := laid_sentinel h3 (g := 5) (by kernel_rfl) tErr Tryd.underlying52 rowErr Tryd.underlying124 Tryd.underlying126 rfl rfl Tryd.underlying9 cellsE cellsS
    exact ⟨_, _, hv⟩
set_option maxRecDepth 100000 in
theorem env_of_laid {W : World} (h : laidMetH Tryd.prog laidA W) (hs : W.ShapedOpen Tryd.prog) : ExtOK tE W := by
  have henv := env0_of_laid h hs
  rw [MakeChecks.laidMetH_plain _ _ _ (by kernel_rfl)] at h
  have h2 := h.tail.tail
  have h3 := h2.tail.tail.tail.tail
  have hpow : powP W := Lib.tabIs_of_head (g := 3) (t := 109) (e := 90) (n := 20) (by kernel_rfl) (by kernel_rfl) Tryd.underlying109 Tryd.underlying90 (by kernel_rfl) (by kernel_rfl) h2
  obtain ⟨ps, ⟨g', t', cs, fuel, p, q, hg', ht', hvar, hd, hl2, _⟩, _⟩ := h3
  obtain ⟨g2, t2, cs2, fuel2, p2, q2, hg2, ht2, hvar2, hd2, _, _⟩ := hl2
  obtain rfl : g' = 0 := Option.some.inj (hg'.symm.trans (by kernel_rfl))
  obtain rfl : g2 = 1 := Option.some.inj (hg2.symm.trans (by kernel_rfl))
  have e1 : t' = 43 := Option.some.inj (ht'.symm.trans (by kernel_rfl))
  have e2 : t2 = 43 := Option.some.inj (ht2.symm.trans (by kernel_rfl))
  have f1 := row_cells e1 hd
  have f2 := row_cells e2 hd2
  intro e he
  simp only [tE, wE, List.mem_append, List.mem_cons, List.not_mem_nil, or_false, false_or] at he
  rcases he with (rfl | rfl) | (rfl | rfl)
  · refine ⟨fun off v hv => ?_, trivial⟩
    simp only at hv ⊢
    rw [World.var?_cell (by kernel_rfl) hvar off, ← Array.getElem?_toList, f1]
    rw [lgo_eq] at hv
    exact hv
  · refine ⟨fun off v hv => ?_, trivial⟩
    simp only at hv ⊢
    rw [World.var?_cell (by kernel_rfl) hvar2 off, ← Array.getElem?_toList, f2]
    rw [lgo_eq] at hv
    exact hv
  · exact ⟨(fun _ _ h => by cases h), henv⟩
  · exact ⟨(fun _ _ h => by cases h), hpow⟩

section
variable {H : Type} {enc : TypeId × Value → H} {w : World} {base b0 : Nat} {spare : Nat → Bool} {held : Bool} {r : Reach} {fuel : Nat} {x : DataW H × List MemPlace}
theorem q_seen_0 : Tryd.prog.cellsOf 2 = 1 := by kernel_rfl
set_option maxRecDepth 100000 in
theorem oc_seen {cs : List Value} (h : DataW.trod enc Tryd.prog w base spare held fuel 33 cs = some x) : ∃ (z0 : Int) (z1 : Int) (z2 : Int) (z3 : Int) (z4 : Int), cs = [.int .i64 z0, .int .i64 z1, .int .i64 z2, .int .i64 z3, .int .i64 z4] ∧ (-9223372036854775808 ≤ z0 ∧ z0 ≤ 9223372036854775807) ∧ (-9223372036854775808 ≤ z1 ∧ z1 ≤ 9223372036854775807) ∧ (-9223372036854775808 ≤ z2 ∧ z2 ≤ 9223372036854775807) ∧ (-9223372036854775808 ≤ z3 ∧ z3 ≤ 9223372036854775807) ∧ (-9223372036854775808 ≤ z4 ∧ z4 ≤ 9223372036854775807) := by
  obtain ⟨xs, n2, _, _, hl, hxl, hf⟩ := DataW.trod_struct Tryd.underlying33 h
  have hln : cs.length = 5 := hl.trans (by kernel_rfl)
  obtain ⟨c0, c1, c2, c3, c4, rfl⟩ : ∃ c0 c1 c2 c3 c4, cs = [c0, c1, c2, c3, c4] := by
    match cs, hln with
    | [c0, c1, c2, c3, c4], _ => exact ⟨c0, c1, c2, c3, c4, rfl⟩
  obtain ⟨y0, y1, y2, y3, y4, rfl⟩ : ∃ y0 y1 y2 y3 y4, xs = [y0, y1, y2, y3, y4] := by
    match xs, hxl with
    | [y0, y1, y2, y3, y4], _ => exact ⟨y0, y1, y2, y3, y4, rfl⟩
  have h0 := hf 0 _ rfl
  have h1 := hf 1 _ rfl
  have h2 := hf 2 _ rfl
  have h3 := hf 3 _ rfl
  have h4 := hf 4 _ rfl
  simp only [q_seen_0, List.drop_succ_cons, List.drop_zero, List.take_succ_cons, List.take_zero, List.getElem?_cons_zero, List.getElem?_cons_succ] at h0 h1 h2 h3 h4
  obtain ⟨z0, e0, _, g0⟩ := DataW.trod_int Tryd.underlying2 h0
  injection e0 with e0
  subst e0
  obtain ⟨z1, e1, _, g1⟩ := DataW.trod_int Tryd.underlying2 h1
  injection e1 with e1
  subst e1
  obtain ⟨z2, e2, _, g2⟩ := DataW.trod_int Tryd.underlying2 h2
  injection e2 with e2
  subst e2
  obtain ⟨z3, e3, _, g3⟩ := DataW.trod_int Tryd.underlying2 h3
  injection e3 with e3
  subst e3
  obtain ⟨z4, e4, _, g4⟩ := DataW.trod_int Tryd.underlying2 h4
  injection e4 with e4
  subst e4
  exact ⟨z0, z1, z2, z3, z4, rfl, (by simp [Lit.wf, IntKind.min, IntKind.max, IntKind.signed, IntKind.bits] at g0; omega), (by simp [Lit.wf, IntKind.min, IntKind.max, IntKind.signed, IntKind.bits] at g1; omega), (by simp [Lit.wf, IntKind.min, IntKind.max, IntKind.signed, IntKind.bits] at g2; omega), (by simp [Lit.wf, IntKind.min, IntKind.max, IntKind.signed, IntKind.bits] at g3; omega), (by simp [Lit.wf, IntKind.min, IntKind.max, IntKind.signed, IntKind.bits] at g4; omega)⟩
end

section
variable {H : Type} {enc : TypeId × Value → H} {w : World} {base b0 : Nat} {spare : Nat → Bool} {held : Bool} {r : Reach} {fuel : Nat} {x : DataW H × List MemPlace}
theorem s1_cSn : Tryd.prog.cellsOf 33 = 5 := by kernel_rfl
set_option maxRecDepth 100000 in
theorem ol_cSn {t : TypeId} {cs : List Value} (ht : Tryd.prog.underlying t = some (.slice 33)) (h : DataW.trod enc Tryd.prog w base spare held fuel t cs = some x) :
    ∃ (a : Option Addr) (l : List Sn) (c : Nat), cs = [.slice a l.length c] ∧ AOK a l.length ∧ (l.length ≤ c ∧ c ≤ maxLen) ∧ Rd w a (cSn l) ∧ ∀ e ∈ l, (-9223372036854775808 ≤ e.y ∧ e.y ≤ 9223372036854775807) := by
  rcases Go.Deep.open_slice ht h with ⟨rfl, _⟩ | ⟨a, len, cap, m, k, D, Pl, rfl, hb, hl, hc, hm, hx, hi⟩
  · exact ⟨none, [], 0, rfl, ⟨(fun _ => rfl), (fun hn => absurd rfl hn)⟩, ⟨Nat.le_refl _, Nat.zero_le _⟩, (fun k v hv => by simp [cSn] at hv), (fun e he => by cases he)⟩
  · have hml : len ≤ m := by rw [hm]; split <;> omega
    obtain ⟨l, hll, hq⟩ := list_of (fun i (e : Sn) => (∀ j, j < 5 → w.cell? ((a.add (i * 5)).add j) = some (cSn_rd [e] 0 j)) ∧ (-9223372036854775808 ≤ e.y ∧ e.y ≤ 9223372036854775807)) len (fun i hil => by
      obtain ⟨cs', h1, h2⟩ := hi i (by omega)
      rw [s1_cSn] at h1
      obtain ⟨z0, z1, z2, z3, z4, rfl, f0, f1, f2, f3, f4⟩ := oc_seen h2
      obtain ⟨_, _, hat⟩ := World.cells?_some h1
      refine ⟨⟨z0, z1, z2, z3, z4⟩, ?_, f2⟩
      intro j hj
      rw [hat j hj]
      have : j = 0 ∨ j = 1 ∨ j = 2 ∨ j = 3 ∨ j = 4 := by omega
      rcases this with rfl | rfl | rfl | rfl | rfl <;> rfl)
    have hsp : len ≠ 0 → a.spot = none := fun hn => by
      obtain ⟨e, he⟩ : ∃ e, l[0]? = some e := by cases l with | nil => simp at hll; omega | cons e r => exact ⟨e, rfl⟩
      have := World.cell?_spot ((hq 0 e he).1 0 (by omega))
      simpa [Addr.add] using this
    refine ⟨some a, l, cap, by rw [hll], ⟨(fun e => by cases e), fun hn q hq => ?_⟩, ⟨by rw [hll]; exact hl, hc⟩, (fun k v hv => ?_), (fun e he => by obtain ⟨i, hi2⟩ := List.getElem?_of_mem he; exact (hq i e hi2).2)⟩
    · injection hq with hq
      subst hq
      exact hsp (by rw [← hll]; exact hn)
    · have hk : k < l.length * 5 := by
        have := (List.getElem?_eq_some_iff.1 hv).1
        rwa [cSn_len] at this
      have hk1 : k / 5 < l.length := by omega
      have hk2 : k % 5 < 5 := by omega
      have hk3 : k / 5 * 5 + k % 5 = k := by omega
      have hv2 := cSn_at hk1 hk2
      rw [hk3] at hv2
      rw [hv2] at hv
      injection hv with hv
      have he : l[k / 5]? = some l[k / 5] := by simp [hk1]
      have hc1 := (hq _ _ he).1 (k % 5) hk2
      have e1 : cSn_rd l (k / 5) (k % 5) = cSn_rd [l[k / 5]] 0 (k % 5) := by
        have : k % 5 = 0 ∨ k % 5 = 1 ∨ k % 5 = 2 ∨ k % 5 = 3 ∨ k % 5 = 4 := by omega
        rcases this with e | e | e | e | e <;> rw [e] <;> simp [cSn_rd, gSn, hk1]
      rw [← hv, e1, ← hc1]
      have hs := hsp (by omega)
      obtain ⟨bb, oo, ss⟩ := a
      simp only at hs
      subst hs
      congr 1
      rw [Go.Deep.add_add]
      unfold Addr.add
      by_cases hz : k / 5 * 5 + k % 5 = 0
      · rw [if_pos hz]; simp [bk, ofs]; omega
      · rw [if_neg hz]; simp [bk, ofs]; omega
end

section
variable {H : Type} {enc : TypeId × Value → H} {w : World} {base b0 : Nat} {spare : Nat → Bool} {held : Bool} {r : Reach}
theorem op_i64 {v : Value} {d : DataW H} {p : List MemPlace} (hv : Value.okWide Tryd.prog w r b0 2 v) (h : DataW.Trod enc Tryd.prog w base spare held 2 v d p) : ∃ (x0 : Int), v = .int .i64 x0 ∧ (-9223372036854775808 ≤ x0 ∧ x0 ≤ 9223372036854775807) := by
  obtain ⟨n, rfl, _, _, hw⟩ := open_int Tryd.underlying2 hv h
  refine ⟨n, rfl, ?_⟩
  simp [Lit.wf, IntKind.min, IntKind.max, IntKind.signed, IntKind.bits] at hw
  omega
end

section
variable {H : Type} {enc : TypeId × Value → H} {w : World} {base b0 : Nat} {spare : Nat → Bool} {held : Bool} {r : Reach}
set_option maxRecDepth 20000 in
theorem op_str {v : Value} {d : DataW H} {p : List MemPlace} (hv : Value.okWide Tryd.prog w r b0 9 v) (h : DataW.Trod enc Tryd.prog w base spare held 9 v d p) : ∃ (x0 : ByteArray), v = .string x0 ∧ (x0.size ≤ maxLen) := by
  obtain ⟨s, rfl, _, _, hs⟩ := Go.ChangeMaps.open_string (P := Tryd.prog) Tryd.underlying9 hv h
  exact ⟨s, rfl, hs⟩
end

section
variable {H : Type} {enc : TypeId × Value → H} {w : World} {base b0 : Nat} {spare : Nat → Bool} {held : Bool} {r : Reach} {fuel : Nat} {x : DataW H × List MemPlace}
theorem op_seens {v : Value} {d : DataW H} {p : List MemPlace} (hv : Value.okWide Tryd.prog w r b0 22 v) (h : DataW.Trod enc Tryd.prog w base spare held 22 v d p) : ∃ (a : Option Addr) (l : List Sn) (c : Nat), v = .slice a l.length c ∧ AOK a l.length ∧ (l.length ≤ c ∧ c ≤ maxLen) ∧ Rd w a (cSn l) ∧ (∀ e ∈ l, -9223372036854775808 ≤ e.y ∧ e.y ≤ 9223372036854775807) := by
  obtain ⟨a, n, c, rfl⟩ := okWide_slice Tryd.underlying22 hv
  obtain ⟨fuel, h⟩ := h
  have hh : DataW.trod enc Tryd.prog w base spare held fuel 22 [.slice a n c] = some (d, p) := by simpa [Value.cells] using h
  obtain ⟨a', l, c', e, f0, f1, f2, f3⟩ := ol_cSn Tryd.underlying22 hh
  simp only [List.cons.injEq, and_true] at e
  exact ⟨a', l, c', e, f0, f1, f2, f3⟩
end
theorem of_rdE {P : Program} {f : FuncId} {args : Array Value} {v : Value} {w : World} {rds : List (Option Addr × List Value)} (h : SpecG P tE rds f args [] (fun _ => v)) (hE : ExtOK tE w) (hr : ∀ a xs, (a, xs) ∈ rds → Rd w a xs) : Calls P f args w fun e w' => e = .returned v ∧ Below w.heap.size w w' :=
  (h w hE hr).mono fun e w' ⟨_, he, _, hb⟩ => ⟨he, hb⟩
theorem rd1 {w : World} {a : Option Addr} {xs : List Value} (h : Rd w a xs) : ∀ b ys, (b, ys) ∈ [(a, xs)] → Rd w b ys := by
  intro b ys hm
  rw [List.mem_singleton] at hm
  injection hm with e1 e2
  subst e1 e2
  exact h
theorem rdc {w : World} {a : Option Addr} {xs : List Value} {l : List (Option Addr × List Value)} (h : Rd w a xs) (hl : ∀ b ys, (b, ys) ∈ l → Rd w b ys) : ∀ b ys, (b, ys) ∈ (a, xs) :: l → Rd w b ys := by
  intro b ys hm
  rcases List.mem_cons.1 hm with e | e
  · injection e with e1 e2
    subst e1 e2
    exact h
  · exact hl _ _ e
theorem len_m {n c : Nat} (h : n ≤ c ∧ c ≤ maxLen) : n ≤ 9223372036854775807 := by have := h.1; have := h.2; unfold maxLen at *; omega
end Go.Proofs.YtjnaficgcellkaaDoor
