/- The step from a law's walk to its card (layer 14), the opener of events; both tables hold what their text lays. -/
import Derived.Test.YtnhlpgdadbjmoaaGreatDoorLiftF
import Derived.Test.YtnhlpgdadbjmoaaGreatDoorDma
import Derived.Test.YtnhlpgdadbjmoaaGreatDoorEvz
import Derived.Test.YtnhlpgdadbjmoaaGreatDoorCards
import Derived.Test.YtnhlpgdadbjmoaaGreatDoorTie
import Derived.Lib.LaidTab
import Derived.LaidMore
import Derived.Stop.Joined
import Derived.SevenTiedAt
import Derived.Lay
import Derived.ChangeMaps5
set_option linter.unusedSimpArgs false
set_option linter.unusedVariables false
set_option maxRecDepth 100000
namespace Go.Proofs.YtnhlpgdadbjmoaaGreatDoor
open Go.ChangeShapes Go.WideShapes Go.ChangeAt Go.RowKit Go.Joins

/-- A law whose walk answers true and leaves old memory alone, in every world of the row's shape that meets X. -/
theorem law_lift {H : Type} {enc : TypeId × Value → H} {C : Checked} {os : Os} {f : FuncId} {fn : Func} {s : ChangeSpec} {X : World → Array Value → Prop} {tb : TypeId}
    (hX : ∀ (w w' : World) (args : Array Value), w.heap = w'.heap → X w args → X w' args)
    (own : ownKnob C.prog.godebug = none) (started : os.Started) (noInit : C.prog.inits.idxOf? f = none) (hfn : C.prog.funcs[f]? = some fn)
    (hl : laidOutB C.prog = true) (hts : ∀ t ∈ fn.params.toList, C.prog.readableRec t = true ∧ t < C.prog.types.size) (hvs : s.vars = [])
    (hrt : fn.resultTypes = #[tb]) (htb : C.prog.underlying tb = some .bool)
    (witness : ∃ (w : World) (tape : Tape) (i : Input), w.os = os ∧ (w.forCall tape i).Shaped C.prog ∧ i.vars = [] ∧ Input.okWide C.prog (w.forCall tape i) .any w.heap.size f i ∧
      ((s.pre enc C.prog fn [] false (w.forCall tape i).memory i.args ∧ X (w.forCall tape i).memory i.args) ∧ sizedMet enc C.prog fn (OpenSpec.ofChange s) false (w.forCall tape i).memory i.args) ∧ Assume.holds {} C.prog (lone (Frame.enter C.prog f i.args .normal) [] (w.forCall tape i)))
    (walk : ∀ (W : World) (base : Nat) (args : Array Value) (ds gs : List (DataW H)) (p : List MemPlace), (∀ (j : Nat) t v, fn.params[j]? = some t → args[j]? = some v → Value.okWide C.prog W .any base t v) →
      DataW.TrodAll enc C.prog W 0 (fun _ => true) true fn.params.toList args.toList ds p → (DataW.weightsEach C.prog (fn.params.toList ++ s.plain.varTypes C.prog) (ds ++ gs)).all (· ≤ reachBytes) = true → X W args → W.ShapedOpen C.prog →
      s.fn H (ds ++ []) = { results := [.lit (.bool true)], args := ds } ∧ Calls C.prog f args W fun e W' => e = .returned (.bool true) ∧ Below W.heap.size W W') :
    ReturnsInHanded {} C os f .any (fun w args => (s.pre enc C.prog fn [] false w args ∧ X w args) ∧ sizedMet enc C.prog fn (OpenSpec.ofChange s) false w args) (s.post enc C.prog fn false true false false) := by
  refine returnsInHanded_of_calls own started noInit witness ?_
  intro w tape i _ shape _ fits asked _
  obtain ⟨_, _, _, fn2, hfn2, _, _, _, _, vals⟩ := fits
  obtain rfl : fn2 = fn := Option.some.inj (hfn2.symm.trans hfn)
  obtain ⟨⟨⟨ds, gs, before, whole, _⟩, hx⟩, sized⟩ := asked
  have whole2 := DataW.Whole.of_heap (w' := w.forCall tape i) (by rfl) whole
  have reach := sized.weights whole
  have keep := whole2
  obtain ⟨p, q, hA, hV, e, _, _⟩ := keep
  obtain ⟨h1, h2⟩ := walk (w.forCall tape i) w.heap.size i.args ds gs p vals hA reach (hX _ _ _ (by rfl) hx) shape
  refine h2.mono fun e W' ⟨he, hb⟩ => ?_
  subst he
  exact ChangeSpec.post_blind (post_of_law (fresh := true) (handsOn := false) hl hts hvs whole2 hrt htb h1 hb)


/-- What the rows list. -/
def laidA : List (String × DataW Unit) := [("scorebook/dismissal.ways", Rows.laid_scorebook_dismissal_ways), ("scorebook/event.forms", Rows.laid_scorebook_event_forms)]
set_option maxRecDepth 100000 in
theorem laidA_met (os : Os) (args : Array Value) : laidMetH Tryz.prog laidA ((World.doorLaid Tryz.prog 400 os).forCall (fun _ _ => 0) ⟨#[], args, []⟩).memory :=
  laidMetH_of_parts3 (fuel := 8) (laidMet_of_run' 8 (by kernel_rfl) (by kernel_rfl)) (by kernel_rfl) (by kernel_rfl)
theorem c_str : Tryz.prog.cellsOf 9 = 1 := by kernel_rfl
theorem c_boo : Tryz.prog.cellsOf 4 = 1 := by kernel_rfl
theorem c_way : Tryz.prog.cellsOf 157 = 5 := by kernel_rfl
theorem str_bytes {s : ByteArray} {l : List UInt8} (h : s.data.toList = l) : s = ⟨l.toArray⟩ := by
  obtain ⟨⟨x⟩⟩ := s
  simp at h
  rw [h]
section
variable {H : Type} {enc : TypeId × Value → H} {w : World} {base b0 : Nat} {spare : Nat → Bool} {held : Bool} {r : Reach}
set_option maxRecDepth 100000 in
theorem way_cells {m : Nat} {cs : List Value} {q : List MemPlace} {n : List UInt8} {a b c d : Bool} (hh : DataW.trod enc Tryz.prog w base spare held m 157 cs = some (.agg [.lit (.string n), .lit (.bool a), .lit (.bool b), .lit (.bool c), .lit (.bool d)], q)) :
    cs = [.string ⟨n.toArray⟩, .bool a, .bool b, .bool c, .bool d] := by
  obtain ⟨xs, n', _, hx, hl, hxl, hf⟩ := DataW.trod_struct Tryz.underlying157 hh
  have hl5 : cs.length = 5 := hl.trans c_way
  obtain ⟨c0, c1, c2, c3, c4, rfl⟩ : ∃ c0 c1 c2 c3 c4, cs = [c0, c1, c2, c3, c4] := by
    match cs, hl5 with
    | [c0, c1, c2, c3, c4], _ => exact ⟨c0, c1, c2, c3, c4, rfl⟩
  obtain ⟨y0, y1, y2, y3, y4, rfl⟩ : ∃ y0 y1 y2 y3 y4, xs = [y0, y1, y2, y3, y4] := by
    match xs, hxl with
    | [y0, y1, y2, y3, y4], _ => exact ⟨y0, y1, y2, y3, y4, rfl⟩
  have h0 := hf 0 _ rfl
  have h1 := hf 1 _ rfl
  have h2 := hf 2 _ rfl
  have h3 := hf 3 _ rfl
  have h4 := hf 4 _ rfl
  simp only [c_str, c_boo, List.drop_succ_cons, List.drop_zero, List.take_succ_cons, List.take_zero, List.getElem?_cons_zero, List.getElem?_cons_succ] at h0 h1 h2 h3 h4
  obtain ⟨s, e0, f0, _⟩ := DataW.trod_string Tryz.underlying9 h0
  obtain ⟨b1, e1, f1⟩ := DataW.trod_bool Tryz.underlying4 h1
  obtain ⟨b2, e2, f2⟩ := DataW.trod_bool Tryz.underlying4 h2
  obtain ⟨b3, e3, f3⟩ := DataW.trod_bool Tryz.underlying4 h3
  obtain ⟨b4, e4, f4⟩ := DataW.trod_bool Tryz.underlying4 h4
  injection e0 with e0
  injection e1 with e1
  injection e2 with e2
  injection e3 with e3
  injection e4 with e4
  subst e0 e1 e2 e3 e4 f0 f1 f2 f3 f4
  simp only [List.map_cons, List.map_nil, Prod.mk.injEq, DataW.agg.injEq, List.cons.injEq, DataW.lit.injEq, Lit.string.injEq, Lit.bool.injEq, and_true] at hx
  obtain ⟨⟨g0, g1, g2, g3, g4⟩, _⟩ := hx
  rw [str_bytes g0.symm, g1, g2, g3, g4]
end
theorem c_knd : Tryz.prog.cellsOf 45 = 1 := by kernel_rfl
theorem c_frm : Tryz.prog.cellsOf 139 = 4 := by kernel_rfl
section
variable {H : Type} {enc : TypeId × Value → H} {w : World} {base b0 : Nat} {spare : Nat → Bool} {held : Bool} {r : Reach}
set_option maxRecDepth 100000 in
theorem form_cells {m : Nat} {cs : List Value} {q : List MemPlace} {k : Int} {a : Bool} {n l : List UInt8} (hh : DataW.trod enc Tryz.prog w base spare held m 139 cs = some (.agg [.lit (.int .u8 k), .lit (.bool a), .lit (.string n), .lit (.string l)], q)) :
    cs = [.int .u8 k, .bool a, .string ⟨n.toArray⟩, .string ⟨l.toArray⟩] := by
  obtain ⟨xs, n', _, hx, hl, hxl, hf⟩ := DataW.trod_struct Tryz.underlying139 hh
  have hl5 : cs.length = 4 := hl.trans c_frm
  obtain ⟨c0, c1, c2, c3, rfl⟩ : ∃ c0 c1 c2 c3, cs = [c0, c1, c2, c3] := by
    match cs, hl5 with
    | [c0, c1, c2, c3], _ => exact ⟨c0, c1, c2, c3, rfl⟩
  obtain ⟨y0, y1, y2, y3, rfl⟩ : ∃ y0 y1 y2 y3, xs = [y0, y1, y2, y3] := by
    match xs, hxl with
    | [y0, y1, y2, y3], _ => exact ⟨y0, y1, y2, y3, rfl⟩
  have h0 := hf 0 _ rfl
  have h1 := hf 1 _ rfl
  have h2 := hf 2 _ rfl
  have h3 := hf 3 _ rfl
  simp only [c_str, c_boo, c_knd, List.drop_succ_cons, List.drop_zero, List.take_succ_cons, List.take_zero, List.getElem?_cons_zero, List.getElem?_cons_succ] at h0 h1 h2 h3
  obtain ⟨k0, e0, f0, _⟩ := DataW.trod_int Tryz.underlying45 h0
  obtain ⟨b1, e1, f1⟩ := DataW.trod_bool Tryz.underlying4 h1
  obtain ⟨s2, e2, f2, _⟩ := DataW.trod_string Tryz.underlying9 h2
  obtain ⟨s3, e3, f3, _⟩ := DataW.trod_string Tryz.underlying9 h3
  injection e0 with e0
  injection e1 with e1
  injection e2 with e2
  injection e3 with e3
  subst e0 e1 e2 e3 f0 f1 f2 f3
  simp only [List.map_cons, List.map_nil, Prod.mk.injEq, DataW.agg.injEq, List.cons.injEq, DataW.lit.injEq, Lit.string.injEq, Lit.bool.injEq, Lit.int.injEq, true_and, and_true] at hx
  obtain ⟨⟨g0, g1, g2, g3⟩, _⟩ := hx
  rw [str_bytes g2.symm, str_bytes g3.symm, g0, g1]
end
set_option maxRecDepth 100000 in
theorem tab_w {W : World} {t' : TypeId} {cs : Array Value} {fuel : Nat} {q : List MemPlace} {base : Nat} {spare : Nat → Bool} {held : Bool} (ht' : t' = 160) (hd : DataW.trod (fun _ => ()) Tryz.prog W base spare held fuel t' cs.toList = some (Rows.laid_scorebook_dismissal_ways, q)) : ∀ off v, lgo wC off = some v → cs[off]? = some v := by
  subst ht'
  obtain ⟨xs, m, _, hx, hl, hxl, hf⟩ := DataW.trod_array Tryz.underlying160 hd
  have hx1 : xs.map (·.1) = (match (Rows.laid_scorebook_dismissal_ways : DataW Unit) with | .agg l => l | _ => []) := by
    have := congrArg Prod.fst hx
    simp only [Rows.laid_scorebook_dismissal_ways] at this ⊢
    injection this with this
    exact this.symm
  have key : ∀ i, i < 11 → ((cs.toList.drop (i * 5)).take 5) = ((wC.drop (i * 5)).take 5) := by
    intro i hi
    have h1 := hf i hi
    rw [c_way] at h1
    have h2 : xs[i]? = some (xs[i]'(by omega)) := by simp [hxl, hi]
    have h3 : (xs[i]'(by omega)).1 = (xs.map (·.1))[i]'(by simp; omega) := by simp
    rw [h2] at h1
    have h4 : (xs.map (·.1))[i]? = some (xs[i]'(by omega)).1 := by simp [hxl, hi]
    rw [hx1] at h4
    have hc : i = 0 ∨ i = 1 ∨ i = 2 ∨ i = 3 ∨ i = 4 ∨ i = 5 ∨ i = 6 ∨ i = 7 ∨ i = 8 ∨ i = 9 ∨ i = 10 := by omega
    generalize (xs[i]'(by omega)) = y at h1 h4
    obtain ⟨y1, y2⟩ := y
    rcases hc with rfl | rfl | rfl | rfl | rfl | rfl | rfl | rfl | rfl | rfl | rfl <;>
      (simp only [Rows.laid_scorebook_dismissal_ways, List.getElem?_cons_zero, List.getElem?_cons_succ, Option.some.injEq] at h4
       subst h4
       rw [way_cells h1]
       rfl)
  intro off v hv
  rw [← Array.getElem?_toList]
  rw [lgo_eq] at hv
  have hlt : off < 55 := by
    have : off < wC.length := (List.getElem?_eq_some_iff.1 hv).1
    simpa [wC] using this
  have hk := congrArg (fun l => l[off % 5]?) (key (off / 5) (by omega))
  simp only [List.getElem?_take, List.getElem?_drop] at hk
  rw [if_pos (by omega), if_pos (by omega), show off / 5 * 5 + off % 5 = off by omega] at hk
  rw [← hv, ← hk]
set_option maxRecDepth 100000 in
theorem tab_f {W : World} {t' : TypeId} {cs : Array Value} {fuel : Nat} {q : List MemPlace} {base : Nat} {spare : Nat → Bool} {held : Bool} (ht' : t' = 148) (hd : DataW.trod (fun _ => ()) Tryz.prog W base spare held fuel t' cs.toList = some (Rows.laid_scorebook_event_forms, q)) : ∀ off v, lgo fC off = some v → cs[off]? = some v := by
  subst ht'
  obtain ⟨xs, m, _, hx, hl, hxl, hf⟩ := DataW.trod_array Tryz.underlying148 hd
  have hx1 : xs.map (·.1) = (match (Rows.laid_scorebook_event_forms : DataW Unit) with | .agg l => l | _ => []) := by
    have := congrArg Prod.fst hx
    simp only [Rows.laid_scorebook_event_forms] at this ⊢
    injection this with this
    exact this.symm
  have key : ∀ i, i < 22 → ((cs.toList.drop (i * 4)).take 4) = ((fC.drop (i * 4)).take 4) := by
    intro i hi
    have h1 := hf i hi
    rw [c_frm] at h1
    have h2 : xs[i]? = some (xs[i]'(by omega)) := by simp [hxl, hi]
    have h3 : (xs[i]'(by omega)).1 = (xs.map (·.1))[i]'(by simp; omega) := by simp
    rw [h2] at h1
    have h4 : (xs.map (·.1))[i]? = some (xs[i]'(by omega)).1 := by simp [hxl, hi]
    rw [hx1] at h4
    have hc : i = 0 ∨ i = 1 ∨ i = 2 ∨ i = 3 ∨ i = 4 ∨ i = 5 ∨ i = 6 ∨ i = 7 ∨ i = 8 ∨ i = 9 ∨ i = 10 ∨ i = 11 ∨ i = 12 ∨ i = 13 ∨ i = 14 ∨ i = 15 ∨ i = 16 ∨ i = 17 ∨ i = 18 ∨ i = 19 ∨ i = 20 ∨ i = 21 := by omega
    generalize (xs[i]'(by omega)) = y at h1 h4
    obtain ⟨y1, y2⟩ := y
    rcases hc with rfl | rfl | rfl | rfl | rfl | rfl | rfl | rfl | rfl | rfl | rfl | rfl | rfl | rfl | rfl | rfl | rfl | rfl | rfl | rfl | rfl | rfl <;>
      (simp only [Rows.laid_scorebook_event_forms, List.getElem?_cons_zero, List.getElem?_cons_succ, Option.some.injEq] at h4
       subst h4
       rw [form_cells h1]
       rfl)
  intro off v hv
  rw [← Array.getElem?_toList]
  rw [lgo_eq] at hv
  have hlt : off < 88 := by
    have : off < fC.length := (List.getElem?_eq_some_iff.1 hv).1
    simpa [fC] using this
  have hk := congrArg (fun l => l[off % 4]?) (key (off / 4) (by omega))
  simp only [List.getElem?_take, List.getElem?_drop] at hk
  rw [if_pos (by omega), if_pos (by omega), show off / 4 * 4 + off % 4 = off by omega] at hk
  rw [← hv, ← hk]
set_option maxRecDepth 100000 in
theorem env_of_laid {W : World} (h : laidMetH Tryz.prog laidA W) : ExtOK wE W := by
  rw [MakeChecks.laidMetH_plain _ _ _ (by kernel_rfl)] at h
  obtain ⟨ps, ⟨g', t', cs, fuel, p, q, hg', ht', hvar, hd, hl2, _⟩, _⟩ := h
  obtain ⟨g2, t2, cs2, fuel2, p2, q2, hg2, ht2, hvar2, hd2, _, _⟩ := hl2
  obtain rfl : g' = 1 := Option.some.inj (hg'.symm.trans (by kernel_rfl))
  obtain rfl : g2 = 0 := Option.some.inj (hg2.symm.trans (by kernel_rfl))
  have e1 : t' = 160 := Option.some.inj (ht'.symm.trans (by kernel_rfl))
  have e2 : t2 = 148 := Option.some.inj (ht2.symm.trans (by kernel_rfl))
  intro e he off v hv
  simp only [wE, List.mem_cons, List.not_mem_nil, or_false] at he
  rcases he with rfl | rfl
  · simp only at hv ⊢
    rw [World.var?_cell (by kernel_rfl) hvar off]
    exact tab_w e1 hd off v hv
  · simp only at hv ⊢
    rw [World.var?_cell (by kernel_rfl) hvar2 off]
    exact tab_f e2 hd2 off v hv
section
variable {H : Type} {enc : TypeId × Value → H} {w : World} {base b0 : Nat} {spare : Nat → Bool} {held : Bool} {r : Reach} {fuel : Nat} {x : DataW H × List MemPlace}
theorem q_del_0 : Tryz.prog.cellsOf 46 = 1 := by kernel_rfl
theorem q_del_1 : Tryz.prog.cellsOf 47 = 1 := by kernel_rfl
theorem q_del_2 : Tryz.prog.cellsOf 3 = 1 := by kernel_rfl
theorem q_del_3 : Tryz.prog.cellsOf 4 = 1 := by kernel_rfl
theorem q_del_4 : Tryz.prog.cellsOf 48 = 1 := by kernel_rfl
set_option maxRecDepth 100000 in
theorem oc_del {cs : List Value} (h : DataW.trod enc Tryz.prog w base spare held fuel 50 cs = some x) : ∃ (z0 : Int) (z1 : Int) (z2 : Int) (z3 : Int) (z4 : Int) (z5 : Bool) (z6 : Int) (z7 : Int) (z8 : Int) (z9 : Int) (z10 : Bool) (z11 : Int), cs = [.int .u8 z0, .int .u8 z1, .int .i64 z2, .int .i64 z3, .int .i64 z4, .bool z5, .int .u8 z6, .int .i64 z7, .int .i64 z8, .int .i64 z9, .bool z10, .int .i64 z11] ∧ (0 ≤ z0 ∧ z0 ≤ 255) ∧ (0 ≤ z1 ∧ z1 ≤ 255) ∧ (-9223372036854775808 ≤ z2 ∧ z2 ≤ 9223372036854775807) ∧ (-9223372036854775808 ≤ z3 ∧ z3 ≤ 9223372036854775807) ∧ (-9223372036854775808 ≤ z4 ∧ z4 ≤ 9223372036854775807) ∧ (0 ≤ z6 ∧ z6 ≤ 255) ∧ (-9223372036854775808 ≤ z7 ∧ z7 ≤ 9223372036854775807) ∧ (-9223372036854775808 ≤ z8 ∧ z8 ≤ 9223372036854775807) ∧ (-9223372036854775808 ≤ z9 ∧ z9 ≤ 9223372036854775807) ∧ (-9223372036854775808 ≤ z11 ∧ z11 ≤ 9223372036854775807) := by
  obtain ⟨xs, n2, _, _, hl, hxl, hf⟩ := DataW.trod_struct Tryz.underlying50 h
  have hln : cs.length = 12 := hl.trans (by kernel_rfl)
  obtain ⟨c0, c1, c2, c3, c4, c5, c6, c7, c8, c9, c10, c11, rfl⟩ : ∃ c0 c1 c2 c3 c4 c5 c6 c7 c8 c9 c10 c11, cs = [c0, c1, c2, c3, c4, c5, c6, c7, c8, c9, c10, c11] := by
    match cs, hln with
    | [c0, c1, c2, c3, c4, c5, c6, c7, c8, c9, c10, c11], _ => exact ⟨c0, c1, c2, c3, c4, c5, c6, c7, c8, c9, c10, c11, rfl⟩
  obtain ⟨y0, y1, y2, y3, y4, y5, y6, y7, y8, y9, y10, y11, rfl⟩ : ∃ y0 y1 y2 y3 y4 y5 y6 y7 y8 y9 y10 y11, xs = [y0, y1, y2, y3, y4, y5, y6, y7, y8, y9, y10, y11] := by
    match xs, hxl with
    | [y0, y1, y2, y3, y4, y5, y6, y7, y8, y9, y10, y11], _ => exact ⟨y0, y1, y2, y3, y4, y5, y6, y7, y8, y9, y10, y11, rfl⟩
  have h0 := hf 0 _ rfl
  have h1 := hf 1 _ rfl
  have h2 := hf 2 _ rfl
  have h3 := hf 3 _ rfl
  have h4 := hf 4 _ rfl
  have h5 := hf 5 _ rfl
  have h6 := hf 6 _ rfl
  have h7 := hf 7 _ rfl
  have h8 := hf 8 _ rfl
  have h9 := hf 9 _ rfl
  have h10 := hf 10 _ rfl
  have h11 := hf 11 _ rfl
  simp only [q_del_0, q_del_1, q_del_2, q_del_3, q_del_4, List.drop_succ_cons, List.drop_zero, List.take_succ_cons, List.take_zero, List.getElem?_cons_zero, List.getElem?_cons_succ] at h0 h1 h2 h3 h4 h5 h6 h7 h8 h9 h10 h11
  obtain ⟨z0, e0, _, g0⟩ := DataW.trod_int Tryz.underlying46 h0
  injection e0 with e0
  subst e0
  obtain ⟨z1, e1, _, g1⟩ := DataW.trod_int Tryz.underlying47 h1
  injection e1 with e1
  subst e1
  obtain ⟨z2, e2, _, g2⟩ := DataW.trod_int Tryz.underlying3 h2
  injection e2 with e2
  subst e2
  obtain ⟨z3, e3, _, g3⟩ := DataW.trod_int Tryz.underlying3 h3
  injection e3 with e3
  subst e3
  obtain ⟨z4, e4, _, g4⟩ := DataW.trod_int Tryz.underlying3 h4
  injection e4 with e4
  subst e4
  obtain ⟨z5, e5, _⟩ := DataW.trod_bool Tryz.underlying4 h5
  injection e5 with e5
  subst e5
  obtain ⟨z6, e6, _, g6⟩ := DataW.trod_int Tryz.underlying48 h6
  injection e6 with e6
  subst e6
  obtain ⟨z7, e7, _, g7⟩ := DataW.trod_int Tryz.underlying3 h7
  injection e7 with e7
  subst e7
  obtain ⟨z8, e8, _, g8⟩ := DataW.trod_int Tryz.underlying3 h8
  injection e8 with e8
  subst e8
  obtain ⟨z9, e9, _, g9⟩ := DataW.trod_int Tryz.underlying3 h9
  injection e9 with e9
  subst e9
  obtain ⟨z10, e10, _⟩ := DataW.trod_bool Tryz.underlying4 h10
  injection e10 with e10
  subst e10
  obtain ⟨z11, e11, _, g11⟩ := DataW.trod_int Tryz.underlying3 h11
  injection e11 with e11
  subst e11
  exact ⟨z0, z1, z2, z3, z4, z5, z6, z7, z8, z9, z10, z11, rfl, (by simp [Lit.wf, IntKind.min, IntKind.max, IntKind.signed, IntKind.bits] at g0; omega), (by simp [Lit.wf, IntKind.min, IntKind.max, IntKind.signed, IntKind.bits] at g1; omega), (by simp [Lit.wf, IntKind.min, IntKind.max, IntKind.signed, IntKind.bits] at g2; omega), (by simp [Lit.wf, IntKind.min, IntKind.max, IntKind.signed, IntKind.bits] at g3; omega), (by simp [Lit.wf, IntKind.min, IntKind.max, IntKind.signed, IntKind.bits] at g4; omega), (by simp [Lit.wf, IntKind.min, IntKind.max, IntKind.signed, IntKind.bits] at g6; omega), (by simp [Lit.wf, IntKind.min, IntKind.max, IntKind.signed, IntKind.bits] at g7; omega), (by simp [Lit.wf, IntKind.min, IntKind.max, IntKind.signed, IntKind.bits] at g8; omega), (by simp [Lit.wf, IntKind.min, IntKind.max, IntKind.signed, IntKind.bits] at g9; omega), (by simp [Lit.wf, IntKind.min, IntKind.max, IntKind.signed, IntKind.bits] at g11; omega)⟩
end

section
variable {H : Type} {enc : TypeId × Value → H} {w : World} {base b0 : Nat} {spare : Nat → Bool} {held : Bool} {r : Reach} {fuel : Nat} {x : DataW H × List MemPlace}
theorem q_ev_0 : Tryz.prog.cellsOf 45 = 1 := by kernel_rfl
theorem q_ev_1 : Tryz.prog.cellsOf 3 = 1 := by kernel_rfl
theorem q_ev_2 : Tryz.prog.cellsOf 4 = 1 := by kernel_rfl
theorem q_ev_3 : Tryz.prog.cellsOf 50 = 12 := by kernel_rfl
set_option maxRecDepth 100000 in
theorem oc_ev {cs : List Value} (h : DataW.trod enc Tryz.prog w base spare held fuel 52 cs = some x) : ∃ (z0 : Int) (z1 : Int) (z2 : Int) (z3 : Int) (z4 : Bool) (z5 : Int) (z6 : Int) (z7_0 : Int) (z7_1 : Int) (z7_2 : Int) (z7_3 : Int) (z7_4 : Int) (z7_5 : Bool) (z7_6 : Int) (z7_7 : Int) (z7_8 : Int) (z7_9 : Int) (z7_10 : Bool) (z7_11 : Int), cs = [.int .u8 z0, .int .i64 z1, .int .i64 z2, .int .i64 z3, .bool z4, .int .i64 z5, .int .i64 z6, .int .u8 z7_0, .int .u8 z7_1, .int .i64 z7_2, .int .i64 z7_3, .int .i64 z7_4, .bool z7_5, .int .u8 z7_6, .int .i64 z7_7, .int .i64 z7_8, .int .i64 z7_9, .bool z7_10, .int .i64 z7_11] ∧ (0 ≤ z0 ∧ z0 ≤ 255) ∧ (-9223372036854775808 ≤ z1 ∧ z1 ≤ 9223372036854775807) ∧ (-9223372036854775808 ≤ z2 ∧ z2 ≤ 9223372036854775807) ∧ (-9223372036854775808 ≤ z3 ∧ z3 ≤ 9223372036854775807) ∧ (-9223372036854775808 ≤ z5 ∧ z5 ≤ 9223372036854775807) ∧ (-9223372036854775808 ≤ z6 ∧ z6 ≤ 9223372036854775807) ∧ (0 ≤ z7_0 ∧ z7_0 ≤ 255) ∧ (0 ≤ z7_1 ∧ z7_1 ≤ 255) ∧ (-9223372036854775808 ≤ z7_2 ∧ z7_2 ≤ 9223372036854775807) ∧ (-9223372036854775808 ≤ z7_3 ∧ z7_3 ≤ 9223372036854775807) ∧ (-9223372036854775808 ≤ z7_4 ∧ z7_4 ≤ 9223372036854775807) ∧ (0 ≤ z7_6 ∧ z7_6 ≤ 255) ∧ (-9223372036854775808 ≤ z7_7 ∧ z7_7 ≤ 9223372036854775807) ∧ (-9223372036854775808 ≤ z7_8 ∧ z7_8 ≤ 9223372036854775807) ∧ (-9223372036854775808 ≤ z7_9 ∧ z7_9 ≤ 9223372036854775807) ∧ (-9223372036854775808 ≤ z7_11 ∧ z7_11 ≤ 9223372036854775807) := by
  obtain ⟨xs, n2, _, _, hl, hxl, hf⟩ := DataW.trod_struct Tryz.underlying52 h
  have hln : cs.length = 19 := hl.trans (by kernel_rfl)
  obtain ⟨c0, c1, c2, c3, c4, c5, c6, c7, c8, c9, c10, c11, c12, c13, c14, c15, c16, c17, c18, rfl⟩ : ∃ c0 c1 c2 c3 c4 c5 c6 c7 c8 c9 c10 c11 c12 c13 c14 c15 c16 c17 c18, cs = [c0, c1, c2, c3, c4, c5, c6, c7, c8, c9, c10, c11, c12, c13, c14, c15, c16, c17, c18] := by
    match cs, hln with
    | [c0, c1, c2, c3, c4, c5, c6, c7, c8, c9, c10, c11, c12, c13, c14, c15, c16, c17, c18], _ => exact ⟨c0, c1, c2, c3, c4, c5, c6, c7, c8, c9, c10, c11, c12, c13, c14, c15, c16, c17, c18, rfl⟩
  obtain ⟨y0, y1, y2, y3, y4, y5, y6, y7, rfl⟩ : ∃ y0 y1 y2 y3 y4 y5 y6 y7, xs = [y0, y1, y2, y3, y4, y5, y6, y7] := by
    match xs, hxl with
    | [y0, y1, y2, y3, y4, y5, y6, y7], _ => exact ⟨y0, y1, y2, y3, y4, y5, y6, y7, rfl⟩
  have h0 := hf 0 _ rfl
  have h1 := hf 1 _ rfl
  have h2 := hf 2 _ rfl
  have h3 := hf 3 _ rfl
  have h4 := hf 4 _ rfl
  have h5 := hf 5 _ rfl
  have h6 := hf 6 _ rfl
  have h7 := hf 7 _ rfl
  simp only [q_ev_0, q_ev_1, q_ev_2, q_ev_3, List.drop_succ_cons, List.drop_zero, List.take_succ_cons, List.take_zero, List.getElem?_cons_zero, List.getElem?_cons_succ] at h0 h1 h2 h3 h4 h5 h6 h7
  obtain ⟨z0, e0, _, g0⟩ := DataW.trod_int Tryz.underlying45 h0
  injection e0 with e0
  subst e0
  obtain ⟨z1, e1, _, g1⟩ := DataW.trod_int Tryz.underlying3 h1
  injection e1 with e1
  subst e1
  obtain ⟨z2, e2, _, g2⟩ := DataW.trod_int Tryz.underlying3 h2
  injection e2 with e2
  subst e2
  obtain ⟨z3, e3, _, g3⟩ := DataW.trod_int Tryz.underlying3 h3
  injection e3 with e3
  subst e3
  obtain ⟨z4, e4, _⟩ := DataW.trod_bool Tryz.underlying4 h4
  injection e4 with e4
  subst e4
  obtain ⟨z5, e5, _, g5⟩ := DataW.trod_int Tryz.underlying3 h5
  injection e5 with e5
  subst e5
  obtain ⟨z6, e6, _, g6⟩ := DataW.trod_int Tryz.underlying3 h6
  injection e6 with e6
  subst e6
  obtain ⟨z7_0, z7_1, z7_2, z7_3, z7_4, z7_5, z7_6, z7_7, z7_8, z7_9, z7_10, z7_11, e7, g7_0, g7_1, g7_2, g7_3, g7_4, g7_5, g7_6, g7_7, g7_8, g7_9⟩ := oc_del h7
  have e7 : [c7, c8, c9, c10, c11, c12, c13, c14, c15, c16, c17, c18] = [.int .u8 z7_0, .int .u8 z7_1, .int .i64 z7_2, .int .i64 z7_3, .int .i64 z7_4, .bool z7_5, .int .u8 z7_6, .int .i64 z7_7, .int .i64 z7_8, .int .i64 z7_9, .bool z7_10, .int .i64 z7_11] := e7
  simp only [List.cons.injEq, and_true] at e7
  obtain ⟨rfl, rfl, rfl, rfl, rfl, rfl, rfl, rfl, rfl, rfl, rfl, rfl⟩ := e7
  exact ⟨z0, z1, z2, z3, z4, z5, z6, z7_0, z7_1, z7_2, z7_3, z7_4, z7_5, z7_6, z7_7, z7_8, z7_9, z7_10, z7_11, rfl, (by simp [Lit.wf, IntKind.min, IntKind.max, IntKind.signed, IntKind.bits] at g0; omega), (by simp [Lit.wf, IntKind.min, IntKind.max, IntKind.signed, IntKind.bits] at g1; omega), (by simp [Lit.wf, IntKind.min, IntKind.max, IntKind.signed, IntKind.bits] at g2; omega), (by simp [Lit.wf, IntKind.min, IntKind.max, IntKind.signed, IntKind.bits] at g3; omega), (by simp [Lit.wf, IntKind.min, IntKind.max, IntKind.signed, IntKind.bits] at g5; omega), (by simp [Lit.wf, IntKind.min, IntKind.max, IntKind.signed, IntKind.bits] at g6; omega), g7_0, g7_1, g7_2, g7_3, g7_4, g7_5, g7_6, g7_7, g7_8, g7_9⟩
end

section
variable {H : Type} {enc : TypeId × Value → H} {w : World} {base b0 : Nat} {spare : Nat → Bool} {held : Bool} {r : Reach} {fuel : Nat} {x : DataW H × List MemPlace}
theorem op_ev {v : Value} {d : DataW H} {p : List MemPlace} (hv : Value.okWide Tryz.prog w r b0 52 v) (h : DataW.Trod enc Tryz.prog w base spare held 52 v d p) : ∃ (k : Int) (e : Ev) (d : Dl), v = evV k e d ∧ (0 ≤ k ∧ k ≤ 255) ∧ (0 ≤ d.h ∧ d.h ≤ 255) := by
  obtain ⟨cs, rfl, _⟩ := okWide_struct Tryz.underlying52 hv
  obtain ⟨fuel, h⟩ := h
  have hh : DataW.trod enc Tryz.prog w base spare held fuel 52 cs.toList = some (d, p) := by simpa [Value.cells] using h
  obtain ⟨z0, z1, z2, z3, z4, z5, z6, z7_0, z7_1, z7_2, z7_3, z7_4, z7_5, z7_6, z7_7, z7_8, z7_9, z7_10, z7_11, ecs, f0, f1, f2, f3, f4, f5, f6, f7, f8, f9, f10, f11, f12, f13, f14, f15⟩ := oc_ev hh
  refine ⟨z0, ⟨z1, z2, z3, z4, z5, z6⟩, ⟨z7_0, z7_1, z7_2, z7_3, z7_4, z7_5, z7_6, z7_7, z7_8, z7_9, z7_10, z7_11⟩, ?_, f0, f11⟩
  rw [← Array.toArray_toList (xs := cs), ecs]
  rfl
end

end Go.Proofs.YtnhlpgdadbjmoaaGreatDoor
