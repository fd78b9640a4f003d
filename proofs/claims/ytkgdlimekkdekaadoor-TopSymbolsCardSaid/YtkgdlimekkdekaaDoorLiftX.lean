/- The step from a law's walk to its card (four listed variables), the listed variables as the contracts ask for them, openers of rules and deliveries. -/
import Derived.Test.YtkgdlimekkdekaaDoorBxs
import Derived.Test.YtkgdlimekkdekaaDoorFrame
import Derived.Test.YtkgdlimekkdekaaDoorCards
import Derived.Test.YtkgdlimekkdekaaDoorTie
import Derived.Lib.SmallJoins
import Derived.Lib.LaidTab
import Derived.ProofKit
import Derived.LaidMore
import Derived.OpenShut
import Derived.Stop.Joined
import Derived.SevenTiedAt
import Derived.Lay
import Derived.Shelf.Vars
import Derived.Stop.LaidErr
import Derived.ChangeMaps5
import Derived.Deep.Fields
import Derived.Deep.Slices
set_option linter.unusedSimpArgs false
set_option linter.unusedVariables false
set_option maxRecDepth 100000
namespace Go.Proofs.YtkgdlimekkdekaaDoor
open Go.ChangeShapes Go.WideShapes Go.ChangeAt Go.RowKit Go.Joins

/-- A law whose walk answers true and leaves old memory alone, in every world of the row's shape that meets X. -/
theorem law_lift {H : Type} {enc : TypeId × Value → H} {C : Checked} {os : Os} {f : FuncId} {fn : Func} {s : ChangeSpec} {X : World → Array Value → Prop} {tb : TypeId}
    (hX : ∀ (w w' : World) (args : Array Value), w.heap = w'.heap → X w args → X w' args)
    (own : ownKnob C.prog.godebug = none) (started : os.Started) (noInit : C.prog.inits.idxOf? f = none) (hfn : C.prog.funcs[f]? = some fn)
    (hl : laidOutB C.prog = true) (hts : ∀ t ∈ fn.params.toList, C.prog.readableRec t = true ∧ t < C.prog.types.size) (hvs : s.vars = [])
    (hrt : fn.resultTypes = #[tb]) (htb : C.prog.underlying tb = some .bool)
    (witness : ∃ (w : World) (tape : Tape) (i : Input), w.os = os ∧ (w.forCall tape i).Shaped C.prog ∧ i.vars = [] ∧ Input.okWide C.prog (w.forCall tape i) .any w.heap.size f i ∧
      ((s.pre enc C.prog fn [] false (w.forCall tape i).memory i.args ∧ X (w.forCall tape i).memory i.args) ∧ sizedMet enc C.prog fn (OpenSpec.ofChange s) false (w.forCall tape i).memory i.args) ∧ Assume.holds {} C.prog (lone (Frame.enter C.prog f i.args .normal) [] (w.forCall tape i)))
    (walk : ∀ (W : World) (base : Nat) (args : Array Value) (ds gs : List (DataW H)) (p : List MemPlace), (∀ (j : Nat) t v, fn.params[j]? = some t → args[j]? = some v → Value.okWide C.prog W .any base t v) →
      DataW.TrodAll enc C.prog W 0 (fun _ => true) true fn.params.toList args.toList ds p → (DataW.weightsEach C.prog (fn.params.toList ++ s.plain.varTypes C.prog) (ds ++ gs)).all (· ≤ reachBytes) = true → X W args → W.ShapedOpen C.prog →
      s.fn H (ds ++ []) = { results := [.lit (.bool true)], args := ds } ∧ Calls C.prog f args W fun e W' => e = .returned (.bool true) ∧ Below W.heap.size W W') :
    ReturnsInHanded {} C os f .any (fun w args => (s.pre enc C.prog fn [] false w args ∧ X w args) ∧ sizedMet enc C.prog fn (OpenSpec.ofChange s) false w args) (s.post enc C.prog fn false true false false) := by
  refine returnsInHanded_of_calls own started noInit witness ?_
  intro w tape i _ shape _ fits asked _
  obtain ⟨_, _, _, fn2, hfn2, _, _, _, _, vals⟩ := fits
  obtain rfl : fn2 = fn := Option.some.inj (hfn2.symm.trans hfn)
  obtain ⟨⟨⟨ds, gs, before, whole, _⟩, hx⟩, sized⟩ := asked
  have whole2 := DataW.Whole.of_heap (w' := w.forCall tape i) (by rfl) whole
  have reach := sized.weights whole
  have keep := whole2
  obtain ⟨p, q, hA, hV, e, _, _⟩ := keep
  obtain ⟨h1, h2⟩ := walk (w.forCall tape i) w.heap.size i.args ds gs p vals hA reach (hX _ _ _ (by rfl) hx) shape
  refine h2.mono fun e W' ⟨he, hb⟩ => ?_
  subst he
  exact ChangeSpec.post_blind (post_of_law (fresh := true) (handsOn := false) hl hts hvs whole2 hrt htb h1 hb)

/-- What the row lists. -/
def laidA : List (String × DataW Unit) := [("math/bits.deBruijn32tab", Rows.laid_math_bits_deBruijn32tab), ("math/bits.deBruijn64tab", Rows.laid_math_bits_deBruijn64tab), ("internal/strconv.uint64pow10", Rows.laid_internal_strconv_uint64pow10), ("scorebook/dismissal.ways", Rows.laid_scorebook_dismissal_ways)]
theorem laidA_met (os : Os) (args : Array Value) : laidMetH Tryd.prog laidA ((World.laidAll Tryd.prog os laidA).forCall (fun _ _ => 0) ⟨#[], args, []⟩).memory := by
  rw [MakeChecks.laidMetH_plain _ _ _ (by kernel_rfl)]
  exact laidMet_laidAll _ (by kernel_rfl) (by kernel_rfl)
theorem laidA_shaped (os : Os) : (World.laidAll Tryd.prog os laidA).Shaped Tryd.prog := World.shaped_of_ZipB (by kernel_rfl) (by kernel_rfl)
theorem own : ownKnob Tryd.prog.godebug = none := by kernel_rfl
theorem laidOut : laidOutB Tryd.prog = true := by kernel_rfl
theorem c_str : Tryd.prog.cellsOf 9 = 1 := by kernel_rfl
theorem c_boo : Tryd.prog.cellsOf 4 = 1 := by kernel_rfl
theorem c_way : Tryd.prog.cellsOf 130 = 5 := by kernel_rfl
theorem str_bytes {s : ByteArray} {l : List UInt8} (h : s.data.toList = l) : s = ⟨l.toArray⟩ := by
  obtain ⟨⟨x⟩⟩ := s
  simp at h
  rw [h]
section
variable {H : Type} {enc : TypeId × Value → H} {w : World} {base b0 : Nat} {spare : Nat → Bool} {held : Bool} {r : Reach}
set_option maxRecDepth 100000 in
theorem way_cells {m : Nat} {cs : List Value} {q : List MemPlace} {n : List UInt8} {a b c d : Bool} (hh : DataW.trod enc Tryd.prog w base spare held m 130 cs = some (.agg [.lit (.string n), .lit (.bool a), .lit (.bool b), .lit (.bool c), .lit (.bool d)], q)) :
    cs = [.string ⟨n.toArray⟩, .bool a, .bool b, .bool c, .bool d] := by
  obtain ⟨xs, n', _, hx, hl, hxl, hf⟩ := DataW.trod_struct Tryd.underlying130 hh
  have hl5 : cs.length = 5 := hl.trans c_way
  obtain ⟨c0, c1, c2, c3, c4, rfl⟩ : ∃ c0 c1 c2 c3 c4, cs = [c0, c1, c2, c3, c4] := by
    match cs, hl5 with
    | [c0, c1, c2, c3, c4], _ => exact ⟨c0, c1, c2, c3, c4, rfl⟩
  obtain ⟨y0, y1, y2, y3, y4, rfl⟩ : ∃ y0 y1 y2 y3 y4, xs = [y0, y1, y2, y3, y4] := by
    match xs, hxl with
    | [y0, y1, y2, y3, y4], _ => exact ⟨y0, y1, y2, y3, y4, rfl⟩
  have h0 := hf 0 _ rfl
  have h1 := hf 1 _ rfl
  have h2 := hf 2 _ rfl
  have h3 := hf 3 _ rfl
  have h4 := hf 4 _ rfl
  simp only [c_str, c_boo, List.drop_succ_cons, List.drop_zero, List.take_succ_cons, List.take_zero, List.getElem?_cons_zero, List.getElem?_cons_succ] at h0 h1 h2 h3 h4
  obtain ⟨s, e0, f0, _⟩ := DataW.trod_string Tryd.underlying9 h0
  obtain ⟨b1, e1, f1⟩ := DataW.trod_bool Tryd.underlying4 h1
  obtain ⟨b2, e2, f2⟩ := DataW.trod_bool Tryd.underlying4 h2
  obtain ⟨b3, e3, f3⟩ := DataW.trod_bool Tryd.underlying4 h3
  obtain ⟨b4, e4, f4⟩ := DataW.trod_bool Tryd.underlying4 h4
  injection e0 with e0
  injection e1 with e1
  injection e2 with e2
  injection e3 with e3
  injection e4 with e4
  subst e0 e1 e2 e3 e4 f0 f1 f2 f3 f4
  simp only [List.map_cons, List.map_nil, Prod.mk.injEq, DataW.agg.injEq, List.cons.injEq, DataW.lit.injEq, Lit.string.injEq, Lit.bool.injEq, and_true] at hx
  obtain ⟨⟨g0, g1, g2, g3, g4⟩, _⟩ := hx
  rw [str_bytes g0.symm, g1, g2, g3, g4]
end
theorem ways_of_laid {W : World} (h0 : laidMetH Tryd.prog laidA W) : ExtOK wE W := by
  rw [MakeChecks.laidMetH_plain _ _ _ (by kernel_rfl)] at h0
  have h := h0.tail.tail.tail
  obtain ⟨ps, ⟨g', t', cs, fuel, p, q, hg', ht', hvar, hd, _, _⟩, _⟩ := h
  obtain rfl : g' = 4 := Option.some.inj (hg'.symm.trans (by kernel_rfl))
  obtain rfl : t' = 144 := Option.some.inj (ht'.symm.trans (by kernel_rfl))
  obtain ⟨xs, m, _, hx, hl, hxl, hf⟩ := DataW.trod_array Tryd.underlying144 hd
  have hx1 : xs.map (·.1) = (match (Rows.laid_scorebook_dismissal_ways : DataW Unit) with | .agg l => l | _ => []) := by
    have := congrArg Prod.fst hx
    simp only [Rows.laid_scorebook_dismissal_ways] at this ⊢
    injection this with this
    exact this.symm
  have key : ∀ i, i < 11 → ((cs.toList.drop (i * 5)).take 5) = ((wC.drop (i * 5)).take 5) := by
    intro i hi
    have h1 := hf i hi
    rw [c_way] at h1
    have h2 : xs[i]? = some (xs[i]'(by omega)) := by simp [hxl, hi]
    have h3 : (xs[i]'(by omega)).1 = (xs.map (·.1))[i]'(by simp; omega) := by simp
    rw [h2] at h1
    have h4 : (xs.map (·.1))[i]? = some (xs[i]'(by omega)).1 := by simp [hxl, hi]
    rw [hx1] at h4
    have hc : i = 0 ∨ i = 1 ∨ i = 2 ∨ i = 3 ∨ i = 4 ∨ i = 5 ∨ i = 6 ∨ i = 7 ∨ i = 8 ∨ i = 9 ∨ i = 10 := by omega
    generalize (xs[i]'(by omega)) = y at h1 h4
    obtain ⟨y1, y2⟩ := y
    rcases hc with rfl | rfl | rfl | rfl | rfl | rfl | rfl | rfl | rfl | rfl | rfl <;>
      (simp only [Rows.laid_scorebook_dismissal_ways, List.getElem?_cons_zero, List.getElem?_cons_succ, Option.some.injEq] at h4
       subst h4
       rw [way_cells h1]
       rfl)
  intro e he
  simp only [wE, List.mem_singleton] at he
  subst he
  refine ⟨fun off v hv => ?_, trivial⟩
  simp only at hv ⊢
  rw [World.var?_cell (by kernel_rfl) hvar off, ← Array.getElem?_toList]
  rw [lgo_eq] at hv
  have hlt : off < 55 := by
    have : off < wC.length := (List.getElem?_eq_some_iff.1 hv).1
    simpa [wC] using this
  have hk := congrArg (fun l => l[off % 5]?) (key (off / 5) (by omega))
  simp only [List.getElem?_take, List.getElem?_drop] at hk
  rw [if_pos (by omega), if_pos (by omega), show off / 5 * 5 + off % 5 = off by omega] at hk
  rw [← hv, ← hk]
theorem env_of_laid {W : World} (h : laidMetH Tryd.prog laidA W) (hs : W.ShapedOpen Tryd.prog) : Env W := by
  rw [MakeChecks.laidMetH_plain _ _ _ (by kernel_rfl)] at h
  have h2 := h.tail.tail
  exact ⟨Lib.tabIs_of_head (g := 3) (t := 141) (e := 121) (n := 20) (by kernel_rfl) (by kernel_rfl) Tryd.underlying141 Tryd.underlying121 (by kernel_rfl) (by kernel_rfl) h2,
    Go.Proofs.cell_of_shapedOpen_int (zero := #[.int .i64 0]) (t := 3) hs (of_decide_eq_true (by kernel_rfl)) (by kernel_rfl) rfl (by kernel_rfl) (by kernel_rfl) Tryd.underlying3⟩
theorem tE_of_laid {W : World} (h : laidMetH Tryd.prog laidA W) (hs : W.ShapedOpen Tryd.prog) : ExtOK tE W := tE_of (ways_of_laid h) (env_of_laid h hs)
theorem list_of {α : Type} (Q : Nat → α → Prop) : ∀ n, (∀ i, i < n → ∃ a, Q i a) → ∃ l : List α, l.length = n ∧ ∀ i a, l[i]? = some a → Q i a := by
  intro n
  induction n with
  | zero => intro _; exact ⟨[], rfl, fun i a h => by simp at h⟩
  | succ n ih =>
    intro h
    obtain ⟨l, hl, hq⟩ := ih (fun i hi => h i (by omega))
    obtain ⟨a, ha⟩ := h n (by omega)
    refine ⟨l ++ [a], by simp [hl], fun i b hb => ?_⟩
    by_cases hi : i < l.length
    · rw [List.getElem?_append_left hi] at hb; exact hq i b hb
    · rw [List.getElem?_append_right (by omega)] at hb
      have h0 : i - l.length = 0 := by
        have := (List.getElem?_eq_some_iff.1 hb).1
        simp at this; omega
      rw [h0] at hb
      simp at hb
      subst hb
      have : i = n := by omega
      subst this; exact ha
def iof : Value → Int
  | .int _ n => n
  | _ => 0
def bof : Value → Bool
  | .bool b => b
  | _ => false

section
variable {H : Type} {enc : TypeId × Value → H} {w : World} {base b0 : Nat} {spare : Nat → Bool} {held : Bool} {r : Reach} {fuel : Nat} {x : DataW H × List MemPlace}
theorem q_pha_0 : Tryd.prog.cellsOf 3 = 1 := by kernel_rfl
set_option maxRecDepth 100000 in
theorem oc_pha {cs : List Value} (h : DataW.trod enc Tryd.prog w base spare held fuel 117 cs = some x) : ∃ (z0 : Int) (z1 : Int) (z2 : Int), cs = [.int .i64 z0, .int .i64 z1, .int .i64 z2] ∧ (-9223372036854775808 ≤ z0 ∧ z0 ≤ 9223372036854775807) ∧ (-9223372036854775808 ≤ z1 ∧ z1 ≤ 9223372036854775807) ∧ (-9223372036854775808 ≤ z2 ∧ z2 ≤ 9223372036854775807) := by
  obtain ⟨xs, n2, _, _, hl, hxl, hf⟩ := DataW.trod_struct Tryd.underlying117 h
  have hln : cs.length = 3 := hl.trans (by kernel_rfl)
  obtain ⟨c0, c1, c2, rfl⟩ : ∃ c0 c1 c2, cs = [c0, c1, c2] := by
    match cs, hln with
    | [c0, c1, c2], _ => exact ⟨c0, c1, c2, rfl⟩
  obtain ⟨y0, y1, y2, rfl⟩ : ∃ y0 y1 y2, xs = [y0, y1, y2] := by
    match xs, hxl with
    | [y0, y1, y2], _ => exact ⟨y0, y1, y2, rfl⟩
  have h0 := hf 0 _ rfl
  have h1 := hf 1 _ rfl
  have h2 := hf 2 _ rfl
  simp only [q_pha_0, List.drop_succ_cons, List.drop_zero, List.take_succ_cons, List.take_zero, List.getElem?_cons_zero, List.getElem?_cons_succ] at h0 h1 h2
  obtain ⟨z0, e0, _, g0⟩ := DataW.trod_int Tryd.underlying3 h0
  injection e0 with e0
  subst e0
  obtain ⟨z1, e1, _, g1⟩ := DataW.trod_int Tryd.underlying3 h1
  injection e1 with e1
  subst e1
  obtain ⟨z2, e2, _, g2⟩ := DataW.trod_int Tryd.underlying3 h2
  injection e2 with e2
  subst e2
  exact ⟨z0, z1, z2, rfl, (by simp [Lit.wf, IntKind.min, IntKind.max, IntKind.signed, IntKind.bits] at g0; omega), (by simp [Lit.wf, IntKind.min, IntKind.max, IntKind.signed, IntKind.bits] at g1; omega), (by simp [Lit.wf, IntKind.min, IntKind.max, IntKind.signed, IntKind.bits] at g2; omega)⟩
end

section
variable {H : Type} {enc : TypeId × Value → H} {w : World} {base b0 : Nat} {spare : Nat → Bool} {held : Bool} {r : Reach} {fuel : Nat} {x : DataW H × List MemPlace}
theorem s1_cP : Tryd.prog.cellsOf 117 = 3 := by kernel_rfl
set_option maxRecDepth 100000 in
theorem ol_cP {t : TypeId} {cs : List Value} (ht : Tryd.prog.underlying t = some (.slice 117)) (h : DataW.trod enc Tryd.prog w base spare held fuel t cs = some x) :
    ∃ (a : Option Addr) (l : List Ph) (c : Nat), cs = [.slice a l.length c] ∧ AOK a l.length ∧ (l.length ≤ c ∧ c ≤ maxLen) ∧ Rd w a (cP l) := by
  rcases Go.Deep.open_slice ht h with ⟨rfl, _⟩ | ⟨a, len, cap, m, k, D, Pl, rfl, hb, hl, hc, hm, hx, hi⟩
  · exact ⟨none, [], 0, rfl, ⟨(fun _ => rfl), (fun hn => absurd rfl hn)⟩, ⟨Nat.le_refl _, Nat.zero_le _⟩, (fun k v hv => by simp [cP] at hv)⟩
  · have hml : len ≤ m := by rw [hm]; split <;> omega
    obtain ⟨l, hll, hq⟩ := list_of (fun i (e : Ph) => (∀ j, j < 3 → w.cell? ((a.add (i * 3)).add j) = some (cP_rd [e] 0 j))) len (fun i hil => by
      obtain ⟨cs', h1, h2⟩ := hi i (by omega)
      rw [s1_cP] at h1
      obtain ⟨z0, z1, z2, rfl, f0, f1, f2⟩ := oc_pha h2
      obtain ⟨_, _, hat⟩ := World.cells?_some h1
      refine ⟨⟨z0, z1, z2⟩, ?_⟩
      intro j hj
      rw [hat j hj]
      have : j = 0 ∨ j = 1 ∨ j = 2 := by omega
      rcases this with rfl | rfl | rfl <;> rfl)
    have hsp : len ≠ 0 → a.spot = none := fun hn => by
      obtain ⟨e, he⟩ : ∃ e, l[0]? = some e := by cases l with | nil => simp at hll; omega | cons e r => exact ⟨e, rfl⟩
      have := World.cell?_spot (hq 0 e he 0 (by omega))
      simpa [Addr.add] using this
    refine ⟨some a, l, cap, by rw [hll], ⟨(fun e => by cases e), fun hn q hq => ?_⟩, ⟨by rw [hll]; exact hl, hc⟩, (fun k v hv => ?_)⟩
    · injection hq with hq
      subst hq
      exact hsp (by rw [← hll]; exact hn)
    · have hk : k < l.length * 3 := by
        have := (List.getElem?_eq_some_iff.1 hv).1
        rwa [cP_len] at this
      have hk1 : k / 3 < l.length := by omega
      have hk2 : k % 3 < 3 := by omega
      have hk3 : k / 3 * 3 + k % 3 = k := by omega
      have hv2 := cP_at hk1 hk2
      rw [hk3] at hv2
      rw [hv2] at hv
      injection hv with hv
      have he : l[k / 3]? = some l[k / 3] := by simp [hk1]
      have hc1 := hq _ _ he (k % 3) hk2
      have e1 : cP_rd l (k / 3) (k % 3) = cP_rd [l[k / 3]] 0 (k % 3) := by
        have : k % 3 = 0 ∨ k % 3 = 1 ∨ k % 3 = 2 := by omega
        rcases this with e | e | e <;> rw [e] <;> simp [cP_rd, hk1]
      rw [← hv, e1, ← hc1]
      have hs := hsp (by omega)
      obtain ⟨bb, oo, ss⟩ := a
      simp only at hs
      subst hs
      congr 1
      rw [Go.Deep.add_add]
      unfold Addr.add
      by_cases hz : k / 3 * 3 + k % 3 = 0
      · rw [if_pos hz]; simp [bk, ofs]; omega
      · rw [if_neg hz]; simp [bk, ofs]; omega
end

section
variable {H : Type} {enc : TypeId × Value → H} {w : World} {base b0 : Nat} {spare : Nat → Bool} {held : Bool} {r : Reach} {fuel : Nat} {x : DataW H × List MemPlace}
theorem q_rul_0 : Tryd.prog.cellsOf 9 = 1 := by kernel_rfl
theorem q_rul_1 : Tryd.prog.cellsOf 3 = 1 := by kernel_rfl
theorem q_rul_2 : Tryd.prog.cellsOf 4 = 1 := by kernel_rfl
theorem q_rul_3 : Tryd.prog.cellsOf 34 = 1 := by kernel_rfl
set_option maxRecDepth 100000 in
theorem oc_rul {cs : List Value} (h : DataW.trod enc Tryd.prog w base spare held fuel 36 cs = some x) : ∃ (z0 : ByteArray) (z1 : Int) (z2 : Int) (z3 : Int) (z4 : Int) (z5 : Int) (z6 : Int) (z7 : Int) (z8 : Bool) (z9 : Int) (z10 : Int) (z11 : Int) (z12 : Int) (z13a : Option Addr) (z13l : List Ph) (z13c : Nat), cs = [.string z0, .int .i64 z1, .int .i64 z2, .int .i64 z3, .int .i64 z4, .int .i64 z5, .int .i64 z6, .int .i64 z7, .bool z8, .int .i64 z9, .int .i64 z10, .int .i64 z11, .int .i64 z12, .slice z13a z13l.length z13c] ∧ z0.size ≤ maxLen ∧ (-9223372036854775808 ≤ z1 ∧ z1 ≤ 9223372036854775807) ∧ (-9223372036854775808 ≤ z2 ∧ z2 ≤ 9223372036854775807) ∧ (-9223372036854775808 ≤ z3 ∧ z3 ≤ 9223372036854775807) ∧ (-9223372036854775808 ≤ z4 ∧ z4 ≤ 9223372036854775807) ∧ (-9223372036854775808 ≤ z5 ∧ z5 ≤ 9223372036854775807) ∧ (-9223372036854775808 ≤ z6 ∧ z6 ≤ 9223372036854775807) ∧ (-9223372036854775808 ≤ z7 ∧ z7 ≤ 9223372036854775807) ∧ (-9223372036854775808 ≤ z9 ∧ z9 ≤ 9223372036854775807) ∧ (-9223372036854775808 ≤ z10 ∧ z10 ≤ 9223372036854775807) ∧ (-9223372036854775808 ≤ z11 ∧ z11 ≤ 9223372036854775807) ∧ (-9223372036854775808 ≤ z12 ∧ z12 ≤ 9223372036854775807) ∧ AOK z13a z13l.length ∧ (z13l.length ≤ z13c ∧ z13c ≤ maxLen) ∧ Rd w z13a (cP z13l) := by
  obtain ⟨xs, n2, _, _, hl, hxl, hf⟩ := DataW.trod_struct Tryd.underlying36 h
  have hln : cs.length = 14 := hl.trans (by kernel_rfl)
  obtain ⟨c0, c1, c2, c3, c4, c5, c6, c7, c8, c9, c10, c11, c12, c13, rfl⟩ : ∃ c0 c1 c2 c3 c4 c5 c6 c7 c8 c9 c10 c11 c12 c13, cs = [c0, c1, c2, c3, c4, c5, c6, c7, c8, c9, c10, c11, c12, c13] := by
    match cs, hln with
    | [c0, c1, c2, c3, c4, c5, c6, c7, c8, c9, c10, c11, c12, c13], _ => exact ⟨c0, c1, c2, c3, c4, c5, c6, c7, c8, c9, c10, c11, c12, c13, rfl⟩
  obtain ⟨y0, y1, y2, y3, y4, y5, y6, y7, y8, y9, y10, y11, y12, y13, rfl⟩ : ∃ y0 y1 y2 y3 y4 y5 y6 y7 y8 y9 y10 y11 y12 y13, xs = [y0, y1, y2, y3, y4, y5, y6, y7, y8, y9, y10, y11, y12, y13] := by
    match xs, hxl with
    | [y0, y1, y2, y3, y4, y5, y6, y7, y8, y9, y10, y11, y12, y13], _ => exact ⟨y0, y1, y2, y3, y4, y5, y6, y7, y8, y9, y10, y11, y12, y13, rfl⟩
  have h0 := hf 0 _ rfl
  have h1 := hf 1 _ rfl
  have h2 := hf 2 _ rfl
  have h3 := hf 3 _ rfl
  have h4 := hf 4 _ rfl
  have h5 := hf 5 _ rfl
  have h6 := hf 6 _ rfl
  have h7 := hf 7 _ rfl
  have h8 := hf 8 _ rfl
  have h9 := hf 9 _ rfl
  have h10 := hf 10 _ rfl
  have h11 := hf 11 _ rfl
  have h12 := hf 12 _ rfl
  have h13 := hf 13 _ rfl
  simp only [q_rul_0, q_rul_1, q_rul_2, q_rul_3, List.drop_succ_cons, List.drop_zero, List.take_succ_cons, List.take_zero, List.getElem?_cons_zero, List.getElem?_cons_succ] at h0 h1 h2 h3 h4 h5 h6 h7 h8 h9 h10 h11 h12 h13
  obtain ⟨z0, e0, _, g0⟩ := DataW.trod_string Tryd.underlying9 h0
  injection e0 with e0
  subst e0
  obtain ⟨z1, e1, _, g1⟩ := DataW.trod_int Tryd.underlying3 h1
  injection e1 with e1
  subst e1
  obtain ⟨z2, e2, _, g2⟩ := DataW.trod_int Tryd.underlying3 h2
  injection e2 with e2
  subst e2
  obtain ⟨z3, e3, _, g3⟩ := DataW.trod_int Tryd.underlying3 h3
  injection e3 with e3
  subst e3
  obtain ⟨z4, e4, _, g4⟩ := DataW.trod_int Tryd.underlying3 h4
  injection e4 with e4
  subst e4
  obtain ⟨z5, e5, _, g5⟩ := DataW.trod_int Tryd.underlying3 h5
  injection e5 with e5
  subst e5
  obtain ⟨z6, e6, _, g6⟩ := DataW.trod_int Tryd.underlying3 h6
  injection e6 with e6
  subst e6
  obtain ⟨z7, e7, _, g7⟩ := DataW.trod_int Tryd.underlying3 h7
  injection e7 with e7
  subst e7
  obtain ⟨z8, e8, _⟩ := DataW.trod_bool Tryd.underlying4 h8
  injection e8 with e8
  subst e8
  obtain ⟨z9, e9, _, g9⟩ := DataW.trod_int Tryd.underlying3 h9
  injection e9 with e9
  subst e9
  obtain ⟨z10, e10, _, g10⟩ := DataW.trod_int Tryd.underlying3 h10
  injection e10 with e10
  subst e10
  obtain ⟨z11, e11, _, g11⟩ := DataW.trod_int Tryd.underlying3 h11
  injection e11 with e11
  subst e11
  obtain ⟨z12, e12, _, g12⟩ := DataW.trod_int Tryd.underlying3 h12
  injection e12 with e12
  subst e12
  obtain ⟨z13a, z13l, z13c, e13, g13, u13, v13⟩ := ol_cP Tryd.underlying34 h13
  injection e13 with e13
  subst e13
  exact ⟨z0, z1, z2, z3, z4, z5, z6, z7, z8, z9, z10, z11, z12, z13a, z13l, z13c, rfl, g0, (by simp [Lit.wf, IntKind.min, IntKind.max, IntKind.signed, IntKind.bits] at g1; omega), (by simp [Lit.wf, IntKind.min, IntKind.max, IntKind.signed, IntKind.bits] at g2; omega), (by simp [Lit.wf, IntKind.min, IntKind.max, IntKind.signed, IntKind.bits] at g3; omega), (by simp [Lit.wf, IntKind.min, IntKind.max, IntKind.signed, IntKind.bits] at g4; omega), (by simp [Lit.wf, IntKind.min, IntKind.max, IntKind.signed, IntKind.bits] at g5; omega), (by simp [Lit.wf, IntKind.min, IntKind.max, IntKind.signed, IntKind.bits] at g6; omega), (by simp [Lit.wf, IntKind.min, IntKind.max, IntKind.signed, IntKind.bits] at g7; omega), (by simp [Lit.wf, IntKind.min, IntKind.max, IntKind.signed, IntKind.bits] at g9; omega), (by simp [Lit.wf, IntKind.min, IntKind.max, IntKind.signed, IntKind.bits] at g10; omega), (by simp [Lit.wf, IntKind.min, IntKind.max, IntKind.signed, IntKind.bits] at g11; omega), (by simp [Lit.wf, IntKind.min, IntKind.max, IntKind.signed, IntKind.bits] at g12; omega), g13, u13, v13⟩
end

section
variable {H : Type} {enc : TypeId × Value → H} {w : World} {base b0 : Nat} {spare : Nat → Bool} {held : Bool} {r : Reach} {fuel : Nat} {x : DataW H × List MemPlace}
theorem op_ruc {v : Value} {d : DataW H} {p : List MemPlace} (hv : Value.okWide Tryd.prog w r b0 36 v) (h : DataW.Trod enc Tryd.prog w base spare held 36 v d p) : ∃ (q : Rul) (B : RAd), v = ruV q B ∧ AOK B.a q.pw.length ∧ (q.pw.length ≤ B.c ∧ B.c ≤ maxLen) ∧ Rd w B.a (cP q.pw) ∧ q.nm.size ≤ maxLen := by
  obtain ⟨cs, rfl, _⟩ := okWide_struct Tryd.underlying36 hv
  obtain ⟨fuel, h⟩ := h
  have hh : DataW.trod enc Tryd.prog w base spare held fuel 36 cs.toList = some (d, p) := by simpa [Value.cells] using h
  obtain ⟨z0, z1, z2, z3, z4, z5, z6, z7, z8, z9, z10, z11, z12, z13a, z13l, z13c, ecs, f0, f1, f2, f3, f4, f5, f6, f7, f8, f9, f10, f11, f12, f13, f14⟩ := oc_rul hh
  refine ⟨⟨z0, z1, z2, z3, z4, z5, z6, z7, z8, z9, z10, z11, z12, z13l⟩, ⟨z13a, z13c⟩, ?_, f12, f13, f14, f0⟩
  rw [← Array.toArray_toList (xs := cs), ecs]
  rfl
end

section
variable {H : Type} {enc : TypeId × Value → H} {w : World} {base b0 : Nat} {spare : Nat → Bool} {held : Bool} {r : Reach} {fuel : Nat} {x : DataW H × List MemPlace}
theorem q_del_0 : Tryd.prog.cellsOf 37 = 1 := by kernel_rfl
theorem q_del_1 : Tryd.prog.cellsOf 38 = 1 := by kernel_rfl
theorem q_del_2 : Tryd.prog.cellsOf 3 = 1 := by kernel_rfl
theorem q_del_3 : Tryd.prog.cellsOf 4 = 1 := by kernel_rfl
theorem q_del_4 : Tryd.prog.cellsOf 39 = 1 := by kernel_rfl
set_option maxRecDepth 100000 in
theorem oc_del {cs : List Value} (h : DataW.trod enc Tryd.prog w base spare held fuel 41 cs = some x) : ∃ (z0 : Int) (z1 : Int) (z2 : Int) (z3 : Int) (z4 : Int) (z5 : Bool) (z6 : Int) (z7 : Int) (z8 : Int) (z9 : Int) (z10 : Bool) (z11 : Int), cs = [.int .u8 z0, .int .u8 z1, .int .i64 z2, .int .i64 z3, .int .i64 z4, .bool z5, .int .u8 z6, .int .i64 z7, .int .i64 z8, .int .i64 z9, .bool z10, .int .i64 z11] ∧ (0 ≤ z0 ∧ z0 ≤ 255) ∧ (0 ≤ z1 ∧ z1 ≤ 255) ∧ (-9223372036854775808 ≤ z2 ∧ z2 ≤ 9223372036854775807) ∧ (-9223372036854775808 ≤ z3 ∧ z3 ≤ 9223372036854775807) ∧ (-9223372036854775808 ≤ z4 ∧ z4 ≤ 9223372036854775807) ∧ (0 ≤ z6 ∧ z6 ≤ 255) ∧ (-9223372036854775808 ≤ z7 ∧ z7 ≤ 9223372036854775807) ∧ (-9223372036854775808 ≤ z8 ∧ z8 ≤ 9223372036854775807) ∧ (-9223372036854775808 ≤ z9 ∧ z9 ≤ 9223372036854775807) ∧ (-9223372036854775808 ≤ z11 ∧ z11 ≤ 9223372036854775807) := by
  obtain ⟨xs, n2, _, _, hl, hxl, hf⟩ := DataW.trod_struct Tryd.underlying41 h
  have hln : cs.length = 12 := hl.trans (by kernel_rfl)
  obtain ⟨c0, c1, c2, c3, c4, c5, c6, c7, c8, c9, c10, c11, rfl⟩ : ∃ c0 c1 c2 c3 c4 c5 c6 c7 c8 c9 c10 c11, cs = [c0, c1, c2, c3, c4, c5, c6, c7, c8, c9, c10, c11] := by
    match cs, hln with
    | [c0, c1, c2, c3, c4, c5, c6, c7, c8, c9, c10, c11], _ => exact ⟨c0, c1, c2, c3, c4, c5, c6, c7, c8, c9, c10, c11, rfl⟩
  obtain ⟨y0, y1, y2, y3, y4, y5, y6, y7, y8, y9, y10, y11, rfl⟩ : ∃ y0 y1 y2 y3 y4 y5 y6 y7 y8 y9 y10 y11, xs = [y0, y1, y2, y3, y4, y5, y6, y7, y8, y9, y10, y11] := by
    match xs, hxl with
    | [y0, y1, y2, y3, y4, y5, y6, y7, y8, y9, y10, y11], _ => exact ⟨y0, y1, y2, y3, y4, y5, y6, y7, y8, y9, y10, y11, rfl⟩
  have h0 := hf 0 _ rfl
  have h1 := hf 1 _ rfl
  have h2 := hf 2 _ rfl
  have h3 := hf 3 _ rfl
  have h4 := hf 4 _ rfl
  have h5 := hf 5 _ rfl
  have h6 := hf 6 _ rfl
  have h7 := hf 7 _ rfl
  have h8 := hf 8 _ rfl
  have h9 := hf 9 _ rfl
  have h10 := hf 10 _ rfl
  have h11 := hf 11 _ rfl
  simp only [q_del_0, q_del_1, q_del_2, q_del_3, q_del_4, List.drop_succ_cons, List.drop_zero, List.take_succ_cons, List.take_zero, List.getElem?_cons_zero, List.getElem?_cons_succ] at h0 h1 h2 h3 h4 h5 h6 h7 h8 h9 h10 h11
  obtain ⟨z0, e0, _, g0⟩ := DataW.trod_int Tryd.underlying37 h0
  injection e0 with e0
  subst e0
  obtain ⟨z1, e1, _, g1⟩ := DataW.trod_int Tryd.underlying38 h1
  injection e1 with e1
  subst e1
  obtain ⟨z2, e2, _, g2⟩ := DataW.trod_int Tryd.underlying3 h2
  injection e2 with e2
  subst e2
  obtain ⟨z3, e3, _, g3⟩ := DataW.trod_int Tryd.underlying3 h3
  injection e3 with e3
  subst e3
  obtain ⟨z4, e4, _, g4⟩ := DataW.trod_int Tryd.underlying3 h4
  injection e4 with e4
  subst e4
  obtain ⟨z5, e5, _⟩ := DataW.trod_bool Tryd.underlying4 h5
  injection e5 with e5
  subst e5
  obtain ⟨z6, e6, _, g6⟩ := DataW.trod_int Tryd.underlying39 h6
  injection e6 with e6
  subst e6
  obtain ⟨z7, e7, _, g7⟩ := DataW.trod_int Tryd.underlying3 h7
  injection e7 with e7
  subst e7
  obtain ⟨z8, e8, _, g8⟩ := DataW.trod_int Tryd.underlying3 h8
  injection e8 with e8
  subst e8
  obtain ⟨z9, e9, _, g9⟩ := DataW.trod_int Tryd.underlying3 h9
  injection e9 with e9
  subst e9
  obtain ⟨z10, e10, _⟩ := DataW.trod_bool Tryd.underlying4 h10
  injection e10 with e10
  subst e10
  obtain ⟨z11, e11, _, g11⟩ := DataW.trod_int Tryd.underlying3 h11
  injection e11 with e11
  subst e11
  exact ⟨z0, z1, z2, z3, z4, z5, z6, z7, z8, z9, z10, z11, rfl, (by simp [Lit.wf, IntKind.min, IntKind.max, IntKind.signed, IntKind.bits] at g0; omega), (by simp [Lit.wf, IntKind.min, IntKind.max, IntKind.signed, IntKind.bits] at g1; omega), (by simp [Lit.wf, IntKind.min, IntKind.max, IntKind.signed, IntKind.bits] at g2; omega), (by simp [Lit.wf, IntKind.min, IntKind.max, IntKind.signed, IntKind.bits] at g3; omega), (by simp [Lit.wf, IntKind.min, IntKind.max, IntKind.signed, IntKind.bits] at g4; omega), (by simp [Lit.wf, IntKind.min, IntKind.max, IntKind.signed, IntKind.bits] at g6; omega), (by simp [Lit.wf, IntKind.min, IntKind.max, IntKind.signed, IntKind.bits] at g7; omega), (by simp [Lit.wf, IntKind.min, IntKind.max, IntKind.signed, IntKind.bits] at g8; omega), (by simp [Lit.wf, IntKind.min, IntKind.max, IntKind.signed, IntKind.bits] at g9; omega), (by simp [Lit.wf, IntKind.min, IntKind.max, IntKind.signed, IntKind.bits] at g11; omega)⟩
end

section
variable {H : Type} {enc : TypeId × Value → H} {w : World} {base b0 : Nat} {spare : Nat → Bool} {held : Bool} {r : Reach} {fuel : Nat} {x : DataW H × List MemPlace}
theorem op_dw {v : Value} {d : DataW H} {p : List MemPlace} (hv : Value.okWide Tryd.prog w r b0 41 v) (h : DataW.Trod enc Tryd.prog w base spare held 41 v d p) : ∃ (d : Dl), v = dlV d ∧ (0 ≤ d.t ∧ d.t ≤ 255) ∧ (0 ≤ d.s ∧ d.s ≤ 255) ∧ (0 ≤ d.h ∧ d.h ≤ 255) := by
  obtain ⟨cs, rfl, _⟩ := okWide_struct Tryd.underlying41 hv
  obtain ⟨fuel, h⟩ := h
  have hh : DataW.trod enc Tryd.prog w base spare held fuel 41 cs.toList = some (d, p) := by simpa [Value.cells] using h
  obtain ⟨z0, z1, z2, z3, z4, z5, z6, z7, z8, z9, z10, z11, ecs, f0, f1, f2, f3, f4, f5, f6, f7, f8, f9⟩ := oc_del hh
  refine ⟨⟨z0, z1, z2, z3, z4, z5, z6, z7, z8, z9, z10, z11⟩, ?_, f0, f1, f5⟩
  rw [← Array.toArray_toList (xs := cs), ecs]
  rfl
end

end Go.Proofs.YtkgdlimekkdekaaDoor
