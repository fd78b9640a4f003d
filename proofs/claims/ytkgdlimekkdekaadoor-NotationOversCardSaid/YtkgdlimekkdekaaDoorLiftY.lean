/- The step from a law's walk to its card (five listed variables), the listed variables as the contracts ask for them, openers of lists of deliveries. -/
import Derived.Test.YtkgdlimekkdekaaDoorNpa
import Derived.Test.YtkgdlimekkdekaaDoorFrame
import Derived.Test.YtkgdlimekkdekaaDoorCards
import Derived.Test.YtkgdlimekkdekaaDoorTie
import Derived.Lib.SmallJoins
import Derived.Lib.LaidTab
import Derived.ProofKit
import Derived.LaidMore
import Derived.OpenShut
import Derived.Stop.Joined
import Derived.SevenTiedAt
import Derived.Lay
import Derived.Shelf.Vars
import Derived.Stop.LaidErr
import Derived.ChangeMaps5
import Derived.Deep.Fields
import Derived.Deep.Slices
set_option linter.unusedSimpArgs false
set_option linter.unusedVariables false
set_option maxRecDepth 100000
namespace Go.Proofs.YtkgdlimekkdekaaDoor
open Go.ChangeShapes Go.WideShapes Go.ChangeAt Go.RowKit Go.Joins

/-- A law whose walk answers true and leaves old memory alone, in every world of the row's shape that meets X. -/
theorem law_lift {H : Type} {enc : TypeId × Value → H} {C : Checked} {os : Os} {f : FuncId} {fn : Func} {s : ChangeSpec} {X : World → Array Value → Prop} {tb : TypeId}
    (hX : ∀ (w w' : World) (args : Array Value), w.heap = w'.heap → X w args → X w' args)
    (own : ownKnob C.prog.godebug = none) (started : os.Started) (noInit : C.prog.inits.idxOf? f = none) (hfn : C.prog.funcs[f]? = some fn)
    (hl : laidOutB C.prog = true) (hts : ∀ t ∈ fn.params.toList, C.prog.readableRec t = true ∧ t < C.prog.types.size) (hvs : s.vars = [])
    (hrt : fn.resultTypes = #[tb]) (htb : C.prog.underlying tb = some .bool)
    (witness : ∃ (w : World) (tape : Tape) (i : Input), w.os = os ∧ (w.forCall tape i).Shaped C.prog ∧ i.vars = [] ∧ Input.okWide C.prog (w.forCall tape i) .any w.heap.size f i ∧
      ((s.pre enc C.prog fn [] false (w.forCall tape i).memory i.args ∧ X (w.forCall tape i).memory i.args) ∧ sizedMet enc C.prog fn (OpenSpec.ofChange s) false (w.forCall tape i).memory i.args) ∧ Assume.holds {} C.prog (lone (Frame.enter C.prog f i.args .normal) [] (w.forCall tape i)))
    (walk : ∀ (W : World) (base : Nat) (args : Array Value) (ds gs : List (DataW H)) (p : List MemPlace), (∀ (j : Nat) t v, fn.params[j]? = some t → args[j]? = some v → Value.okWide C.prog W .any base t v) →
      DataW.TrodAll enc C.prog W 0 (fun _ => true) true fn.params.toList args.toList ds p → (DataW.weightsEach C.prog (fn.params.toList ++ s.plain.varTypes C.prog) (ds ++ gs)).all (· ≤ reachBytes) = true → X W args → W.ShapedOpen C.prog →
      s.fn H (ds ++ []) = { results := [.lit (.bool true)], args := ds } ∧ Calls C.prog f args W fun e W' => e = .returned (.bool true) ∧ Below W.heap.size W W') :
    ReturnsInHanded {} C os f .any (fun w args => (s.pre enc C.prog fn [] false w args ∧ X w args) ∧ sizedMet enc C.prog fn (OpenSpec.ofChange s) false w args) (s.post enc C.prog fn false true false false) := by
  refine returnsInHanded_of_calls own started noInit witness ?_
  intro w tape i _ shape _ fits asked _
  obtain ⟨_, _, _, fn2, hfn2, _, _, _, _, vals⟩ := fits
  obtain rfl : fn2 = fn := Option.some.inj (hfn2.symm.trans hfn)
  obtain ⟨⟨⟨ds, gs, before, whole, _⟩, hx⟩, sized⟩ := asked
  have whole2 := DataW.Whole.of_heap (w' := w.forCall tape i) (by rfl) whole
  have reach := sized.weights whole
  have keep := whole2
  obtain ⟨p, q, hA, hV, e, _, _⟩ := keep
  obtain ⟨h1, h2⟩ := walk (w.forCall tape i) w.heap.size i.args ds gs p vals hA reach (hX _ _ _ (by rfl) hx) shape
  refine h2.mono fun e W' ⟨he, hb⟩ => ?_
  subst he
  exact ChangeSpec.post_blind (post_of_law (fresh := true) (handsOn := false) hl hts hvs whole2 hrt htb h1 hb)

/-- What the rows list. -/
def laidA : List (String × DataW Unit) := [("math/bits.deBruijn32tab", Rows.laid_math_bits_deBruijn32tab), ("math/bits.deBruijn64tab", Rows.laid_math_bits_deBruijn64tab), ("internal/strconv.uint64pow10", Rows.laid_internal_strconv_uint64pow10), ("unicode/utf8.acceptRanges", Rows.laid_unicode_utf8_acceptRanges), ("unicode/utf8.first", Rows.laid_unicode_utf8_first)]
theorem laidA_met (os : Os) (args : Array Value) : laidMetH Tryd.prog laidA ((World.laidAll Tryd.prog os laidA).forCall (fun _ _ => 0) ⟨#[], args, []⟩).memory := by
  rw [MakeChecks.laidMetH_plain _ _ _ (by kernel_rfl)]
  exact laidMet_laidAll _ (by kernel_rfl) (by kernel_rfl)
theorem laidA_shaped (os : Os) : (World.laidAll Tryd.prog os laidA).Shaped Tryd.prog := World.shaped_of_ZipB (by kernel_rfl) (by kernel_rfl)
theorem own : ownKnob Tryd.prog.godebug = none := by kernel_rfl
theorem laidOut : laidOutB Tryd.prog = true := by kernel_rfl
theorem env_of_laid {W : World} (h : laidMetH Tryd.prog laidA W) (hs : W.ShapedOpen Tryd.prog) : Env W := by
  rw [MakeChecks.laidMetH_plain _ _ _ (by kernel_rfl)] at h
  have h2 := h.tail.tail
  exact ⟨Lib.tabIs_of_head (g := 3) (t := 141) (e := 121) (n := 20) (by kernel_rfl) (by kernel_rfl) Tryd.underlying141 Tryd.underlying121 (by kernel_rfl) (by kernel_rfl) h2,
    Go.Proofs.cell_of_shapedOpen_int (zero := #[.int .i64 0]) (t := 3) hs (of_decide_eq_true (by kernel_rfl)) (by kernel_rfl) rfl (by kernel_rfl) (by kernel_rfl) Tryd.underlying3⟩
theorem rE_of {w : World} (h : Env w) : ExtOK rE w := fun e he => by
  rcases List.mem_cons.1 he with rfl | he
  · exact ⟨(fun _ _ h => by cases h), h⟩
  · cases he
theorem list_of {α : Type} (Q : Nat → α → Prop) : ∀ n, (∀ i, i < n → ∃ a, Q i a) → ∃ l : List α, l.length = n ∧ ∀ i a, l[i]? = some a → Q i a := by
  intro n
  induction n with
  | zero => intro _; exact ⟨[], rfl, fun i a h => by simp at h⟩
  | succ n ih =>
    intro h
    obtain ⟨l, hl, hq⟩ := ih (fun i hi => h i (by omega))
    obtain ⟨a, ha⟩ := h n (by omega)
    refine ⟨l ++ [a], by simp [hl], fun i b hb => ?_⟩
    by_cases hi : i < l.length
    · rw [List.getElem?_append_left hi] at hb; exact hq i b hb
    · rw [List.getElem?_append_right (by omega)] at hb
      have h0 : i - l.length = 0 := by
        have := (List.getElem?_eq_some_iff.1 hb).1
        simp at this; omega
      rw [h0] at hb
      simp at hb
      subst hb
      have : i = n := by omega
      subst this; exact ha
def iof : Value → Int
  | .int _ n => n
  | _ => 0
def bof : Value → Bool
  | .bool b => b
  | _ => false

section
variable {H : Type} {enc : TypeId × Value → H} {w : World} {base b0 : Nat} {spare : Nat → Bool} {held : Bool} {r : Reach} {fuel : Nat} {x : DataW H × List MemPlace}
theorem q_del_0 : Tryd.prog.cellsOf 37 = 1 := by kernel_rfl
theorem q_del_1 : Tryd.prog.cellsOf 38 = 1 := by kernel_rfl
theorem q_del_2 : Tryd.prog.cellsOf 3 = 1 := by kernel_rfl
theorem q_del_3 : Tryd.prog.cellsOf 4 = 1 := by kernel_rfl
theorem q_del_4 : Tryd.prog.cellsOf 39 = 1 := by kernel_rfl
set_option maxRecDepth 100000 in
theorem oc_del {cs : List Value} (h : DataW.trod enc Tryd.prog w base spare held fuel 41 cs = some x) : ∃ (z0 : Int) (z1 : Int) (z2 : Int) (z3 : Int) (z4 : Int) (z5 : Bool) (z6 : Int) (z7 : Int) (z8 : Int) (z9 : Int) (z10 : Bool) (z11 : Int), cs = [.int .u8 z0, .int .u8 z1, .int .i64 z2, .int .i64 z3, .int .i64 z4, .bool z5, .int .u8 z6, .int .i64 z7, .int .i64 z8, .int .i64 z9, .bool z10, .int .i64 z11] ∧ (0 ≤ z0 ∧ z0 ≤ 255) ∧ (0 ≤ z1 ∧ z1 ≤ 255) ∧ (-9223372036854775808 ≤ z2 ∧ z2 ≤ 9223372036854775807) ∧ (-9223372036854775808 ≤ z3 ∧ z3 ≤ 9223372036854775807) ∧ (-9223372036854775808 ≤ z4 ∧ z4 ≤ 9223372036854775807) ∧ (0 ≤ z6 ∧ z6 ≤ 255) ∧ (-9223372036854775808 ≤ z7 ∧ z7 ≤ 9223372036854775807) ∧ (-9223372036854775808 ≤ z8 ∧ z8 ≤ 9223372036854775807) ∧ (-9223372036854775808 ≤ z9 ∧ z9 ≤ 9223372036854775807) ∧ (-9223372036854775808 ≤ z11 ∧ z11 ≤ 9223372036854775807) := by
  obtain ⟨xs, n2, _, _, hl, hxl, hf⟩ := DataW.trod_struct Tryd.underlying41 h
  have hln : cs.length = 12 := hl.trans (by kernel_rfl)
  obtain ⟨c0, c1, c2, c3, c4, c5, c6, c7, c8, c9, c10, c11, rfl⟩ : ∃ c0 c1 c2 c3 c4 c5 c6 c7 c8 c9 c10 c11, cs = [c0, c1, c2, c3, c4, c5, c6, c7, c8, c9, c10, c11] := by
    match cs, hln with
    | [c0, c1, c2, c3, c4, c5, c6, c7, c8, c9, c10, c11], _ => exact ⟨c0, c1, c2, c3, c4, c5, c6, c7, c8, c9, c10, c11, rfl⟩
  obtain ⟨y0, y1, y2, y3, y4, y5, y6, y7, y8, y9, y10, y11, rfl⟩ : ∃ y0 y1 y2 y3 y4 y5 y6 y7 y8 y9 y10 y11, xs = [y0, y1, y2, y3, y4, y5, y6, y7, y8, y9, y10, y11] := by
    match xs, hxl with
    | [y0, y1, y2, y3, y4, y5, y6, y7, y8, y9, y10, y11], _ => exact ⟨y0, y1, y2, y3, y4, y5, y6, y7, y8, y9, y10, y11, rfl⟩
  have h0 := hf 0 _ rfl
  have h1 := hf 1 _ rfl
  have h2 := hf 2 _ rfl
  have h3 := hf 3 _ rfl
  have h4 := hf 4 _ rfl
  have h5 := hf 5 _ rfl
  have h6 := hf 6 _ rfl
  have h7 := hf 7 _ rfl
  have h8 := hf 8 _ rfl
  have h9 := hf 9 _ rfl
  have h10 := hf 10 _ rfl
  have h11 := hf 11 _ rfl
  simp only [q_del_0, q_del_1, q_del_2, q_del_3, q_del_4, List.drop_succ_cons, List.drop_zero, List.take_succ_cons, List.take_zero, List.getElem?_cons_zero, List.getElem?_cons_succ] at h0 h1 h2 h3 h4 h5 h6 h7 h8 h9 h10 h11
  obtain ⟨z0, e0, _, g0⟩ := DataW.trod_int Tryd.underlying37 h0
  injection e0 with e0
  subst e0
  obtain ⟨z1, e1, _, g1⟩ := DataW.trod_int Tryd.underlying38 h1
  injection e1 with e1
  subst e1
  obtain ⟨z2, e2, _, g2⟩ := DataW.trod_int Tryd.underlying3 h2
  injection e2 with e2
  subst e2
  obtain ⟨z3, e3, _, g3⟩ := DataW.trod_int Tryd.underlying3 h3
  injection e3 with e3
  subst e3
  obtain ⟨z4, e4, _, g4⟩ := DataW.trod_int Tryd.underlying3 h4
  injection e4 with e4
  subst e4
  obtain ⟨z5, e5, _⟩ := DataW.trod_bool Tryd.underlying4 h5
  injection e5 with e5
  subst e5
  obtain ⟨z6, e6, _, g6⟩ := DataW.trod_int Tryd.underlying39 h6
  injection e6 with e6
  subst e6
  obtain ⟨z7, e7, _, g7⟩ := DataW.trod_int Tryd.underlying3 h7
  injection e7 with e7
  subst e7
  obtain ⟨z8, e8, _, g8⟩ := DataW.trod_int Tryd.underlying3 h8
  injection e8 with e8
  subst e8
  obtain ⟨z9, e9, _, g9⟩ := DataW.trod_int Tryd.underlying3 h9
  injection e9 with e9
  subst e9
  obtain ⟨z10, e10, _⟩ := DataW.trod_bool Tryd.underlying4 h10
  injection e10 with e10
  subst e10
  obtain ⟨z11, e11, _, g11⟩ := DataW.trod_int Tryd.underlying3 h11
  injection e11 with e11
  subst e11
  exact ⟨z0, z1, z2, z3, z4, z5, z6, z7, z8, z9, z10, z11, rfl, (by simp [Lit.wf, IntKind.min, IntKind.max, IntKind.signed, IntKind.bits] at g0; omega), (by simp [Lit.wf, IntKind.min, IntKind.max, IntKind.signed, IntKind.bits] at g1; omega), (by simp [Lit.wf, IntKind.min, IntKind.max, IntKind.signed, IntKind.bits] at g2; omega), (by simp [Lit.wf, IntKind.min, IntKind.max, IntKind.signed, IntKind.bits] at g3; omega), (by simp [Lit.wf, IntKind.min, IntKind.max, IntKind.signed, IntKind.bits] at g4; omega), (by simp [Lit.wf, IntKind.min, IntKind.max, IntKind.signed, IntKind.bits] at g6; omega), (by simp [Lit.wf, IntKind.min, IntKind.max, IntKind.signed, IntKind.bits] at g7; omega), (by simp [Lit.wf, IntKind.min, IntKind.max, IntKind.signed, IntKind.bits] at g8; omega), (by simp [Lit.wf, IntKind.min, IntKind.max, IntKind.signed, IntKind.bits] at g9; omega), (by simp [Lit.wf, IntKind.min, IntKind.max, IntKind.signed, IntKind.bits] at g11; omega)⟩
end

section
variable {H : Type} {enc : TypeId × Value → H} {w : World} {base b0 : Nat} {spare : Nat → Bool} {held : Bool} {r : Reach} {fuel : Nat} {x : DataW H × List MemPlace}
theorem s1_cD : Tryd.prog.cellsOf 41 = 12 := by kernel_rfl
set_option maxRecDepth 100000 in
theorem ol_cD {t : TypeId} {cs : List Value} (ht : Tryd.prog.underlying t = some (.slice 41)) (h : DataW.trod enc Tryd.prog w base spare held fuel t cs = some x) :
    ∃ (a : Option Addr) (l : List Dl) (c : Nat), cs = [.slice a l.length c] ∧ AOK a l.length ∧ (l.length ≤ c ∧ c ≤ maxLen) ∧ Rd w a (cD l) ∧ ∀ e ∈ l, Wf e := by
  rcases Go.Deep.open_slice ht h with ⟨rfl, _⟩ | ⟨a, len, cap, m, k, D, Pl, rfl, hb, hl, hc, hm, hx, hi⟩
  · exact ⟨none, [], 0, rfl, ⟨(fun _ => rfl), (fun hn => absurd rfl hn)⟩, ⟨Nat.le_refl _, Nat.zero_le _⟩, (fun k v hv => by simp [cD] at hv), (fun e he => by cases he)⟩
  · have hml : len ≤ m := by rw [hm]; split <;> omega
    obtain ⟨l, hll, hq⟩ := list_of (fun i (e : Dl) => (∀ j, j < 12 → w.cell? ((a.add (i * 12)).add j) = some (cD_rd [e] 0 j)) ∧ Wf e) len (fun i hil => by
      obtain ⟨cs', h1, h2⟩ := hi i (by omega)
      rw [s1_cD] at h1
      obtain ⟨z0, z1, z2, z3, z4, z5, z6, z7, z8, z9, z10, z11, rfl, f0, f1, f2, f3, f4, f5, f6, f7, f8, f9⟩ := oc_del h2
      obtain ⟨_, _, hat⟩ := World.cells?_some h1
      refine ⟨⟨z0, z1, z2, z3, z4, z5, z6, z7, z8, z9, z10, z11⟩, ?_, ⟨f0.1, f1.1, f5.1⟩⟩
      intro j hj
      rw [hat j hj]
      have : j = 0 ∨ j = 1 ∨ j = 2 ∨ j = 3 ∨ j = 4 ∨ j = 5 ∨ j = 6 ∨ j = 7 ∨ j = 8 ∨ j = 9 ∨ j = 10 ∨ j = 11 := by omega
      rcases this with rfl | rfl | rfl | rfl | rfl | rfl | rfl | rfl | rfl | rfl | rfl | rfl <;> rfl)
    have hsp : len ≠ 0 → a.spot = none := fun hn => by
      obtain ⟨e, he⟩ : ∃ e, l[0]? = some e := by cases l with | nil => simp at hll; omega | cons e r => exact ⟨e, rfl⟩
      have := World.cell?_spot ((hq 0 e he).1 0 (by omega))
      simpa [Addr.add] using this
    refine ⟨some a, l, cap, by rw [hll], ⟨(fun e => by cases e), fun hn q hq => ?_⟩, ⟨by rw [hll]; exact hl, hc⟩, (fun k v hv => ?_), (fun e he => by obtain ⟨i, hi2⟩ := List.getElem?_of_mem he; exact (hq i e hi2).2)⟩
    · injection hq with hq
      subst hq
      exact hsp (by rw [← hll]; exact hn)
    · have hk : k < l.length * 12 := by
        have := (List.getElem?_eq_some_iff.1 hv).1
        rwa [cD_len] at this
      have hk1 : k / 12 < l.length := by omega
      have hk2 : k % 12 < 12 := by omega
      have hk3 : k / 12 * 12 + k % 12 = k := by omega
      have hv2 := cD_at hk1 hk2
      rw [hk3] at hv2
      rw [hv2] at hv
      injection hv with hv
      have he : l[k / 12]? = some l[k / 12] := by simp [hk1]
      have hc1 := (hq _ _ he).1 (k % 12) hk2
      have e1 : cD_rd l (k / 12) (k % 12) = cD_rd [l[k / 12]] 0 (k % 12) := by
        have : k % 12 = 0 ∨ k % 12 = 1 ∨ k % 12 = 2 ∨ k % 12 = 3 ∨ k % 12 = 4 ∨ k % 12 = 5 ∨ k % 12 = 6 ∨ k % 12 = 7 ∨ k % 12 = 8 ∨ k % 12 = 9 ∨ k % 12 = 10 ∨ k % 12 = 11 := by omega
        rcases this with e | e | e | e | e | e | e | e | e | e | e | e <;> rw [e] <;> simp [cD_rd, gD, hk1]
      rw [← hv, e1, ← hc1]
      have hs := hsp (by omega)
      obtain ⟨bb, oo, ss⟩ := a
      simp only at hs
      subst hs
      congr 1
      rw [Go.Deep.add_add]
      unfold Addr.add
      by_cases hz : k / 12 * 12 + k % 12 = 0
      · rw [if_pos hz]; simp [bk, ofs]; omega
      · rw [if_neg hz]; simp [bk, ofs]; omega
end

section
variable {H : Type} {enc : TypeId × Value → H} {w : World} {base b0 : Nat} {spare : Nat → Bool} {held : Bool} {r : Reach}
set_option maxRecDepth 20000 in
theorem op_str {v : Value} {d : DataW H} {p : List MemPlace} (hv : Value.okWide Tryd.prog w r b0 9 v) (h : DataW.Trod enc Tryd.prog w base spare held 9 v d p) : ∃ (x0 : ByteArray), v = .string x0 ∧ (x0.size ≤ maxLen) := by
  obtain ⟨s, rfl, _, _, hs⟩ := Go.ChangeMaps.open_string (P := Tryd.prog) Tryd.underlying9 hv h
  exact ⟨s, rfl, hs⟩
end

section
variable {H : Type} {enc : TypeId × Value → H} {w : World} {base b0 : Nat} {spare : Nat → Bool} {held : Bool} {r : Reach}
theorem op_dels {v : Value} {d : DataW H} {p : List MemPlace} (hv : Value.okWide Tryd.prog w r b0 22 v) (h : DataW.Trod enc Tryd.prog w base spare held 22 v d p) : ∃ (a : Option Addr) (l : List Dl) (c : Nat), v = .slice a l.length c ∧ AOK a l.length ∧ (l.length ≤ c ∧ c ≤ maxLen) ∧ Rd w a (cD l) ∧ ∀ e ∈ l, Wf e := by
  obtain ⟨a, n, c, rfl⟩ := okWide_slice Tryd.underlying22 hv
  obtain ⟨fuel, h⟩ := h
  have hh : DataW.trod enc Tryd.prog w base spare held fuel 22 [.slice a n c] = some (d, p) := by simpa [Value.cells] using h
  obtain ⟨a', l, c', e, f0, f1, f2, f3⟩ := ol_cD Tryd.underlying22 hh
  simp only [List.cons.injEq, and_true] at e
  exact ⟨a', l, c', e, f0, f1, f2, f3⟩
end
end Go.Proofs.YtkgdlimekkdekaaDoor
