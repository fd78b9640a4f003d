/- The openers of a line and of calls as arguments, with their bulk; and the card of TextCursors: cursors over any line answer any calls as the reference's do, for every input of bulk at most 1048576, and old memory is as it was. Condition: the listed variables of the library are as the program's text lays them (the card ties them). -/
import Derived.Test.YtjibacfgcdbhlaaGreatDoorTcl
import Derived.Test.YtjibacfgcdbhlaaGreatDoorLiftU
import Derived.Deep.Slices
import Derived.Deep.Fields
set_option linter.unusedSimpArgs false
set_option linter.unusedVariables false
set_option maxRecDepth 100000
namespace Go.Proofs.YtjibacfgcdbhlaaGreatDoor
open Go.ChangeShapes Go.WideShapes Go.ChangeAt Go.RowKit Go.Joins

theorem list_of {α : Type} (Q : Nat → α → Prop) : ∀ n, (∀ i, i < n → ∃ a, Q i a) → ∃ l : List α, l.length = n ∧ ∀ i a, l[i]? = some a → Q i a := by
  intro n
  induction n with
  | zero => intro _; exact ⟨[], rfl, fun i a h => by simp at h⟩
  | succ n ih =>
    intro h
    obtain ⟨l, hl, hq⟩ := ih (fun i hi => h i (by omega))
    obtain ⟨a, ha⟩ := h n (by omega)
    refine ⟨l ++ [a], by simp [hl], fun i b hb => ?_⟩
    by_cases hi : i < l.length
    · rw [List.getElem?_append_left hi] at hb; exact hq i b hb
    · rw [List.getElem?_append_right (by omega)] at hb
      have h0 : i - l.length = 0 := by
        have := (List.getElem?_eq_some_iff.1 hb).1
        simp at this; omega
      rw [h0] at hb
      simp at hb
      subst hb
      have : i = n := by omega
      subst this; exact ha
section
variable {H : Type}
/-- The sum of what the parts weigh. -/
theorem bulk_sum {α : Type} (wt : α → Nat) : ∀ (l : List α) (L : List (DataW H)), l.length = L.length → (∀ (i : Nat) (a : α) (d : DataW H), l[i]? = some a → L[i]? = some d → wt a ≤ Rows.uptoBulk d) → (l.map wt).sum ≤ Rows.uptoBulkAll L := by
  intro l
  induction l with
  | nil => intro L _ _; simp
  | cons a r ih =>
    intro L hl h
    cases L with
    | nil => simp at hl
    | cons d L =>
      have h0 := h 0 a d rfl rfl
      have h1 := ih L (by simpa using hl) (fun i b e hb he => h (i + 1) b e (by simpa using hb) (by simpa using he))
      rw [List.map_cons, List.sum_cons, Rows.uptoBulkAll]
      omega
end
theorem sum_mem {α : Type} (wt : α → Nat) (l : List α) (x : α) (h : x ∈ l) : wt x ≤ (l.map wt).sum := by
  induction l with
  | nil => simp at h
  | cons a r ih =>
    rw [List.map_cons, List.sum_cons]
    rcases List.mem_cons.1 h with rfl | h
    · omega
    · have := ih h; omega
theorem sum_len {α : Type} (wt : α → Nat) (h1 : ∀ x, 1 ≤ wt x) (l : List α) : l.length ≤ (l.map wt).sum := by
  induction l with
  | nil => simp
  | cons a r ih => rw [List.map_cons, List.sum_cons, List.length_cons]; have := h1 a; omega
def fwt (f : Fe) : Nat := f.t.size + 4
def cwt (_ : Cl) : Nat := 2
section
variable {H : Type} {enc : TypeId × Value → H} {w : World} {base b0 : Nat} {spare : Nat → Bool} {held : Bool} {r : Reach}
theorem kStr : Tryz.prog.cellsOf 9 = 1 := by kernel_rfl
theorem kInt : Tryz.prog.cellsOf 3 = 1 := by kernel_rfl
theorem kBool : Tryz.prog.cellsOf 4 = 1 := by kernel_rfl
theorem kU8 : Tryz.prog.cellsOf 5 = 1 := by kernel_rfl
theorem kI64 : Tryz.prog.cellsOf 2 = 1 := by kernel_rfl
theorem kFs : Tryz.prog.cellsOf 22 = 1 := by kernel_rfl
theorem s1_cFe : Tryz.prog.cellsOf 53 = 3 := by kernel_rfl
theorem s1_cCl : Tryz.prog.cellsOf 32 = 4 := by kernel_rfl
set_option maxRecDepth 100000 in
theorem oe_cFe {a : Addr} {n : Nat} {cs : List Value} {d : DataW H} {p : List MemPlace} (hc : w.cells? base a 3 = some cs) (h : DataW.trod enc Tryz.prog w base spare held n 53 cs = some (d, p)) :
    ∃ f : Fe, (∀ j, j < 3 → w.cell? (a.add j) = some (cFe_rd [f] 0 j)) ∧ True ∧ fwt f ≤ Rows.uptoBulk d := by
  obtain ⟨xs, n', _, hx, hl, hxl, hf⟩ := DataW.trod_struct Tryz.underlying53 h
  obtain ⟨_, hcl, hat⟩ := World.cells?_some hc
  obtain ⟨c0, c1, c2, rfl⟩ : ∃ c0 c1 c2, cs = [c0, c1, c2] := by
    match cs, hcl with
    | [c0, c1, c2], _ => exact ⟨c0, c1, c2, rfl⟩
  obtain ⟨x0, x1, x2, rfl⟩ : ∃ x0 x1 x2, xs = [x0, x1, x2] := by
    match xs, hxl with
    | [x0, x1, x2], _ => exact ⟨x0, x1, x2, rfl⟩
  have h0 := hf 0 _ rfl
  have h1 := hf 1 _ rfl
  have h2 := hf 2 _ rfl
  simp only [kStr, kInt, kBool, List.drop_succ_cons, List.drop_zero, List.take_succ_cons, List.take_zero, List.getElem?_cons_zero, List.getElem?_cons_succ] at h0 h1 h2
  obtain ⟨s, e0, y0, _⟩ := DataW.trod_string Tryz.underlying9 h0
  obtain ⟨k, e1, y1, _⟩ := DataW.trod_int Tryz.underlying3 h1
  obtain ⟨q, e2, y2⟩ := DataW.trod_bool Tryz.underlying4 h2
  injection e0 with e0; injection e1 with e1; injection e2 with e2
  refine ⟨⟨s, k, q⟩, fun j hj => ?_, trivial, ?_⟩
  · rw [hat j hj, e0, e1, e2]
    have : j = 0 ∨ j = 1 ∨ j = 2 := by omega
    rcases this with rfl | rfl | rfl <;> rfl
  · have hd : d = .agg [x0.1, x1.1, x2.1] := (Prod.mk.inj hx).1
    rw [hd, y0, y1, y2]
    simp [fwt, Rows.uptoBulk, Rows.uptoBulkAll]
set_option maxRecDepth 100000 in
theorem oe_cCl {a : Addr} {n : Nat} {cs : List Value} {d : DataW H} {p : List MemPlace} (hc : w.cells? base a 4 = some cs) (h : DataW.trod enc Tryz.prog w base spare held n 32 cs = some (d, p)) :
    ∃ e : Cl, (∀ j, j < 4 → w.cell? (a.add j) = some (cCl_rd [e] 0 j)) ∧ (I64 e.lo ∧ I64 e.hi) ∧ cwt e ≤ Rows.uptoBulk d := by
  obtain ⟨xs, n', _, hx, hl, hxl, hf⟩ := DataW.trod_struct Tryz.underlying32 h
  obtain ⟨_, hcl, hat⟩ := World.cells?_some hc
  obtain ⟨c0, c1, c2, c3, rfl⟩ : ∃ c0 c1 c2 c3, cs = [c0, c1, c2, c3] := by
    match cs, hcl with
    | [c0, c1, c2, c3], _ => exact ⟨c0, c1, c2, c3, rfl⟩
  obtain ⟨x0, x1, x2, x3, rfl⟩ : ∃ x0 x1 x2 x3, xs = [x0, x1, x2, x3] := by
    match xs, hxl with
    | [x0, x1, x2, x3], _ => exact ⟨x0, x1, x2, x3, rfl⟩
  have h0 := hf 0 _ rfl
  have h1 := hf 1 _ rfl
  have h2 := hf 2 _ rfl
  have h3 := hf 3 _ rfl
  simp only [kU8, kI64, kStr, List.drop_succ_cons, List.drop_zero, List.take_succ_cons, List.take_zero, List.getElem?_cons_zero, List.getElem?_cons_succ] at h0 h1 h2 h3
  obtain ⟨k, e0, y0, _⟩ := DataW.trod_int Tryz.underlying5 h0
  obtain ⟨z1, e1, y1, g1⟩ := DataW.trod_int Tryz.underlying2 h1
  obtain ⟨z2, e2, y2, g2⟩ := DataW.trod_int Tryz.underlying2 h2
  obtain ⟨s, e3, y3, _⟩ := DataW.trod_string Tryz.underlying9 h3
  injection e0 with e0; injection e1 with e1; injection e2 with e2; injection e3 with e3
  refine ⟨⟨k, z1, z2, s⟩, fun j hj => ?_, ⟨?_, ?_⟩, ?_⟩
  · rw [hat j hj, e0, e1, e2, e3]
    have : j = 0 ∨ j = 1 ∨ j = 2 ∨ j = 3 := by omega
    rcases this with rfl | rfl | rfl | rfl <;> rfl
  · simp [Lit.wf, IntKind.min, IntKind.max, IntKind.signed, IntKind.bits] at g1; unfold I64; omega
  · simp [Lit.wf, IntKind.min, IntKind.max, IntKind.signed, IntKind.bits] at g2; unfold I64; omega
  · have hd : d = .agg [x0.1, x1.1, x2.1, x3.1] := (Prod.mk.inj hx).1
    rw [hd, y0, y1, y2, y3]
    simp only [cwt, Rows.uptoBulk, Rows.uptoBulkAll]
    omega
set_option maxRecDepth 100000 in
theorem ol_cFe {n : Nat} {t : TypeId} {cs : List Value} {d : DataW H} {p : List MemPlace} (ht : Tryz.prog.underlying t = some (.slice 53)) (h : DataW.trod enc Tryz.prog w base spare held n t cs = some (d, p)) :
    ∃ (a : Option Addr) (l : List Fe) (c : Nat), cs = [.slice a l.length c] ∧ AOK a l.length ∧ Rd w a (cFe l) ∧ (∀ e ∈ l, True) ∧ (l.map fwt).sum ≤ Rows.uptoBulk d := by
  rcases Go.Deep.open_slice ht h with ⟨rfl, hx⟩ | ⟨a, len, cap, m, k, D, Pl, rfl, hb, hl, hc, hm, hx, hi⟩
  · exact ⟨none, [], 0, rfl, ⟨(fun _ => rfl), (fun hn => absurd rfl hn)⟩, (fun k v hv => by simp [cFe] at hv), (fun e he => by cases he), (by simp)⟩
  · have hml : len ≤ m := by rw [hm]; split <;> omega
    obtain ⟨l, hll, hq⟩ := list_of (fun i (e : Fe) => (∀ j, j < 3 → w.cell? ((a.add (i * 3)).add j) = some (cFe_rd [e] 0 j)) ∧ True ∧ fwt e ≤ Rows.uptoBulk (D i)) len (fun i hil => by
      obtain ⟨cs', h1, h2⟩ := hi i (by omega)
      rw [s1_cFe] at h1
      exact oe_cFe h1 h2)
    have hd : d = .slice ((List.range len).map D) ((List.range (m - len)).map fun j => D (len + j)) := (Prod.mk.inj hx).1
    have hsp : len ≠ 0 → a.spot = none := fun hn => by
      obtain ⟨e, he⟩ : ∃ e, l[0]? = some e := by cases l with | nil => simp at hll; omega | cons e r => exact ⟨e, rfl⟩
      have := World.cell?_spot ((hq 0 e he).1 0 (by omega))
      simpa [Addr.add] using this
    refine ⟨some a, l, cap, by rw [hll], ⟨(fun e => by cases e), fun hn q hq2 => ?_⟩, (fun k v hv => ?_), (fun e he => by obtain ⟨i, hi2⟩ := List.getElem?_of_mem he; exact (hq i e hi2).2.1), ?_⟩
    · injection hq2 with hq2
      subst hq2
      exact hsp (by rw [← hll]; exact hn)
    · have hk : k < l.length * 3 := by
        have := (List.getElem?_eq_some_iff.1 hv).1
        rwa [cFe_len] at this
      have hk1 : k / 3 < l.length := by omega
      have hk2 : k % 3 < 3 := by omega
      have hk3 : k / 3 * 3 + k % 3 = k := by omega
      have hv2 := cFe_at hk1 hk2
      rw [hk3] at hv2
      rw [hv2] at hv
      injection hv with hv
      have he : l[k / 3]? = some l[k / 3] := by simp [hk1]
      have hc1 := (hq _ _ he).1 (k % 3) hk2
      have e1 : cFe_rd l (k / 3) (k % 3) = cFe_rd [l[k / 3]] 0 (k % 3) := by
        have : k % 3 = 0 ∨ k % 3 = 1 ∨ k % 3 = 2 := by omega
        rcases this with e | e | e <;> rw [e] <;> simp [cFe_rd, gFe, hk1]
      rw [← hv, e1, ← hc1]
      have hs := hsp (by omega)
      obtain ⟨bb, oo, ss⟩ := a
      simp only at hs
      subst hs
      congr 1
      rw [Go.Deep.add_add]
      unfold Addr.add
      by_cases hz : k / 3 * 3 + k % 3 = 0
      · rw [if_pos hz]; simp [bk, ofs]; omega
      · rw [if_neg hz]; simp [bk, ofs]; omega
    · rw [hd, Rows.uptoBulk]
      have := bulk_sum fwt l ((List.range len).map D) (by simp [hll]) (fun i f e hf he => by
        have hi := (List.getElem?_eq_some_iff.1 hf).1
        rw [List.getElem?_map, List.getElem?_range (by omega)] at he
        simp at he
        subst he
        exact (hq i f hf).2.2)
      omega
set_option maxRecDepth 100000 in
theorem ol_cCl {n : Nat} {t : TypeId} {cs : List Value} {d : DataW H} {p : List MemPlace} (ht : Tryz.prog.underlying t = some (.slice 32)) (h : DataW.trod enc Tryz.prog w base spare held n t cs = some (d, p)) :
    ∃ (a : Option Addr) (l : List Cl) (c : Nat), cs = [.slice a l.length c] ∧ AOK a l.length ∧ Rd w a (cCl l) ∧ (∀ e ∈ l, (I64 e.lo ∧ I64 e.hi)) ∧ (l.map cwt).sum ≤ Rows.uptoBulk d := by
  rcases Go.Deep.open_slice ht h with ⟨rfl, hx⟩ | ⟨a, len, cap, m, k, D, Pl, rfl, hb, hl, hc, hm, hx, hi⟩
  · exact ⟨none, [], 0, rfl, ⟨(fun _ => rfl), (fun hn => absurd rfl hn)⟩, (fun k v hv => by simp [cCl] at hv), (fun e he => by cases he), (by simp)⟩
  · have hml : len ≤ m := by rw [hm]; split <;> omega
    obtain ⟨l, hll, hq⟩ := list_of (fun i (e : Cl) => (∀ j, j < 4 → w.cell? ((a.add (i * 4)).add j) = some (cCl_rd [e] 0 j)) ∧ (I64 e.lo ∧ I64 e.hi) ∧ cwt e ≤ Rows.uptoBulk (D i)) len (fun i hil => by
      obtain ⟨cs', h1, h2⟩ := hi i (by omega)
      rw [s1_cCl] at h1
      exact oe_cCl h1 h2)
    have hd : d = .slice ((List.range len).map D) ((List.range (m - len)).map fun j => D (len + j)) := (Prod.mk.inj hx).1
    have hsp : len ≠ 0 → a.spot = none := fun hn => by
      obtain ⟨e, he⟩ : ∃ e, l[0]? = some e := by cases l with | nil => simp at hll; omega | cons e r => exact ⟨e, rfl⟩
      have := World.cell?_spot ((hq 0 e he).1 0 (by omega))
      simpa [Addr.add] using this
    refine ⟨some a, l, cap, by rw [hll], ⟨(fun e => by cases e), fun hn q hq2 => ?_⟩, (fun k v hv => ?_), (fun e he => by obtain ⟨i, hi2⟩ := List.getElem?_of_mem he; exact (hq i e hi2).2.1), ?_⟩
    · injection hq2 with hq2
      subst hq2
      exact hsp (by rw [← hll]; exact hn)
    · have hk : k < l.length * 4 := by
        have := (List.getElem?_eq_some_iff.1 hv).1
        rwa [cCl_len] at this
      have hk1 : k / 4 < l.length := by omega
      have hk2 : k % 4 < 4 := by omega
      have hk3 : k / 4 * 4 + k % 4 = k := by omega
      have hv2 := cCl_at hk1 hk2
      rw [hk3] at hv2
      rw [hv2] at hv
      injection hv with hv
      have he : l[k / 4]? = some l[k / 4] := by simp [hk1]
      have hc1 := (hq _ _ he).1 (k % 4) hk2
      have e1 : cCl_rd l (k / 4) (k % 4) = cCl_rd [l[k / 4]] 0 (k % 4) := by
        have : k % 4 = 0 ∨ k % 4 = 1 ∨ k % 4 = 2 ∨ k % 4 = 3 := by omega
        rcases this with e | e | e | e <;> rw [e] <;> simp [cCl_rd, gCl, hk1]
      rw [← hv, e1, ← hc1]
      have hs := hsp (by omega)
      obtain ⟨bb, oo, ss⟩ := a
      simp only at hs
      subst hs
      congr 1
      rw [Go.Deep.add_add]
      unfold Addr.add
      by_cases hz : k / 4 * 4 + k % 4 = 0
      · rw [if_pos hz]; simp [bk, ofs]; omega
      · rw [if_neg hz]; simp [bk, ofs]; omega
    · rw [hd, Rows.uptoBulk]
      have := bulk_sum cwt l ((List.range len).map D) (by simp [hll]) (fun i f e hf he => by
        have hi := (List.getElem?_eq_some_iff.1 hf).1
        rw [List.getElem?_map, List.getElem?_range (by omega)] at he
        simp at he
        subst he
        exact (hq i f hf).2.2)
      omega

/-- A line that is handed in. -/
structure LnX where
  ln : Int
  a : Option Addr
  fs : List Fe
  c : Nat
structure CsX where
  a : Option Addr
  l : List Cl
  c : Nat
def lnV (x : LnX) : Value := .agg #[.int .i64 x.ln, .slice x.a x.fs.length x.c]
def csV (x : CsX) : Value := .slice x.a x.l.length x.c
set_option maxRecDepth 100000 in
theorem open_lineD {v : Value} {d : DataW H} {p : List MemPlace} (hv : Value.okWide Tryz.prog w r b0 24 v) (h : DataW.Trod enc Tryz.prog w base spare held 24 v d p) :
    ∃ x : LnX, v = lnV x ∧ (x.fs.map fwt).sum ≤ Rows.uptoBulk d ∧ (AOK x.a x.fs.length ∧ Rd w x.a (cFe x.fs)) := by
  obtain ⟨cs, rfl, _⟩ := okWide_struct Tryz.underlying24 hv
  obtain ⟨fuel, h⟩ := h
  have hh : DataW.trod enc Tryz.prog w base spare held fuel 24 cs.toList = some (d, p) := by simpa [Value.cells] using h
  obtain ⟨xs, n', _, hx, hl, hxl, hf⟩ := DataW.trod_struct Tryz.underlying24 hh
  have hln : cs.toList.length = 2 := hl.trans (by kernel_rfl)
  obtain ⟨c0, c1, ec⟩ : ∃ c0 c1, cs.toList = [c0, c1] := by
    match cs.toList, hln with
    | [c0, c1], _ => exact ⟨c0, c1, rfl⟩
  rw [ec] at hf
  obtain ⟨x0, x1, rfl⟩ : ∃ x0 x1, xs = [x0, x1] := by
    match xs, hxl with
    | [x0, x1], _ => exact ⟨x0, x1, rfl⟩
  have h0 := hf 0 _ rfl
  have h1 := hf 1 _ rfl
  simp only [kInt, kFs, List.drop_succ_cons, List.drop_zero, List.take_succ_cons, List.take_zero, List.getElem?_cons_zero, List.getElem?_cons_succ] at h0 h1
  obtain ⟨k, e0, y0, _⟩ := DataW.trod_int Tryz.underlying3 h0
  obtain ⟨dd, pp⟩ := x1
  obtain ⟨a, fs, c, e1, hA, hR, _, hb⟩ := ol_cFe Tryz.underlying22 h1
  injection e0 with e0; injection e1 with e1
  refine ⟨⟨k, a, fs, c⟩, ?_, ?_, hA, hR⟩
  · rw [← Array.toArray_toList (xs := cs), ec, e0, e1]; rfl
  · have hd : d = .agg [x0.1, dd] := (Prod.mk.inj hx).1
    rw [hd, y0]
    simp only [Rows.uptoBulk, Rows.uptoBulkAll]
    omega
set_option maxRecDepth 100000 in
theorem open_callsD {v : Value} {d : DataW H} {p : List MemPlace} (hv : Value.okWide Tryz.prog w r b0 25 v) (h : DataW.Trod enc Tryz.prog w base spare held 25 v d p) :
    ∃ x : CsX, v = csV x ∧ (x.l.map cwt).sum ≤ Rows.uptoBulk d ∧ (AOK x.a x.l.length ∧ Rd w x.a (cCl x.l) ∧ ∀ e ∈ x.l, I64 e.lo ∧ I64 e.hi) := by
  obtain ⟨a, n, c, rfl⟩ := okWide_slice Tryz.underlying25 hv
  obtain ⟨fuel, h⟩ := h
  have hh : DataW.trod enc Tryz.prog w base spare held fuel 25 [.slice a n c] = some (d, p) := by simpa [Value.cells] using h
  obtain ⟨a', l, c', e, hA, hR, hp, hb⟩ := ol_cCl Tryz.underlying25 hh
  simp only [List.cons.injEq, and_true] at e
  exact ⟨⟨a', l, c'⟩, e, hb, hA, hR, hp⟩
end
set_option maxRecDepth 100000 in
theorem textCursors_walk (x : LnX) (y : CsX) (w : World) (h1 : AOK x.a x.fs.length ∧ Rd w x.a (cFe x.fs)) (h2 : AOK y.a y.l.length ∧ Rd w y.a (cCl y.l) ∧ ∀ e ∈ y.l, I64 e.lo ∧ I64 e.hi) (henv : Env w) (hk : (x.fs.map fwt).sum + (y.l.map cwt).sum ≤ 1048576) :
    Calls Tryz.prog 3 #[lnV x, csV y] w fun e w' => e = .returned (.bool true) ∧ Below w.heap.size w w' := by
  have hsf : x.fs.length * 4 ≤ (x.fs.map fwt).sum := by
    generalize x.fs = l
    induction l with
    | nil => simp
    | cons a r ih => rw [List.map_cons, List.sum_cons, List.length_cons]; unfold fwt at *; omega
  have hsl : y.l.length * 2 ≤ (y.l.map cwt).sum := by
    generalize y.l = l
    induction l with
    | nil => simp
    | cons a r ih => rw [List.map_cons, List.sum_cons, List.length_cons]; unfold cwt at *; omega
  refine (tcl_sp x.ln x.a x.fs x.c y.a y.l y.c h1.1 (by omega) (fun f hf => ?_) h2.1 (by omega) (fun m => ?_) w (rE_of henv) ?_).mono fun e w' ⟨_, he, _, hb⟩ => ⟨he, hb⟩
  · have := sum_mem fwt x.fs f hf
    unfold fwt at this hk
    omega
  · unfold gCl
    rw [List.getD_eq_getElem?_getD]
    cases hm : y.l[m]? with
    | none => exact ⟨by unfold I64; decide, by unfold I64; decide⟩
    | some e => exact h2.2.2 e (List.mem_of_getElem? hm)
  · intro a xs hm
    rcases List.mem_cons.1 hm with hm | hm
    · injection hm with e1 e2
      subst e1 e2
      exact h1.2
    · rw [List.mem_singleton] at hm
      injection hm with e1 e2
      subst e1 e2
      exact h2.2.1

theorem textCursors_reads (os : Os) {H : Type} (enc : TypeId × Value → H) : ∃ places, DataW.whole enc Tryz.prog ((World.laidAll Tryz.prog os laidA).forCall (fun _ _ => 0) ⟨#[], #[.agg #[.int .i64 0, .slice none 0 0], .slice none 0 0], []⟩).memory Tryz.f3.params.toList Rows.textCursorsSpec.vars false #[.agg #[.int .i64 0, .slice none 0 0], .slice none 0 0].toList 8 = some ([.agg [.lit (.int .i64 0), .nil], .nil], [], places) := ⟨[], by kernel_rfl⟩
set_option maxRecDepth 100000 in
theorem textCursors_liftedU (os : Os) (started : os.Started) (H : Type) (enc : TypeId × Value → H) (F : Stop.Interp) :
    ReturnsInHanded {} Tryz.checked os 3 .any ((Rows.OpenSpec.upto Rows.textCursorsSpec).preRow enc Tryz.prog Tryz.f3 Rows.textCursorsUptoRow.domain false Rows.textCursorsUptoRow.laid) (((Rows.OpenSpec.upto Rows.textCursorsSpec).at F).post enc Tryz.prog Tryz.f3 false true false false) := by
  obtain ⟨places, hx⟩ := textCursors_reads os enc
  refine returnsInHanded_of_row (C := Tryz.checked) (s := Rows.OpenSpec.upto Rows.textCursorsSpec) own started (by kernel_rfl) Tryz.func3
    (upto_witness (World.laidAll Tryz.prog os laidA) #[.agg #[.int .i64 0, .slice none 0 0], .slice none 0 0] rfl (laidA_shaped os) (by kernel_rfl) (OpenSpec.preRow_of_cond 8 hx (by kernel_rfl) (fun k hk => by cases hk; kernel_rfl) (by kernel_rfl) (laidA_met os _))) ?_
  intro WW base args ds gs before hval hW _ hcond _ hL hS _
  have hpost := fun (W' : World) (hb : Below WW.heap.size WW W') (hfn : Rows.textCursorsSpec.fn H (ds ++ []) = { results := [.lit (.bool true)], args := ds }) =>
    post_of_law (s := Rows.textCursorsSpec) (fresh := true) (handsOn := false) laidOut (by rw [Tryz.params3]; intro t ht; simp at ht; (try subst ht) <;> (try (rcases ht with rfl | rfl)) <;> exact ⟨by kernel_rfl, of_decide_eq_true (by kernel_rfl)⟩) rfl hW (tb := 4) (by kernel_rfl) Tryz.underlying4 hfn hb
  have hbulk : Rows.uptoBulkAll (ds ++ gs) ≤ 1048576 := of_decide_eq_true (hcond _ rfl)
  obtain ⟨p, q, hA, hV, rfl, hfz, hnd⟩ := hW
  obtain ⟨rfl, rfl⟩ := trodVars_none hV
  rw [Tryz.params3] at hA hval
  obtain ⟨v0, vs0, d0, ds0, p0, q0, hargs, rfl, rfl, h0, r0⟩ := trodAll_cons hA
  obtain ⟨v1, vs1, d1, ds1, p1, q1, rfl, rfl, rfl, h1, r1⟩ := trodAll_cons r0
  obtain ⟨rfl, rfl, rfl⟩ := trodAll_nil r1
  obtain rfl : args = #[v0, v1] := by cases args; simp_all
  obtain ⟨a0, rfl, e0, g0⟩ := open_lineD (hval 0 _ v0 rfl rfl) h0
  obtain ⟨a1, rfl, e1, g1⟩ := open_callsD (hval 1 _ v1 rfl rfl) h1
  refine (textCursors_walk a0 a1 WW g0 g1 (env_of_laid hL hS) (by simp only [List.append_nil, Rows.uptoBulkAll] at hbulk; omega)).mono fun e W' ⟨he, hg⟩ => ?_
  exact ⟨_, he, hpost W' hg rfl⟩

theorem textCursors_holdsU : Rows.TextCursorsUptoSaid :=
  OpenClaim.holds_of_cond 3 Tryz.f3 rfl rfl rfl rfl rfl rfl rfl ⟨rfl, rfl, rfl, rfl, rfl⟩ rfl rfl rfl rfl rfl (by kernel_rfl) Tryz.func3 (by kernel_rfl)
    (of_decide_eq_true (by kernel_rfl)) (by unfold Func.isWrapper; first | (rw [if_pos (by decide +kernel)]; kernel_rfl) | (rw [if_neg (by decide +kernel)]; exact ⟨rfl, rfl⟩))
    (fun os started H enc _ F => by rw [OpenClaim.pre_eq_preRow]; exact textCursors_liftedU os started H enc F)

theorem textCursors_cardU : Rows.TextCursorsUptoCardSaid :=
  Claim7.holds_tied_plain_at .later [] [.data, .data, .data, .data, .sentinel, .sentinel, .pinned] true Rows.textCursorsUptoCard.stood.harness Rows.textCursorsUptoCard.stood.looks
    textCursors_holdsU (fun _ h => by cases h) (by kernel_rfl) (fun _ h => by cases h) textCursorsUpto_row_tie rfl ⟨rfl, rfl⟩ (by kernel_rfl) rfl
    (fun f fn hf hfn => by
      obtain rfl : f = 3 := Option.some.inj ((show Tryz.prog.funcNamed "scorebook/scorebooklaw03.TextCursors" = some 3 by kernel_rfl).symm.trans hf) |>.symm
      obtain rfl : fn = Tryz.f3 := (Option.some.inj (Tryz.func3.symm.trans hfn)).symm
      exact ⟨by kernel_rfl, fun j t ht => by
        rw [Tryz.params3] at ht
        have hm : t ∈ [24, 25] := by simpa using Array.mem_of_getElem? ht
        have hall : ([24, 25].all fun u => !Tryz.prog.wantsStandIn u) = true := by kernel_rfl
        exact (show Tryz.prog.wantsStandIn t = false by simpa using List.all_eq_true.1 hall t hm)⟩)
    (by kernel_rfl)
#print axioms textCursors_cardU

end Go.Proofs.YtjibacfgcdbhlaaGreatDoor
