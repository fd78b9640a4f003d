/- The opener of an argument of type []api.Line: lines that can be read, and their bulk. -/
import Derived.Test.YtjekflpogafodaaDoorWri
import Derived.Test.YtjekflpogafodaaDoorLiftU
import Derived.Deep.Slices
import Derived.Deep.Fields
set_option linter.unusedSimpArgs false
set_option linter.unusedVariables false
namespace Go.Proofs.YtjekflpogafodaaDoor
open Go.ChangeShapes Go.WideShapes Go.ChangeAt Go.RowKit Go.Joins

theorem list_of {α : Type} (Q : Nat → α → Prop) : ∀ n, (∀ i, i < n → ∃ a, Q i a) → ∃ l : List α, l.length = n ∧ ∀ i a, l[i]? = some a → Q i a := by
  intro n
  induction n with
  | zero => intro _; exact ⟨[], rfl, fun i a h => by simp at h⟩
  | succ n ih =>
    intro h
    obtain ⟨l, hl, hq⟩ := ih (fun i hi => h i (by omega))
    obtain ⟨a, ha⟩ := h n (by omega)
    refine ⟨l ++ [a], by simp [hl], fun i b hb => ?_⟩
    by_cases hi : i < l.length
    · rw [List.getElem?_append_left hi] at hb; exact hq i b hb
    · rw [List.getElem?_append_right (by omega)] at hb
      have h0 : i - l.length = 0 := by
        have := (List.getElem?_eq_some_iff.1 hb).1
        simp at this; omega
      rw [h0] at hb
      simp at hb
      subst hb
      have : i = n := by omega
      subst this; exact ha
theorem cell_lt {w : World} {g o : Nat} {s : Option Nat} {v : Value} (h : w.cell? ⟨g, o, s⟩ = some v) : g < w.heap.size := by
  rcases Nat.lt_or_ge g w.heap.size with hlt | hge
  · exact hlt
  · unfold World.cell? at h
    simp only [Array.getElem?_eq_none hge] at h
    cases h
section
variable {H : Type}
/-- The sum of what the parts weigh. -/
theorem bulk_sum {α : Type} (wt : α → Nat) : ∀ (l : List α) (L : List (DataW H)), l.length = L.length → (∀ (i : Nat) (a : α) (d : DataW H), l[i]? = some a → L[i]? = some d → wt a ≤ Rows.uptoBulk d) → (l.map wt).sum ≤ Rows.uptoBulkAll L := by
  intro l
  induction l with
  | nil => intro L _ _; simp
  | cons a r ih =>
    intro L hl h
    cases L with
    | nil => simp at hl
    | cons d L =>
      have h0 := h 0 a d rfl rfl
      have h1 := ih L (by simpa using hl) (fun i b e hb he => h (i + 1) b e (by simpa using hb) (by simpa using he))
      rw [List.map_cons, List.sum_cons, Rows.uptoBulkAll]
      omega
end
def fwt (f : Fld) : Nat := f.text.length + 4
def fsz (fs : List Fld) : Nat := (fs.map fwt).sum
def lwt (x : Lin) : Nat := fsz x.flds + 2
section
variable {H : Type} {enc : TypeId × Value → H} {w : World} {base b0 : Nat} {spare : Nat → Bool} {held : Bool}
theorem cStr : Tryd.prog.cellsOf 9 = 1 := by kernel_rfl
theorem cInt : Tryd.prog.cellsOf 3 = 1 := by kernel_rfl
theorem cBool : Tryd.prog.cellsOf 4 = 1 := by kernel_rfl
theorem cFs : Tryd.prog.cellsOf 36 = 1 := by kernel_rfl
theorem cF : Tryd.prog.cellsOf 35 = 3 := by kernel_rfl
theorem cL : Tryd.prog.cellsOf 38 = 2 := by kernel_rfl
set_option maxRecDepth 100000 in
theorem open_field {a : Addr} {n : Nat} {cs : List Value} {d : DataW H} {p : List MemPlace} (hc : w.cells? base a 3 = some cs) (h : DataW.trod enc Tryd.prog w base spare held n 35 cs = some (d, p)) :
    ∃ f : Fld, w.cell? (a.add 0) = some (S f.text) ∧ w.cell? (a.add 1) = some (.int .i64 f.col) ∧ w.cell? (a.add 2) = some (.bool f.quo) ∧ fwt f ≤ Rows.uptoBulk d := by
  obtain ⟨xs, n', _, hx, hl, hxl, hf⟩ := DataW.trod_struct Tryd.underlying35 h
  obtain ⟨_, hcl, hat⟩ := World.cells?_some hc
  obtain ⟨c0, c1, c2, rfl⟩ : ∃ c0 c1 c2, cs = [c0, c1, c2] := by
    match cs, hcl with
    | [c0, c1, c2], _ => exact ⟨c0, c1, c2, rfl⟩
  obtain ⟨x0, x1, x2, rfl⟩ : ∃ x0 x1 x2, xs = [x0, x1, x2] := by
    match xs, hxl with
    | [x0, x1, x2], _ => exact ⟨x0, x1, x2, rfl⟩
  have h0 := hf 0 _ rfl
  have h1 := hf 1 _ rfl
  have h2 := hf 2 _ rfl
  simp only [cStr, cInt, cBool, List.drop_succ_cons, List.drop_zero, List.take_succ_cons, List.take_zero, List.getElem?_cons_zero, List.getElem?_cons_succ] at h0 h1 h2
  obtain ⟨s, e0, y0, _⟩ := DataW.trod_string Tryd.underlying9 h0
  obtain ⟨k, e1, y1, _⟩ := DataW.trod_int Tryd.underlying3 h1
  obtain ⟨q, e2, y2⟩ := DataW.trod_bool Tryd.underlying4 h2
  injection e0 with e0; injection e1 with e1; injection e2 with e2
  refine ⟨⟨s.data.toList, k, q⟩, ?_, ?_, ?_, ?_⟩
  · rw [hat 0 (by omega), e0]; show _ = some (Value.string (str s.data.toList)); rw [str_of]; rfl
  · rw [hat 1 (by omega), e1]; rfl
  · rw [hat 2 (by omega), e2]; rfl
  · have hd : d = .agg [x0.1, x1.1, x2.1] := (Prod.mk.inj hx).1
    rw [hd, y0, y1, y2]
    simp [fwt, Rows.uptoBulk, Rows.uptoBulkAll]
set_option maxRecDepth 100000 in
theorem open_fields {n : Nat} {cs : List Value} {d : DataW H} {p : List MemPlace} (h : DataW.trod enc Tryd.prog w base spare held n 36 cs = some (d, p)) :
    ∃ (v : Value) (fs : List Fld), cs = [v] ∧ RdF w v fs ∧ fsz fs ≤ Rows.uptoBulk d := by
  rcases Go.Deep.open_slice Tryd.underlying36 h with ⟨rfl, hx⟩ | ⟨a, len, cap, m, k, D, Pl, rfl, hb, hl, hc, hm, hx, hi⟩
  · exact ⟨_, [], rfl, Or.inl ⟨rfl, _, _, rfl⟩, by simp [fsz]⟩
  · rw [cF] at hi
    have hml : len ≤ m := by rw [hm]; split <;> omega
    obtain ⟨fs, hfl, hfs⟩ := list_of (fun i (f : Fld) => w.cell? ((a.add (i * 3)).add 0) = some (S f.text) ∧ w.cell? ((a.add (i * 3)).add 1) = some (.int .i64 f.col) ∧ w.cell? ((a.add (i * 3)).add 2) = some (.bool f.quo) ∧ fwt f ≤ Rows.uptoBulk (D i)) len (fun i hil => by
      obtain ⟨cs', h1, h2⟩ := hi i (by omega)
      exact open_field h1 h2)
    have hd : d = .slice ((List.range len).map D) ((List.range (m - len)).map fun j => D (len + j)) := (Prod.mk.inj hx).1
    refine ⟨_, fs, rfl, ?_, ?_⟩
    · by_cases h0 : fs = []
      · subst h0
        simp at hfl
        subst hfl
        exact Or.inl ⟨rfl, _, _, rfl⟩
      · obtain ⟨f0, hf0⟩ : ∃ f0, fs[0]? = some f0 := by cases fs with | nil => exact absurd rfl h0 | cons f r => exact ⟨f, rfl⟩
        have hq := (hfs 0 f0 hf0).1
        obtain ⟨g, o, sp⟩ := a
        have hsp : sp = none := by simpa [Addr.add] using World.cell?_spot hq
        subst hsp
        have hg : g < w.heap.size := by
          have : ((⟨g, o, none⟩ : Addr).add (0 * 3)).add 0 = ⟨g, o, none⟩ := rfl
          rw [this] at hq; exact cell_lt hq
        refine Or.inr ⟨h0, g, o, cap, by rw [hfl], hg, by rw [hfl]; exact hl, by unfold maxLen at hc; omega, fun i f hf => ?_⟩
        obtain ⟨q0, q1, q2, _⟩ := hfs i f hf
        have ea : ∀ j : Nat, ((⟨g, o, none⟩ : Addr).add (i * 3)).add j = ⟨g, o + i * 3 + j, none⟩ := by
          intro j
          rw [Go.Deep.add_add]
          unfold Addr.add
          by_cases hz : i * 3 + j = 0
          · rw [if_pos hz]; congr 1; omega
          · rw [if_neg hz]; simp; omega
        rw [ea] at q0 q1 q2
        exact ⟨q0, q1, q2⟩
    · rw [hd, Rows.uptoBulk]
      have := bulk_sum fwt fs ((List.range len).map D) (by simp [hfl]) (fun i f e hf he => by
        have hi := (List.getElem?_eq_some_iff.1 hf).1
        rw [List.getElem?_map, List.getElem?_range (by omega)] at he
        simp at he
        subst he
        exact (hfs i f hf).2.2.2)
      unfold fsz; omega
set_option maxRecDepth 100000 in
theorem open_line {a : Addr} {n : Nat} {cs : List Value} {d : DataW H} {p : List MemPlace} (hc : w.cells? base a 2 = some cs) (h : DataW.trod enc Tryd.prog w base spare held n 38 cs = some (d, p)) :
    ∃ x : Lin, w.cell? (a.add 0) = some (.int .i64 x.num) ∧ (∃ u, w.cell? (a.add 1) = some u ∧ RdF w u x.flds) ∧ lwt x ≤ Rows.uptoBulk d := by
  obtain ⟨xs, n', _, hx, hl, hxl, hf⟩ := DataW.trod_struct Tryd.underlying38 h
  obtain ⟨_, hcl, hat⟩ := World.cells?_some hc
  obtain ⟨c0, c1, rfl⟩ : ∃ c0 c1, cs = [c0, c1] := by
    match cs, hcl with
    | [c0, c1], _ => exact ⟨c0, c1, rfl⟩
  obtain ⟨x0, x1, rfl⟩ : ∃ x0 x1, xs = [x0, x1] := by
    match xs, hxl with
    | [x0, x1], _ => exact ⟨x0, x1, rfl⟩
  have h0 := hf 0 _ rfl
  have h1 := hf 1 _ rfl
  simp only [cInt, cFs, List.drop_succ_cons, List.drop_zero, List.take_succ_cons, List.take_zero, List.getElem?_cons_zero, List.getElem?_cons_succ] at h0 h1
  obtain ⟨k, e0, y0, _⟩ := DataW.trod_int Tryd.underlying3 h0
  obtain ⟨dd, pp⟩ := x1
  obtain ⟨v, fs, e1, hr, hb⟩ := open_fields h1
  injection e0 with e0; injection e1 with e1
  refine ⟨⟨k, fs⟩, ?_, ⟨v, ?_, hr⟩, ?_⟩
  · rw [hat 0 (by omega), e0]; rfl
  · rw [hat 1 (by omega), e1]; rfl
  · have hd : d = .agg [x0.1, dd] := (Prod.mk.inj hx).1
    rw [hd, y0]
    simp only [lwt, Rows.uptoBulk, Rows.uptoBulkAll]
    omega
set_option maxRecDepth 100000 in
theorem open_lines {r : Reach} {v : Value} {d : DataW H} {p : List MemPlace} (hok : Value.okWide Tryd.prog w r b0 23 v) (h : DataW.Trod enc Tryd.prog w base spare held 23 v d p) :
    ∃ (A : Option Addr) (raw : List Lin) (c : Nat), v = .slice A raw.length c ∧ RdL w v raw ∧ (raw.map lwt).sum ≤ Rows.uptoBulk d := by
  obtain ⟨fuel, h⟩ := h
  obtain ⟨a0, l0, c0, rfl⟩ := okWide_slice Tryd.underlying23 hok
  rcases Go.Deep.open_slice Tryd.underlying23 h with ⟨hcs, hx⟩ | ⟨a, len, cap, m, k, D, Pl, hcs, hb, hl, hc, hm, hx, hi⟩
  · have hv : Value.slice a0 l0 c0 = .slice none 0 0 := by simpa [Value.cells] using hcs
    rw [hv]
    exact ⟨none, [], 0, rfl, Or.inl ⟨rfl, _, _, rfl⟩, by simp⟩
  · have hv : Value.slice a0 l0 c0 = .slice (some a) len cap := by simpa [Value.cells] using hcs
    rw [hv]
    rw [cL] at hi
    have hml : len ≤ m := by rw [hm]; split <;> omega
    obtain ⟨ls, hfl, hfs⟩ := list_of (fun i (x : Lin) => w.cell? ((a.add (i * 2)).add 0) = some (.int .i64 x.num) ∧ (∃ u, w.cell? ((a.add (i * 2)).add 1) = some u ∧ RdF w u x.flds) ∧ lwt x ≤ Rows.uptoBulk (D i)) len (fun i hil => by
      obtain ⟨cs', h1, h2⟩ := hi i (by omega)
      exact open_line h1 h2)
    have hd : d = .slice ((List.range len).map D) ((List.range (m - len)).map fun j => D (len + j)) := (Prod.mk.inj hx).1
    refine ⟨some a, ls, cap, by rw [hfl], ?_, ?_⟩
    · by_cases h0 : ls = []
      · subst h0
        simp at hfl
        subst hfl
        exact Or.inl ⟨rfl, _, _, rfl⟩
      · obtain ⟨f0, hf0⟩ : ∃ f0, ls[0]? = some f0 := by cases ls with | nil => exact absurd rfl h0 | cons f r => exact ⟨f, rfl⟩
        have hq := (hfs 0 f0 hf0).1
        obtain ⟨g, o, sp⟩ := a
        have hsp : sp = none := by simpa [Addr.add] using World.cell?_spot hq
        subst hsp
        have hg : g < w.heap.size := by
          have : ((⟨g, o, none⟩ : Addr).add (0 * 2)).add 0 = ⟨g, o, none⟩ := rfl
          rw [this] at hq; exact cell_lt hq
        refine Or.inr ⟨h0, g, o, cap, by rw [hfl], hg, by rw [hfl]; exact hl, by unfold maxLen at hc; omega, fun i f hf => ?_⟩
        obtain ⟨q0, ⟨u, q1, q2⟩, _⟩ := hfs i f hf
        have ea : ∀ j : Nat, ((⟨g, o, none⟩ : Addr).add (i * 2)).add j = ⟨g, o + i * 2 + j, none⟩ := by
          intro j
          rw [Go.Deep.add_add]
          unfold Addr.add
          by_cases hz : i * 2 + j = 0
          · rw [if_pos hz]; congr 1; omega
          · rw [if_neg hz]; simp; omega
        rw [ea] at q0 q1
        exact ⟨u, q0, q1, q2⟩
    · rw [hd, Rows.uptoBulk]
      have := bulk_sum lwt ls ((List.range len).map D) (by simp [hfl]) (fun i f e hf he => by
        have hi := (List.getElem?_eq_some_iff.1 hf).1
        rw [List.getElem?_map, List.getElem?_range (by omega)] at he
        simp at he
        subst he
        exact (hfs i f hf).2.2)
      omega
end
theorem wrF_wt (f : Fld) : (wrF f).length ≤ 2 * f.text.length + 2 := by
  unfold wrF
  split
  · omega
  · have := dbl_length f.text; simp; omega
theorem wrJ_wt (fs : List Fld) : (wrJ fs).length ≤ 2 * fsz fs := by
  cases fs with
  | nil => simp [wrJ]
  | cons f r =>
    have h1 : ∀ r : List Fld, (r.flatMap fun g => 32 :: wrF g).length ≤ 2 * fsz r := by
      intro r
      induction r with
      | nil => simp
      | cons g r ih =>
        have := wrF_wt g
        rw [List.flatMap_cons, List.length_append, List.length_cons]
        unfold fsz at ih ⊢
        rw [List.map_cons, List.sum_cons]
        unfold fwt at ih ⊢
        omega
    have h2 := h1 r
    have h3 := wrF_wt f
    rw [wrJ, List.length_append]
    unfold fsz at h2 ⊢
    rw [List.map_cons, List.sum_cons]
    unfold fwt at h2 ⊢
    omega
theorem sum_mem {α : Type} (wt : α → Nat) (l : List α) (x : α) (h : x ∈ l) : wt x ≤ (l.map wt).sum := by
  induction l with
  | nil => simp at h
  | cons a r ih =>
    rw [List.map_cons, List.sum_cons]
    rcases List.mem_cons.1 h with rfl | h
    · omega
    · have := ih h; omega
theorem sum_len {α : Type} (wt : α → Nat) (h1 : ∀ x, 1 ≤ wt x) (l : List α) : l.length ≤ (l.map wt).sum := by
  induction l with
  | nil => simp
  | cons a r ih => rw [List.map_cons, List.sum_cons, List.length_cons]; have := h1 a; omega
theorem fine_of_bulk (raw : List Lin) (h : (raw.map lwt).sum ≤ 1048576) : Fine raw := by
  have hx : ∀ x ∈ raw, lwt x ≤ 1048576 := fun x hx => Nat.le_trans (sum_mem lwt raw x hx) h
  refine ⟨?_, ?_, ?_, ?_⟩
  · have := sum_len lwt (fun x => by unfold lwt; omega) raw; omega
  · have : ∀ ls : List Lin, (wrA ls).length ≤ 2 * (ls.map lwt).sum := by
      intro ls
      induction ls with
      | nil => simp [wrA]
      | cons x r ih =>
        have := wrJ_wt x.flds
        unfold wrA at ih ⊢
        rw [List.flatMap_cons, List.length_append, List.map_cons, List.sum_cons]
        have hl : (wrL x).length ≤ (wrJ x.flds).length + 1 := by unfold wrL; rw [List.length_append]; split <;> simp
        unfold lwt at ih ⊢
        omega
    have := this raw
    omega
  · intro x h1
    have h2 := hx x h1
    have := sum_len fwt (fun f => by unfold fwt; omega) x.flds
    unfold lwt fsz at h2
    omega
  · intro x h1 f hf
    have h2 := hx x h1
    have := sum_mem fwt x.flds f hf
    unfold lwt fsz at h2
    unfold fwt at this h2
    omega
end Go.Proofs.YtjekflpogafodaaDoor
