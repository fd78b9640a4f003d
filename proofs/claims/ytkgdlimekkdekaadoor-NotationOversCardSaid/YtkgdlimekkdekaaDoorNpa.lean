/- Layer 7 (notation): lists of deliveries, their symbols, and the deliveries of symbols, program. -/
import Derived.Test.YtkgdlimekkdekaaDoorVz
import Derived.KernelRfl
import Derived.Test.YtkgdlimekkdekaaDoorProg
import Derived.Test.YtkgdlimekkdekaaDoorBrd
import Derived.Test.YtkgdlimekkdekaaDoorNoK
import Derived.Test.YtkgdlimekkdekaaDoorSpc
import Derived.Test.YtkgdlimekkdekaaDoorSqw
set_option linter.unusedSimpArgs false
set_option linter.unusedVariables false
set_option maxRecDepth 100000
namespace Go.Proofs.YtkgdlimekkdekaaDoor
open Go.RowKit


def dlV (d : Dl) : Value := .agg #[.int .u8 d.t, .int .u8 d.s, .int .i64 d.r, .int .i64 d.sh, .int .i64 d.b, .bool d.x, .int .u8 d.h, .int .i64 d.v, .int .i64 d.f, .int .i64 d.g, .bool d.u, .int .i64 d.z]
/-- The element with an index. -/
def gD (l : List Dl) (m : Nat) : Dl := l.getD m ⟨0, 0, 0, 0, 0, false, 0, 0, 0, 0, false, 0⟩
def cD (l : List Dl) : List Value := l.flatMap fun p => [.int .u8 p.t, .int .u8 p.s, .int .i64 p.r, .int .i64 p.sh, .int .i64 p.b, .bool p.x, .int .u8 p.h, .int .i64 p.v, .int .i64 p.f, .int .i64 p.g, .bool p.u, .int .i64 p.z]
def cD_rd (l : List Dl) (m : Nat) : Nat → Value
  | 0 => .int .u8 (gD l m).t
  | 1 => .int .u8 (gD l m).s
  | 2 => .int .i64 (gD l m).r
  | 3 => .int .i64 (gD l m).sh
  | 4 => .int .i64 (gD l m).b
  | 5 => .bool (gD l m).x
  | 6 => .int .u8 (gD l m).h
  | 7 => .int .i64 (gD l m).v
  | 8 => .int .i64 (gD l m).f
  | 9 => .int .i64 (gD l m).g
  | 10 => .bool (gD l m).u
  | _ => .int .i64 (gD l m).z
theorem cD_len (l : List Dl) : (cD l).length = l.length * 12 := by
  induction l with
  | nil => rfl
  | cons p l ih => simp only [cD, List.flatMap_cons, List.length_append] at *; rw [ih]; simp; omega
theorem cD_at {l : List Dl} {m j : Nat} (h : m < l.length) (hj : j < 12) : (cD l)[m * 12 + j]? = some (cD_rd l m j) := by
  induction l generalizing m with
  | nil => simp at h
  | cons p l ih =>
    have e : cD (p :: l) = [.int .u8 p.t, .int .u8 p.s, .int .i64 p.r, .int .i64 p.sh, .int .i64 p.b, .bool p.x, .int .u8 p.h, .int .i64 p.v, .int .i64 p.f, .int .i64 p.g, .bool p.u, .int .i64 p.z] ++ cD l := rfl
    rw [e]
    cases m with
    | zero =>
      rw [List.getElem?_append_left (by simp; omega)]
      have : j = 0 ∨ j = 1 ∨ j = 2 ∨ j = 3 ∨ j = 4 ∨ j = 5 ∨ j = 6 ∨ j = 7 ∨ j = 8 ∨ j = 9 ∨ j = 10 ∨ j = 11 := by omega
      rcases this with rfl | rfl | rfl | rfl | rfl | rfl | rfl | rfl | rfl | rfl | rfl | rfl <;> rfl
    | succ m =>
      rw [List.getElem?_append_right (by simp; omega)]
      have e2 : (m + 1) * 12 + j - ([.int .u8 p.t, .int .u8 p.s, .int .i64 p.r, .int .i64 p.sh, .int .i64 p.b, .bool p.x, .int .u8 p.h, .int .i64 p.v, .int .i64 p.f, .int .i64 p.g, .bool p.u, .int .i64 p.z] : List Value).length = m * 12 + j := by simp; omega
      rw [e2, ih (by simpa using h)]
      have : j = 0 ∨ j = 1 ∨ j = 2 ∨ j = 3 ∨ j = 4 ∨ j = 5 ∨ j = 6 ∨ j = 7 ∨ j = 8 ∨ j = 9 ∨ j = 10 ∨ j = 11 := by omega
      rcases this with rfl | rfl | rfl | rfl | rfl | rfl | rfl | rfl | rfl | rfl | rfl | rfl <;> simp [cD_rd, gD]
theorem cD_one (l : List Dl) : ∀ u ∈ cD l, u.oneCell' = true := by
  intro u hu
  simp only [cD, List.mem_flatMap, List.mem_cons, List.not_mem_nil, or_false] at hu
  obtain ⟨p, _, h | h | h | h | h | h | h | h | h | h | h | h⟩ := hu <;> (rw [h]; rfl)
theorem cD_app (l : List Dl) (d : Dl) : lapp (cD l) [.int .u8 d.t, .int .u8 d.s, .int .i64 d.r, .int .i64 d.sh, .int .i64 d.b, .bool d.x, .int .u8 d.h, .int .i64 d.v, .int .i64 d.f, .int .i64 d.g, .bool d.u, .int .i64 d.z] = cD (l ++ [d]) := by
  rw [lapp_eq]
  unfold cD
  rw [List.flatMap_append]
  rfl
theorem cD_get0 {l : List Dl} {m : Nat} (h : m < l.length) : lgo (cD l) (m * 12) = some (.int .u8 (gD l m).t) := by rw [lgo_eq]; exact cD_at (j := 0) h (by omega)
theorem cD_get1 {l : List Dl} {m : Nat} (h : m < l.length) : lgo (cD l) (m * 12 + 1) = some (.int .u8 (gD l m).s) := by rw [lgo_eq]; exact cD_at (j := 1) h (by omega)
theorem cD_get2 {l : List Dl} {m : Nat} (h : m < l.length) : lgo (cD l) (m * 12 + 2) = some (.int .i64 (gD l m).r) := by rw [lgo_eq]; exact cD_at (j := 2) h (by omega)
theorem cD_get3 {l : List Dl} {m : Nat} (h : m < l.length) : lgo (cD l) (m * 12 + 3) = some (.int .i64 (gD l m).sh) := by rw [lgo_eq]; exact cD_at (j := 3) h (by omega)
theorem cD_get4 {l : List Dl} {m : Nat} (h : m < l.length) : lgo (cD l) (m * 12 + 4) = some (.int .i64 (gD l m).b) := by rw [lgo_eq]; exact cD_at (j := 4) h (by omega)
theorem cD_get5 {l : List Dl} {m : Nat} (h : m < l.length) : lgo (cD l) (m * 12 + 5) = some (.bool (gD l m).x) := by rw [lgo_eq]; exact cD_at (j := 5) h (by omega)
theorem cD_get6 {l : List Dl} {m : Nat} (h : m < l.length) : lgo (cD l) (m * 12 + 6) = some (.int .u8 (gD l m).h) := by rw [lgo_eq]; exact cD_at (j := 6) h (by omega)
theorem cD_get7 {l : List Dl} {m : Nat} (h : m < l.length) : lgo (cD l) (m * 12 + 7) = some (.int .i64 (gD l m).v) := by rw [lgo_eq]; exact cD_at (j := 7) h (by omega)
theorem cD_get8 {l : List Dl} {m : Nat} (h : m < l.length) : lgo (cD l) (m * 12 + 8) = some (.int .i64 (gD l m).f) := by rw [lgo_eq]; exact cD_at (j := 8) h (by omega)
theorem cD_get9 {l : List Dl} {m : Nat} (h : m < l.length) : lgo (cD l) (m * 12 + 9) = some (.int .i64 (gD l m).g) := by rw [lgo_eq]; exact cD_at (j := 9) h (by omega)
theorem cD_get10 {l : List Dl} {m : Nat} (h : m < l.length) : lgo (cD l) (m * 12 + 10) = some (.bool (gD l m).u) := by rw [lgo_eq]; exact cD_at (j := 10) h (by omega)
theorem cD_get11 {l : List Dl} {m : Nat} (h : m < l.length) : lgo (cD l) (m * 12 + 11) = some (.int .i64 (gD l m).z) := by rw [lgo_eq]; exact cD_at (j := 11) h (by omega)

theorem rE_o : ∀ e : Ex, e ∈ rE → e ∈ rE := fun _ h => h
theorem ownsL_alloc (w : World) (el : TypeId) (cells : List Value) (n : Nat) (h : cells.length = n * 1) (hn : n ≤ 4294967296) : OwnsL w.heap.size [⟨el, 1, n, cells⟩] [(some ⟨w.heap.size, 0, none⟩, n)] (w.alloc (.cells cells.toArray el)) := by
  have hb : (w.alloc (.cells cells.toArray el)).heap[w.heap.size]? = some (.cells cells.toArray el (0, 0)) := by
    show (w.heap.push (Obj.cells cells.toArray el (0, 0)))[w.heap.size]? = some _
    rw [Array.getElem?_push_size]
  refine ⟨rfl, fun i o ho => ?_, fun i j o p k ho hp _ _ => ?_⟩
  · match i, ho with
    | 0, ho =>
      simp only [obsOf, List.getElem?_cons_zero, Option.some.injEq] at ho
      subst ho
      refine ⟨⟨h, Or.inr ⟨w.heap.size, n, cells.toArray, rfl, Nat.le_refl _, hb, Nat.le_refl _, by unfold maxLen; omega, by simpa using h, by simp [← h]⟩⟩, fun k hk => ?_, fun u hu => ?_⟩
      · simp [Ob.dep] at hk; omega
      · simp only [Option.some.injEq] at hu
        subst hu
        exact ⟨⟨(fun e => by cases e), (fun _ q hq => by injection hq with hq; subst hq; rfl)⟩, Nat.le_refl _⟩
    | i + 1, ho => simp [obsOf] at ho
  · match i, j, ho, hp with
    | 0, 0, _, _ => rfl
    | i + 1, _, ho, _ => simp [obsOf] at ho
    | 0, j + 1, _, hp => simp [obsOf] at hp
theorem spl_sp (s : ByteArray) (hs : s.size ≤ 1000000) : SpecG Tryd.prog rE [] 22 #[.string s, .string ⟨#[32]⟩] [⟨9, 1, (spB s).length, cS (spB s)⟩] (fun ads => .slice (nthA ads 0).1 (spB s).length (nthA ads 0).2) := by
  intro w hE _
  obtain ⟨m, hm⟩ := (rE_env hE).max
  have h1 := Tryd.strings_Split s ⟨#[32]⟩ m w (by omega) hm (by decide)
  refine h1.mono fun e w' ⟨he, hw⟩ => ?_
  have hl := spB_len s
  have hc : (spB s).length ≤ s.size + 1 := by
    have := Lib.countB_le ⟨#[32]⟩ (by decide) s.size s (Nat.le_refl _)
    omega
  refine ⟨[(some ⟨w.heap.size, 0, none⟩, (spB s).length)], ?_, ?_, ?_⟩
  · rw [he, hl]; rfl
  · rw [hw]
    exact ownsL_alloc w _ (cS (spB s)) _ (cS_len _) (by omega)
  · rw [hw]
    exact Below.alloc (Below.refl _ w) (Nat.le_refl _) _


def psV (b : ByteArray) : Dl := psD b.data.toList
def psX (b : ByteArray) : Int := psE b.data.toList
theorem prs_sp (b : ByteArray) (hl : b.size ≤ 1000000) : SpecG Tryd.prog [] [] 17 #[.string b] [] (fun _ => .tuple #[dlV (psV b), .int .i64 (psX b)]) := specG_ofC (fun w => by
  have h := parse_any b.data.toList w (by have : b.data.toList.length = b.size := by rw [Array.length_toList]; rfl
                                          omega)
  have e : S b.data.toList = Value.string b := by show Value.string (str _) = _; rw [str_of]
  rw [e] at h
  exact h)
/-- The first error of symbols. -/
def pvE : List ByteArray → Int
  | [] => 0
  | b :: l => if psX b = 0 then pvE l else psX b
structure PD where
  i : Nat
  a : Option Addr
  cap : Nat
  l : List Dl
def pvI (ps : List ByteArray) (x : PD) : Prop := x.i ≤ ps.length ∧ pvE ps = pvE (ps.drop x.i) ∧ x.l = (ps.take x.i).map psV
theorem pv_drop {ps : List ByteArray} {i : Nat} (h : i < ps.length) : ps.drop i = gS ps i :: ps.drop (i + 1) := by
  rw [List.drop_eq_getElem_cons h, gS, List.getD_eq_getElem?_getD, List.getElem?_eq_getElem h]
  rfl
theorem pv_bad {ps : List ByteArray} {x : PD} (h : pvI ps x) (hi : x.i < ps.length) (hb : ¬ psX (gS ps x.i) = 0) : pvE ps = psX (gS ps x.i) := by
  rw [h.2.1, pv_drop hi]
  simp only [pvE]
  rw [if_neg hb]
theorem pv_step {ps : List ByteArray} {x : PD} (h : pvI ps x) (hi : x.i < ps.length) (hb : psX (gS ps x.i) = 0) (a : Option Addr) (c : Nat) : pvI ps ⟨x.i + 1, a, c, x.l ++ [psV (gS ps x.i)]⟩ := by
  refine ⟨hi, ?_, ?_⟩
  · rw [h.2.1, pv_drop hi]
    simp only [pvE]
    rw [if_pos hb]
  · show x.l ++ _ = _
    rw [h.2.2, List.take_add_one, List.map_append, List.getElem?_eq_getElem hi, gS, List.getD_eq_getElem?_getD, List.getElem?_eq_getElem hi]
    rfl
theorem pv_end {ps : List ByteArray} {x : PD} (h : pvI ps x) (hi : ¬ (x.i : Int) < ps.length) : pvE ps = 0 ∧ x.l = ps.map psV := by
  have e : x.i = ps.length := by have := h.1; omega
  refine ⟨?_, ?_⟩
  · rw [h.2.1, e, List.drop_length]; rfl
  · rw [h.2.2, e, List.take_length]
theorem pv_len {ps : List ByteArray} {x : PD} (h : pvI ps x) : x.l.length = x.i := by
  rw [h.2.2, List.length_map, List.length_take]
  have := h.1
  omega
@[reducible] def nxP {ps : List ByteArray} {x : PD} (_ : pvI ps x) (a : Option Addr) (c : Nat) : PD := ⟨x.i + 1, a, c, x.l ++ [psV (gS ps x.i)]⟩
/-- The error of symbols with blanks between, and their deliveries. -/
def poE (s : ByteArray) : Int := if s.size = 0 then 0 else pvE (spB s)
def poD (s : ByteArray) : List Dl := if s.size = 0 ∨ ¬ poE s = 0 then [] else (spB s).map psV
theorem spB_cnt (s : ByteArray) : (spB s).length ≤ s.size + 1 := by
  rw [spB_len]
  have := Lib.countB_le ⟨#[32]⟩ (by decide) s.size s (Nat.le_refl _)
  omega
theorem sz_split (sep : ByteArray) : ∀ (k : Nat) (s : ByteArray), ∀ b ∈ Lib.splitB sep 0 k s, b.size ≤ s.size := by
  intro k
  induction k with
  | zero => intro s b hb; rw [Lib.splitB_zero, List.mem_singleton] at hb; rw [hb]; exact Nat.le_refl _
  | succ k ih =>
    intro s b hb
    unfold Lib.splitB at hb
    split at hb
    · rw [List.mem_singleton] at hb; rw [hb]; exact Nat.le_refl _
    · rcases List.mem_cons.1 hb with rfl | hb
      · rw [ByteArray.size_extract]; omega
      · have := ih _ b hb
        rw [ByteArray.size_extract] at this
        omega
theorem gS_sz {s : ByteArray} (hs : s.size ≤ 1000000) (i : Nat) : (gS (spB s) i).size ≤ 1000000 := by
  rw [gS, List.getD_eq_getElem?_getD]
  cases e : (spB s)[i]? with
  | none => simp; decide
  | some y => exact Nat.le_trans (sz_split _ _ s y (List.mem_of_getElem? e)) hs
theorem bne_t {a : Int} (h : (a != 0) = true) : ¬ a = 0 := by simpa using h
theorem bne_f {a : Int} (h : (a != 0) = false) : a = 0 := by simpa using h
theorem po_1 {s : ByteArray} (h : s.size = 0) : poE s = 0 ∧ poD s = [] := by
  unfold poD poE
  rw [if_pos h, if_pos (Or.inl h)]
  exact ⟨rfl, rfl⟩
theorem po_2 {s : ByteArray} (h : ¬ s.size = 0) (h2 : ¬ pvE (spB s) = 0) : poE s = pvE (spB s) ∧ poD s = [] := by
  unfold poD poE
  rw [if_neg h, if_pos (Or.inr h2)]
  exact ⟨rfl, rfl⟩
theorem po_3 {s : ByteArray} (h : ¬ s.size = 0) (h2 : pvE (spB s) = 0) : poE s = 0 ∧ poD s = (spB s).map psV := by
  unfold poD poE
  rw [if_neg h, if_neg (by rw [h2]; simp [h])]
  exact ⟨h2, rfl⟩
theorem em_s0 (b : ByteArray) : (ByteArray.toList b == ByteArray.toList (ByteArray.mk (Array.mk []))) = decide (b.size = 0) := by
  rw [ByteArray.toList_eq, ByteArray.toList_eq]
  obtain ⟨⟨l⟩⟩ := b
  cases l <;> simp [ByteArray.size]


/-- No blank in it. -/
def nb (l : List UInt8) : Prop := ∀ c ∈ l, c.toNat ≠ 32
theorem nb_app {a b : List UInt8} (ha : nb a) (hb : nb b) : nb (a ++ b) := fun c h => (List.mem_append.1 h).elim (ha c) (hb c)
theorem nb_cons {c : UInt8} {b : List UInt8} (hc : c.toNat ≠ 32) (hb : nb b) : nb (c :: b) := fun d h => (List.mem_cons.1 h).elim (fun e => e ▸ hc) (hb d)
theorem nb_nil : nb [] := fun c h => by cases h
theorem nb_dg {n : Int} (h0 : 0 ≤ n) (h1 : n ≤ 11) : nb (dg n) := by
  unfold nb
  rcases upto11 h0 h1 with rfl | rfl | rfl | rfl | rfl | rfl | rfl | rfl | rfl | rfl | rfl | rfl <;> decide
theorem nb_hch {h : Int} (h0 : 0 ≤ h) (h1 : h ≤ 10) : (hch h).toNat ≠ 32 := by
  rcases upto10 h0 h1 with rfl | rfl | rfl | rfl | rfl | rfl | rfl | rfl | rfl | rfl | rfl <;> decide
theorem nb_src {s : Int} (h0 : 0 ≤ s) (h1 : s ≤ 3) : (srcs.getD s.toNat 0).toNat ≠ 32 := by
  have : s = 0 ∨ s = 1 ∨ s = 2 ∨ s = 3 := by omega
  rcases this with rfl | rfl | rfl | rfl <;> decide
theorem nb_sym {d : Dl} (hw : Wf d) (h : chk d = 0) : nb (sym d) := by
  obtain ⟨hT, hR⟩ := chk_ok h
  obtain ⟨w1, w2, w3⟩ := hw
  unfold okT at hT
  unfold okR at hR
  unfold sym pT pS pR pB pH pX pW pZ pF pG pU
  refine nb_app ?_ (nb_app ?_ (nb_app ?_ (nb_app ?_ (nb_app ?_ (nb_app ?_ (nb_app ?_ ?_))))))
  · (repeat' split) <;> first | exact nb_nil | (exact nb_cons (by decide) nb_nil)
  · split; exact nb_nil; exact nb_cons (nb_src (by omega) (by omega)) nb_nil
  · split; exact nb_nil; exact nb_dg (by omega) (by omega)
  · (repeat' split) <;> first | exact nb_nil | (exact nb_cons (by decide) nb_nil)
  · split; exact nb_nil; exact nb_cons (by decide) (nb_dg (by omega) (by omega))
  · split; exact nb_cons (by decide) nb_nil; exact nb_nil
  · split
    · exact nb_nil
    · refine nb_cons (by decide) (nb_cons (nb_hch (by omega) (by omega)) (nb_app (nb_dg (by omega) (by omega)) ?_))
      split
      · exact nb_nil
      · refine nb_cons (by decide) (nb_app (nb_dg (by omega) (by omega)) (nb_app ?_ (nb_app ?_ (nb_cons (by decide) nb_nil))))
        · split; exact nb_nil; exact nb_cons (by decide) (nb_dg (by omega) (by omega))
        · split; exact nb_cons (by decide) nb_nil; exact nb_nil
  · split; exact nb_nil; exact nb_cons (by decide) (nb_dg (by omega) (by omega))
theorem ps_sy (d : Dl) (hw : Wf d) (h : chk d = 0) : psD (sym d) = d ∧ psE (sym d) = 0 := by
  have e := read_back goodP d hw h
  have h0 : psOk (sym d) := by unfold psOk; rw [show rdP (sym d) = d from e]; exact ⟨h, rfl⟩
  unfold psD psE
  rw [if_pos h0, if_pos h0]
  exact ⟨e, rfl⟩
theorem sy_ne {d : Dl} (hw : Wf d) (h : chk d = 0) : sym d ≠ [] := fun e => by
  have h1 := (ps_sy d hw h).2
  rw [e] at h1
  have h2 : psE [] = 4 := by decide +kernel
  rw [h2] at h1
  cases h1
theorem ov_all : ∀ {ds : List Dl}, ovE ds = 0 → ∀ d ∈ ds, chk d = 0 := by
  intro ds
  induction ds with
  | nil => intro _ d h; cases h
  | cons x r ih =>
    intro h d hd
    simp only [ovE] at h
    split at h
    · rename_i hx
      rcases List.mem_cons.1 hd with rfl | hd
      · exact hx
      · exact ih h d hd
    · rename_i hx; exact absurd h hx
theorem pv_all {ps : List ByteArray} (h : ∀ b ∈ ps, psX b = 0) : pvE ps = 0 := by
  induction ps with
  | nil => rfl
  | cons b l ih => simp only [pvE]; rw [if_pos (h b (List.mem_cons_self ..))]; exact ih fun c hc => h c (List.mem_cons_of_mem _ hc)
theorem sp_ov {ds : List Dl} (hw : ∀ d ∈ ds, Wf d) (h : ovE ds = 0) (hn : ds ≠ []) : spB (str (ovL ds)) = ds.map fun d => str (sym d) := by
  unfold ovL
  rw [if_pos h, spB_data, bp_join (ds.map sym) (by simpa using hn) (fun x hx => by obtain ⟨d, hd, rfl⟩ := List.mem_map.1 hx; exact nb_sym (hw d hd) (ov_all h d hd)), List.map_map]
  rfl
theorem ov_size {ds : List Dl} (hw : ∀ d ∈ ds, Wf d) (h : ovE ds = 0) : (str (ovL ds)).size = 0 ↔ ds = [] := by
  constructor
  · intro h0
    cases ds with
    | nil => rfl
    | cons d r =>
      exfalso
      unfold ovL at h0
      rw [if_pos h, List.map_cons, Lib.join_cons, str_size, List.length_append] at h0
      have := List.length_pos_iff.2 (sy_ne (hw d (List.mem_cons_self ..)) (ov_all h d (List.mem_cons_self ..)))
      omega
  · rintro rfl
    unfold ovL
    rw [if_pos h]
    rfl
theorem po_back {ds : List Dl} (hw : ∀ d ∈ ds, Wf d) (h : ovE ds = 0) : poE (str (ovL ds)) = 0 ∧ poD (str (ovL ds)) = ds := by
  by_cases hn : ds = []
  · have h0 := (ov_size hw h).2 hn
    unfold poE poD
    rw [if_pos h0, if_pos (Or.inl h0), hn]
    exact ⟨rfl, rfl⟩
  · have h0 : ¬ (str (ovL ds)).size = 0 := fun e => hn ((ov_size hw h).1 e)
    have hE : poE (str (ovL ds)) = 0 := by
      unfold poE
      rw [if_neg h0, sp_ov hw h hn]
      refine pv_all fun b hb => ?_
      obtain ⟨d, hd, rfl⟩ := List.mem_map.1 hb
      unfold psX
      rw [str_list]
      exact (ps_sy d (hw d hd) (ov_all h d hd)).2
    refine ⟨hE, ?_⟩
    unfold poD
    rw [if_neg (by rw [hE]; simp [h0]), sp_ov hw h hn, List.map_map]
    conv => rhs; rw [← List.map_id ds]
    apply List.map_congr_left
    intro d hd
    show psV (str (sym d)) = d
    unfold psV
    rw [str_list]
    exact (ps_sy d (hw d hd) (ov_all h d hd)).1
theorem ov_cnt {ds : List Dl} (hw : ∀ d ∈ ds, Wf d) (h : ovE ds = 0) : Lib.countByte (str (ovL ds)).data.toList 32 = ds.length - 1 := by
  rw [str_list]
  unfold ovL
  rw [if_pos h, cn_join _ (fun x hx => by obtain ⟨d, hd, rfl⟩ := List.mem_map.1 hx; exact nb_sym (hw d hd) (ov_all h d hd)), List.length_map]
theorem ov_bad {ds : List Dl} (h : ¬ ovE ds = 0) : (str (ovL ds)).size = 0 := by
  unfold ovL
  rw [if_neg h]
  rfl


@[reducible] def pvL (ps : List ByteArray) : LoopR := ⟨PD, fun x => [(14, .int .i64 x.i), (4, .slice x.a x.l.length x.cap)], [1], fun x => [⟨0, cD x.l, 41, some ⟨x.a, x.l.length, x.cap, 12⟩⟩], pvI ps, fun x => ps.length - x.i, [(41, 12)]⟩
theorem cnt_sp (s : ByteArray) : SpecG Tryd.prog [] [] 13 #[.string s, .string ⟨#[32]⟩] [] (fun _ => .int .i64 (Lib.countByte s.data.toList 32)) :=
  fun w _ _ => (Tryd.strings_Count_one s 32 w).mono fun e w' ⟨he, hw⟩ => ⟨[], he, ownsL_nil _ _, by rw [hw]; exact Below.refl _ _⟩
theorem awk_sp : SpecG Tryd.prog [] [] 6 #[] [] (fun _ => .bool true) := specG_ofC awake_any

def pov_h (s : ByteArray) : Hint := .pl (.split (.perm [1000] .nil) (.specg rE [] [] [RowT.mk (9 : TypeId) (1 : Nat) (List.length (spB s)) (cS (spB s))] (fun ads0 ads ↦ Value.slice (Prod.fst (nthA ads (0 : Nat))) (List.length (spB s)) (Prod.snd (nthA ads (0 : Nat)))) (.pl (.inv (pvL (spB s)) fun x0 ↦ .split (.ix (.lst (0 : Nat)
 (Int.toNat (↑(PD.i x0) : Int) * (1 : Nat)) (Value.string (gS (spB s) (Int.toNat (↑(PD.i x0) : Int)))) (.specg [] [] [] [] (fun ads0 x ↦ Value.tuple #[dlV (psV (gS (spB s) (Int.toNat (↑(PD.i x0) : Int)))), .int .i64 (psX (gS (spB s) (Int.toNat (↑(PD.i x0) : Int))))]) (ho 2 12 (.pl (.split (.perm
 [1000] .nil) (ho 2 12 (.app (1 : Nat) (3 : Nat) (.perm [1] .nil))))))))) (.perm [1] .nil)))))
theorem pov_x (s : ByteArray) : wpG Tryd.prog rE ([]) 400 10 [.string s] (pov_h s) ([⟨41, 12, (poD s).length, cD (poD s)⟩]) (fun ads => .tuple #[.slice (nthA ads 0).1 (poD s).length (nthA ads 0).2, .int .i64 (poE s)]) = (((ByteArray.toList s == ByteArray.toList (ByteArray.mk (Array.mk []))) = true -> List.length (poD s) = (0 : Nat) /\ cD (poD s) = [] /\ (1 : Nat) ≤ (12 : Nat) /\ Value.tuple (Array.mk [.slice none (0 : Nat) (0 : Nat), .int .i64 0]) = Value.tuple (Array.mk [.slice none (List.length (poD s)) (0 : Nat),
 .int .i64 (poE s)])) /\ ((ByteArray.toList s == ByteArray.toList (ByteArray.mk (Array.mk []))) = false -> (SpecG Tryd.prog rE [] (22 : FuncId) #[Value.string s, .string (ByteArray.mk #[(32 : UInt8)])] [RowT.mk (9 : TypeId) (1 : Nat) (List.length (spB s)) (cS (spB s))] fun ads ↦ Value.slice (Prod.fst
 (nthA ads (0 : Nat))) (List.length (spB s)) (Prod.snd (nthA ads (0 : Nat)))) /\ (∀ (e : Ex), e ∈ rE -> e ∈ rE) /\ ∀ (a : Option Addr) (cap : Nat), AOK a (List.length (spB s)) -> List.length (spB s) ≤ cap -> (∃ x, pvI (spB s) x /\ Value.int .i64 0 = Value.int .i64 (↑(PD.i x) : Int) /\ Value.slice
 none (0 : Nat) (0 : Nat) = Value.slice (PD.a x) (List.length (PD.l x)) (PD.cap x) /\ ((0 : Nat) = (0 : Nat) /\ [] = cD (PD.l x) /\ (41 : Nat) = (41 : Nat) /\ some (Ow.mk none (0 : Nat) (0 : Nat) (12 : Nat)) = some (Ow.mk (PD.a x) (List.length (PD.l x)) (PD.cap x) (12 : Nat))) /\ True) /\ ∀ (x0 :
 PD), pvI (spB s) x0 -> ∀ (junk : Nat -> Value), (decide ((↑(PD.i x0) : Int) < (↑(List.length (spB s)) : Int)) = true -> (((0 : Int) ≤ (↑(PD.i x0) : Int) /\ (↑(PD.i x0) : Int) < (↑(List.length (spB s)) : Int)) /\ AOK a (List.length (spB s))) /\ bk a = bk a /\ ofs a + Int.toNat (↑(PD.i x0) : Int) * (1
 : Nat) = ofs a + Int.toNat (↑(PD.i x0) : Int) * (1 : Nat) /\ lgo (cS (spB s)) (Int.toNat (↑(PD.i x0) : Int) * (1 : Nat)) = some (Value.string (gS (spB s) (Int.toNat (↑(PD.i x0) : Int)))) /\ (SpecG Tryd.prog [] [] (17 : FuncId) #[Value.string (gS (spB s) (Int.toNat (↑(PD.i x0) : Int)))] [] fun x ↦
 Value.tuple #[dlV (psV (gS (spB s) (Int.toNat (↑(PD.i x0) : Int)))), .int .i64 (psX (gS (spB s) (Int.toNat (↑(PD.i x0) : Int))))]) /\ (∀ (e : Ex), e ∈ [] -> e ∈ rE) /\ ∀ (b : Nat), e2 b 12 (((psX (gS (spB s) (Int.toNat (↑(PD.i x0) : Int))) != 0) = true -> List.length (poD s) = (0 : Nat) /\ cD (poD
 s) = [] /\ (1 : Nat) ≤ (12 : Nat) /\ Value.tuple (Array.mk [.slice none (0 : Nat) (0 : Nat), .int .i64 (psX (gS (spB s) (Int.toNat (↑(PD.i x0) : Int))))]) = Value.tuple (Array.mk [.slice none (List.length (poD s)) (0 : Nat), .int .i64 (poE s)])) /\ ((psX (gS (spB s) (Int.toNat (↑(PD.i x0) : Int)))
 != 0) = false -> e1 b 12 (∀ (b : Nat), PD.a x0 = PD.a x0 /\ List.length (PD.l x0) = List.length (PD.l x0) /\ PD.cap x0 = PD.cap x0 /\ b = b /\ (List.length (PD.l x0) + (1 : Nat)) * (81 : Nat) ≤ (140737488355328 : Nat) /\ ∀ (g cap : Nat), ∃ y, pvI (spB s) y /\ List.length (spB s) - PD.i y <
 List.length (spB s) - PD.i x0 /\ Value.int .i64 (IntKind.i64.wrap ((↑(PD.i x0) : Int) + (1 : Int))) = Value.int .i64 (↑(PD.i y) : Int) /\ Value.slice (some (Addr.mk g (0 : Nat) none)) (List.length (PD.l x0) + (1 : Nat)) cap = Value.slice (PD.a y) (List.length (PD.l y)) (PD.cap y) /\ ((0 : Nat) = (0
 : Nat) /\ lapp (cD (PD.l x0)) [Value.int .u8 (Dl.t (psV (gS (spB s) (Int.toNat (↑(PD.i x0) : Int))))), .int .u8 (Dl.s (psV (gS (spB s) (Int.toNat (↑(PD.i x0) : Int))))), .int .i64 (Dl.r (psV (gS (spB s) (Int.toNat (↑(PD.i x0) : Int))))), .int .i64 (Dl.sh (psV (gS (spB s) (Int.toNat (↑(PD.i x0) :
 Int))))), .int .i64 (Dl.b (psV (gS (spB s) (Int.toNat (↑(PD.i x0) : Int))))), .bool (Dl.x (psV (gS (spB s) (Int.toNat (↑(PD.i x0) : Int))))), .int .u8 (Dl.h (psV (gS (spB s) (Int.toNat (↑(PD.i x0) : Int))))), .int .i64 (Dl.v (psV (gS (spB s) (Int.toNat (↑(PD.i x0) : Int))))), .int .i64 (Dl.f (psV
 (gS (spB s) (Int.toNat (↑(PD.i x0) : Int))))), .int .i64 (Dl.g (psV (gS (spB s) (Int.toNat (↑(PD.i x0) : Int))))), .bool (Dl.u (psV (gS (spB s) (Int.toNat (↑(PD.i x0) : Int))))), .int .i64 (Dl.z (psV (gS (spB s) (Int.toNat (↑(PD.i x0) : Int)))))] = cD (PD.l y) /\ (41 : Nat) = (41 : Nat) /\ some
 (Ow.mk (some (Addr.mk g (0 : Nat) none)) (List.length (PD.l x0) + (1 : Nat)) cap (12 : Nat)) = some (Ow.mk (PD.a y) (List.length (PD.l y)) (PD.cap y) (12 : Nat))) /\ True)))) /\ (decide ((↑(PD.i x0) : Int) < (↑(List.length (spB s)) : Int)) = false -> (41 : Nat) = (41 : Nat) /\ (12 : Nat) = (12 :
 Nat) /\ List.length (PD.l x0) = List.length (poD s) /\ cD (PD.l x0) = cD (poD s) /\ Value.tuple (Array.mk [.slice (PD.a x0) (List.length (PD.l x0)) (PD.cap x0), .int .i64 0]) = Value.tuple (Array.mk [.slice (PD.a x0) (List.length (poD s)) (PD.cap x0), .int .i64 (poE s)])))) := by kernel_rfl
set_option maxHeartbeats 4000000 in
theorem pov_sp (s : ByteArray) (hs : s.size ≤ 1000000) : SpecG Tryd.prog rE ([]) 10 #[.string s] ([⟨41, 12, (poD s).length, cD (poD s)⟩]) (fun ads => .tuple #[.slice (nthA ads 0).1 (poD s).length (nthA ads 0).2, .int .i64 (poE s)]) := by
  refine specG_of (h := pov_h s) (?_ : wpG Tryd.prog rE ([]) 400 10 [.string s] (pov_h s) ([⟨41, 12, (poD s).length, cD (poD s)⟩]) (fun ads => .tuple #[.slice (nthA ads 0).1 (poD s).length (nthA ads 0).2, .int .i64 (poE s)]))
  rw [pov_x]
  simp only [em_s0]
  (repeat' (first | with_reducible exact rfl | exact trivial | with_reducible assumption | (with_reducible exact spl_sp _ hs) | exact cU_len _ | exact cI_len _ | exact cB_len _ | exact cU_one _ | exact cI_one _ | exact cB_one _ | exact (fun _ h => h) | exact (fun _ h => (List.not_mem_nil h).elim) | exact cS_len _ | exact cS_one _ | exact cD_len _ | exact cD_one _ | (with_reducible refine e1_in ?_) | (with_reducible refine e2_in ?_) | (with_reducible refine lx_in (Nat.le_of_ble_eq_true rfl) ?_) | (with_reducible refine rqx_rf ?_) | (with_reducible refine rqx_in ?_ ?_ ?_) | (with_reducible apply And.intro) | (with_reducible intro _)))
  all_goals (try simp only [Int.toNat_natCast] at *)
  all_goals first
    | omega
    | (have h0 := of_decide_eq_true ‹decide (s.size = 0) = true›; rw [(po_1 h0).2]; done)
    | (have h0 := of_decide_eq_true ‹decide (s.size = 0) = true›; rw [(po_1 h0).2]; rfl)
    | (have h0 := of_decide_eq_true ‹decide (s.size = 0) = true›; rw [(po_1 h0).1, (po_1 h0).2]; rfl)
    | exact ⟨⟨0, none, 0, []⟩, ⟨Nat.zero_le _, rfl, rfl⟩, rfl, rfl, ⟨(by first | exact rfl | exact trivial), rfl, (by first | exact rfl | exact trivial), rfl⟩, trivial⟩
    | (have h0 := of_decide_eq_false ‹decide (s.size = 0) = false›; have hx := ‹pvI _ _›; have hf := of_decide_eq_true ‹decide (((_ : Nat) : Int) < ((_ : Nat) : Int)) = true›; have hf2 := Int.ofNat_lt.1 hf; have hc := spB_cnt s; have hll := pv_len hx; first
        | omega
        | (refine cS_get ?_; omega)
        | exact prs_sp _ (gS_sz hs _)
        | (have hb := bne_t ‹(psX _ != 0) = true›
           have e := pv_bad hx hf2 hb
           have e2 := po_2 h0 (by rw [e]; exact hb)
           first | (rw [e2.2]; done) | (rw [e2.2]; rfl) | (rw [e2.1, e2.2, e]; rfl))
        | (have hb := bne_f ‹(psX _ != 0) = false›
           rename_i g cap
           exact ⟨nxP hx (some ⟨g, 0, none⟩) cap, pv_step hx hf2 hb _ _, (by show _ - (_ + 1) < _; omega), (by rw [IntWalk.i64_in _ (by omega)]; rfl), (by simp), ⟨(by first | exact rfl | exact trivial), cD_app _ _, (by first | exact rfl | exact trivial), (by simp)⟩, trivial⟩))
    | (have h0 := of_decide_eq_false ‹decide (s.size = 0) = false›; have hx := ‹pvI _ _›; have hf := of_decide_eq_false ‹decide (((_ : Nat) : Int) < ((_ : Nat) : Int)) = false›; have e := pv_end hx hf; have e2 := po_3 h0 e.1; first | (rw [e2.2, e.2]; done) | (rw [e2.2, e.2]; rfl) | (rw [e2.1, e2.2, e.2]; done) | (rw [e2.1, e2.2, e.2]; rfl))
    | trace_state
end Go.Proofs.YtkgdlimekkdekaaDoor
