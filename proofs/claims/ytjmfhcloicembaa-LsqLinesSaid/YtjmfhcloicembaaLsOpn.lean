/- Openers of the arguments of the laws of layer 30: points, matrices, numbers. -/
import Derived.Test.YtjmfhcloicembaaRows
import Derived.Test.YtjmfhcloicembaaFrame
import Derived.Test.YtjmfhcloicembaaLsc
import Derived.Test.YtjmfhcloicembaaLsd
import Derived.Lib.SmallJoins
import Derived.ProofKit
import Derived.OpenShut
import Derived.Deep.Fields
import Derived.Deep.Slices
set_option linter.unusedSimpArgs false
set_option linter.unusedVariables false
set_option maxRecDepth 100000
namespace Go.Proofs.Ytjmfhcloicembaa
open Go.ChangeShapes Go.WideShapes Go.ChangeAt Go.RowKit Go.Joins

theorem own : ownKnob Try.prog.godebug = none := by kernel_rfl
theorem laidOut : laidOutB Try.prog = true := by kernel_rfl
theorem list_of {α : Type} (Q : Nat → α → Prop) : ∀ n, (∀ i, i < n → ∃ a, Q i a) → ∃ l : List α, l.length = n ∧ ∀ i a, l[i]? = some a → Q i a := by
  intro n
  induction n with
  | zero => intro _; exact ⟨[], rfl, fun i a h => by simp at h⟩
  | succ n ih =>
    intro h
    obtain ⟨l, hl, hq⟩ := ih (fun i hi => h i (by omega))
    obtain ⟨a, ha⟩ := h n (by omega)
    refine ⟨l ++ [a], by simp [hl], fun i b hb => ?_⟩
    by_cases hi : i < l.length
    · rw [List.getElem?_append_left hi] at hb; exact hq i b hb
    · rw [List.getElem?_append_right (by omega)] at hb
      have h0 : i - l.length = 0 := by
        have := (List.getElem?_eq_some_iff.1 hb).1
        simp at this; omega
      rw [h0] at hb
      simp at hb
      subst hb
      have : i = n := by omega
      subst this; exact ha
def iof : Value → Int
  | .int _ n => n
  | _ => 0
def bof : Value → Bool
  | .bool b => b
  | _ => false

section
variable {H : Type} {enc : TypeId × Value → H} {w : World} {base b0 : Nat} {spare : Nat → Bool} {held : Bool} {r : Reach} {fuel : Nat} {x : DataW H × List MemPlace}
theorem q_pt30_0 : Try.prog.cellsOf 2 = 1 := by kernel_rfl
set_option maxRecDepth 100000 in
theorem oc_pt30 {cs : List Value} (h : DataW.trod enc Try.prog w base spare held fuel 75 cs = some x) : ∃ (z0 : Int) (z1 : Int), cs = [.int .i64 z0, .int .i64 z1] ∧ (-9223372036854775808 ≤ z0 ∧ z0 ≤ 9223372036854775807) ∧ (-9223372036854775808 ≤ z1 ∧ z1 ≤ 9223372036854775807) := by
  obtain ⟨xs, n2, _, _, hl, hxl, hf⟩ := DataW.trod_struct Try.underlying75 h
  have hln : cs.length = 2 := hl.trans (by kernel_rfl)
  obtain ⟨c0, c1, rfl⟩ : ∃ c0 c1, cs = [c0, c1] := by
    match cs, hln with
    | [c0, c1], _ => exact ⟨c0, c1, rfl⟩
  obtain ⟨y0, y1, rfl⟩ : ∃ y0 y1, xs = [y0, y1] := by
    match xs, hxl with
    | [y0, y1], _ => exact ⟨y0, y1, rfl⟩
  have h0 := hf 0 _ rfl
  have h1 := hf 1 _ rfl
  simp only [q_pt30_0, List.drop_succ_cons, List.drop_zero, List.take_succ_cons, List.take_zero, List.getElem?_cons_zero, List.getElem?_cons_succ] at h0 h1
  obtain ⟨z0, e0, _, g0⟩ := DataW.trod_int Try.underlying2 h0
  injection e0 with e0
  subst e0
  obtain ⟨z1, e1, _, g1⟩ := DataW.trod_int Try.underlying2 h1
  injection e1 with e1
  subst e1
  exact ⟨z0, z1, rfl, (by simp [Lit.wf, IntKind.min, IntKind.max, IntKind.signed, IntKind.bits] at g0; omega), (by simp [Lit.wf, IntKind.min, IntKind.max, IntKind.signed, IntKind.bits] at g1; omega)⟩
end

section
variable {H : Type} {enc : TypeId × Value → H} {w : World} {base b0 : Nat} {spare : Nat → Bool} {held : Bool} {r : Reach} {fuel : Nat} {x : DataW H × List MemPlace}
theorem s1_cPt : Try.prog.cellsOf 75 = 2 := by kernel_rfl
set_option maxRecDepth 100000 in
theorem ol_cPt {t : TypeId} {cs : List Value} (ht : Try.prog.underlying t = some (.slice 75)) (h : DataW.trod enc Try.prog w base spare held fuel t cs = some x) :
    ∃ (a : Option Addr) (l : List Pt) (c : Nat), cs = [.slice a l.length c] ∧ AOK a l.length ∧ (l.length ≤ c ∧ c ≤ maxLen) ∧ Rd w a (cPt l) ∧ ∀ e ∈ l, True := by
  rcases Go.Deep.open_slice ht h with ⟨rfl, _⟩ | ⟨a, len, cap, m, k, D, Pl, rfl, hb, hl, hc, hm, hx, hi⟩
  · exact ⟨none, [], 0, rfl, ⟨(fun _ => rfl), (fun hn => absurd rfl hn)⟩, ⟨Nat.le_refl _, Nat.zero_le _⟩, (fun k v hv => by simp [cPt] at hv), (fun e he => by cases he)⟩
  · have hml : len ≤ m := by rw [hm]; split <;> omega
    obtain ⟨l, hll, hq⟩ := list_of (fun i (e : Pt) => (∀ j, j < 2 → w.cell? ((a.add (i * 2)).add j) = some (cPt_rd [e] 0 j)) ∧ True) len (fun i hil => by
      obtain ⟨cs', h1, h2⟩ := hi i (by omega)
      rw [s1_cPt] at h1
      obtain ⟨z0, z1, rfl, f0, f1⟩ := oc_pt30 h2
      obtain ⟨_, _, hat⟩ := World.cells?_some h1
      refine ⟨⟨z0, z1⟩, ?_, trivial⟩
      intro j hj
      rw [hat j hj]
      have : j = 0 ∨ j = 1 := by omega
      rcases this with rfl | rfl <;> rfl)
    have hsp : len ≠ 0 → a.spot = none := fun hn => by
      obtain ⟨e, he⟩ : ∃ e, l[0]? = some e := by cases l with | nil => simp at hll; omega | cons e r => exact ⟨e, rfl⟩
      have := World.cell?_spot ((hq 0 e he).1 0 (by omega))
      simpa [Addr.add] using this
    refine ⟨some a, l, cap, by rw [hll], ⟨(fun e => by cases e), fun hn q hq => ?_⟩, ⟨by rw [hll]; exact hl, hc⟩, (fun k v hv => ?_), (fun e he => by obtain ⟨i, hi2⟩ := List.getElem?_of_mem he; exact (hq i e hi2).2)⟩
    · injection hq with hq
      subst hq
      exact hsp (by rw [← hll]; exact hn)
    · have hk : k < l.length * 2 := by
        have := (List.getElem?_eq_some_iff.1 hv).1
        rwa [cPt_len] at this
      have hk1 : k / 2 < l.length := by omega
      have hk2 : k % 2 < 2 := by omega
      have hk3 : k / 2 * 2 + k % 2 = k := by omega
      have hv2 := cPt_at hk1 hk2
      rw [hk3] at hv2
      rw [hv2] at hv
      injection hv with hv
      have he : l[k / 2]? = some l[k / 2] := by simp [hk1]
      have hc1 := (hq _ _ he).1 (k % 2) hk2
      have e1 : cPt_rd l (k / 2) (k % 2) = cPt_rd [l[k / 2]] 0 (k % 2) := by
        have : k % 2 = 0 ∨ k % 2 = 1 := by omega
        rcases this with e | e <;> rw [e] <;> simp [cPt_rd, gPt, hk1]
      rw [← hv, e1, ← hc1]
      have hs := hsp (by omega)
      obtain ⟨bb, oo, ss⟩ := a
      simp only at hs
      subst hs
      congr 1
      rw [Go.Deep.add_add]
      unfold Addr.add
      by_cases hz : k / 2 * 2 + k % 2 = 0
      · rw [if_pos hz]; simp [bk, ofs]; omega
      · rw [if_neg hz]; simp [bk, ofs]; omega
end

section
variable {H : Type} {enc : TypeId × Value → H} {w : World} {base b0 : Nat} {spare : Nat → Bool} {held : Bool} {r : Reach} {fuel : Nat} {x : DataW H × List MemPlace}
theorem s1_cI : Try.prog.cellsOf 2 = 1 := by kernel_rfl
set_option maxRecDepth 100000 in
theorem ol_cI {t : TypeId} {cs : List Value} (ht : Try.prog.underlying t = some (.slice 2)) (h : DataW.trod enc Try.prog w base spare held fuel t cs = some x) :
    ∃ (a : Option Addr) (l : List Int) (c : Nat), cs = [.slice a l.length c] ∧ AOK a l.length ∧ (l.length ≤ c ∧ c ≤ maxLen) ∧ Rd w a (cI l) := by
  rcases Go.Deep.open_slice1 ht s1_cI h with ⟨rfl, _⟩ | ⟨a, len, cap, m, k, V, D, Pl, rfl, hb, hl, hc, hm, hx, hi⟩
  · exact ⟨none, [], 0, rfl, ⟨(fun _ => rfl), (fun hn => absurd rfl hn)⟩, ⟨Nat.le_refl _, Nat.zero_le _⟩, fun k v hv => by simp [cI] at hv⟩
  · have hml : len ≤ m := by rw [hm]; split <;> omega
    have hlen : ((List.range len).map (fun i => iof (V i))).length = len := by simp
    refine ⟨some a, (List.range len).map (fun i => iof (V i)), cap, by rw [hlen], ⟨(fun e => by cases e), fun hn q hq => ?_⟩, ⟨by rw [hlen]; exact hl, hc⟩, fun k v hv => ?_⟩
    · injection hq with hq
      subst hq
      rw [hlen] at hn
      have h0 := (hi 0 (by omega)).1
      have := World.cell?_spot h0
      simpa [Addr.add] using this
    · have hk : k < len := by
        have := (List.getElem?_eq_some_iff.1 hv).1
        simpa [cI] using this
      obtain ⟨h1, h2⟩ := hi k (by omega)
      obtain ⟨z, e, _, _⟩ := DataW.trod_int Try.underlying2 h2
      injection e with e
      have hs : a.spot = none := by
        have := World.cell?_spot (hi 0 (by omega)).1
        simpa [Addr.add] using this
      have ev : v = V k := by
        simp [cI, hk] at hv
        rw [← hv, e]
        rfl
      rw [ev]
      have ea : a.add k = ⟨bk (some a), ofs (some a) + k, none⟩ := by
        obtain ⟨bb, oo, ss⟩ := a
        simp only at hs
        subst hs
        unfold Addr.add
        split <;> simp_all [bk, ofs]
      rw [← ea]
      exact h1
end
section
variable {H : Type} {enc : TypeId × Value → H} {w : World} {base b0 : Nat} {spare : Nat → Bool} {held : Bool} {r : Reach}
theorem c_fit_0 : Try.prog.cellsOf 2 = 1 := by kernel_rfl
set_option maxRecDepth 100000 in
theorem op_fit {v : Value} {d : DataW H} {p : List MemPlace} (hv : Value.okWide Try.prog w r b0 42 v) (h : DataW.Trod enc Try.prog w base spare held 42 v d p) : ∃ (x0 : Int) (x1 : Int) (x2 : Int), v = .agg #[.int .i64 x0, .int .i64 x1, .int .i64 x2] ∧ (-9223372036854775808 ≤ x0 ∧ x0 ≤ 9223372036854775807) ∧ (-9223372036854775808 ≤ x1 ∧ x1 ≤ 9223372036854775807) ∧ (-9223372036854775808 ≤ x2 ∧ x2 ≤ 9223372036854775807) := by
  obtain ⟨cs, rfl, _⟩ := okWide_struct Try.underlying42 hv
  obtain ⟨fuel, h⟩ := h
  have hh : DataW.trod enc Try.prog w base spare held fuel 42 cs.toList = some (d, p) := by simpa [Value.cells] using h
  obtain ⟨xs, n', _, hx, hl, hxl, hf⟩ := DataW.trod_struct Try.underlying42 hh
  have hln : cs.toList.length = 3 := hl.trans (by kernel_rfl)
  obtain ⟨c0, c1, c2, ecs⟩ : ∃ c0 c1 c2, cs.toList = [c0, c1, c2] := by
    match cs.toList, hln with
    | [c0, c1, c2], _ => exact ⟨c0, c1, c2, rfl⟩
  obtain ⟨y0, y1, y2, rfl⟩ : ∃ y0 y1 y2, xs = [y0, y1, y2] := by
    match xs, hxl with
    | [y0, y1, y2], _ => exact ⟨y0, y1, y2, rfl⟩
  rw [ecs] at hf
  have h0 := hf 0 _ rfl
  have h1 := hf 1 _ rfl
  have h2 := hf 2 _ rfl
  simp only [c_fit_0, List.drop_succ_cons, List.drop_zero, List.take_succ_cons, List.take_zero, List.getElem?_cons_zero, List.getElem?_cons_succ] at h0 h1 h2
  obtain ⟨z0, e0, _, q0⟩ := DataW.trod_int Try.underlying2 h0
  obtain ⟨z1, e1, _, q1⟩ := DataW.trod_int Try.underlying2 h1
  obtain ⟨z2, e2, _, q2⟩ := DataW.trod_int Try.underlying2 h2
  injection e0 with e0
  injection e1 with e1
  injection e2 with e2
  subst e0 e1 e2
  refine ⟨z0, z1, z2, (by rw [← Array.toArray_toList (xs := cs), ecs]), (by simp [Lit.wf, IntKind.min, IntKind.max, IntKind.signed, IntKind.bits] at q0; omega), (by simp [Lit.wf, IntKind.min, IntKind.max, IntKind.signed, IntKind.bits] at q1; omega), (by simp [Lit.wf, IntKind.min, IntKind.max, IntKind.signed, IntKind.bits] at q2; omega)⟩
end

section
variable {H : Type} {enc : TypeId × Value → H} {w : World} {base b0 : Nat} {spare : Nat → Bool} {held : Bool} {r : Reach}
theorem op_i64 {v : Value} {d : DataW H} {p : List MemPlace} (hv : Value.okWide Try.prog w r b0 2 v) (h : DataW.Trod enc Try.prog w base spare held 2 v d p) : ∃ (x0 : Int), v = .int .i64 x0 ∧ (-9223372036854775808 ≤ x0 ∧ x0 ≤ 9223372036854775807) := by
  obtain ⟨n, rfl, _, _, hw⟩ := open_int Try.underlying2 hv h
  refine ⟨n, rfl, ?_⟩
  simp [Lit.wf, IntKind.min, IntKind.max, IntKind.signed, IntKind.bits] at hw
  omega
end

section
variable {H : Type} {enc : TypeId × Value → H} {w : World} {base b0 : Nat} {spare : Nat → Bool} {held : Bool} {r : Reach} {fuel : Nat} {x : DataW H × List MemPlace}
theorem op_pts30 {v : Value} {d : DataW H} {p : List MemPlace} (hv : Value.okWide Try.prog w r b0 40 v) (h : DataW.Trod enc Try.prog w base spare held 40 v d p) : ∃ (a : Option Addr) (l : List Pt) (c : Nat), v = .slice a l.length c ∧ AOK a l.length ∧ (l.length ≤ c ∧ c ≤ maxLen) ∧ Rd w a (cPt l) := by
  obtain ⟨a, n, c, rfl⟩ := okWide_slice Try.underlying40 hv
  obtain ⟨fuel, h⟩ := h
  have hh : DataW.trod enc Try.prog w base spare held fuel 40 [.slice a n c] = some (d, p) := by simpa [Value.cells] using h
  obtain ⟨a', l, c', e, f0, f1, f2, _⟩ := ol_cPt Try.underlying40 hh
  simp only [List.cons.injEq, and_true] at e
  exact ⟨a', l, c', e, f0, f1, f2⟩
theorem op_ints {v : Value} {d : DataW H} {p : List MemPlace} (hv : Value.okWide Try.prog w r b0 23 v) (h : DataW.Trod enc Try.prog w base spare held 23 v d p) : ∃ (a : Option Addr) (l : List Int) (c : Nat), v = .slice a l.length c ∧ AOK a l.length ∧ (l.length ≤ c ∧ c ≤ maxLen) ∧ Rd w a (cI l) := by
  obtain ⟨a, n, c, rfl⟩ := okWide_slice Try.underlying23 hv
  obtain ⟨fuel, h⟩ := h
  have hh : DataW.trod enc Try.prog w base spare held fuel 23 [.slice a n c] = some (d, p) := by simpa [Value.cells] using h
  obtain ⟨a', l, c', e, f0, f1, f2⟩ := ol_cI Try.underlying23 hh
  simp only [List.cons.injEq, and_true] at e
  exact ⟨a', l, c', e, f0, f1, f2⟩
theorem s1_row : Try.prog.cellsOf 23 = 1 := by kernel_rfl
/-- What is known of the rows. -/
def RwOK (w : World) (R : List Rw) : Prop := ∀ r ∈ R, AOK r.a r.l.length ∧ (r.l.length ≤ r.c ∧ r.c ≤ maxLen) ∧ Rd w r.a (cI r.l)
set_option maxRecDepth 100000 in
theorem ol_mat {t : TypeId} {cs : List Value} (ht : Try.prog.underlying t = some (.slice 23)) (h : DataW.trod enc Try.prog w base spare held fuel t cs = some x) :
    ∃ (a : Option Addr) (R : List Rw) (c : Nat), cs = [.slice a R.length c] ∧ AOK a R.length ∧ (R.length ≤ c ∧ c ≤ maxLen) ∧ Rd w a (cRw R) ∧ RwOK w R := by
  rcases Go.Deep.open_slice1 ht s1_row h with ⟨rfl, _⟩ | ⟨a, len, cap, m, k, V, D, Pl, rfl, hb, hl, hc, hm, hx, hi⟩
  · exact ⟨none, [], 0, rfl, ⟨(fun _ => rfl), (fun hn => absurd rfl hn)⟩, ⟨Nat.le_refl _, Nat.zero_le _⟩, (fun k v hv => by simp [cRw] at hv), (fun r hr => by cases hr)⟩
  · have hml : len ≤ m := by rw [hm]; split <;> omega
    obtain ⟨R, hR, hq⟩ := list_of (fun i (r : Rw) => V i = .slice r.a r.l.length r.c ∧ AOK r.a r.l.length ∧ (r.l.length ≤ r.c ∧ r.c ≤ maxLen) ∧ Rd w r.a (cI r.l)) len (fun i hi2 => by
      obtain ⟨_, h2⟩ := hi i (by omega)
      obtain ⟨a', l, c', e, f0, f1, f2⟩ := ol_cI Try.underlying23 h2
      injection e with e
      exact ⟨⟨a', l, c'⟩, e, f0, f1, f2⟩)
    refine ⟨some a, R, cap, by rw [hR], ⟨(fun e => by cases e), fun hn q hq => ?_⟩, ⟨by rw [hR]; exact hl, hc⟩, (fun k v hv => ?_), (fun r hr => ?_)⟩
    · injection hq with hq
      subst hq
      rw [hR] at hn
      have h0 := (hi 0 (by omega)).1
      have := World.cell?_spot h0
      simpa [Addr.add] using this
    · have hk : k < len := by
        have := (List.getElem?_eq_some_iff.1 hv).1
        simpa [cRw, hR] using this
      obtain ⟨h1, h2⟩ := hi k (by omega)
      have hs : a.spot = none := by
        have := World.cell?_spot (hi 0 (by omega)).1
        simpa [Addr.add] using this
      have hkR : k < R.length := by omega
      have e := (hq k R[k] (by simp [hkR])).1
      have ev : v = V k := by
        simp [cRw, hkR] at hv
        rw [← hv, e]
      rw [ev]
      have ea : a.add k = ⟨bk (some a), ofs (some a) + k, none⟩ := by
        obtain ⟨bb, oo, ss⟩ := a
        simp only at hs
        subst hs
        unfold Addr.add
        split <;> simp_all [bk, ofs]
      rw [← ea]
      exact h1
    · obtain ⟨i, hi2, rfl⟩ := List.mem_iff_getElem.1 hr
      exact (hq i R[i] (by simp [hi2])).2
theorem op_mat {v : Value} {d : DataW H} {p : List MemPlace} (hv : Value.okWide Try.prog w r b0 22 v) (h : DataW.Trod enc Try.prog w base spare held 22 v d p) : ∃ (a : Option Addr) (R : List Rw) (c : Nat), v = .slice a R.length c ∧ AOK a R.length ∧ (R.length ≤ c ∧ c ≤ maxLen) ∧ Rd w a (cRw R) ∧ RwOK w R := by
  obtain ⟨a, n, c, rfl⟩ := okWide_slice Try.underlying22 hv
  obtain ⟨fuel, h⟩ := h
  have hh : DataW.trod enc Try.prog w base spare held fuel 22 [.slice a n c] = some (d, p) := by simpa [Value.cells] using h
  obtain ⟨a', l, c', e, f0, f1, f2, f3⟩ := ol_mat Try.underlying22 hh
  simp only [List.cons.injEq, and_true] at e
  exact ⟨a', l, c', e, f0, f1, f2, f3⟩
end
theorem of_rd {P : Program} {f : FuncId} {args : Array Value} {v : Value} {w : World} {rds : List (Option Addr × List Value)} (h : SpecG P [] rds f args [] (fun _ => v)) (hr : ∀ a xs, (a, xs) ∈ rds → Rd w a xs) : Calls P f args w fun e w' => e = .returned v ∧ Below w.heap.size w w' :=
  (h w (ext_nil w) hr).mono fun e w' ⟨_, he, _, hb⟩ => ⟨he, hb⟩
theorem rd1 {w : World} {a : Option Addr} {xs : List Value} (h : Rd w a xs) : ∀ b ys, (b, ys) ∈ [(a, xs)] → Rd w b ys := by
  intro b ys hm
  rw [List.mem_singleton] at hm
  injection hm with e1 e2
  subst e1 e2
  exact h
theorem rdc {w : World} {a : Option Addr} {xs : List Value} {l : List (Option Addr × List Value)} (h : Rd w a xs) (hl : ∀ b ys, (b, ys) ∈ l → Rd w b ys) : ∀ b ys, (b, ys) ∈ (a, xs) :: l → Rd w b ys := by
  intro b ys hm
  rcases List.mem_cons.1 hm with e | e
  · injection e with e1 e2
    subst e1 e2
    exact h
  · exact hl _ _ e
theorem len_m {n c : Nat} (h : n ≤ c ∧ c ≤ maxLen) : n ≤ 9223372036854775807 := by have := h.1; have := h.2; unfold maxLen at *; omega
end Go.Proofs.Ytjmfhcloicembaa
