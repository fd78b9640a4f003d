/- Openers of rules; the step from a walk over contracts to a law's card (layer 5). -/
import Derived.Test.YtjdldofgkhibnaaGreatDoorLiftT
import Derived.Test.YtjdldofgkhibnaaGreatDoorBrg
import Derived.Test.YtjdldofgkhibnaaGreatDoorRda
import Derived.Deep.Fields
import Derived.Deep.Slices
set_option linter.unusedSimpArgs false
set_option linter.unusedVariables false
set_option maxRecDepth 100000
namespace Go.Proofs.YtjdldofgkhibnaaGreatDoor
open Go.ChangeShapes Go.WideShapes Go.ChangeAt Go.RowKit Go.Joins

theorem list_of {α : Type} (Q : Nat → α → Prop) : ∀ n, (∀ i, i < n → ∃ a, Q i a) → ∃ l : List α, l.length = n ∧ ∀ i a, l[i]? = some a → Q i a := by
  intro n
  induction n with
  | zero => intro _; exact ⟨[], rfl, fun i a h => by simp at h⟩
  | succ n ih =>
    intro h
    obtain ⟨l, hl, hq⟩ := ih (fun i hi => h i (by omega))
    obtain ⟨a, ha⟩ := h n (by omega)
    refine ⟨l ++ [a], by simp [hl], fun i b hb => ?_⟩
    by_cases hi : i < l.length
    · rw [List.getElem?_append_left hi] at hb; exact hq i b hb
    · rw [List.getElem?_append_right (by omega)] at hb
      have h0 : i - l.length = 0 := by
        have := (List.getElem?_eq_some_iff.1 hb).1
        simp at this; omega
      rw [h0] at hb
      simp at hb
      subst hb
      have : i = n := by omega
      subst this; exact ha
def iof : Value → Int
  | .int _ n => n
  | _ => 0
def bof : Value → Bool
  | .bool b => b
  | _ => false
section
variable {H : Type} {enc : TypeId × Value → H} {w : World} {base b0 : Nat} {spare : Nat → Bool} {held : Bool} {r : Reach} {fuel : Nat} {x : DataW H × List MemPlace}
theorem q_pha_0 : Tryz.prog.cellsOf 3 = 1 := by kernel_rfl
set_option maxRecDepth 100000 in
theorem oc_pha {cs : List Value} (h : DataW.trod enc Tryz.prog w base spare held fuel 49 cs = some x) : ∃ (z0 : Int) (z1 : Int) (z2 : Int), cs = [.int .i64 z0, .int .i64 z1, .int .i64 z2] ∧ (-9223372036854775808 ≤ z0 ∧ z0 ≤ 9223372036854775807) ∧ (-9223372036854775808 ≤ z1 ∧ z1 ≤ 9223372036854775807) ∧ (-9223372036854775808 ≤ z2 ∧ z2 ≤ 9223372036854775807) := by
  obtain ⟨xs, n2, _, _, hl, hxl, hf⟩ := DataW.trod_struct Tryz.underlying49 h
  have hln : cs.length = 3 := hl.trans (by kernel_rfl)
  obtain ⟨c0, c1, c2, rfl⟩ : ∃ c0 c1 c2, cs = [c0, c1, c2] := by
    match cs, hln with
    | [c0, c1, c2], _ => exact ⟨c0, c1, c2, rfl⟩
  obtain ⟨y0, y1, y2, rfl⟩ : ∃ y0 y1 y2, xs = [y0, y1, y2] := by
    match xs, hxl with
    | [y0, y1, y2], _ => exact ⟨y0, y1, y2, rfl⟩
  have h0 := hf 0 _ rfl
  have h1 := hf 1 _ rfl
  have h2 := hf 2 _ rfl
  simp only [q_pha_0, List.drop_succ_cons, List.drop_zero, List.take_succ_cons, List.take_zero, List.getElem?_cons_zero, List.getElem?_cons_succ] at h0 h1 h2
  obtain ⟨z0, e0, _, g0⟩ := DataW.trod_int Tryz.underlying3 h0
  injection e0 with e0
  subst e0
  obtain ⟨z1, e1, _, g1⟩ := DataW.trod_int Tryz.underlying3 h1
  injection e1 with e1
  subst e1
  obtain ⟨z2, e2, _, g2⟩ := DataW.trod_int Tryz.underlying3 h2
  injection e2 with e2
  subst e2
  exact ⟨z0, z1, z2, rfl, (by simp [Lit.wf, IntKind.min, IntKind.max, IntKind.signed, IntKind.bits] at g0; omega), (by simp [Lit.wf, IntKind.min, IntKind.max, IntKind.signed, IntKind.bits] at g1; omega), (by simp [Lit.wf, IntKind.min, IntKind.max, IntKind.signed, IntKind.bits] at g2; omega)⟩
end

section
variable {H : Type} {enc : TypeId × Value → H} {w : World} {base b0 : Nat} {spare : Nat → Bool} {held : Bool} {r : Reach} {fuel : Nat} {x : DataW H × List MemPlace}
theorem s1_cP : Tryz.prog.cellsOf 49 = 3 := by kernel_rfl
set_option maxRecDepth 100000 in
theorem ol_cP {t : TypeId} {cs : List Value} (ht : Tryz.prog.underlying t = some (.slice 49)) (h : DataW.trod enc Tryz.prog w base spare held fuel t cs = some x) :
    ∃ (a : Option Addr) (l : List Ph) (c : Nat), cs = [.slice a l.length c] ∧ AOK a l.length ∧ l.length ≤ c ∧ Rd w a (cP l) := by
  rcases Go.Deep.open_slice ht h with ⟨rfl, _⟩ | ⟨a, len, cap, m, k, D, Pl, rfl, hb, hl, hc, hm, hx, hi⟩
  · exact ⟨none, [], 0, rfl, ⟨(fun _ => rfl), (fun hn => absurd rfl hn)⟩, Nat.le_refl _, (fun k v hv => by simp [cP] at hv)⟩
  · have hml : len ≤ m := by rw [hm]; split <;> omega
    obtain ⟨l, hll, hq⟩ := list_of (fun i (e : Ph) => (∀ j, j < 3 → w.cell? ((a.add (i * 3)).add j) = some (cP_rd [e] 0 j))) len (fun i hil => by
      obtain ⟨cs', h1, h2⟩ := hi i (by omega)
      rw [s1_cP] at h1
      obtain ⟨z0, z1, z2, rfl, f0, f1, f2⟩ := oc_pha h2
      obtain ⟨_, _, hat⟩ := World.cells?_some h1
      refine ⟨⟨z0, z1, z2⟩, ?_⟩
      intro j hj
      rw [hat j hj]
      have : j = 0 ∨ j = 1 ∨ j = 2 := by omega
      rcases this with rfl | rfl | rfl <;> rfl)
    have hsp : len ≠ 0 → a.spot = none := fun hn => by
      obtain ⟨e, he⟩ : ∃ e, l[0]? = some e := by cases l with | nil => simp at hll; omega | cons e r => exact ⟨e, rfl⟩
      have := World.cell?_spot (hq 0 e he 0 (by omega))
      simpa [Addr.add] using this
    refine ⟨some a, l, cap, by rw [hll], ⟨(fun e => by cases e), fun hn q hq => ?_⟩, by rw [hll]; exact hl, (fun k v hv => ?_)⟩
    · injection hq with hq
      subst hq
      exact hsp (by rw [← hll]; exact hn)
    · have hk : k < l.length * 3 := by
        have := (List.getElem?_eq_some_iff.1 hv).1
        rwa [cP_len] at this
      have hk1 : k / 3 < l.length := by omega
      have hk2 : k % 3 < 3 := by omega
      have hk3 : k / 3 * 3 + k % 3 = k := by omega
      have hv2 := cP_at hk1 hk2
      rw [hk3] at hv2
      rw [hv2] at hv
      injection hv with hv
      have he : l[k / 3]? = some l[k / 3] := by simp [hk1]
      have hc1 := hq _ _ he (k % 3) hk2
      have e1 : cP_rd l (k / 3) (k % 3) = cP_rd [l[k / 3]] 0 (k % 3) := by
        have : k % 3 = 0 ∨ k % 3 = 1 ∨ k % 3 = 2 := by omega
        rcases this with e | e | e <;> rw [e] <;> simp [cP_rd, hk1]
      rw [← hv, e1, ← hc1]
      have hs := hsp (by omega)
      obtain ⟨bb, oo, ss⟩ := a
      simp only at hs
      subst hs
      congr 1
      rw [Go.Deep.add_add]
      unfold Addr.add
      by_cases hz : k / 3 * 3 + k % 3 = 0
      · rw [if_pos hz]; simp [bk, ofs]; omega
      · rw [if_neg hz]; simp [bk, ofs]; omega
end

section
variable {H : Type} {enc : TypeId × Value → H} {w : World} {base b0 : Nat} {spare : Nat → Bool} {held : Bool} {r : Reach} {fuel : Nat} {x : DataW H × List MemPlace}
theorem q_rul_0 : Tryz.prog.cellsOf 9 = 1 := by kernel_rfl
theorem q_rul_1 : Tryz.prog.cellsOf 3 = 1 := by kernel_rfl
theorem q_rul_2 : Tryz.prog.cellsOf 4 = 1 := by kernel_rfl
theorem q_rul_3 : Tryz.prog.cellsOf 22 = 1 := by kernel_rfl
set_option maxRecDepth 100000 in
theorem oc_rul {cs : List Value} (h : DataW.trod enc Tryz.prog w base spare held fuel 24 cs = some x) : ∃ (z0 : ByteArray) (z1 : Int) (z2 : Int) (z3 : Int) (z4 : Int) (z5 : Int) (z6 : Int) (z7 : Int) (z8 : Bool) (z9 : Int) (z10 : Int) (z11 : Int) (z12 : Int) (z13a : Option Addr) (z13l : List Ph) (z13c : Nat), cs = [.string z0, .int .i64 z1, .int .i64 z2, .int .i64 z3, .int .i64 z4, .int .i64 z5, .int .i64 z6, .int .i64 z7, .bool z8, .int .i64 z9, .int .i64 z10, .int .i64 z11, .int .i64 z12, .slice z13a z13l.length z13c] ∧ z0.size ≤ maxLen ∧ (-9223372036854775808 ≤ z1 ∧ z1 ≤ 9223372036854775807) ∧ (-9223372036854775808 ≤ z2 ∧ z2 ≤ 9223372036854775807) ∧ (-9223372036854775808 ≤ z3 ∧ z3 ≤ 9223372036854775807) ∧ (-9223372036854775808 ≤ z4 ∧ z4 ≤ 9223372036854775807) ∧ (-9223372036854775808 ≤ z5 ∧ z5 ≤ 9223372036854775807) ∧ (-9223372036854775808 ≤ z6 ∧ z6 ≤ 9223372036854775807) ∧ (-9223372036854775808 ≤ z7 ∧ z7 ≤ 9223372036854775807) ∧ (-9223372036854775808 ≤ z9 ∧ z9 ≤ 9223372036854775807) ∧ (-9223372036854775808 ≤ z10 ∧ z10 ≤ 9223372036854775807) ∧ (-9223372036854775808 ≤ z11 ∧ z11 ≤ 9223372036854775807) ∧ (-9223372036854775808 ≤ z12 ∧ z12 ≤ 9223372036854775807) ∧ AOK z13a z13l.length ∧ z13l.length ≤ z13c ∧ Rd w z13a (cP z13l) := by
  obtain ⟨xs, n2, _, _, hl, hxl, hf⟩ := DataW.trod_struct Tryz.underlying24 h
  have hln : cs.length = 14 := hl.trans (by kernel_rfl)
  obtain ⟨c0, c1, c2, c3, c4, c5, c6, c7, c8, c9, c10, c11, c12, c13, rfl⟩ : ∃ c0 c1 c2 c3 c4 c5 c6 c7 c8 c9 c10 c11 c12 c13, cs = [c0, c1, c2, c3, c4, c5, c6, c7, c8, c9, c10, c11, c12, c13] := by
    match cs, hln with
    | [c0, c1, c2, c3, c4, c5, c6, c7, c8, c9, c10, c11, c12, c13], _ => exact ⟨c0, c1, c2, c3, c4, c5, c6, c7, c8, c9, c10, c11, c12, c13, rfl⟩
  obtain ⟨y0, y1, y2, y3, y4, y5, y6, y7, y8, y9, y10, y11, y12, y13, rfl⟩ : ∃ y0 y1 y2 y3 y4 y5 y6 y7 y8 y9 y10 y11 y12 y13, xs = [y0, y1, y2, y3, y4, y5, y6, y7, y8, y9, y10, y11, y12, y13] := by
    match xs, hxl with
    | [y0, y1, y2, y3, y4, y5, y6, y7, y8, y9, y10, y11, y12, y13], _ => exact ⟨y0, y1, y2, y3, y4, y5, y6, y7, y8, y9, y10, y11, y12, y13, rfl⟩
  have h0 := hf 0 _ rfl
  have h1 := hf 1 _ rfl
  have h2 := hf 2 _ rfl
  have h3 := hf 3 _ rfl
  have h4 := hf 4 _ rfl
  have h5 := hf 5 _ rfl
  have h6 := hf 6 _ rfl
  have h7 := hf 7 _ rfl
  have h8 := hf 8 _ rfl
  have h9 := hf 9 _ rfl
  have h10 := hf 10 _ rfl
  have h11 := hf 11 _ rfl
  have h12 := hf 12 _ rfl
  have h13 := hf 13 _ rfl
  simp only [q_rul_0, q_rul_1, q_rul_2, q_rul_3, List.drop_succ_cons, List.drop_zero, List.take_succ_cons, List.take_zero, List.getElem?_cons_zero, List.getElem?_cons_succ] at h0 h1 h2 h3 h4 h5 h6 h7 h8 h9 h10 h11 h12 h13
  obtain ⟨z0, e0, _, g0⟩ := DataW.trod_string Tryz.underlying9 h0
  injection e0 with e0
  subst e0
  obtain ⟨z1, e1, _, g1⟩ := DataW.trod_int Tryz.underlying3 h1
  injection e1 with e1
  subst e1
  obtain ⟨z2, e2, _, g2⟩ := DataW.trod_int Tryz.underlying3 h2
  injection e2 with e2
  subst e2
  obtain ⟨z3, e3, _, g3⟩ := DataW.trod_int Tryz.underlying3 h3
  injection e3 with e3
  subst e3
  obtain ⟨z4, e4, _, g4⟩ := DataW.trod_int Tryz.underlying3 h4
  injection e4 with e4
  subst e4
  obtain ⟨z5, e5, _, g5⟩ := DataW.trod_int Tryz.underlying3 h5
  injection e5 with e5
  subst e5
  obtain ⟨z6, e6, _, g6⟩ := DataW.trod_int Tryz.underlying3 h6
  injection e6 with e6
  subst e6
  obtain ⟨z7, e7, _, g7⟩ := DataW.trod_int Tryz.underlying3 h7
  injection e7 with e7
  subst e7
  obtain ⟨z8, e8, _⟩ := DataW.trod_bool Tryz.underlying4 h8
  injection e8 with e8
  subst e8
  obtain ⟨z9, e9, _, g9⟩ := DataW.trod_int Tryz.underlying3 h9
  injection e9 with e9
  subst e9
  obtain ⟨z10, e10, _, g10⟩ := DataW.trod_int Tryz.underlying3 h10
  injection e10 with e10
  subst e10
  obtain ⟨z11, e11, _, g11⟩ := DataW.trod_int Tryz.underlying3 h11
  injection e11 with e11
  subst e11
  obtain ⟨z12, e12, _, g12⟩ := DataW.trod_int Tryz.underlying3 h12
  injection e12 with e12
  subst e12
  obtain ⟨z13a, z13l, z13c, e13, g13, u13, v13⟩ := ol_cP Tryz.underlying22 h13
  injection e13 with e13
  subst e13
  exact ⟨z0, z1, z2, z3, z4, z5, z6, z7, z8, z9, z10, z11, z12, z13a, z13l, z13c, rfl, g0, (by simp [Lit.wf, IntKind.min, IntKind.max, IntKind.signed, IntKind.bits] at g1; omega), (by simp [Lit.wf, IntKind.min, IntKind.max, IntKind.signed, IntKind.bits] at g2; omega), (by simp [Lit.wf, IntKind.min, IntKind.max, IntKind.signed, IntKind.bits] at g3; omega), (by simp [Lit.wf, IntKind.min, IntKind.max, IntKind.signed, IntKind.bits] at g4; omega), (by simp [Lit.wf, IntKind.min, IntKind.max, IntKind.signed, IntKind.bits] at g5; omega), (by simp [Lit.wf, IntKind.min, IntKind.max, IntKind.signed, IntKind.bits] at g6; omega), (by simp [Lit.wf, IntKind.min, IntKind.max, IntKind.signed, IntKind.bits] at g7; omega), (by simp [Lit.wf, IntKind.min, IntKind.max, IntKind.signed, IntKind.bits] at g9; omega), (by simp [Lit.wf, IntKind.min, IntKind.max, IntKind.signed, IntKind.bits] at g10; omega), (by simp [Lit.wf, IntKind.min, IntKind.max, IntKind.signed, IntKind.bits] at g11; omega), (by simp [Lit.wf, IntKind.min, IntKind.max, IntKind.signed, IntKind.bits] at g12; omega), g13, u13, v13⟩
end

section
variable {H : Type} {enc : TypeId × Value → H} {w : World} {base b0 : Nat} {spare : Nat → Bool} {held : Bool} {r : Reach}
theorem op_i32 {v : Value} {d : DataW H} {p : List MemPlace} (hv : Value.okWide Tryz.prog w r b0 21 v) (h : DataW.Trod enc Tryz.prog w base spare held 21 v d p) : ∃ (x0 : Int), v = .int .i32 x0 ∧ (-2147483648 ≤ x0 ∧ x0 ≤ 2147483647) := by
  obtain ⟨n, rfl, _, _, hw⟩ := open_int Tryz.underlying21 hv h
  refine ⟨n, rfl, ?_⟩
  simp [Lit.wf, IntKind.min, IntKind.max, IntKind.signed, IntKind.bits] at hw
  omega
end

section
variable {H : Type} {enc : TypeId × Value → H} {w : World} {base b0 : Nat} {spare : Nat → Bool} {held : Bool} {r : Reach}
set_option maxRecDepth 20000 in
theorem op_str {v : Value} {d : DataW H} {p : List MemPlace} (hv : Value.okWide Tryz.prog w r b0 9 v) (h : DataW.Trod enc Tryz.prog w base spare held 9 v d p) : ∃ (x0 : ByteArray), v = .string x0 ∧ (x0.size ≤ maxLen) := by
  obtain ⟨s, rfl, _, _, hs⟩ := Go.ChangeMaps.open_string (P := Tryz.prog) Tryz.underlying9 hv h
  exact ⟨s, rfl, hs⟩
end

theorem rd_take {w : World} {a : Option Addr} {xs : List Value} (h : Rd w a xs) (n : Nat) : Rd w a (xs.take n) := by
  intro k v hv
  rw [List.getElem?_take] at hv
  split at hv
  · exact h k v hv
  · cases hv
theorem ih' (l : List Ph) (m : Nat) : cP (l.take m) = (cP l).take (m * 3) := by
  induction l generalizing m with
  | nil => simp [cP]
  | cons p l ih =>
    cases m with
    | zero => simp [cP]
    | succ n =>
      have e1 : cP (p :: l) = [.int .i64 p.pf, .int .i64 p.pt, .int .i64 p.po] ++ cP l := rfl
      have e2 : cP ((p :: l).take (n + 1)) = [.int .i64 p.pf, .int .i64 p.pt, .int .i64 p.po] ++ cP (l.take n) := rfl
      rw [e1, e2, ih n]
      have : (n + 1) * 3 = n * 3 + 3 := by omega
      rw [this]
      simp
theorem rd_pw {w : World} {a : Option Addr} {l : List Ph} (h : Rd w a (cP l)) (n : Nat) : Rd w a (cP (l.take n)) := by
  have e := ih' l n
  rw [e]
  exact rd_take h _
section
variable {H : Type} {enc : TypeId × Value → H} {w : World} {base b0 : Nat} {spare : Nat → Bool} {held : Bool} {r : Reach} {fuel : Nat} {x : DataW H × List MemPlace}
theorem op_rul {v : Value} {d : DataW H} {p : List MemPlace} (hv : Value.okWide Tryz.prog w r b0 24 v) (h : DataW.Trod enc Tryz.prog w base spare held 24 v d p) : ∃ (q : Rul) (B : RAd), v = ruV q B ∧ AOK B.a q.pw.length ∧ q.pw.length ≤ B.c ∧ Rd w B.a (cP q.pw) := by
  obtain ⟨cs, rfl, _⟩ := okWide_struct Tryz.underlying24 hv
  obtain ⟨fuel, h⟩ := h
  have hh : DataW.trod enc Tryz.prog w base spare held fuel 24 cs.toList = some (d, p) := by simpa [Value.cells] using h
  obtain ⟨z0, z1, z2, z3, z4, z5, z6, z7, z8, z9, z10, z11, z12, z13a, z13l, z13c, ecs, f0, f1, f2, f3, f4, f5, f6, f7, f8, f9, f10, f11, f12, f13, f14⟩ := oc_rul hh
  refine ⟨⟨z0, z1, z2, z3, z4, z5, z6, z7, z8, z9, z10, z11, z12, z13l⟩, ⟨z13a, z13c⟩, ?_, f12, f13, f14⟩
  rw [← Array.toArray_toList (xs := cs), ecs]
  rfl
end

end Go.Proofs.YtjdldofgkhibnaaGreatDoor
