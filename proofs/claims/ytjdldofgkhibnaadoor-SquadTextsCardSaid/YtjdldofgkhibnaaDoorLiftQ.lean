/- Openers of sides and of rules (layer 6). -/
import Derived.Test.YtjdldofgkhibnaaDoorLiftS
import Derived.Test.YtjdldofgkhibnaaDoorBrg
import Derived.Test.YtjdldofgkhibnaaDoorRda
import Derived.Test.YtjdldofgkhibnaaDoorSqw
import Derived.Deep.Fields
import Derived.Deep.Slices
set_option linter.unusedSimpArgs false
set_option linter.unusedVariables false
set_option maxRecDepth 100000
namespace Go.Proofs.YtjdldofgkhibnaaDoor
open Go.ChangeShapes Go.WideShapes Go.ChangeAt Go.RowKit Go.Joins

theorem list_of {α : Type} (Q : Nat → α → Prop) : ∀ n, (∀ i, i < n → ∃ a, Q i a) → ∃ l : List α, l.length = n ∧ ∀ i a, l[i]? = some a → Q i a := by
  intro n
  induction n with
  | zero => intro _; exact ⟨[], rfl, fun i a h => by simp at h⟩
  | succ n ih =>
    intro h
    obtain ⟨l, hl, hq⟩ := ih (fun i hi => h i (by omega))
    obtain ⟨a, ha⟩ := h n (by omega)
    refine ⟨l ++ [a], by simp [hl], fun i b hb => ?_⟩
    by_cases hi : i < l.length
    · rw [List.getElem?_append_left hi] at hb; exact hq i b hb
    · rw [List.getElem?_append_right (by omega)] at hb
      have h0 : i - l.length = 0 := by
        have := (List.getElem?_eq_some_iff.1 hb).1
        simp at this; omega
      rw [h0] at hb
      simp at hb
      subst hb
      have : i = n := by omega
      subst this; exact ha
def iof : Value → Int
  | .int _ n => n
  | _ => 0
def sof : Value → ByteArray
  | .string b => b
  | _ => ⟨#[]⟩
def bof : Value → Bool
  | .bool b => b
  | _ => false
section
variable {H : Type} {enc : TypeId × Value → H} {w : World} {base b0 : Nat} {spare : Nat → Bool} {held : Bool} {r : Reach} {fuel : Nat} {x : DataW H × List MemPlace}
theorem s1_cS : Tryd.prog.cellsOf 9 = 1 := by kernel_rfl
set_option maxRecDepth 100000 in
theorem ol_cS {t : TypeId} {cs : List Value} (ht : Tryd.prog.underlying t = some (.slice 9)) (h : DataW.trod enc Tryd.prog w base spare held fuel t cs = some x) :
    ∃ (a : Option Addr) (l : List ByteArray) (c : Nat), cs = [.slice a l.length c] ∧ AOK a l.length ∧ l.length ≤ c ∧ Rd w a (cS l) := by
  rcases Go.Deep.open_slice1 ht s1_cS h with ⟨rfl, _⟩ | ⟨a, len, cap, m, k, V, D, Pl, rfl, hb, hl, hc, hm, hx, hi⟩
  · exact ⟨none, [], 0, rfl, ⟨(fun _ => rfl), (fun hn => absurd rfl hn)⟩, Nat.le_refl _, fun k v hv => by simp [cS] at hv⟩
  · have hml : len ≤ m := by rw [hm]; split <;> omega
    have hlen : ((List.range len).map (fun i => sof (V i))).length = len := by simp
    refine ⟨some a, (List.range len).map (fun i => sof (V i)), cap, by rw [hlen], ⟨(fun e => by cases e), fun hn q hq => ?_⟩, by rw [hlen]; exact hl, fun k v hv => ?_⟩
    · injection hq with hq
      subst hq
      rw [hlen] at hn
      have h0 := (hi 0 (by omega)).1
      have := World.cell?_spot h0
      simpa [Addr.add] using this
    · have hk : k < len := by
        have := (List.getElem?_eq_some_iff.1 hv).1
        simpa [cS] using this
      obtain ⟨h1, h2⟩ := hi k (by omega)
      obtain ⟨z, e, _, _⟩ := DataW.trod_string Tryd.underlying9 h2
      injection e with e
      have hs : a.spot = none := by
        have := World.cell?_spot (hi 0 (by omega)).1
        simpa [Addr.add] using this
      have ev : v = V k := by
        simp [cS, hk] at hv
        rw [← hv, e]
        rfl
      rw [ev]
      have ea : a.add k = ⟨bk (some a), ofs (some a) + k, none⟩ := by
        obtain ⟨bb, oo, ss⟩ := a
        simp only at hs
        subst hs
        unfold Addr.add
        split <;> simp_all [bk, ofs]
      rw [← ea]
      exact h1
end

section
variable {H : Type} {enc : TypeId × Value → H} {w : World} {base b0 : Nat} {spare : Nat → Bool} {held : Bool} {r : Reach} {fuel : Nat} {x : DataW H × List MemPlace}
theorem q_squ_0 : Tryd.prog.cellsOf 9 = 1 := by kernel_rfl
theorem q_squ_1 : Tryd.prog.cellsOf 22 = 1 := by kernel_rfl
theorem q_squ_2 : Tryd.prog.cellsOf 3 = 1 := by kernel_rfl
set_option maxRecDepth 100000 in
theorem oc_squ {cs : List Value} (h : DataW.trod enc Tryd.prog w base spare held fuel 24 cs = some x) : ∃ (z0 : ByteArray) (z1a : Option Addr) (z1l : List ByteArray) (z1c : Nat) (z2 : Int) (z3 : Int), cs = [.string z0, .slice z1a z1l.length z1c, .int .i64 z2, .int .i64 z3] ∧ z0.size ≤ maxLen ∧ AOK z1a z1l.length ∧ z1l.length ≤ z1c ∧ Rd w z1a (cS z1l) ∧ (-9223372036854775808 ≤ z2 ∧ z2 ≤ 9223372036854775807) ∧ (-9223372036854775808 ≤ z3 ∧ z3 ≤ 9223372036854775807) := by
  obtain ⟨xs, n2, _, _, hl, hxl, hf⟩ := DataW.trod_struct Tryd.underlying24 h
  have hln : cs.length = 4 := hl.trans (by kernel_rfl)
  obtain ⟨c0, c1, c2, c3, rfl⟩ : ∃ c0 c1 c2 c3, cs = [c0, c1, c2, c3] := by
    match cs, hln with
    | [c0, c1, c2, c3], _ => exact ⟨c0, c1, c2, c3, rfl⟩
  obtain ⟨y0, y1, y2, y3, rfl⟩ : ∃ y0 y1 y2 y3, xs = [y0, y1, y2, y3] := by
    match xs, hxl with
    | [y0, y1, y2, y3], _ => exact ⟨y0, y1, y2, y3, rfl⟩
  have h0 := hf 0 _ rfl
  have h1 := hf 1 _ rfl
  have h2 := hf 2 _ rfl
  have h3 := hf 3 _ rfl
  simp only [q_squ_0, q_squ_1, q_squ_2, List.drop_succ_cons, List.drop_zero, List.take_succ_cons, List.take_zero, List.getElem?_cons_zero, List.getElem?_cons_succ] at h0 h1 h2 h3
  obtain ⟨z0, e0, _, g0⟩ := DataW.trod_string Tryd.underlying9 h0
  injection e0 with e0
  subst e0
  obtain ⟨z1a, z1l, z1c, e1, g1, u1, v1⟩ := ol_cS Tryd.underlying22 h1
  injection e1 with e1
  subst e1
  obtain ⟨z2, e2, _, g2⟩ := DataW.trod_int Tryd.underlying3 h2
  injection e2 with e2
  subst e2
  obtain ⟨z3, e3, _, g3⟩ := DataW.trod_int Tryd.underlying3 h3
  injection e3 with e3
  subst e3
  exact ⟨z0, z1a, z1l, z1c, z2, z3, rfl, g0, g1, u1, v1, (by simp [Lit.wf, IntKind.min, IntKind.max, IntKind.signed, IntKind.bits] at g2; omega), (by simp [Lit.wf, IntKind.min, IntKind.max, IntKind.signed, IntKind.bits] at g3; omega)⟩
end

section
variable {H : Type} {enc : TypeId × Value → H} {w : World} {base b0 : Nat} {spare : Nat → Bool} {held : Bool} {r : Reach}
theorem op_int {v : Value} {d : DataW H} {p : List MemPlace} (hv : Value.okWide Tryd.prog w r b0 3 v) (h : DataW.Trod enc Tryd.prog w base spare held 3 v d p) : ∃ (x0 : Int), v = .int .i64 x0 ∧ (-9223372036854775808 ≤ x0 ∧ x0 ≤ 9223372036854775807) := by
  obtain ⟨n, rfl, _, _, hw⟩ := open_int Tryd.underlying3 hv h
  refine ⟨n, rfl, ?_⟩
  simp [Lit.wf, IntKind.min, IntKind.max, IntKind.signed, IntKind.bits] at hw
  omega
end

section
variable {H : Type} {enc : TypeId × Value → H} {w : World} {base b0 : Nat} {spare : Nat → Bool} {held : Bool} {r : Reach}
theorem op_u8 {v : Value} {d : DataW H} {p : List MemPlace} (hv : Value.okWide Tryd.prog w r b0 5 v) (h : DataW.Trod enc Tryd.prog w base spare held 5 v d p) : ∃ (x0 : Int), v = .int .u8 x0 ∧ (0 ≤ x0 ∧ x0 ≤ 255) := by
  obtain ⟨n, rfl, _, _, hw⟩ := open_int Tryd.underlying5 hv h
  refine ⟨n, rfl, ?_⟩
  simp [Lit.wf, IntKind.min, IntKind.max, IntKind.signed, IntKind.bits] at hw
  omega
end

section
variable {H : Type} {enc : TypeId × Value → H} {w : World} {base b0 : Nat} {spare : Nat → Bool} {held : Bool} {r : Reach}
set_option maxRecDepth 20000 in
theorem op_str {v : Value} {d : DataW H} {p : List MemPlace} (hv : Value.okWide Tryd.prog w r b0 9 v) (h : DataW.Trod enc Tryd.prog w base spare held 9 v d p) : ∃ (x0 : ByteArray), v = .string x0 ∧ (x0.size ≤ maxLen) := by
  obtain ⟨s, rfl, _, _, hs⟩ := Go.ChangeMaps.open_string (P := Tryd.prog) Tryd.underlying9 hv h
  exact ⟨s, rfl, hs⟩
end

theorem rd_take {w : World} {a : Option Addr} {xs : List Value} (h : Rd w a xs) (n : Nat) : Rd w a (xs.take n) := by
  intro k v hv
  rw [List.getElem?_take] at hv
  split at hv
  · exact h k v hv
  · cases hv
theorem ih' (l : List Ph) (m : Nat) : cP (l.take m) = (cP l).take (m * 3) := by
  induction l generalizing m with
  | nil => simp [cP]
  | cons p l ih =>
    cases m with
    | zero => simp [cP]
    | succ n =>
      have e1 : cP (p :: l) = [.int .i64 p.pf, .int .i64 p.pt, .int .i64 p.po] ++ cP l := rfl
      have e2 : cP ((p :: l).take (n + 1)) = [.int .i64 p.pf, .int .i64 p.pt, .int .i64 p.po] ++ cP (l.take n) := rfl
      rw [e1, e2, ih n]
      have : (n + 1) * 3 = n * 3 + 3 := by omega
      rw [this]
      simp
theorem rd_pw {w : World} {a : Option Addr} {l : List Ph} (h : Rd w a (cP l)) (n : Nat) : Rd w a (cP (l.take n)) := by
  have e := ih' l n
  rw [e]
  exact rd_take h _
section
variable {H : Type} {enc : TypeId × Value → H} {w : World} {base b0 : Nat} {spare : Nat → Bool} {held : Bool} {r : Reach} {fuel : Nat} {x : DataW H × List MemPlace}
theorem op_squ {v : Value} {d : DataW H} {p : List MemPlace} (hv : Value.okWide Tryd.prog w r b0 24 v) (h : DataW.Trod enc Tryd.prog w base spare held 24 v d p) : ∃ (s : Squ) (B : RAd), v = sqV s B ∧ AOK B.a s.pl.length ∧ s.pl.length ≤ B.c ∧ Rd w B.a (cS s.pl) := by
  obtain ⟨cs, rfl, _⟩ := okWide_struct Tryd.underlying24 hv
  obtain ⟨fuel, h⟩ := h
  have hh : DataW.trod enc Tryd.prog w base spare held fuel 24 cs.toList = some (d, p) := by simpa [Value.cells] using h
  obtain ⟨z0, z1a, z1l, z1c, z2, z3, ecs, f0, f1, f2, f3, f4, f5⟩ := oc_squ hh
  refine ⟨⟨z0, z1l, z2, z3⟩, ⟨z1a, z1c⟩, ?_, f1, f2, f3⟩
  rw [← Array.toArray_toList (xs := cs), ecs]
  rfl
end

end Go.Proofs.YtjdldofgkhibnaaDoor
