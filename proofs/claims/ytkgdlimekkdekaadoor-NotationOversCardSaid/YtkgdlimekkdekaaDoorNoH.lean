/- Contract of package notation's Over, over deliveries that can be read. -/
import Derived.Test.YtkgdlimekkdekaaDoorNoG
import Derived.Lib.Join
set_option linter.unusedSimpArgs false
set_option linter.unusedVariables false
namespace Go.Proofs.YtkgdlimekkdekaaDoor
open Go.RowKit

theorem own_cells {w : World} {base n sz g cap : Nat} {e : TypeId} {xs : List Value} (h : w.ownsRow base e sz (.slice (some ⟨g, 0, none⟩) n cap) n xs) (j : Nat) (u : Value) (hu : xs[j]? = some u) : w.cell? ⟨g, j, none⟩ = some u := by
  have hj : j < xs.length := (List.getElem?_eq_some_iff.1 hu).1
  rw [h.cellAt j (by have := h.1; omega), hu]
/-- Deliveries that can be read behind a slice. -/
def RdD (w : World) (v : Value) (ds : List Dl) : Prop :=
  (ds = [] ∧ ∃ A c, v = .slice A 0 c) ∨ (ds ≠ [] ∧ ∃ g o cap, v = .slice (some ⟨g, o, none⟩) ds.length cap ∧ g < w.heap.size ∧ ds.length ≤ cap ∧ cap ≤ 9223372036854775807 ∧
    ∀ (i : Nat) (d : Dl), ds[i]? = some d → ∀ (j : Nat) (u : Value), (DC d)[j]? = some u → w.cell? ⟨g, o + i * 12 + j, none⟩ = some u)
/-- The first error of a list of deliveries; their symbols with blanks between. -/
def ovE : List Dl → Int
  | [] => 0
  | d :: r => if chk d = 0 then ovE r else chk d
def ovL (ds : List Dl) : List UInt8 := if ovE ds = 0 then Lib.join (ds.map sym) [32] else []
theorem ovE_take (ds : List Dl) (k : Nat) (hk : k < ds.length) (h : ovE (ds.take k) = 0) : (chk ds[k] = 0 → ovE (ds.take (k + 1)) = 0) ∧ (chk ds[k] ≠ 0 → ovE ds = chk ds[k]) := by
  induction ds generalizing k with
  | nil => simp at hk
  | cons d r ih =>
    cases k with
    | zero => exact ⟨fun h => by simp only [List.take_succ_cons, List.take_zero, ovE]; exact if_pos h, fun h => by simp only [ovE]; exact if_neg h⟩
    | succ k =>
      simp only [List.take_succ_cons, ovE] at h
      by_cases hd : chk d = 0
      · rw [if_pos hd] at h
        have := ih k (by simpa using hk) h
        exact ⟨fun h2 => by simp only [List.take_succ_cons, ovE]; rw [if_pos hd]; exact this.1 h2, fun h2 => by simp only [ovE]; rw [if_pos hd]; exact this.2 h2⟩
      · rw [if_neg hd] at h; exact absurd h hd
theorem sym_len (d : Dl) : (sym d).length ≤ 30 := by
  rw [sym_sum]
  have h1 := tyL_len d.t
  have h2 := pS_len d
  have h3 := pR_len d
  have h4 := bdL_len d.b
  have h5 := nuL_len 45 d.sh
  have h6 := flL_len 120 d.x
  have h7 := pW_len d
  have h8 := nuL_len 64 d.z
  simp only [List.length_append]
  omega
theorem infoS : (Tryd.prog.info? 9).map (fun i => (i.zero, i.size, i.bytes)) = some (some (.string ⟨#[]⟩), 1, 16) := by kernel_rfl
theorem join_len (xs : List (List UInt8)) (h : ∀ x ∈ xs, x.length ≤ 30) : (Lib.join xs [32]).length ≤ 31 * xs.length := by
  cases xs with
  | nil => simp [Lib.join_nil]
  | cons x r =>
    rw [Lib.join_length]
    have : ∀ r : List (List UInt8), (∀ x ∈ r, x.length ≤ 30) → Lib.lens r ≤ 30 * r.length := by
      intro r
      induction r with
      | nil => intro _; simp [Lib.lens]
      | cons y r ih =>
        intro h
        have h1 := ih (fun z hz => h z (List.mem_cons_of_mem _ hz))
        have h2 := h y (List.mem_cons_self ..)
        simp only [Lib.lens, List.map_cons, List.sum_cons, List.length_cons] at h1 ⊢
        omega
    have := this (x :: r) h
    simp only [List.length_cons, List.length_nil] at this ⊢
    omega
set_option maxHeartbeats 4000000 in
theorem over_any (ds : List Dl) (v : Value) (w : World) (hl : ds.length ≤ 1000) (hwf : ∀ d ∈ ds, Wf d) (hr : RdD w v ds) :
    Calls Tryd.prog 8 #[v] w fun e w' => e = .returned (.tuple #[S (ovL ds), .int .i64 (ovE ds)]) ∧ Below w.heap.size w w' := by
  obtain ⟨i0, qi0, qz0, qz1, qz2⟩ := info_parts infoS
  have HP := Lib.hid (fun (d : Dl) (h : d ∈ ds) => print_any d (hwf d h))
  have HT := Lib.hid (ovE_take ds)
  obtain ⟨A, cap, rfl, HC⟩ : ∃ A cap, v = .slice A ds.length cap ∧ Hid (∀ (k : Nat) (hk : k < ds.length), ∃ g o, A = some ⟨g, o, none⟩ ∧ g < w.heap.size ∧ ds.length ≤ cap ∧ cap ≤ 9223372036854775807 ∧ ∀ (j : Nat) (u : Value), (DC ds[k])[j]? = some u → w.cell? ⟨g, o + k * 12 + j, none⟩ = some u) := by
    rcases hr with ⟨rfl, A, c, rfl⟩ | ⟨_, g, o, cap, rfl, h1, h2, h3, h4⟩
    · exact ⟨A, c, rfl, Lib.hid (fun k hk => by simp at hk)⟩
    · exact ⟨_, cap, rfl, Lib.hid (fun k hk => ⟨g, o, rfl, h1, h2, h3, h4 k ds[k] (List.getElem?_eq_getElem hk)⟩)⟩
  have HJ : Hid (ovE ds = 0 → ∀ (W : World) (v2 : Value), W.ownsRow w.heap.size 9 1 v2 ds.length (ds.map fun d => S (sym d)) → Calls Tryd.prog 20 #[v2, .string ⟨#[32]⟩] W fun e w' => e = .returned (S (ovL ds)) ∧ Below W.heap.size W w') := Lib.hid (fun h0 W v2 ho => by
    have e0 : ovL ds = Lib.join (ds.map sym) [32] := by unfold ovL; rw [if_pos h0]
    have em : (ds.map (fun d => str (sym d))).map (fun s : ByteArray => s.data.toList) = ds.map sym := by rw [List.map_map]; exact List.map_congr_left (fun d _ => str_list _)
    have el : (ds.map (fun d => str (sym d))).length = ds.length := by simp
    have hjl := join_len (ds.map sym) (fun x hx => by obtain ⟨d, _, rfl⟩ := List.mem_map.1 hx; exact sym_len d)
    rw [List.length_map] at hjl
    rw [e0]
    rcases own_form ho with ⟨hn, rfl⟩ | ⟨g, cap, rfl, g1, g2, g3, g4⟩
    · have hd : ds = [] := List.length_eq_zero_iff.1 hn
      subst hd
      exact (Tryd.strings_Join_none none 0 ⟨#[32]⟩ W).mono fun e w' ⟨h1, h2⟩ => ⟨h1, h2 ▸ Below.refl _ _⟩
    · have hj := Tryd.strings_Join g 0 cap (ds.map fun d => str (sym d)) ⟨#[32]⟩ W (fun j x hx => by
        rw [Nat.zero_add]
        refine own_cells ho j _ ?_
        rw [List.getElem?_map] at hx ⊢
        cases hd : ds[j]? with
        | none => rw [hd] at hx; simp at hx
        | some d => rw [hd] at hx; simp at hx; subst hx; rfl) g2 (Nat.le_trans (Nat.le_of_eq el) (by omega)) (Nat.le_trans (Nat.le_of_eq el) g3) (by rw [em]; exact Nat.le_trans hjl (by omega))
      rw [em, el] at hj
      exact hj)
  clear hr
  go_enter Tryd.func8, Tryd.ntmps8
  go_wp2_with (refine wpList_make_own _ rfl _ _ 51 rfl w.heap.size 9 i0 (.string ⟨#[]⟩) 1 Tryd.underlying51 qi0 qz0 qz1 .i64 .i64 (ds.length : Int) ds.length rfl rfl rfl (by rw [qz2]; omega) (by unfold maxLen; omega) (by go_size) ?_; intro w2 hown2 hgrow2)
  have hb2 : Below w.heap.size w w2 := ⟨hgrow2.os, hgrow2.tape, hgrow2.output, hgrow2.size, fun k hk => hgrow2.block k hk (by simp)⟩
  have HO2 := Lib.hid hown2
  have HB2 := Lib.hid hb2
  clear hown2 hgrow2 hb2
  go_loopw [4, 14] (fun v t wr => ∃ k : Nat, k ≤ ds.length ∧ t = .int .i64 (k : Int) ∧ Hid (wr.ownsRow w.heap.size 9 1 v k ((ds.take k).map fun d => S (sym d))) ∧ Hid (Below w.heap.size w wr) ∧ Hid (ovE (ds.take k) = 0)) (fun _ t _ => ds.length - (intOf t).toNat)
  case atStart => exact ⟨0, Nat.zero_le _, rfl, HO2, HB2, Lib.hid rfl⟩
  case round =>
    obtain ⟨k, hk, rfl, HO, HB, HE⟩ := hrel
    have hbw := HB.out
    have hzz := hbw.size
    clear HO2 HB2
    by_cases hlt : k < ds.length
    · obtain ⟨g, o, rfl, hg, hc1, hc2, hcell⟩ := HC.out k hlt
      have HPr := Lib.hid (HP.out ds[k] (List.getElem_mem hlt))
      have HT1 := Lib.hid (HT.out k hlt HE.out)
      have HTk : Hid ((ds.take (k + 1)).map (fun d => S (sym d)) = (ds.take k).map (fun d => S (sym d)) ++ [S (sym ds[k])]) := Lib.hid (by rw [List.take_succ_eq_append_getElem hlt, List.map_append]; rfl)
      have c0 : wr.cell? ⟨g, o + k * 12, none⟩ = some (.int .u8 ds[k].t) := (hbw.cell (p := ⟨g, o + k * 12, none⟩) hg).trans (hcell 0 _ rfl)
      have c1 : wr.cell? ⟨g, o + k * 12 + 1, none⟩ = some (.int .u8 ds[k].s) := (hbw.cell (p := ⟨g, o + k * 12 + 1, none⟩) hg).trans (hcell 1 _ rfl)
      have c2 : wr.cell? ⟨g, o + k * 12 + 2, none⟩ = some (.int .i64 ds[k].r) := (hbw.cell (p := ⟨g, o + k * 12 + 2, none⟩) hg).trans (hcell 2 _ rfl)
      have c3 : wr.cell? ⟨g, o + k * 12 + 3, none⟩ = some (.int .i64 ds[k].sh) := (hbw.cell (p := ⟨g, o + k * 12 + 3, none⟩) hg).trans (hcell 3 _ rfl)
      have c4 : wr.cell? ⟨g, o + k * 12 + 4, none⟩ = some (.int .i64 ds[k].b) := (hbw.cell (p := ⟨g, o + k * 12 + 4, none⟩) hg).trans (hcell 4 _ rfl)
      have c5 : wr.cell? ⟨g, o + k * 12 + 5, none⟩ = some (.bool ds[k].x) := (hbw.cell (p := ⟨g, o + k * 12 + 5, none⟩) hg).trans (hcell 5 _ rfl)
      have c6 : wr.cell? ⟨g, o + k * 12 + 6, none⟩ = some (.int .u8 ds[k].h) := (hbw.cell (p := ⟨g, o + k * 12 + 6, none⟩) hg).trans (hcell 6 _ rfl)
      have c7 : wr.cell? ⟨g, o + k * 12 + 7, none⟩ = some (.int .i64 ds[k].v) := (hbw.cell (p := ⟨g, o + k * 12 + 7, none⟩) hg).trans (hcell 7 _ rfl)
      have c8 : wr.cell? ⟨g, o + k * 12 + 8, none⟩ = some (.int .i64 ds[k].f) := (hbw.cell (p := ⟨g, o + k * 12 + 8, none⟩) hg).trans (hcell 8 _ rfl)
      have c9 : wr.cell? ⟨g, o + k * 12 + 9, none⟩ = some (.int .i64 ds[k].g) := (hbw.cell (p := ⟨g, o + k * 12 + 9, none⟩) hg).trans (hcell 9 _ rfl)
      have c10 : wr.cell? ⟨g, o + k * 12 + 10, none⟩ = some (.bool ds[k].u) := (hbw.cell (p := ⟨g, o + k * 12 + 10, none⟩) hg).trans (hcell 10 _ rfl)
      have c11 : wr.cell? ⟨g, o + k * 12 + 11, none⟩ = some (.int .i64 ds[k].z) := (hbw.cell (p := ⟨g, o + k * 12 + 11, none⟩) hg).trans (hcell 11 _ rfl)
      have HS : Hid (ovE ds = chk ds[k] → ovL ds = if chk ds[k] = 0 then ovL ds else []) := Lib.hid (fun h => by
        by_cases h0 : chk ds[k] = 0
        · rw [if_pos h0]
        · rw [if_neg h0]; unfold ovL; rw [if_neg (by rw [h]; exact h0)])
      have hpr : chk ds[k] = 0 → prL ds[k] = sym ds[k] := fun h => by unfold prL; rw [if_pos h]
      have hprn : chk ds[k] ≠ 0 → prL ds[k] = [] := fun h => by unfold prL; rw [if_neg h]
      have HPn := Lib.hid hpr
      have HPm := Lib.hid hprn
      have hgw : g < wr.heap.size := by omega
      clear hcell hpr hprn
      generalize ds[k] = d at *
      generalize sym d = sy at *
      generalize prL d = pl at *
      generalize chk d = C at *
      obtain ⟨t, s, r, sh, b, x, h, v, f, gg, u, z⟩ := d
      dsimp only at *
      by_cases hC : C = 0
      · subst hC
        have e1 := HPn.out rfl
        subst e1
        have HE2 := Lib.hid (HT1.out.1 rfl)
        clear HT1 HS HPn HPm
        go_wp2_with (first | (go_at_call 14; ((with_reducible refine (HPr.out _).mono ?_); rintro e w3 ⟨rfl, hb3⟩); have hz3 := hb3.size; (try simp only [World.size_alloc, World.size_setCell, World.size_drew, size_drewN'] at hz3)) | (at_builtin; (refine wpList_append_own_at _ rfl _ _ 51 rfl w.heap.size 9 i0 (.string ⟨#[]⟩) 1 16 Tryd.underlying51 qi0 qz0 qz1 qz2 rfl (by decide) _ k ((ds.take k).map fun d => S (sym d)) rfl (own_below (own_below (own_below HO.out (by (repeat' (first | (with_reducible exact Below.refl _ _) | (with_reducible refine Below.setCell ?_ ?_ _) | (with_reducible refine Below.alloc ?_ ?_ _) | (with_reducible refine Below.drew ?_) | (with_reducible refine belowN ?_ _) | (with_reducible refine below_step ?_ ?_ (by with_reducible assumption)) | go_size)))) hb3) (by (repeat' (first | (with_reducible exact Below.refl _ _) | (with_reducible refine Below.setCell ?_ ?_ _) | (with_reducible refine Below.alloc ?_ ?_ _) | (with_reducible refine Below.drew ?_) | (with_reducible refine belowN ?_ _) | (with_reducible refine below_step ?_ ?_ (by with_reducible assumption)) | go_size)))) _ 1 1 [S pl] rfl rfl (cells_at _ [S pl] 9 _ (by first | rfl | simp only [World.size_alloc] | go_size)) (by intro u hu; simp at hu; subst hu; rfl) (by unfold maxLen; omega) (by omega) (by go_size) ?_); intro v5 w5 hown5 hgrow5 _ _))
        have hb6 : Below w.heap.size w w3 := below_step (Below.alloc hbw (by omega) _) (by go_size) hb3
        exact ⟨⟨k + 1, by omega, by go_num, Lib.hid (by rw [HTk.out]; exact hown5), Lib.hid ((Below.alloc hb6 (by omega) _).grown hgrow5 (by have := hb6.size; simp; omega) (fun j hj => (HO.out.lt j hj).1)), HE2⟩, by simp [intOf]; omega⟩
      · have hCn : (C != 0) = true := by simpa using hC
        have e1 := HPm.out hC
        subst e1
        have e2 := HT1.out.2 hC
        have e3 := HS.out e2
        rw [if_neg hC] at e3
        have E2 := Lib.hid e2
        have E3 := Lib.hid e3
        clear e2 e3 HT1 HS HPn HPm HTk HJ hC
        go_wp2_with (go_at_call 14; ((with_reducible refine (HPr.out _).mono ?_); rintro e w3 ⟨rfl, hb3⟩); have hz3 := hb3.size; (try simp only [World.size_alloc, World.size_setCell, World.size_drew, size_drewN'] at hz3))
        go_returns
        exact ⟨by rw [E2.out, E3.out]; rfl, below_step (Below.alloc hbw (by omega) _) (by go_size) hb3⟩
    · have hkl : k = ds.length := by omega
      have HE0 : ovE ds = 0 := by have := HE.out; rw [List.take_of_length_le (by omega)] at this; exact this
      have HJ2 := Lib.hid (HJ.out HE0)
      have HOw : Hid (wr.ownsRow w.heap.size 9 1 u4 ds.length (ds.map fun d => S (sym d))) := Lib.hid (by have := HO.out; rw [List.take_of_length_le (by omega), hkl] at this; exact this)
      have E0 := Lib.hid HE0
      subst hkl
      clear HE0 HO HE HT HP HC HJ
      go_wp2_with (go_at_call 20; ((with_reducible refine (HJ2.out _ _ HOw.out).mono ?_); rintro e w3 ⟨rfl, hb3⟩); have hz3 := hb3.size; (try simp only [World.size_alloc, World.size_setCell, World.size_drew, size_drewN'] at hz3))
      go_returns
      exact ⟨by rw [E0.out]; rfl, below_step hbw (by omega) hb3⟩
end Go.Proofs.YtkgdlimekkdekaaDoor
