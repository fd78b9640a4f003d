/- Contracts of package notation's parts of a symbol, and of Print. -/
import Derived.Test.YtdgmogmldfhgcaaGreatDoorNoB
import Derived.Lib.QuietBelow
set_option linter.unusedSimpArgs false
set_option linter.unusedVariables false
namespace Go.Proofs.YtdgmogmldfhgcaaGreatDoor
open Go.RowKit

theorem at_class {f : FuncId} {args : Array Value} {v : Value} {W : World} (h : ∀ w, Calls Tryz.prog f args w fun e w' => e = .returned v ∧ Below w.heap.size w w') :
    ∀ (d : Nat) (os : Array Obj), Calls Tryz.prog f args («Sort».grow (redrawn W d) os) fun e w'' => e = .returned v ∧ ∃ p : Regrown, w'' = «Sort».grow (redrawn W p.d) p.os := fun d os => Calls.regrown_of (h _)
theorem same_below {f : FuncId} {args : Array Value} {v : Value} (h : ∀ w, Calls Tryz.prog f args w fun e w' => e = .returned v ∧ w = w') : ∀ w, Calls Tryz.prog f args w fun e w' => e = .returned v ∧ Below w.heap.size w w' :=
  fun w => (h w).mono fun e w' ⟨h1, h2⟩ => ⟨h1, h2 ▸ Below.refl _ _⟩
theorem str_size_le {l : List UInt8} {n : Nat} (h : l.length ≤ n) : (str l).size ≤ n := by rw [str_size]; exact h

/-- A delivery's cells. -/
def DC (d : Dl) : List Value := [.int .u8 d.t, .int .u8 d.s, .int .i64 d.r, .int .i64 d.sh, .int .i64 d.b, .bool d.x, .int .u8 d.h, .int .i64 d.v, .int .i64 d.f, .int .i64 d.g, .bool d.u, .int .i64 d.z]
abbrev DT : TypeId := 27

theorem sgn_any (sn : List UInt8) (k : Nat) (hk : k < sn.length) (hl : sn.length ≤ 100) (w : World) :
    Calls Tryz.prog 80 #[S sn, .int .i64 (k : Int)] w fun e w' => e = .returned (S [sn[k]]) ∧ w = w' := by
  have z := str_size sn
  have hx : Hid ((str sn).extract k (k + 1) = str [sn[k]]) := Lib.hid (by
    rw [str_ext]
    congr 1
    rw [show k + 1 - k = 1 by omega, List.drop_eq_getElem_cons hk]; rfl)
  go_enter Tryz.func80, Tryz.ntmps80
  go_wp2
  go_ret
  exact ⟨by show Ending.returned (Value.string ((str sn).extract k (k + 1))) = _; rw [hx.out], rfl⟩
theorem plS_any (t : Int) (w : World) : Calls Tryz.prog 81 #[.int .u8 t] w fun e w' => e = .returned (.int .u8 (plS t)) ∧ w = w' := by
  by_cases h : t = 2
  · subst h
    go_enter Tryz.func81, Tryz.ntmps81
    go_wp2
    go_ret
    exact ⟨rfl, rfl⟩
  · have e : plS t = 1 := by unfold plS; rw [if_neg h]
    have k : (t == 2) = false := by simpa using h
    rw [e]
    clear e h
    go_enter Tryz.func81, Tryz.ntmps81
    go_wp2
    go_ret
    exact ⟨rfl, rfl⟩
def tyL (t : Int) : List UInt8 := if t = 2 then [119] else if t = 3 then [110] else []
theorem typeSign_any (t : Int) (h1 : 1 ≤ t) (h3 : t ≤ 3) (w : World) : Calls Tryz.prog 54 #[.int .u8 t] w fun e w' => e = .returned (S (tyL t)) ∧ w = w' := by
  have H0 : Hid (∀ w, Calls Tryz.prog 80 #[.string ⟨#[119, 110]⟩, .int .i64 0] w fun e w' => e = .returned (S [119]) ∧ w = w') := Lib.hid (sgn_any [119, 110] 0 (by decide) (by decide))
  have H1 : Hid (∀ w, Calls Tryz.prog 80 #[.string ⟨#[119, 110]⟩, .int .i64 1] w fun e w' => e = .returned (S [110]) ∧ w = w') := Lib.hid (sgn_any [119, 110] 1 (by decide) (by decide))
  have : t = 1 ∨ t = 2 ∨ t = 3 := by omega
  clear h1 h3
  rcases this with rfl | rfl | rfl
  all_goals
    go_enter Tryz.func54, Tryz.ntmps54
    go_wp2_with (first | (go_at_call 80; ((with_reducible refine (H0.out _).mono ?_); rintro e w' ⟨rfl, rfl⟩)) | (go_at_call 80; ((with_reducible refine (H1.out _).mono ?_); rintro e w' ⟨rfl, rfl⟩)))
    go_ret
    exact ⟨rfl, rfl⟩
def bdL (b : Int) : List UInt8 := if b = 0 then [] else if b = 4 then [70] else [83]
theorem boundarySign_any (b : Int) (hb : b = 0 ∨ b = 4 ∨ b = 6) (w : World) : Calls Tryz.prog 57 #[.int .i64 b] w fun e w' => e = .returned (S (bdL b)) ∧ w = w' := by
  have H0 : Hid (∀ w, Calls Tryz.prog 80 #[.string ⟨#[70, 83]⟩, .int .i64 0] w fun e w' => e = .returned (S [70]) ∧ w = w') := Lib.hid (sgn_any [70, 83] 0 (by decide) (by decide))
  have H1 : Hid (∀ w, Calls Tryz.prog 80 #[.string ⟨#[70, 83]⟩, .int .i64 1] w fun e w' => e = .returned (S [83]) ∧ w = w') := Lib.hid (sgn_any [70, 83] 1 (by decide) (by decide))
  rcases hb with rfl | rfl | rfl
  all_goals
    go_enter Tryz.func57, Tryz.ntmps57
    go_wp2_with (first | (go_at_call 80; ((with_reducible refine (H0.out _).mono ?_); rintro e w' ⟨rfl, rfl⟩)) | (go_at_call 80; ((with_reducible refine (H1.out _).mono ?_); rintro e w' ⟨rfl, rfl⟩)))
    go_ret
    exact ⟨rfl, rfl⟩
def flL (c : UInt8) (x : Bool) : List UInt8 := if x = true then [c] else []
theorem flagSign_any (c : UInt8) (x : Bool) (w : World) : Calls Tryz.prog 59 #[S [c], .bool x] w fun e w' => e = .returned (S (flL c x)) ∧ w = w' := by
  cases x
  all_goals
    go_enter Tryz.func59, Tryz.ntmps59
    go_wp2
    go_ret
    exact ⟨rfl, rfl⟩
theorem decimal_dg (n : Int) (h0 : 0 ≤ n) (h1 : n ≤ 11) (w : World) : Calls Tryz.prog 27 #[.int .i64 n] w fun e w' => e = .returned (S (dg n)) ∧ w = w' := by
  have HF : Hid (∀ w, Calls Tryz.prog 53 #[.int .i64 n, .int .i64 10] w fun e w' => e = .returned (S (dg n)) ∧ w = w') := Lib.hid (fun w => by
    rw [← dg_itoa h0 h1]
    obtain ⟨i, rfl⟩ : ∃ i : Nat, n = (i : Int) := ⟨n.toNat, by omega⟩
    rw [Lib.itoa_nonneg]
    exact (Tryz.strconv_FormatInt_10_small i (by omega) w).mono fun e w' ⟨h1, h2⟩ => ⟨h1, h2.symm⟩)
  clear h0 h1
  go_enter Tryz.func27, Tryz.ntmps27
  go_wp2_with (go_at_call 53; ((with_reducible refine (HF.out _).mono ?_); rintro e w' ⟨rfl, rfl⟩))
  go_ret
  exact ⟨rfl, rfl⟩
theorem dg_len (n : Int) : (dg n).length ≤ 2 := by unfold dg; split <;> simp
def nuL (c : UInt8) (n : Int) : List UInt8 := if n = 0 then [] else c :: dg n
theorem nuL_len (c : UInt8) (n : Int) : (nuL c n).length ≤ 3 := by
  unfold nuL; split
  · simp
  · have := dg_len n; simp; omega
theorem numberSign_any (c : UInt8) (n : Int) (h0 : 0 ≤ n) (h1 : n ≤ 11) (w : World) : Calls Tryz.prog 58 #[S [c], .int .i64 n] w fun e w' => e = .returned (S (nuL c n)) ∧ w = w' := by
  have HF := Lib.hid (decimal_dg n h0 h1)
  by_cases h : n = 0
  · subst h
    go_enter Tryz.func58, Tryz.ntmps58
    go_wp2
    go_ret
    exact ⟨rfl, rfl⟩
  · have e : nuL c n = [c] ++ dg n := by unfold nuL; rw [if_neg h]; rfl
    have E : Hid (str [c] ++ str (dg n) = str (nuL c n)) := Lib.hid (by rw [e, str_app])
    have z1 := str_size_le (dg_len n)
    have z2 : (str [c]).size = 1 := str_size [c]
    have k : (n == 0) = false := by simpa using h
    generalize nuL c n = N at *
    generalize dg n = L at *
    clear h e h0 h1
    go_enter Tryz.func58, Tryz.ntmps58
    go_wp2_with (go_at_call 27; ((with_reducible refine (HF.out _).mono ?_); rintro e w' ⟨rfl, rfl⟩))
    go_ret
    exact ⟨by show Ending.returned (Value.string (str [c] ++ str L)) = _; rw [E.out], rfl⟩

theorem box_row (d : Dl) (w : World) : Row (w.alloc (.cells #[.int .u8 d.t, .int .u8 d.s, .int .i64 d.r, .int .i64 d.sh, .int .i64 d.b, .bool d.x, .int .u8 d.h, .int .i64 d.v, .int .i64 d.f, .int .i64 d.g, .bool d.u, .int .i64 d.z] DT)) w.heap.size DT (DC d) := Row.new w DT (DC d)
theorem pS_cases (d : Dl) (h0 : 0 ≤ d.s) (h3 : d.s ≤ 3) : ((d.s == plS d.t) = true ∧ pS d = []) ∨ (∃ k : Nat, d.s = (k : Int) ∧ ∃ hk : k < srcs.length, (d.s == plS d.t) = false ∧ pS d = [srcs[k]]) := by
  by_cases h : d.s = plS d.t
  · left; exact ⟨by simpa using h, by unfold pS; rw [if_pos h]⟩
  · right
    refine ⟨d.s.toNat, by omega, by show d.s.toNat < 4; omega, by simpa using h, ?_⟩
    unfold pS
    rw [if_neg h, List.getD_eq_getElem?_getD, List.getElem?_eq_getElem (by show d.s.toNat < 4; omega)]
    rfl
theorem sourceSign_any (d : Dl) (hd : okT d) (hw : Wf d) (w : World) : Calls Tryz.prog 55 #[DV d] w fun e w' => e = .returned (S (pS d)) ∧ Below w.heap.size w w' := by
  have hc := pS_cases d hw.2.1 hd.2.2.1
  have HP : ∀ w, Calls Tryz.prog 81 #[.int .u8 d.t] w fun e w' => e = .returned (.int .u8 (plS d.t)) ∧ w = w' := plS_any d.t
  have A1 := at_class (W := w.alloc (.cells #[.int .u8 d.t, .int .u8 d.s, .int .i64 d.r, .int .i64 d.sh, .int .i64 d.b, .bool d.x, .int .u8 d.h, .int .i64 d.v, .int .i64 d.f, .int .i64 d.g, .bool d.u, .int .i64 d.z] DT)) (same_below HP)
  have hrow := box_row d w
  have k0 : (w.alloc (.cells #[.int .u8 d.t, .int .u8 d.s, .int .i64 d.r, .int .i64 d.sh, .int .i64 d.b, .bool d.x, .int .u8 d.h, .int .i64 d.v, .int .i64 d.f, .int .i64 d.g, .bool d.u, .int .i64 d.z] DT)).cell? ⟨w.heap.size, 0, none⟩ = some (.int .u8 d.t) := hrow.cell 0
  have k1 : (w.alloc (.cells #[.int .u8 d.t, .int .u8 d.s, .int .i64 d.r, .int .i64 d.sh, .int .i64 d.b, .bool d.x, .int .u8 d.h, .int .i64 d.v, .int .i64 d.f, .int .i64 d.g, .bool d.u, .int .i64 d.z] DT)).cell? ⟨w.heap.size, 1, none⟩ = some (.int .u8 d.s) := hrow.cell 1
  have g0 := cell_regrown k0
  have g1 := cell_regrown k1
  generalize pS d = P at *
  generalize plS d.t = T at *
  obtain ⟨t, s, r, sh, b, x, h, v, f, g, u, z⟩ := d
  dsimp only at *
  clear HP hrow k0 k1
  rcases hc with ⟨h1, rfl⟩ | ⟨k, rfl, hk, h1, rfl⟩
  · go_enter Tryz.func55, Tryz.ntmps55
    go_wp2
    refine wp_region_quiet_below (by kernel_rfl) (by kernel_rfl) ?_; (repeat (first | go_big_quiet_step (with_reducible exact A1 _ _) | quiet_step (with_reducible exact A1 _ _))); refine wpQuiet_nil ?_; intro _ hw'; obtain ⟨⟨dq, osq⟩, hw''⟩ := hw'; subst hw''
    have hb7 := below_regrown (w.alloc (.cells #[.int .u8 t, .int .u8 s, .int .i64 r, .int .i64 sh, .int .i64 b, .bool x, .int .u8 h, .int .i64 v, .int .i64 f, .int .i64 g, .bool u, .int .i64 z] DT)) dq osq
    clear A1
    go_wp2
    go_ret
    exact ⟨rfl, below_step (by (repeat' (first | (with_reducible exact Below.refl _ _) | (with_reducible refine Below.setCell ?_ ?_ _) | (with_reducible refine Below.alloc ?_ ?_ _) | (with_reducible refine Below.drew ?_) | (with_reducible refine belowN ?_ _) | (with_reducible refine below_step ?_ ?_ (by with_reducible assumption)) | go_size))) (by go_size) hb7⟩
  · have HS : Hid (∀ w, Calls Tryz.prog 80 #[.string ⟨#[46, 111, 98, 108]⟩, .int .i64 (k : Int)] w fun e w' => e = .returned (S [srcs[k]]) ∧ w = w') := Lib.hid (sgn_any srcs k hk (by decide))
    go_enter Tryz.func55, Tryz.ntmps55
    go_wp2
    refine wp_region_quiet_below (by kernel_rfl) (by kernel_rfl) ?_; (repeat (first | go_big_quiet_step (with_reducible exact A1 _ _) | quiet_step (with_reducible exact A1 _ _))); refine wpQuiet_nil ?_; intro _ hw'; obtain ⟨⟨dq, osq⟩, hw''⟩ := hw'; subst hw''
    have hb7 := below_regrown (w.alloc (.cells #[.int .u8 t, .int .u8 (k : Int), .int .i64 r, .int .i64 sh, .int .i64 b, .bool x, .int .u8 h, .int .i64 v, .int .i64 f, .int .i64 g, .bool u, .int .i64 z] DT)) dq osq
    have c1 := g1 dq osq
    have hk4 : k < 4 := hk
    clear A1
    go_wp2_with (go_at_call 80; ((with_reducible refine (HS.out _).mono ?_); rintro e w' ⟨rfl, rfl⟩))
    go_ret
    exact ⟨rfl, below_step (by (repeat' (first | (with_reducible exact Below.refl _ _) | (with_reducible refine Below.setCell ?_ ?_ _) | (with_reducible refine Below.alloc ?_ ?_ _) | (with_reducible refine Below.drew ?_) | (with_reducible refine belowN ?_ _) | (with_reducible refine below_step ?_ ?_ (by with_reducible assumption)) | go_size))) (by go_size) hb7⟩
end Go.Proofs.YtdgmogmldfhgcaaGreatDoor
