/- The contract of the program's parseDigits. -/
import Derived.Test.YtgdpeajompccnaaTxtW
import Derived.Test.YtgdpeajompccnaaWideE
import Derived.Deep.RegionWith
set_option linter.unusedSimpArgs false
set_option linter.unusedVariables false
namespace Go.Proofs.Ytgdpeajompccnaa
open Go.RowKit

def two128 : Int := 340282366920938463463374607431768211456
def pdB (l : List UInt8) : Bool := l.all isDig && decide ((digF 0 l : Int) < two128)
def pdV (l : List UInt8) : Int := if pdB l then (digF 0 l : Int) else 0
theorem digF_append (a b : List UInt8) : ∀ acc, digF acc (a ++ b) = digF (digF acc a) b := by
  induction a with
  | nil => intro acc; rfl
  | cons c r ih => intro acc; exact ih _
theorem digF_more (l : List UInt8) (k : Nat) : digF 0 (l.take k) ≤ digF 0 l := by
  have h := digF_append (l.take k) (l.drop k) 0
  rw [List.take_append_drop] at h
  rw [h]
  exact digF_ge _ _
theorem take_all (d : List UInt8) (k : Nat) (hk : k < d.length) (h : (d.take k).all isDig = true) (h2 : isDig d[k] = true) : (d.take (k + 1)).all isDig = true := by
  rw [List.take_succ_eq_append_getElem hk, List.all_append, h]; simp [h2]
theorem not_all (d : List UInt8) (k : Nat) (hk : k < d.length) (h2 : isDig d[k] = false) : d.all isDig = false := by
  cases h : d.all isDig
  · rfl
  · have := List.all_eq_true.1 h d[k] (List.getElem_mem hk); rw [this] at h2; cases h2
theorem digF_take (d : List UInt8) (k : Nat) (hk : k < d.length) : digF 0 (d.take (k + 1)) = digF 0 (d.take k) * 10 + (d[k].toNat - 48) := by
  rw [List.take_succ_eq_append_getElem hk, digF_snoc]

/-- At the head of a round: x is read so far. -/
structure DInv2 (l : List UInt8) (w : World) (k : Nat) (x : Int) (wr : World) : Prop where
  k0 : k ≤ l.length
  all : (l.take k).all isDig = true
  val : x = (digF 0 (l.take k) : Int)
  lt : x < two128
  rrow : Row wr w.heap.size 54 [.int .u64 0, .int .u64 0]
  mrow : Row wr (w.heap.size + 1) 54 [.int .u64 (wh x), .int .u64 (wl x)]
  bel : Below w.heap.size w wr

theorem DInv2.step {l : List UInt8} {w : World} {k : Nat} {x y : Int} {wr w3 : World} (h : DInv2 l w k x wr) (hb : Below wr.heap.size wr w3) (hlt : k < l.length) (hall : (l.take (k + 1)).all isDig = true) (hv : (digF 0 (l.take (k + 1)) : Int) = y) (hy : y < two128) (W : World)
    (hW : W = (w3.setCell ⟨w.heap.size + 1, 0, none⟩ (.int .u64 (wh y))).setCell ⟨w.heap.size + 1, 1, none⟩ (.int .u64 (wl y))) : DInv2 l w (k + 1) y W := by
  obtain ⟨k0, all, val, lt, rrow, mrow, bel⟩ := h
  subst hW
  have hrl := Row.lt rrow
  have hml := Row.lt mrow
  refine ⟨by omega, hall, hv.symm, hy, ?_, ?_, ?_⟩
  · exact ((rrow.below hb hrl).far (p := ⟨w.heap.size + 1, 0, none⟩) (by simp) _).far (p := ⟨w.heap.size + 1, 1, none⟩) (by simp) _
  · exact ((mrow.below hb hml).put 0 _).put 1 _
  · exact ((below_step bel (by omega) hb).setCell (by simp) _).setCell (by simp) _

set_option maxHeartbeats 4000000 in
theorem pdigits_any (l : List UInt8) (w : World) (hl : l.length ≤ 1000) :
    Calls Try.prog 53 #[S l] w fun e w' => e = .returned (.tuple #[M (pdV l), .bool (pdB l)]) ∧ Below w.heap.size w w' := by
  have z := str_size l
  have hz : (str l).size ≤ 1000 := by omega
  have HNo : Hid (pdB l = false → pdV l = 0) := Lib.hid (fun h => by unfold pdV; rw [h]; rfl)
  go_enter Try.func53, Try.ntmps53
  go_wp2
  go_loopw [10] (fun i wr => ∃ (k : Nat) (x : Int), DInv2 l w k x wr ∧ i = .int .i64 (k : Int)) (fun i _ => l.length - (intOf i).toNat)
  case atStart =>
    refine ⟨0, 0, ⟨Nat.zero_le _, rfl, rfl, by decide, (Row.new w _ [.int .u64 0, .int .u64 0]).alloc _, ?_, ?_⟩, rfl⟩
    · have := Row.new (w.alloc (.cells #[.int .u64 0, .int .u64 0] 54)) 54 [.int .u64 0, .int .u64 0]
      rw [World.size_alloc] at this
      exact this
    · (repeat' (first | (with_reducible exact Below.refl _ _) | (with_reducible refine Below.setCell ?_ ?_ _) | (with_reducible refine Below.alloc ?_ ?_ _) | (with_reducible refine Below.drew ?_) | (with_reducible refine belowN ?_ _) | (with_reducible refine below_step ?_ ?_ (by with_reducible assumption)) | go_size))
  case round =>
    obtain ⟨k, x, hi, rfl⟩ := hrel
    have HI' := Lib.hid hi
    have hk := hi.k0
    have hx0 : 0 ≤ x := by rw [hi.val]; omega
    have hx1 : x < 340282366920938463463374607431768211456 := hi.lt
    have hxu : U128 x := ⟨hx0, hx1⟩
    have hrl := Row.lt hi.rrow
    have hml := Row.lt hi.mrow
    have r0 : wr.cell? ⟨w.heap.size, 0, none⟩ = some (.int .u64 0) := by rw [hi.rrow.cell]; rfl
    have r1 : wr.cell? ⟨w.heap.size, 1, none⟩ = some (.int .u64 0) := by rw [hi.rrow.cell]; rfl
    have m0 : wr.cell? ⟨w.heap.size + 1, 0, none⟩ = some (.int .u64 (wh x)) := by rw [hi.mrow.cell]; rfl
    have m1 : wr.cell? ⟨w.heap.size + 1, 1, none⟩ = some (.int .u64 (wl x)) := by rw [hi.mrow.cell]; rfl
    have f0 := hi.rrow.free 0
    have f1 := hi.rrow.free 1
    have f2 := hi.mrow.free 0
    have f3 := hi.mrow.free 1
    have hbel := hi.bel
    by_cases hlt : k < l.length
    · have hlt2 : k < (str l).size := by omega
      have hg := str_get l k hlt2 hlt
      cases hdg : isDig l[k]
      · have hc : ((((str l)[k]'hlt2).toNat : Int)) < 48 ∨ (¬ ((((str l)[k]'hlt2).toNat : Int)) < 48 ∧ 57 < ((((str l)[k]'hlt2).toNat : Int))) := by
          rw [hg]
          have : ¬ (48 ≤ l[k].toNat ∧ l[k].toNat ≤ 57) := fun h => by rw [(isDig_iff _).2 h] at hdg; cases hdg
          omega
        have e1 : pdB l = false := by unfold pdB; rw [not_all l k hlt hdg]; rfl
        have E := Lib.hid (And.intro e1 (HNo.out e1))
        clear hi hg hdg e1
        rcases hc with hc | ⟨hc, hc2⟩
        all_goals
          go_wp2
          refine bodyPost_ret (v := .tuple #[.agg #[.int .u64 0, .int .u64 0], .bool false]) (by simp [results, Try.results53, go_sem, *]) rfl ?_
          refine ⟨by rw [E.out.1, E.out.2]; rfl, ?_⟩
          exact (hbel.setCell (by simp) _).setCell (by simp) _
      · have hc : 48 ≤ ((str l)[k]'hlt2).toNat ∧ ((str l)[k]'hlt2).toNat ≤ 57 := by rw [hg]; exact (isDig_iff _).1 hdg
        have hc1 : ¬ ((((str l)[k]'hlt2).toNat : Int)) < 48 := by omega
        have hc2 : ¬ 57 < ((((str l)[k]'hlt2).toNat : Int)) := by omega
        have hw1 : IntKind.u8.wrap ((((str l)[k]'hlt2).toNat : Int) - 48) = (((str l)[k]'hlt2).toNat : Int) - 48 := by rw [IntKind.wrap_u8]; omega
        have hw9 : IntKind.u64.wrap ((((str l)[k]'hlt2).toNat : Int) - 48) = (((str l)[k]'hlt2).toNat : Int) - 48 := by rw [IntKind.wrap_u64]; omega
        have HA2 : Hid ((l.take (k + 1)).all isDig = true) := Lib.hid (take_all l k hlt hi.all hdg)
        have HTK : Hid ((digF 0 (l.take (k + 1)) : Int) = x * 10 + ((((str l)[k]'hlt2).toNat : Int) - 48)) := Lib.hid (by
          have h1 := digF_take l k hlt
          have h2 := hi.val
          rw [hg] at hc ⊢
          omega)
        have HM := Lib.hid (digF_more l (k + 1))
        clear hg hdg hi
        have HF : Hid (340282366920938463463374607431768211456 ≤ x * 10 + ((((str l)[k]'hlt2).toNat : Int) - 48) → pdB l = false ∧ pdV l = 0) := Lib.hid (fun h => by
          have h1 := HM.out
          have h2 := HTK.out
          have e1 : pdB l = false := by
            unfold pdB
            have : decide ((digF 0 l : Int) < two128) = false := by unfold two128; simp; omega
            rw [this, Bool.and_false]
          exact ⟨e1, HNo.out e1⟩)
        by_cases ht : x * 10 < 340282366920938463463374607431768211456
        · have HT : Hid (∀ w, Calls Try.prog 39 #[M x, .int .u64 10] w fun e w' => e = .returned (.tuple #[M (x * 10), .bool true]) ∧ Below w.heap.size w w') := Lib.hid (fun w => by
            have h := times_any x 10 w hxu (by omega) (by omega)
            rw [ltB_yes ht, u128_id (by omega) ht] at h; exact h)
          by_cases hp : x * 10 + ((((str l)[k]'hlt2).toNat : Int) - 48) < 340282366920938463463374607431768211456
          · have HPl : Hid (∀ w, Calls Try.prog 47 #[M (x * 10), .int .u64 ((((str l)[k]'hlt2).toNat : Int) - 48)] w fun e w' => e = .returned (.tuple #[M (x * 10 + ((((str l)[k]'hlt2).toNat : Int) - 48)), .bool true]) ∧ Below w.heap.size w w') := Lib.hid (fun w => by
              have h := plus_any (x * 10) ((((str l)[k]'hlt2).toNat : Int) - 48) w ⟨by omega, ht⟩ (by omega) (by omega)
              rw [ltB_yes hp, u128_id (by omega) hp] at h; exact h)
            have HY := Lib.hid hp
            clear HF hp ht hxu hx1
            generalize hy : x * 10 + ((((str l)[k]'hlt2).toNat : Int) - 48) = y at *
            go_wp2_with (go_at_call 39; ((with_reducible refine (HT.out _).mono ?_); rintro e w2 ⟨rfl, hb2⟩); have hz2 := hb2.size; (try simp only [World.size_alloc, World.size_setCell, World.size_drew, size_drewN'] at hz2); have : w.heap.size < w2.heap.size := (by omega); have := hb2.cell (p := ⟨w.heap.size, 0, none⟩) (by go_size); simp [go_sem, *] at this; have := hb2.frozen (p := ⟨w.heap.size, 0, none⟩) (by go_size); simp [go_sem, *] at this; have := hb2.cell (p := ⟨w.heap.size, 1, none⟩) (by go_size); simp [go_sem, *] at this; have := hb2.frozen (p := ⟨w.heap.size, 1, none⟩) (by go_size); simp [go_sem, *] at this; have : w.heap.size + 1 < w2.heap.size := (by omega); have := hb2.cell (p := ⟨w.heap.size + 1, 0, none⟩) (by go_size); simp [go_sem, *] at this; have := hb2.frozen (p := ⟨w.heap.size + 1, 0, none⟩) (by go_size); simp [go_sem, *] at this; have := hb2.cell (p := ⟨w.heap.size + 1, 1, none⟩) (by go_size); simp [go_sem, *] at this; have := hb2.frozen (p := ⟨w.heap.size + 1, 1, none⟩) (by go_size); simp [go_sem, *] at this)
            go_region_with (go_at_call 47; ((with_reducible refine (HPl.out _).mono ?_); rintro e w3 ⟨rfl, hb3⟩); have hz3 := hb3.size; (try simp only [World.size_alloc, World.size_setCell, World.size_drew, size_drewN'] at hz3); have : w.heap.size < w3.heap.size := (by omega); have := hb3.cell (p := ⟨w.heap.size, 0, none⟩) (by go_size); simp [go_sem, *] at this; have := hb3.frozen (p := ⟨w.heap.size, 0, none⟩) (by go_size); simp [go_sem, *] at this; have := hb3.cell (p := ⟨w.heap.size, 1, none⟩) (by go_size); simp [go_sem, *] at this; have := hb3.frozen (p := ⟨w.heap.size, 1, none⟩) (by go_size); simp [go_sem, *] at this; have : w.heap.size + 1 < w3.heap.size := (by omega); have := hb3.cell (p := ⟨w.heap.size + 1, 0, none⟩) (by go_size); simp [go_sem, *] at this; have := hb3.frozen (p := ⟨w.heap.size + 1, 0, none⟩) (by go_size); simp [go_sem, *] at this; have := hb3.cell (p := ⟨w.heap.size + 1, 1, none⟩) (by go_size); simp [go_sem, *] at this; have := hb3.frozen (p := ⟨w.heap.size + 1, 1, none⟩) (by go_size); simp [go_sem, *] at this)
            all_goals
              go_wp2
              have hbw : Below wr.heap.size wr w3 := by (repeat' (first | (with_reducible exact Below.refl _ _) | (with_reducible refine Below.setCell ?_ ?_ _) | (with_reducible refine Below.alloc ?_ ?_ _) | (with_reducible refine Below.drew ?_) | (with_reducible refine belowN ?_ _) | (with_reducible refine below_step ?_ ?_ (by with_reducible assumption)) | go_size))
              have hst := HI'.out.step hbw hlt HA2.out HTK.out HY.out _ rfl
              exact ⟨⟨k + 1, y, hst, by go_num⟩, by simp [intOf]; omega⟩
          · have HPl : Hid (∀ w, Calls Try.prog 47 #[M (x * 10), .int .u64 ((((str l)[k]'hlt2).toNat : Int) - 48)] w fun e w' => e = .returned (.tuple #[M (u128 (x * 10 + ((((str l)[k]'hlt2).toNat : Int) - 48))), .bool false]) ∧ Below w.heap.size w w') := Lib.hid (fun w => by
              have h := plus_any (x * 10) ((((str l)[k]'hlt2).toNat : Int) - 48) w ⟨by omega, ht⟩ (by omega) (by omega)
              rw [ltB_no hp] at h; exact h)
            have E := Lib.hid (HF.out (by omega))
            clear HF hp ht hxu hx1
            generalize u128 (x * 10 + ((((str l)[k]'hlt2).toNat : Int) - 48)) = y at *
            go_wp2_with (go_at_call 39; ((with_reducible refine (HT.out _).mono ?_); rintro e w2 ⟨rfl, hb2⟩); have hz2 := hb2.size; (try simp only [World.size_alloc, World.size_setCell, World.size_drew, size_drewN'] at hz2); have : w.heap.size < w2.heap.size := (by omega); have := hb2.cell (p := ⟨w.heap.size, 0, none⟩) (by go_size); simp [go_sem, *] at this; have := hb2.frozen (p := ⟨w.heap.size, 0, none⟩) (by go_size); simp [go_sem, *] at this; have := hb2.cell (p := ⟨w.heap.size, 1, none⟩) (by go_size); simp [go_sem, *] at this; have := hb2.frozen (p := ⟨w.heap.size, 1, none⟩) (by go_size); simp [go_sem, *] at this; have : w.heap.size + 1 < w2.heap.size := (by omega); have := hb2.cell (p := ⟨w.heap.size + 1, 0, none⟩) (by go_size); simp [go_sem, *] at this; have := hb2.frozen (p := ⟨w.heap.size + 1, 0, none⟩) (by go_size); simp [go_sem, *] at this; have := hb2.cell (p := ⟨w.heap.size + 1, 1, none⟩) (by go_size); simp [go_sem, *] at this; have := hb2.frozen (p := ⟨w.heap.size + 1, 1, none⟩) (by go_size); simp [go_sem, *] at this)
            go_region_with (go_at_call 47; ((with_reducible refine (HPl.out _).mono ?_); rintro e w3 ⟨rfl, hb3⟩); have hz3 := hb3.size; (try simp only [World.size_alloc, World.size_setCell, World.size_drew, size_drewN'] at hz3); have : w.heap.size < w3.heap.size := (by omega); have := hb3.cell (p := ⟨w.heap.size, 0, none⟩) (by go_size); simp [go_sem, *] at this; have := hb3.frozen (p := ⟨w.heap.size, 0, none⟩) (by go_size); simp [go_sem, *] at this; have := hb3.cell (p := ⟨w.heap.size, 1, none⟩) (by go_size); simp [go_sem, *] at this; have := hb3.frozen (p := ⟨w.heap.size, 1, none⟩) (by go_size); simp [go_sem, *] at this; have : w.heap.size + 1 < w3.heap.size := (by omega); have := hb3.cell (p := ⟨w.heap.size + 1, 0, none⟩) (by go_size); simp [go_sem, *] at this; have := hb3.frozen (p := ⟨w.heap.size + 1, 0, none⟩) (by go_size); simp [go_sem, *] at this; have := hb3.cell (p := ⟨w.heap.size + 1, 1, none⟩) (by go_size); simp [go_sem, *] at this; have := hb3.frozen (p := ⟨w.heap.size + 1, 1, none⟩) (by go_size); simp [go_sem, *] at this)
            all_goals
              go_wp2
              have hbw : Below wr.heap.size wr w3 := by (repeat' (first | (with_reducible exact Below.refl _ _) | (with_reducible refine Below.setCell ?_ ?_ _) | (with_reducible refine Below.alloc ?_ ?_ _) | (with_reducible refine Below.drew ?_) | (with_reducible refine belowN ?_ _) | (with_reducible refine below_step ?_ ?_ (by with_reducible assumption)) | go_size))
              refine bodyPost_ret (v := .tuple #[.agg #[.int .u64 0, .int .u64 0], .bool false]) (by simp [results, Try.results53, go_sem, *]) rfl ?_
              refine ⟨by rw [E.out.1, E.out.2]; rfl, ?_⟩
              have h9 := below_step hbel (by omega) hbw
              (repeat' (first | (with_reducible exact Below.refl _ _) | (with_reducible refine Below.setCell ?_ ?_ _) | (with_reducible refine Below.alloc ?_ ?_ _) | (with_reducible refine Below.drew ?_) | (with_reducible refine belowN ?_ _) | (with_reducible refine below_step ?_ ?_ (by with_reducible assumption)) | go_size))
        · have HT : Hid (∀ w, Calls Try.prog 39 #[M x, .int .u64 10] w fun e w' => e = .returned (.tuple #[M (u128 (x * 10)), .bool false]) ∧ Below w.heap.size w w') := Lib.hid (fun w => by
            have h := times_any x 10 w hxu (by omega) (by omega)
            rw [ltB_no ht] at h; exact h)
          have E := Lib.hid (HF.out (by omega))
          clear HF ht hxu hx1
          generalize u128 (x * 10) = y at *
          go_wp2_with (go_at_call 39; ((with_reducible refine (HT.out _).mono ?_); rintro e w2 ⟨rfl, hb2⟩); have hz2 := hb2.size; (try simp only [World.size_alloc, World.size_setCell, World.size_drew, size_drewN'] at hz2); have : w.heap.size < w2.heap.size := (by omega); have := hb2.cell (p := ⟨w.heap.size, 0, none⟩) (by go_size); simp [go_sem, *] at this; have := hb2.frozen (p := ⟨w.heap.size, 0, none⟩) (by go_size); simp [go_sem, *] at this; have := hb2.cell (p := ⟨w.heap.size, 1, none⟩) (by go_size); simp [go_sem, *] at this; have := hb2.frozen (p := ⟨w.heap.size, 1, none⟩) (by go_size); simp [go_sem, *] at this; have : w.heap.size + 1 < w2.heap.size := (by omega); have := hb2.cell (p := ⟨w.heap.size + 1, 0, none⟩) (by go_size); simp [go_sem, *] at this; have := hb2.frozen (p := ⟨w.heap.size + 1, 0, none⟩) (by go_size); simp [go_sem, *] at this; have := hb2.cell (p := ⟨w.heap.size + 1, 1, none⟩) (by go_size); simp [go_sem, *] at this; have := hb2.frozen (p := ⟨w.heap.size + 1, 1, none⟩) (by go_size); simp [go_sem, *] at this)
          have hbw : Below wr.heap.size wr w2 := by (repeat' (first | (with_reducible exact Below.refl _ _) | (with_reducible refine Below.setCell ?_ ?_ _) | (with_reducible refine Below.alloc ?_ ?_ _) | (with_reducible refine Below.drew ?_) | (with_reducible refine belowN ?_ _) | (with_reducible refine below_step ?_ ?_ (by with_reducible assumption)) | go_size))
          refine bodyPost_ret (v := .tuple #[.agg #[.int .u64 0, .int .u64 0], .bool false]) (by simp [results, Try.results53, go_sem, *]) rfl ?_
          refine ⟨by rw [E.out.1, E.out.2]; rfl, ?_⟩
          have h9 := below_step hbel (by omega) hbw
          (repeat' (first | (with_reducible exact Below.refl _ _) | (with_reducible refine Below.setCell ?_ ?_ _) | (with_reducible refine Below.alloc ?_ ?_ _) | (with_reducible refine Below.drew ?_) | (with_reducible refine belowN ?_ _) | (with_reducible refine below_step ?_ ?_ (by with_reducible assumption)) | go_size))
    · obtain rfl : k = l.length := by omega
      have hfull : l.take l.length = l := List.take_of_length_le (Nat.le_refl _)
      have hall := hi.all
      have hval := hi.val
      rw [hfull] at hall hval
      have e1 : pdB l = true := by
        unfold pdB; rw [hall, ← hval]
        have : decide (x < two128) = true := decide_eq_true hi.lt
        rw [this]; rfl
      have e2 : pdV l = x := by unfold pdV; rw [e1, hval]; rfl
      have E := Lib.hid (And.intro e1 e2)
      clear hi hfull hall hval e1 e2
      go_wp2
      refine bodyPost_ret (v := .tuple #[.agg #[.int .u64 (wh x), .int .u64 (wl x)], .bool true]) (by simp [results, Try.results53, go_sem, *]) rfl ?_
      refine ⟨by rw [E.out.1, E.out.2], ?_⟩
      exact (hbel.setCell (by simp) _).setCell (by simp) _
end Go.Proofs.Ytgdpeajompccnaa
