/- The contract of wide.Text: the decimal text of its value, old memory unchanged. -/
import Derived.Test.YtgdpeajompccnaaWideD
import Derived.Test.YtgdpeajompccnaaTxtMath
set_option linter.unusedSimpArgs false
set_option linter.unusedVariables false
namespace Go.Proofs.Ytgdpeajompccnaa
open Go.RowKit

def txt (a : Int) : List Int := if a < 0 then 45 :: txtN (size a) else txtN (size a)

/-- At the head of a round: k + 1 bytes are free, m is left, L is what the buffer holds. -/
structure TInv (a : Int) (w : World) (bm k : Nat) (m : Int) (L : List Int) (wr : World) : Prop where
  k1 : 1 ≤ k
  k39 : k ≤ 39
  m0 : U128 m
  low : m.toNat < 10 ^ k
  len : L.length = 40
  dig : dgs k m.toNat ++ L.drop (k + 1) = txtN (size a)
  buf : Row wr (w.heap.size + 1) 74 (L.map (Value.int .u8))
  mrow : Row wr bm 54 [.int .u64 (wh m), .int .u64 (wl m)]
  arow : Row wr w.heap.size 24 [.int .i64 (wh a), .int .u64 (wl a)]
  lt : w.heap.size + 1 < bm
  bel : Below w.heap.size w wr

theorem drop_set (L : List Int) (k : Nat) (v : Int) (h : k < L.length) : (L.set k v).drop k = v :: L.drop (k + 1) := by
  rw [List.drop_eq_getElem_cons (by simpa using h), List.getElem_set_self]
  congr 1
  rw [List.drop_set_of_lt (by omega)]

theorem TInv.step {a : Int} {w : World} {bm k : Nat} {m : Int} {L : List Int} {wr w2 : World} (h : TInv a w bm k m L wr) (hb : Below wr.heap.size wr w2) (h10 : ¬ m / 10 = 0) (W : World)
    (hW : W = ((w2.setCell ⟨bm, 0, none⟩ (.int .u64 (wh (m / 10)))).setCell ⟨bm, 1, none⟩ (.int .u64 (wl (m / 10)))).setCell ⟨w.heap.size + 1, k, none⟩ (.int .u8 (48 + m % 10))) :
    TInv a w bm (k - 1) (m / 10) (L.set k (48 + m % 10)) W ∧ 2 ≤ k := by
  obtain ⟨k1, k39, m0, low, len, dig, buf, mrow, arow, lt, bel⟩ := h
  subst hW
  have hk2 : 2 ≤ k := by
    rcases Nat.lt_or_ge 1 k with h | h
    · exact h
    · have : k = 1 := by omega
      subst this
      unfold U128 at m0
      omega
  obtain ⟨j, rfl⟩ : ∃ j, k = j + 1 := ⟨k - 1, by omega⟩
  have e1 : (m / 10).toNat = m.toNat / 10 := by unfold U128 at m0; omega
  have hm10 : ¬ m.toNat < 10 := by unfold U128 at m0; omega
  have hbl := Row.lt buf
  have hml := Row.lt mrow
  have hal := Row.lt arow
  refine ⟨⟨by omega, by omega, by unfold U128 at *; omega, ?_, by simpa using len, ?_, ?_, ?_, ?_, lt, ?_⟩, hk2⟩
  · rw [e1, Nat.add_sub_cancel]; rw [Nat.pow_succ] at low; omega
  · rw [← dig, dgs_more j _ hm10, e1, Nat.add_sub_cancel, drop_set L (j + 1) _ (by omega)]
    have e2 : (48 + ((m.toNat % 10 : Nat) : Int)) = 48 + m % 10 := by unfold U128 at m0; omega
    rw [e2]
    simp
  · have := (((buf.below hb hbl).far (p := ⟨bm, 0, none⟩) (by simp; omega) (.int .u64 (wh (m / 10)))).far (p := ⟨bm, 1, none⟩) (by simp; omega) (.int .u64 (wl (m / 10)))).put (j + 1) (.int .u8 (48 + m % 10))
    rw [← List.map_set] at this
    exact this
  · have := (((mrow.below hb hml).put 0 (.int .u64 (wh (m / 10)))).put 1 (.int .u64 (wl (m / 10)))).far (p := ⟨w.heap.size + 1, j + 1, none⟩) (by simp; omega) (.int .u8 (48 + m % 10))
    exact this
  · exact (((arow.below hb hal).far (p := ⟨bm, 0, none⟩) (by simp; omega) _).far (p := ⟨bm, 1, none⟩) (by simp; omega) _).far (p := ⟨w.heap.size + 1, j + 1, none⟩) (by simp) _
  · exact (((below_step bel (by omega) hb).setCell (by simp; omega) _).setCell (by simp; omega) _).setCell (by simp) _

theorem slice_at (b : Nat) (i : Int) (h0 : 0 ≤ i) (h1 : i < 40) (w : World) :
    (Instr.sliceAt 74 (.pointer (some ⟨b, 0, none⟩)) (some (.int .i64 i)) none none).run Try.prog w = .ok (.slice (some ⟨b, i.toNat, none⟩) (40 - i.toNat) (40 - i.toNat)) w := by
  have hl : Try.prog.arrayLen 74 = 40 := by kernel_rfl
  have hs : (sizeOf (Try.prog.elem 74)).run Try.prog w = .ok 1 w := by kernel_rfl
  rw [run_sliceAt_array_l w 74 _ (by kernel_rfl) _ _ h0 (by rw [hl]; omega), hs, hl]
  simp only [Result.andThen, slicedAt]
  rw [if_neg (by omega)]
  unfold Addr.add
  by_cases hz : i.toNat = 0 <;> simp [hz]

theorem conv_row {W : World} {b : Nat} {t : TypeId} {L : List Int} (h : Row W b t (L.map (Value.int .u8))) (hl : L.length = 40) (k : Nat) (hk : k ≤ 40) :
    (convert 75 9 (.slice (some ⟨b, k, none⟩) (40 - k) (40 - k))).run Try.prog W = .ok (.string (strOfNums (L.drop k))) W := by
  refine run_convert_bytes_arg W 75 5 Try.underlying75 Try.underlying5 b k (40 - k) (40 - k) (L.drop k) (by simp [hl]) (fun i hi => ?_) 9 Try.underlying9
  rw [h.cell]
  have hki : k + i < L.length := by omega
  simp [List.getD, List.getElem?_map, List.getElem?_drop, List.getElem?_eq_getElem hki]

theorem TInv.done {a : Int} {w : World} {bm k : Nat} {m : Int} {L : List Int} {wr : World} (h : TInv a w bm k m L wr) (h10 : m / 10 = 0) : (L.set k (48 + m % 10)).drop k = txtN (size a) := by
  obtain ⟨k1, k39, m0, low, len, dig, buf, mrow, arow, lt, bel⟩ := h
  rw [drop_set L k _ (by omega), ← dig]
  obtain ⟨j, rfl⟩ : ∃ j, k = j + 1 := ⟨k - 1, by omega⟩
  unfold U128 at m0
  rw [dgs_last j _ (by omega)]
  have : 48 + m % 10 = 48 + ((m.toNat : Nat) : Int) := by omega
  rw [this]
  rfl

set_option maxHeartbeats 1000000 in
theorem text_any (a : Int) (w : World) (ha : fits a) :
    Calls Try.prog 32 #[W a] w fun e w' => e = .returned (.string (strOfNums (txt a))) ∧ Below w.heap.size w w' := by
  have hm : U128 (size a) := by unfold fits lo127 hi127 at ha; unfold U128 size; split <;> omega
  go_enter Try.func32, Try.ntmps32
  go_wp2_with (first | (go_at_call 38; ((with_reducible refine (sizeOf_any _ _ ha).mono ?_); rintro e w1 ⟨rfl, hb1⟩); have hz1 := hb1.size; (try simp only [World.size_alloc, World.size_setCell, World.size_drew, size_drewN'] at hz1); have : w.heap.size < w1.heap.size := (by omega); have := hb1.cell (p := ⟨w.heap.size, 0, none⟩) (by go_size); simp [go_sem, *] at this; have := hb1.frozen (p := ⟨w.heap.size, 0, none⟩) (by go_size); simp [go_sem, *] at this; have := hb1.cell (p := ⟨w.heap.size, 1, none⟩) (by go_size); simp [go_sem, *] at this; have := hb1.frozen (p := ⟨w.heap.size, 1, none⟩) (by go_size); simp [go_sem, *] at this))
  have hI : ∃ (k : Nat) (m : Int) (L : List Int), TInv a w w1.heap.size k m L (w1.alloc (Obj.cells #[Value.int IntKind.u64 (wh (size a)), Value.int IntKind.u64 (wl (size a))] 54)) ∧ Value.int .i64 40 = Value.int .i64 ((k : Int) + 1) := by
    have r1 : Row w1 (w.heap.size + 1) 74 ((List.replicate 40 0).map (Value.int .u8)) := by
      have := (Row.new (w.alloc (.cells #[Value.int IntKind.i64 (wh a), Value.int IntKind.u64 (wl a)] 24)) 74 ((List.replicate 40 0).map (Value.int .u8))).below hb1 (by simp only [World.size_alloc]; omega)
      simpa only [World.size_alloc] using this
    have r2 : Row w1 w.heap.size 24 [.int .i64 (wh a), .int .u64 (wl a)] :=
      ((Row.new w 24 [.int .i64 (wh a), .int .u64 (wl a)]).alloc _).below hb1 (by simp only [World.size_alloc]; omega)
    refine ⟨39, size a, List.replicate 40 0, ⟨by omega, by omega, hm, ?_, rfl, ?_, r1.alloc _, ?_, r2.alloc _, by omega, ?_⟩, rfl⟩
    · unfold U128 at hm; have : (10 : Nat) ^ 39 = 1000000000000000000000000000000000000000 := by decide
      omega
    · unfold txtN; simp
    · exact Row.new w1 _ [.int .u64 (wh (size a)), .int .u64 (wl (size a))]
    · (repeat' (first | (with_reducible exact Below.refl _ _) | (with_reducible refine Below.setCell ?_ ?_ _) | (with_reducible refine Below.alloc ?_ ?_ _) | (with_reducible refine Below.drew ?_) | (with_reducible refine belowN ?_ _) | (with_reducible refine below_step ?_ ?_ (by with_reducible assumption)) | go_size))
  have HI := Lib.hid hI
  clear hI
  go_loopw [4] (fun at_ wr => ∃ (k : Nat) (m : Int) (L : List Int), TInv a w w1.heap.size k m L wr ∧ at_ = .int .i64 ((k : Int) + 1)) (fun at_ _ => (intOf at_).toNat)
  case atStart => exact HI.out
  case round =>
    obtain ⟨k, m, L, hi, rfl⟩ := hrel
    have k1 := hi.k1
    have k39 := hi.k39
    have m0 := hi.m0
    have hlt := hi.lt
    have hbl := Row.lt hi.buf
    have hml := Row.lt hi.mrow
    have hal := Row.lt hi.arow
    have x0 : wr.cell? ⟨w1.heap.size, 0, none⟩ = some (.int .u64 (wh m)) := by rw [hi.mrow.cell]; rfl
    have x1 : wr.cell? ⟨w1.heap.size, 1, none⟩ = some (.int .u64 (wl m)) := by rw [hi.mrow.cell]; rfl
    have f0 := hi.mrow.free 0
    have f1 := hi.mrow.free 1
    have y0 : wr.cell? ⟨w.heap.size, 0, none⟩ = some (.int .i64 (wh a)) := by rw [hi.arow.cell]; rfl
    have hg0 : wr.frozen? ⟨w.heap.size, 0, none⟩ = false := hi.arow.free 0
    obtain ⟨v, z0⟩ : ∃ v, wr.cell? ⟨w.heap.size + 1, k, none⟩ = some v := by
      rw [hi.buf.cell]; exact ⟨_, List.getElem?_eq_getElem (by simp [hi.len]; omega)⟩
    have hgz : wr.frozen? ⟨w.heap.size + 1, k, none⟩ = false := hi.buf.free k
    obtain ⟨u, z1⟩ : ∃ u, wr.cell? ⟨w.heap.size + 1, k - 1, none⟩ = some u := by
      rw [hi.buf.cell]; exact ⟨_, List.getElem?_eq_getElem (by simp [hi.len]; omega)⟩
    have hgz1 : wr.frozen? ⟨w.heap.size + 1, k - 1, none⟩ = false := hi.buf.free (k - 1)
    have HI' := Lib.hid hi
    clear hi
    have d0 : 0 ≤ m % 10 := by omega
    have d1 : m % 10 < 10 := by omega
    by_cases h10 : m / 10 = 0
    · have q0 : wh (m / 10) = 0 := by rw [h10]; rfl
      have q1 : wl (m / 10) = 0 := by rw [h10]; rfl
      have hsl := slice_at (w.heap.size + 1) (k : Int) (by omega) (by omega)
      have hsl1 := slice_at (w.heap.size + 1) ((k : Int) - 1) (by omega) (by omega)
      by_cases hneg : a < 0
      · have hn : wh a < 0 := (lt0_iff a).2 hneg
        go_wp2_with (first | (go_at_call 46; ((with_reducible refine (over_any _ _ _ m0 (by decide) (by decide)).mono ?_); rintro e w2 ⟨rfl, hb2⟩); have hz2 := hb2.size; (try simp only [World.size_alloc, World.size_setCell, World.size_drew, size_drewN'] at hz2); have : w1.heap.size < w2.heap.size := (by omega); have := hb2.cell (p := ⟨w1.heap.size, 0, none⟩) (by go_size); simp [go_sem, *] at this; have := hb2.frozen (p := ⟨w1.heap.size, 0, none⟩) (by go_size); simp [go_sem, *] at this; have := hb2.cell (p := ⟨w1.heap.size, 1, none⟩) (by go_size); simp [go_sem, *] at this; have := hb2.frozen (p := ⟨w1.heap.size, 1, none⟩) (by go_size); simp [go_sem, *] at this; have : w.heap.size < w2.heap.size := (by omega); have := hb2.cell (p := ⟨w.heap.size, 0, none⟩) (by go_size); simp [go_sem, *] at this; have := hb2.frozen (p := ⟨w.heap.size, 0, none⟩) (by go_size); simp [go_sem, *] at this; have : w.heap.size + 1 < w2.heap.size := (by omega); have := hb2.cell (p := ⟨w.heap.size + 1, k, none⟩) (by go_size); simp [go_sem, *] at this; have := hb2.frozen (p := ⟨w.heap.size + 1, k, none⟩) (by go_size); simp [go_sem, *] at this; have := hb2.cell (p := ⟨w.heap.size + 1, k - 1, none⟩) (by go_size); simp [go_sem, *] at this; have := hb2.frozen (p := ⟨w.heap.size + 1, k - 1, none⟩) (by go_size); simp [go_sem, *] at this))
        have R0 := (((HI'.out.buf.below hb2 hbl).far (p := ⟨w1.heap.size, 0, none⟩) (by simp; omega) (.int .u64 0)).far (p := ⟨w1.heap.size, 1, none⟩) (by simp; omega) (.int .u64 0)).put k (.int .u8 (48 + m % 10))
        rw [← List.map_set] at R0
        have R1 := R0.put (k - 1) (.int .u8 45)
        rw [← List.map_set] at R1
        have et : ((L.set k (48 + m % 10)).set (k - 1) 45).drop (k - 1) = txt a := by
          rw [drop_set _ _ _ (by simp [HI'.out.len]; omega), show k - 1 + 1 = k by omega, HI'.out.done h10]
          simp [txt, hneg]
        rw [conv_row R1 (by simp [HI'.out.len]) (k - 1) (by omega), et]
        go_wp2
        go_ret
        refine ⟨rfl, ?_⟩
        have hbel := HI'.out.bel
        exact (((((below_step hbel (by omega) hb2).setCell (by simp; omega) _).setCell (by simp; omega) _).setCell (by simp) _).setCell (by simp) _)
      · have hn : ¬ wh a < 0 := fun h => hneg ((lt0_iff a).1 h)
        go_wp2_with (first | (go_at_call 46; ((with_reducible refine (over_any _ _ _ m0 (by decide) (by decide)).mono ?_); rintro e w2 ⟨rfl, hb2⟩); have hz2 := hb2.size; (try simp only [World.size_alloc, World.size_setCell, World.size_drew, size_drewN'] at hz2); have : w1.heap.size < w2.heap.size := (by omega); have := hb2.cell (p := ⟨w1.heap.size, 0, none⟩) (by go_size); simp [go_sem, *] at this; have := hb2.frozen (p := ⟨w1.heap.size, 0, none⟩) (by go_size); simp [go_sem, *] at this; have := hb2.cell (p := ⟨w1.heap.size, 1, none⟩) (by go_size); simp [go_sem, *] at this; have := hb2.frozen (p := ⟨w1.heap.size, 1, none⟩) (by go_size); simp [go_sem, *] at this; have : w.heap.size < w2.heap.size := (by omega); have := hb2.cell (p := ⟨w.heap.size, 0, none⟩) (by go_size); simp [go_sem, *] at this; have := hb2.frozen (p := ⟨w.heap.size, 0, none⟩) (by go_size); simp [go_sem, *] at this; have : w.heap.size + 1 < w2.heap.size := (by omega); have := hb2.cell (p := ⟨w.heap.size + 1, k, none⟩) (by go_size); simp [go_sem, *] at this; have := hb2.frozen (p := ⟨w.heap.size + 1, k, none⟩) (by go_size); simp [go_sem, *] at this))
        have R0 := (((HI'.out.buf.below hb2 hbl).far (p := ⟨w1.heap.size, 0, none⟩) (by simp; omega) (.int .u64 0)).far (p := ⟨w1.heap.size, 1, none⟩) (by simp; omega) (.int .u64 0)).put k (.int .u8 (48 + m % 10))
        rw [← List.map_set] at R0
        have et : (L.set k (48 + m % 10)).drop k = txt a := by
          rw [HI'.out.done h10]
          simp [txt, hneg]
        rw [conv_row R0 (by simp [HI'.out.len]) k (by omega), et]
        go_wp2
        go_ret
        refine ⟨rfl, ?_⟩
        have hbel := HI'.out.bel
        exact ((((below_step hbel (by omega) hb2).setCell (by simp; omega) _).setCell (by simp; omega) _).setCell (by simp) _)
    · by_cases hq : wh (m / 10) = 0
      · have hq0 : (wh (m / 10) == 0) = true := by simp [hq]
        have hq1 : (wl (m / 10) == 0) = false := by rw [beq_eq_false_iff_ne]; intro h; apply h10; unfold wh wl at *; omega
        clear hq
        go_wp2_with (first | (go_at_call 46; ((with_reducible refine (over_any _ _ _ m0 (by decide) (by decide)).mono ?_); rintro e w2 ⟨rfl, hb2⟩); have hz2 := hb2.size; (try simp only [World.size_alloc, World.size_setCell, World.size_drew, size_drewN'] at hz2); have : w1.heap.size < w2.heap.size := (by omega); have := hb2.cell (p := ⟨w1.heap.size, 0, none⟩) (by go_size); simp [go_sem, *] at this; have := hb2.frozen (p := ⟨w1.heap.size, 0, none⟩) (by go_size); simp [go_sem, *] at this; have := hb2.cell (p := ⟨w1.heap.size, 1, none⟩) (by go_size); simp [go_sem, *] at this; have := hb2.frozen (p := ⟨w1.heap.size, 1, none⟩) (by go_size); simp [go_sem, *] at this; have : w.heap.size < w2.heap.size := (by omega); have := hb2.cell (p := ⟨w.heap.size, 0, none⟩) (by go_size); simp [go_sem, *] at this; have := hb2.frozen (p := ⟨w.heap.size, 0, none⟩) (by go_size); simp [go_sem, *] at this; have : w.heap.size + 1 < w2.heap.size := (by omega); have := hb2.cell (p := ⟨w.heap.size + 1, k, none⟩) (by go_size); simp [go_sem, *] at this; have := hb2.frozen (p := ⟨w.heap.size + 1, k, none⟩) (by go_size); simp [go_sem, *] at this))
        obtain ⟨hs, hk2⟩ := HI'.out.step hb2 h10 _ rfl
        exact ⟨⟨k - 1, m / 10, _, hs, by rw [show ((k - 1 : Nat) : Int) + 1 = k by omega]⟩, by simp [intOf]⟩
      · have hq0 : (wh (m / 10) == 0) = false := by simp [hq]
        clear hq
        go_wp2_with (first | (go_at_call 46; ((with_reducible refine (over_any _ _ _ m0 (by decide) (by decide)).mono ?_); rintro e w2 ⟨rfl, hb2⟩); have hz2 := hb2.size; (try simp only [World.size_alloc, World.size_setCell, World.size_drew, size_drewN'] at hz2); have : w1.heap.size < w2.heap.size := (by omega); have := hb2.cell (p := ⟨w1.heap.size, 0, none⟩) (by go_size); simp [go_sem, *] at this; have := hb2.frozen (p := ⟨w1.heap.size, 0, none⟩) (by go_size); simp [go_sem, *] at this; have := hb2.cell (p := ⟨w1.heap.size, 1, none⟩) (by go_size); simp [go_sem, *] at this; have := hb2.frozen (p := ⟨w1.heap.size, 1, none⟩) (by go_size); simp [go_sem, *] at this; have : w.heap.size < w2.heap.size := (by omega); have := hb2.cell (p := ⟨w.heap.size, 0, none⟩) (by go_size); simp [go_sem, *] at this; have := hb2.frozen (p := ⟨w.heap.size, 0, none⟩) (by go_size); simp [go_sem, *] at this; have : w.heap.size + 1 < w2.heap.size := (by omega); have := hb2.cell (p := ⟨w.heap.size + 1, k, none⟩) (by go_size); simp [go_sem, *] at this; have := hb2.frozen (p := ⟨w.heap.size + 1, k, none⟩) (by go_size); simp [go_sem, *] at this))
        obtain ⟨hs, hk2⟩ := HI'.out.step hb2 h10 _ rfl
        exact ⟨⟨k - 1, m / 10, _, hs, by rw [show ((k - 1 : Nat) : Int) + 1 = k by omega]⟩, by simp [intOf]⟩
end Go.Proofs.Ytgdpeajompccnaa
