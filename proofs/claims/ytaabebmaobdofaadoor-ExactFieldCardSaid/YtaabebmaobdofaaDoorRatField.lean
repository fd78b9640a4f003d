/- Sums and products of package exact are undone by differences and quotients, and compare as they should: ExactField returns true for every input, and old memory is as it was. Condition: the listed tables of the library are as the program's text lays them (the card ties them). -/
import Derived.Test.YtaabebmaobdofaaDoorRatK
import Derived.Test.YtaabebmaobdofaaDoorRatL
import Derived.Test.YtaabebmaobdofaaDoorRatFn
import Derived.Lib.QuietBelow
set_option linter.unusedSimpArgs false
set_option linter.unusedVariables false
namespace Go.Proofs.YtaabebmaobdofaaDoor
open Go.ChangeShapes Go.WideShapes Go.ChangeAt Go.RowKit

theorem at_class {W : World} {f : FuncId} {args : Array Value} {v : Value} (h : ∀ w, Calls Tryd.prog f args w fun e w' => e = .returned v ∧ Below w.heap.size w w') :
    ∀ d os, Calls Tryd.prog f args («Sort».grow (redrawn W d) os) fun e w'' => e = .returned v ∧ ∃ p : Regrown, w'' = «Sort».grow (redrawn W p.d) p.os := fun d os => Calls.regrown_of (h _)

theorem cmpR_bd (a b c d : Int) : -1 ≤ cmpR a b c d ∧ cmpR a b c d ≤ 1 := by
  unfold cmpR cmpO
  split
  · split
    · omega
    · split <;> omega
  · omega


set_option maxHeartbeats 4000000 in
theorem field_n0 (p q r t sn sd mn md se me c0 c1 c2 : Int) (w : World)
    (hAdd : ∀ w, Calls Tryd.prog 19 #[R2 p q, R2 r t] w fun e w' => e = .returned (.tuple #[R2 sn sd, .int .i64 se]) ∧ Below w.heap.size w w')
    (hMul : ∀ w, Calls Tryd.prog 25 #[R2 p q, R2 r t] w fun e w' => e = .returned (.tuple #[R2 mn md, .int .i64 me]) ∧ Below w.heap.size w w')
    (hC2 : ∀ w, Calls Tryd.prog 29 #[R2 r t, R2 0 1] w fun e w' => e = .returned (.int .i64 c0) ∧ Below w.heap.size w w')
    (hC3 : ∀ w, Calls Tryd.prog 29 #[R2 p q, R2 r t] w fun e w' => e = .returned (.int .i64 (-c2)) ∧ Below w.heap.size w w')
    (hC4 : ∀ w, Calls Tryd.prog 29 #[R2 r t, R2 p q] w fun e w' => e = .returned (.int .i64 c2) ∧ Below w.heap.size w w')
    (hC5 : ∀ w, Calls Tryd.prog 30 #[R2 p q, R2 r t] w fun e w' => e = .returned (.int .i64 (-c2)) ∧ Below w.heap.size w w')
    (hc2 : -1 ≤ c2) (hc3 : c2 ≤ 1) (kse : (se == 0) = false) (kme : (me == 0) = false)  :
    Calls Tryd.prog 6 #[R2 p q, R2 r t] w fun e w' => e = .returned (.bool true) ∧ Below w.heap.size w w' := by
  have hwr : IntKind.i64.wrap (-c2) = -c2 := by rw [IntKind.wrap_i64]; omega
  have hA := Lib.hid awake_any
  have HAdd := Lib.hid hAdd
  have HMul := Lib.hid hMul
  have HC2 := Lib.hid hC2
  have HC3 := Lib.hid hC3
  have HC4 := Lib.hid hC4
  have HC5 := Lib.hid hC5
  clear hAdd hMul hC2 hC3 hC4 hC5
  go_enter Tryd.func6, Tryd.ntmps6
  go_wp2_with (first | (go_at_call 12; ((with_reducible refine (hA.out _).mono ?_); rintro e w1 ⟨rfl, hb1⟩); have hz1 := hb1.size; (try simp only [World.size_alloc, World.size_setCell, World.size_drew, size_drewN'] at hz1); have : w.heap.size < w1.heap.size := (by omega); have := hb1.cell (p := ⟨w.heap.size, 0, none⟩) (by go_size); simp [go_sem, *] at this; have := hb1.frozen (p := ⟨w.heap.size, 0, none⟩) (by go_size); simp [go_sem, *] at this; have := hb1.cell (p := ⟨w.heap.size, 1, none⟩) (by go_size); simp [go_sem, *] at this; have := hb1.frozen (p := ⟨w.heap.size, 1, none⟩) (by go_size); simp [go_sem, *] at this; have : w.heap.size + 1 < w1.heap.size := (by omega); have := hb1.cell (p := ⟨w.heap.size + 1, 0, none⟩) (by go_size); simp [go_sem, *] at this; have := hb1.frozen (p := ⟨w.heap.size + 1, 0, none⟩) (by go_size); simp [go_sem, *] at this; have := hb1.cell (p := ⟨w.heap.size + 1, 1, none⟩) (by go_size); simp [go_sem, *] at this; have := hb1.frozen (p := ⟨w.heap.size + 1, 1, none⟩) (by go_size); simp [go_sem, *] at this) | (go_at_call 19; ((with_reducible refine (HAdd.out _).mono ?_); rintro e w2 ⟨rfl, hb2⟩); have hz2 := hb2.size; (try simp only [World.size_alloc, World.size_setCell, World.size_drew, size_drewN'] at hz2); have : w.heap.size < w2.heap.size := (by omega); have := hb2.cell (p := ⟨w.heap.size, 0, none⟩) (by go_size); simp [go_sem, *] at this; have := hb2.frozen (p := ⟨w.heap.size, 0, none⟩) (by go_size); simp [go_sem, *] at this; have := hb2.cell (p := ⟨w.heap.size, 1, none⟩) (by go_size); simp [go_sem, *] at this; have := hb2.frozen (p := ⟨w.heap.size, 1, none⟩) (by go_size); simp [go_sem, *] at this; have : w.heap.size + 1 < w2.heap.size := (by omega); have := hb2.cell (p := ⟨w.heap.size + 1, 0, none⟩) (by go_size); simp [go_sem, *] at this; have := hb2.frozen (p := ⟨w.heap.size + 1, 0, none⟩) (by go_size); simp [go_sem, *] at this; have := hb2.cell (p := ⟨w.heap.size + 1, 1, none⟩) (by go_size); simp [go_sem, *] at this; have := hb2.frozen (p := ⟨w.heap.size + 1, 1, none⟩) (by go_size); simp [go_sem, *] at this; have : w1.heap.size < w2.heap.size := (by omega); have := hb2.cell (p := ⟨w1.heap.size, 0, none⟩) (by go_size); simp [go_sem, *] at this; have := hb2.frozen (p := ⟨w1.heap.size, 0, none⟩) (by go_size); simp [go_sem, *] at this; have := hb2.cell (p := ⟨w1.heap.size, 1, none⟩) (by go_size); simp [go_sem, *] at this; have := hb2.frozen (p := ⟨w1.heap.size, 1, none⟩) (by go_size); simp [go_sem, *] at this) | (go_at_call 25; ((with_reducible refine (HMul.out _).mono ?_); rintro e w5 ⟨rfl, hb5⟩); have hz5 := hb5.size; (try simp only [World.size_alloc, World.size_setCell, World.size_drew, size_drewN'] at hz5); have : w.heap.size < w5.heap.size := (by omega); have := hb5.cell (p := ⟨w.heap.size, 0, none⟩) (by go_size); simp [go_sem, *] at this; have := hb5.cell (p := ⟨w.heap.size, 1, none⟩) (by go_size); simp [go_sem, *] at this; have : w.heap.size + 1 < w5.heap.size := (by omega); have := hb5.cell (p := ⟨w.heap.size + 1, 0, none⟩) (by go_size); simp [go_sem, *] at this; have := hb5.cell (p := ⟨w.heap.size + 1, 1, none⟩) (by go_size); simp [go_sem, *] at this; have : w1.heap.size < w5.heap.size := (by omega); have := hb5.cell (p := ⟨w1.heap.size, 0, none⟩) (by go_size); simp [go_sem, *] at this; have := hb5.cell (p := ⟨w1.heap.size, 1, none⟩) (by go_size); simp [go_sem, *] at this))
  have k0 : (w5.alloc (Obj.cells #[Value.int IntKind.i64 mn, Value.int IntKind.i64 md] 24)).cell? ⟨w.heap.size, 0, none⟩ = some (.int .i64 p) := by simp [go_sem, *]
  have k1 : (w5.alloc (Obj.cells #[Value.int IntKind.i64 mn, Value.int IntKind.i64 md] 24)).cell? ⟨w.heap.size, 1, none⟩ = some (.int .i64 q) := by simp [go_sem, *]
  have k2 : (w5.alloc (Obj.cells #[Value.int IntKind.i64 mn, Value.int IntKind.i64 md] 24)).cell? ⟨w.heap.size + 1, 0, none⟩ = some (.int .i64 r) := by simp [go_sem, *]
  have k3 : (w5.alloc (Obj.cells #[Value.int IntKind.i64 mn, Value.int IntKind.i64 md] 24)).cell? ⟨w.heap.size + 1, 1, none⟩ = some (.int .i64 t) := by simp [go_sem, *]
  have hWb : Below w.heap.size w (w5.alloc (Obj.cells #[Value.int IntKind.i64 mn, Value.int IntKind.i64 md] 24)) := by (repeat' (first | (with_reducible exact Below.refl _ _) | (with_reducible refine Below.setCell ?_ ?_ _) | (with_reducible refine Below.alloc ?_ ?_ _) | (with_reducible refine Below.drew ?_) | (with_reducible refine belowN ?_ _) | (with_reducible refine below_step ?_ ?_ (by with_reducible assumption)) | go_size))
  generalize (w5.alloc (Obj.cells #[Value.int IntKind.i64 mn, Value.int IntKind.i64 md] 24)) = W at *
  have g0 := cell_regrown k0
  have g1 := cell_regrown k1
  have g2 := cell_regrown k2
  have g3 := cell_regrown k3
  have A1 := at_class (W := W) HC3.out
  have A2 := at_class (W := W) HC4.out
  have A3 := at_class (W := W) HC5.out
  refine wp_region_quiet_below (by kernel_rfl) (by kernel_rfl) ?_; (repeat (first | go_big_quiet_step (first | with_reducible exact A1 _ _ | with_reducible exact A2 _ _ | with_reducible exact A3 _ _) | quiet_step (first | with_reducible exact A1 _ _ | with_reducible exact A2 _ _ | with_reducible exact A3 _ _))); refine wpQuiet_nil ?_; intro _ hw'; obtain ⟨⟨dq, osq⟩, hw''⟩ := hw'; subst hw''
  have hb7 := below_regrown W dq osq
  clear g0 g1 g2 g3 A1 A2 A3
  generalize «Sort».grow (redrawn W dq) osq = w7 at *
  go_wp2
  go_ret
  exact ⟨by simp, hWb.trans (hb7.mono hWb.size)⟩

set_option maxHeartbeats 4000000 in
theorem field_n1 (p q r t sn sd mn md se me c0 c1 c2 : Int) (w : World)
    (hAdd : ∀ w, Calls Tryd.prog 19 #[R2 p q, R2 r t] w fun e w' => e = .returned (.tuple #[R2 sn sd, .int .i64 se]) ∧ Below w.heap.size w w')
    (hMul : ∀ w, Calls Tryd.prog 25 #[R2 p q, R2 r t] w fun e w' => e = .returned (.tuple #[R2 mn md, .int .i64 me]) ∧ Below w.heap.size w w')
    (hC2 : ∀ w, Calls Tryd.prog 29 #[R2 r t, R2 0 1] w fun e w' => e = .returned (.int .i64 c0) ∧ Below w.heap.size w w')
    (hC3 : ∀ w, Calls Tryd.prog 29 #[R2 p q, R2 r t] w fun e w' => e = .returned (.int .i64 (-c2)) ∧ Below w.heap.size w w')
    (hC4 : ∀ w, Calls Tryd.prog 29 #[R2 r t, R2 p q] w fun e w' => e = .returned (.int .i64 c2) ∧ Below w.heap.size w w')
    (hC5 : ∀ w, Calls Tryd.prog 30 #[R2 p q, R2 r t] w fun e w' => e = .returned (.int .i64 (-c2)) ∧ Below w.heap.size w w')
    (hc2 : -1 ≤ c2) (hc3 : c2 ≤ 1) (kse : (se == 0) = false) (hme : me = 0) (hr : r = 0) (ht : t = 1) :
    Calls Tryd.prog 6 #[R2 p q, R2 r t] w fun e w' => e = .returned (.bool true) ∧ Below w.heap.size w w' := by
  have hwr : IntKind.i64.wrap (-c2) = -c2 := by rw [IntKind.wrap_i64]; omega
  have hA := Lib.hid awake_any
  have HAdd := Lib.hid hAdd
  have HMul := Lib.hid hMul
  have HC2 := Lib.hid hC2
  have HC3 := Lib.hid hC3
  have HC4 := Lib.hid hC4
  have HC5 := Lib.hid hC5
  clear hAdd hMul hC2 hC3 hC4 hC5
  subst hme
  subst hr ht
  go_enter Tryd.func6, Tryd.ntmps6
  go_wp2_with (first | (go_at_call 12; ((with_reducible refine (hA.out _).mono ?_); rintro e w1 ⟨rfl, hb1⟩); have hz1 := hb1.size; (try simp only [World.size_alloc, World.size_setCell, World.size_drew, size_drewN'] at hz1); have : w.heap.size < w1.heap.size := (by omega); have := hb1.cell (p := ⟨w.heap.size, 0, none⟩) (by go_size); simp [go_sem, *] at this; have := hb1.frozen (p := ⟨w.heap.size, 0, none⟩) (by go_size); simp [go_sem, *] at this; have := hb1.cell (p := ⟨w.heap.size, 1, none⟩) (by go_size); simp [go_sem, *] at this; have := hb1.frozen (p := ⟨w.heap.size, 1, none⟩) (by go_size); simp [go_sem, *] at this; have : w.heap.size + 1 < w1.heap.size := (by omega); have := hb1.cell (p := ⟨w.heap.size + 1, 0, none⟩) (by go_size); simp [go_sem, *] at this; have := hb1.frozen (p := ⟨w.heap.size + 1, 0, none⟩) (by go_size); simp [go_sem, *] at this; have := hb1.cell (p := ⟨w.heap.size + 1, 1, none⟩) (by go_size); simp [go_sem, *] at this; have := hb1.frozen (p := ⟨w.heap.size + 1, 1, none⟩) (by go_size); simp [go_sem, *] at this) | (go_at_call 19; ((with_reducible refine (HAdd.out _).mono ?_); rintro e w2 ⟨rfl, hb2⟩); have hz2 := hb2.size; (try simp only [World.size_alloc, World.size_setCell, World.size_drew, size_drewN'] at hz2); have : w.heap.size < w2.heap.size := (by omega); have := hb2.cell (p := ⟨w.heap.size, 0, none⟩) (by go_size); simp [go_sem, *] at this; have := hb2.frozen (p := ⟨w.heap.size, 0, none⟩) (by go_size); simp [go_sem, *] at this; have := hb2.cell (p := ⟨w.heap.size, 1, none⟩) (by go_size); simp [go_sem, *] at this; have := hb2.frozen (p := ⟨w.heap.size, 1, none⟩) (by go_size); simp [go_sem, *] at this; have : w.heap.size + 1 < w2.heap.size := (by omega); have := hb2.cell (p := ⟨w.heap.size + 1, 0, none⟩) (by go_size); simp [go_sem, *] at this; have := hb2.frozen (p := ⟨w.heap.size + 1, 0, none⟩) (by go_size); simp [go_sem, *] at this; have := hb2.cell (p := ⟨w.heap.size + 1, 1, none⟩) (by go_size); simp [go_sem, *] at this; have := hb2.frozen (p := ⟨w.heap.size + 1, 1, none⟩) (by go_size); simp [go_sem, *] at this; have : w1.heap.size < w2.heap.size := (by omega); have := hb2.cell (p := ⟨w1.heap.size, 0, none⟩) (by go_size); simp [go_sem, *] at this; have := hb2.frozen (p := ⟨w1.heap.size, 0, none⟩) (by go_size); simp [go_sem, *] at this; have := hb2.cell (p := ⟨w1.heap.size, 1, none⟩) (by go_size); simp [go_sem, *] at this; have := hb2.frozen (p := ⟨w1.heap.size, 1, none⟩) (by go_size); simp [go_sem, *] at this) | (go_at_call 25; ((with_reducible refine (HMul.out _).mono ?_); rintro e w5 ⟨rfl, hb5⟩); have hz5 := hb5.size; (try simp only [World.size_alloc, World.size_setCell, World.size_drew, size_drewN'] at hz5); have : w.heap.size < w5.heap.size := (by omega); have := hb5.cell (p := ⟨w.heap.size, 0, none⟩) (by go_size); simp [go_sem, *] at this; have := hb5.cell (p := ⟨w.heap.size, 1, none⟩) (by go_size); simp [go_sem, *] at this; have : w.heap.size + 1 < w5.heap.size := (by omega); have := hb5.cell (p := ⟨w.heap.size + 1, 0, none⟩) (by go_size); simp [go_sem, *] at this; have := hb5.cell (p := ⟨w.heap.size + 1, 1, none⟩) (by go_size); simp [go_sem, *] at this; have : w1.heap.size < w5.heap.size := (by omega); have := hb5.cell (p := ⟨w1.heap.size, 0, none⟩) (by go_size); simp [go_sem, *] at this; have := hb5.cell (p := ⟨w1.heap.size, 1, none⟩) (by go_size); simp [go_sem, *] at this))
  have k0 : (w5.alloc (Obj.cells #[Value.int IntKind.i64 mn, Value.int IntKind.i64 md] 24)).cell? ⟨w.heap.size, 0, none⟩ = some (.int .i64 p) := by simp [go_sem, *]
  have k1 : (w5.alloc (Obj.cells #[Value.int IntKind.i64 mn, Value.int IntKind.i64 md] 24)).cell? ⟨w.heap.size, 1, none⟩ = some (.int .i64 q) := by simp [go_sem, *]
  have k2 : (w5.alloc (Obj.cells #[Value.int IntKind.i64 mn, Value.int IntKind.i64 md] 24)).cell? ⟨w.heap.size + 1, 0, none⟩ = some (.int .i64 0) := by simp [go_sem, *]
  have k3 : (w5.alloc (Obj.cells #[Value.int IntKind.i64 mn, Value.int IntKind.i64 md] 24)).cell? ⟨w.heap.size + 1, 1, none⟩ = some (.int .i64 1) := by simp [go_sem, *]
  have hWb : Below w.heap.size w (w5.alloc (Obj.cells #[Value.int IntKind.i64 mn, Value.int IntKind.i64 md] 24)) := by (repeat' (first | (with_reducible exact Below.refl _ _) | (with_reducible refine Below.setCell ?_ ?_ _) | (with_reducible refine Below.alloc ?_ ?_ _) | (with_reducible refine Below.drew ?_) | (with_reducible refine belowN ?_ _) | (with_reducible refine below_step ?_ ?_ (by with_reducible assumption)) | go_size))
  generalize (w5.alloc (Obj.cells #[Value.int IntKind.i64 mn, Value.int IntKind.i64 md] 24)) = W at *
  have g0 := cell_regrown k0
  have g1 := cell_regrown k1
  have g2 := cell_regrown k2
  have g3 := cell_regrown k3
  have A1 := at_class (W := W) HC3.out
  have A2 := at_class (W := W) HC4.out
  have A3 := at_class (W := W) HC5.out
  refine wp_region_quiet_below (by kernel_rfl) (by kernel_rfl) ?_; (repeat (first | go_big_quiet_step (first | with_reducible exact A1 _ _ | with_reducible exact A2 _ _ | with_reducible exact A3 _ _) | quiet_step (first | with_reducible exact A1 _ _ | with_reducible exact A2 _ _ | with_reducible exact A3 _ _))); refine wpQuiet_nil ?_; intro _ hw'; obtain ⟨⟨dq, osq⟩, hw''⟩ := hw'; subst hw''
  have hb7 := below_regrown W dq osq
  clear g0 g1 g2 g3 A1 A2 A3
  generalize «Sort».grow (redrawn W dq) osq = w7 at *
  go_wp2
  go_ret
  exact ⟨by simp, hWb.trans (hb7.mono hWb.size)⟩

set_option maxHeartbeats 4000000 in
theorem field_n2 (p q r t sn sd mn md se me c0 c1 c2 : Int) (w : World)
    (hAdd : ∀ w, Calls Tryd.prog 19 #[R2 p q, R2 r t] w fun e w' => e = .returned (.tuple #[R2 sn sd, .int .i64 se]) ∧ Below w.heap.size w w')
    (hMul : ∀ w, Calls Tryd.prog 25 #[R2 p q, R2 r t] w fun e w' => e = .returned (.tuple #[R2 mn md, .int .i64 me]) ∧ Below w.heap.size w w')
    (hDiv : ∀ w, Calls Tryd.prog 27 #[R2 mn md, R2 r t] w fun e w' => e = .returned (.tuple #[R2 p q, .int .i64 0]) ∧ Below w.heap.size w w')
    (hC2 : ∀ w, Calls Tryd.prog 29 #[R2 r t, R2 0 1] w fun e w' => e = .returned (.int .i64 c0) ∧ Below w.heap.size w w')
    (hC3 : ∀ w, Calls Tryd.prog 29 #[R2 p q, R2 r t] w fun e w' => e = .returned (.int .i64 (-c2)) ∧ Below w.heap.size w w')
    (hC4 : ∀ w, Calls Tryd.prog 29 #[R2 r t, R2 p q] w fun e w' => e = .returned (.int .i64 c2) ∧ Below w.heap.size w w')
    (hC5 : ∀ w, Calls Tryd.prog 30 #[R2 p q, R2 r t] w fun e w' => e = .returned (.int .i64 (-c2)) ∧ Below w.heap.size w w')
    (hc2 : -1 ≤ c2) (hc3 : c2 ≤ 1) (kse : (se == 0) = false) (hme : me = 0) (kr : (r == 0) = false ∨ ((r == 0) = true ∧ (t == 1) = false)) :
    Calls Tryd.prog 6 #[R2 p q, R2 r t] w fun e w' => e = .returned (.bool true) ∧ Below w.heap.size w w' := by
  have hwr : IntKind.i64.wrap (-c2) = -c2 := by rw [IntKind.wrap_i64]; omega
  have hA := Lib.hid awake_any
  have HAdd := Lib.hid hAdd
  have HMul := Lib.hid hMul
  have HDiv := Lib.hid hDiv
  have HC2 := Lib.hid hC2
  have HC3 := Lib.hid hC3
  have HC4 := Lib.hid hC4
  have HC5 := Lib.hid hC5
  clear hAdd hMul hDiv hC2 hC3 hC4 hC5
  subst hme
  rcases kr with kr | ⟨kr, kt⟩
  all_goals
    go_enter Tryd.func6, Tryd.ntmps6
    go_wp2_with (first | (go_at_call 12; ((with_reducible refine (hA.out _).mono ?_); rintro e w1 ⟨rfl, hb1⟩); have hz1 := hb1.size; (try simp only [World.size_alloc, World.size_setCell, World.size_drew, size_drewN'] at hz1); have : w.heap.size < w1.heap.size := (by omega); have := hb1.cell (p := ⟨w.heap.size, 0, none⟩) (by go_size); simp [go_sem, *] at this; have := hb1.frozen (p := ⟨w.heap.size, 0, none⟩) (by go_size); simp [go_sem, *] at this; have := hb1.cell (p := ⟨w.heap.size, 1, none⟩) (by go_size); simp [go_sem, *] at this; have := hb1.frozen (p := ⟨w.heap.size, 1, none⟩) (by go_size); simp [go_sem, *] at this; have : w.heap.size + 1 < w1.heap.size := (by omega); have := hb1.cell (p := ⟨w.heap.size + 1, 0, none⟩) (by go_size); simp [go_sem, *] at this; have := hb1.frozen (p := ⟨w.heap.size + 1, 0, none⟩) (by go_size); simp [go_sem, *] at this; have := hb1.cell (p := ⟨w.heap.size + 1, 1, none⟩) (by go_size); simp [go_sem, *] at this; have := hb1.frozen (p := ⟨w.heap.size + 1, 1, none⟩) (by go_size); simp [go_sem, *] at this) | (go_at_call 19; ((with_reducible refine (HAdd.out _).mono ?_); rintro e w2 ⟨rfl, hb2⟩); have hz2 := hb2.size; (try simp only [World.size_alloc, World.size_setCell, World.size_drew, size_drewN'] at hz2); have : w.heap.size < w2.heap.size := (by omega); have := hb2.cell (p := ⟨w.heap.size, 0, none⟩) (by go_size); simp [go_sem, *] at this; have := hb2.frozen (p := ⟨w.heap.size, 0, none⟩) (by go_size); simp [go_sem, *] at this; have := hb2.cell (p := ⟨w.heap.size, 1, none⟩) (by go_size); simp [go_sem, *] at this; have := hb2.frozen (p := ⟨w.heap.size, 1, none⟩) (by go_size); simp [go_sem, *] at this; have : w.heap.size + 1 < w2.heap.size := (by omega); have := hb2.cell (p := ⟨w.heap.size + 1, 0, none⟩) (by go_size); simp [go_sem, *] at this; have := hb2.frozen (p := ⟨w.heap.size + 1, 0, none⟩) (by go_size); simp [go_sem, *] at this; have := hb2.cell (p := ⟨w.heap.size + 1, 1, none⟩) (by go_size); simp [go_sem, *] at this; have := hb2.frozen (p := ⟨w.heap.size + 1, 1, none⟩) (by go_size); simp [go_sem, *] at this; have : w1.heap.size < w2.heap.size := (by omega); have := hb2.cell (p := ⟨w1.heap.size, 0, none⟩) (by go_size); simp [go_sem, *] at this; have := hb2.frozen (p := ⟨w1.heap.size, 0, none⟩) (by go_size); simp [go_sem, *] at this; have := hb2.cell (p := ⟨w1.heap.size, 1, none⟩) (by go_size); simp [go_sem, *] at this; have := hb2.frozen (p := ⟨w1.heap.size, 1, none⟩) (by go_size); simp [go_sem, *] at this) | (go_at_call 25; ((with_reducible refine (HMul.out _).mono ?_); rintro e w5 ⟨rfl, hb5⟩); have hz5 := hb5.size; (try simp only [World.size_alloc, World.size_setCell, World.size_drew, size_drewN'] at hz5); have : w.heap.size < w5.heap.size := (by omega); have := hb5.cell (p := ⟨w.heap.size, 0, none⟩) (by go_size); simp [go_sem, *] at this; have := hb5.cell (p := ⟨w.heap.size, 1, none⟩) (by go_size); simp [go_sem, *] at this; have : w.heap.size + 1 < w5.heap.size := (by omega); have := hb5.cell (p := ⟨w.heap.size + 1, 0, none⟩) (by go_size); simp [go_sem, *] at this; have := hb5.cell (p := ⟨w.heap.size + 1, 1, none⟩) (by go_size); simp [go_sem, *] at this; have : w1.heap.size < w5.heap.size := (by omega); have := hb5.cell (p := ⟨w1.heap.size, 0, none⟩) (by go_size); simp [go_sem, *] at this; have := hb5.cell (p := ⟨w1.heap.size, 1, none⟩) (by go_size); simp [go_sem, *] at this) | (go_at_call 27; ((with_reducible refine (HDiv.out _).mono ?_); rintro e w6 ⟨rfl, hb6⟩); have hz6 := hb6.size; (try simp only [World.size_alloc, World.size_setCell, World.size_drew, size_drewN'] at hz6); have : w.heap.size < w6.heap.size := (by omega); have := hb6.cell (p := ⟨w.heap.size, 0, none⟩) (by go_size); simp [go_sem, *] at this; have := hb6.cell (p := ⟨w.heap.size, 1, none⟩) (by go_size); simp [go_sem, *] at this; have : w.heap.size + 1 < w6.heap.size := (by omega); have := hb6.cell (p := ⟨w.heap.size + 1, 0, none⟩) (by go_size); simp [go_sem, *] at this; have := hb6.cell (p := ⟨w.heap.size + 1, 1, none⟩) (by go_size); simp [go_sem, *] at this))
    have k0 : (w6.alloc (Obj.cells #[Value.int IntKind.i64 p, Value.int IntKind.i64 q] 24)).cell? ⟨w.heap.size, 0, none⟩ = some (.int .i64 p) := by simp [go_sem, *]
    have k1 : (w6.alloc (Obj.cells #[Value.int IntKind.i64 p, Value.int IntKind.i64 q] 24)).cell? ⟨w.heap.size, 1, none⟩ = some (.int .i64 q) := by simp [go_sem, *]
    have k2 : (w6.alloc (Obj.cells #[Value.int IntKind.i64 p, Value.int IntKind.i64 q] 24)).cell? ⟨w.heap.size + 1, 0, none⟩ = some (.int .i64 r) := by simp [go_sem, *]
    have k3 : (w6.alloc (Obj.cells #[Value.int IntKind.i64 p, Value.int IntKind.i64 q] 24)).cell? ⟨w.heap.size + 1, 1, none⟩ = some (.int .i64 t) := by simp [go_sem, *]
    have hWb : Below w.heap.size w (w6.alloc (Obj.cells #[Value.int IntKind.i64 p, Value.int IntKind.i64 q] 24)) := by (repeat' (first | (with_reducible exact Below.refl _ _) | (with_reducible refine Below.setCell ?_ ?_ _) | (with_reducible refine Below.alloc ?_ ?_ _) | (with_reducible refine Below.drew ?_) | (with_reducible refine belowN ?_ _) | (with_reducible refine below_step ?_ ?_ (by with_reducible assumption)) | go_size))
    generalize (w6.alloc (Obj.cells #[Value.int IntKind.i64 p, Value.int IntKind.i64 q] 24)) = W at *
    have g0 := cell_regrown k0
    have g1 := cell_regrown k1
    have g2 := cell_regrown k2
    have g3 := cell_regrown k3
    have A1 := at_class (W := W) HC3.out
    have A2 := at_class (W := W) HC4.out
    have A3 := at_class (W := W) HC5.out
    refine wp_region_quiet_below (by kernel_rfl) (by kernel_rfl) ?_; (repeat (first | go_big_quiet_step (first | with_reducible exact A1 _ _ | with_reducible exact A2 _ _ | with_reducible exact A3 _ _) | quiet_step (first | with_reducible exact A1 _ _ | with_reducible exact A2 _ _ | with_reducible exact A3 _ _))); refine wpQuiet_nil ?_; intro _ hw'; obtain ⟨⟨dq, osq⟩, hw''⟩ := hw'; subst hw''
    have hb7 := below_regrown W dq osq
    clear g0 g1 g2 g3 A1 A2 A3
    generalize «Sort».grow (redrawn W dq) osq = w7 at *
    go_wp2
    go_ret
    exact ⟨by simp, hWb.trans (hb7.mono hWb.size)⟩

set_option maxHeartbeats 4000000 in
theorem field_s0 (p q r t sn sd mn md se me c0 c1 c2 : Int) (w : World)
    (hAdd : ∀ w, Calls Tryd.prog 19 #[R2 p q, R2 r t] w fun e w' => e = .returned (.tuple #[R2 sn sd, .int .i64 se]) ∧ Below w.heap.size w w')
    (hMul : ∀ w, Calls Tryd.prog 25 #[R2 p q, R2 r t] w fun e w' => e = .returned (.tuple #[R2 mn md, .int .i64 me]) ∧ Below w.heap.size w w')
    (hSub : ∀ w, Calls Tryd.prog 21 #[R2 sn sd, R2 r t] w fun e w' => e = .returned (.tuple #[R2 p q, .int .i64 0]) ∧ Below w.heap.size w w')
    (hC1 : ∀ w, Calls Tryd.prog 29 #[R2 sn sd, R2 p q] w fun e w' => e = .returned (.int .i64 c0) ∧ Below w.heap.size w w')
    (hC2 : ∀ w, Calls Tryd.prog 29 #[R2 r t, R2 0 1] w fun e w' => e = .returned (.int .i64 c0) ∧ Below w.heap.size w w')
    (hC3 : ∀ w, Calls Tryd.prog 29 #[R2 p q, R2 r t] w fun e w' => e = .returned (.int .i64 (-c2)) ∧ Below w.heap.size w w')
    (hC4 : ∀ w, Calls Tryd.prog 29 #[R2 r t, R2 p q] w fun e w' => e = .returned (.int .i64 c2) ∧ Below w.heap.size w w')
    (hC5 : ∀ w, Calls Tryd.prog 30 #[R2 p q, R2 r t] w fun e w' => e = .returned (.int .i64 (-c2)) ∧ Below w.heap.size w w')
    (hc2 : -1 ≤ c2) (hc3 : c2 ≤ 1) (hse : se = 0) (kme : (me == 0) = false)  :
    Calls Tryd.prog 6 #[R2 p q, R2 r t] w fun e w' => e = .returned (.bool true) ∧ Below w.heap.size w w' := by
  have hwr : IntKind.i64.wrap (-c2) = -c2 := by rw [IntKind.wrap_i64]; omega
  have hA := Lib.hid awake_any
  have HAdd := Lib.hid hAdd
  have HMul := Lib.hid hMul
  have HSub := Lib.hid hSub
  have HC1 := Lib.hid hC1
  have HC2 := Lib.hid hC2
  have HC3 := Lib.hid hC3
  have HC4 := Lib.hid hC4
  have HC5 := Lib.hid hC5
  clear hAdd hMul hSub hC1 hC2 hC3 hC4 hC5
  subst hse
  go_enter Tryd.func6, Tryd.ntmps6
  go_wp2_with (first | (go_at_call 12; ((with_reducible refine (hA.out _).mono ?_); rintro e w1 ⟨rfl, hb1⟩); have hz1 := hb1.size; (try simp only [World.size_alloc, World.size_setCell, World.size_drew, size_drewN'] at hz1); have : w.heap.size < w1.heap.size := (by omega); have := hb1.cell (p := ⟨w.heap.size, 0, none⟩) (by go_size); simp [go_sem, *] at this; have := hb1.frozen (p := ⟨w.heap.size, 0, none⟩) (by go_size); simp [go_sem, *] at this; have := hb1.cell (p := ⟨w.heap.size, 1, none⟩) (by go_size); simp [go_sem, *] at this; have := hb1.frozen (p := ⟨w.heap.size, 1, none⟩) (by go_size); simp [go_sem, *] at this; have : w.heap.size + 1 < w1.heap.size := (by omega); have := hb1.cell (p := ⟨w.heap.size + 1, 0, none⟩) (by go_size); simp [go_sem, *] at this; have := hb1.frozen (p := ⟨w.heap.size + 1, 0, none⟩) (by go_size); simp [go_sem, *] at this; have := hb1.cell (p := ⟨w.heap.size + 1, 1, none⟩) (by go_size); simp [go_sem, *] at this; have := hb1.frozen (p := ⟨w.heap.size + 1, 1, none⟩) (by go_size); simp [go_sem, *] at this) | (go_at_call 19; ((with_reducible refine (HAdd.out _).mono ?_); rintro e w2 ⟨rfl, hb2⟩); have hz2 := hb2.size; (try simp only [World.size_alloc, World.size_setCell, World.size_drew, size_drewN'] at hz2); have : w.heap.size < w2.heap.size := (by omega); have := hb2.cell (p := ⟨w.heap.size, 0, none⟩) (by go_size); simp [go_sem, *] at this; have := hb2.frozen (p := ⟨w.heap.size, 0, none⟩) (by go_size); simp [go_sem, *] at this; have := hb2.cell (p := ⟨w.heap.size, 1, none⟩) (by go_size); simp [go_sem, *] at this; have := hb2.frozen (p := ⟨w.heap.size, 1, none⟩) (by go_size); simp [go_sem, *] at this; have : w.heap.size + 1 < w2.heap.size := (by omega); have := hb2.cell (p := ⟨w.heap.size + 1, 0, none⟩) (by go_size); simp [go_sem, *] at this; have := hb2.frozen (p := ⟨w.heap.size + 1, 0, none⟩) (by go_size); simp [go_sem, *] at this; have := hb2.cell (p := ⟨w.heap.size + 1, 1, none⟩) (by go_size); simp [go_sem, *] at this; have := hb2.frozen (p := ⟨w.heap.size + 1, 1, none⟩) (by go_size); simp [go_sem, *] at this; have : w1.heap.size < w2.heap.size := (by omega); have := hb2.cell (p := ⟨w1.heap.size, 0, none⟩) (by go_size); simp [go_sem, *] at this; have := hb2.frozen (p := ⟨w1.heap.size, 0, none⟩) (by go_size); simp [go_sem, *] at this; have := hb2.cell (p := ⟨w1.heap.size, 1, none⟩) (by go_size); simp [go_sem, *] at this; have := hb2.frozen (p := ⟨w1.heap.size, 1, none⟩) (by go_size); simp [go_sem, *] at this) | (go_at_call 21; ((with_reducible refine (HSub.out _).mono ?_); rintro e w3 ⟨rfl, hb3⟩); have hz3 := hb3.size; (try simp only [World.size_alloc, World.size_setCell, World.size_drew, size_drewN'] at hz3); have : w.heap.size < w3.heap.size := (by omega); have := hb3.cell (p := ⟨w.heap.size, 0, none⟩) (by go_size); simp [go_sem, *] at this; have := hb3.frozen (p := ⟨w.heap.size, 0, none⟩) (by go_size); simp [go_sem, *] at this; have := hb3.cell (p := ⟨w.heap.size, 1, none⟩) (by go_size); simp [go_sem, *] at this; have := hb3.frozen (p := ⟨w.heap.size, 1, none⟩) (by go_size); simp [go_sem, *] at this; have : w.heap.size + 1 < w3.heap.size := (by omega); have := hb3.cell (p := ⟨w.heap.size + 1, 0, none⟩) (by go_size); simp [go_sem, *] at this; have := hb3.frozen (p := ⟨w.heap.size + 1, 0, none⟩) (by go_size); simp [go_sem, *] at this; have := hb3.cell (p := ⟨w.heap.size + 1, 1, none⟩) (by go_size); simp [go_sem, *] at this; have := hb3.frozen (p := ⟨w.heap.size + 1, 1, none⟩) (by go_size); simp [go_sem, *] at this; have : w1.heap.size < w3.heap.size := (by omega); have := hb3.cell (p := ⟨w1.heap.size, 0, none⟩) (by go_size); simp [go_sem, *] at this; have := hb3.frozen (p := ⟨w1.heap.size, 0, none⟩) (by go_size); simp [go_sem, *] at this; have := hb3.cell (p := ⟨w1.heap.size, 1, none⟩) (by go_size); simp [go_sem, *] at this; have := hb3.frozen (p := ⟨w1.heap.size, 1, none⟩) (by go_size); simp [go_sem, *] at this; have : w2.heap.size < w3.heap.size := (by omega); have := hb3.cell (p := ⟨w2.heap.size, 0, none⟩) (by go_size); simp [go_sem, *] at this; have := hb3.frozen (p := ⟨w2.heap.size, 0, none⟩) (by go_size); simp [go_sem, *] at this; have := hb3.cell (p := ⟨w2.heap.size, 1, none⟩) (by go_size); simp [go_sem, *] at this; have := hb3.frozen (p := ⟨w2.heap.size, 1, none⟩) (by go_size); simp [go_sem, *] at this))
  have k0 : (w3.alloc (Obj.cells #[Value.int IntKind.i64 p, Value.int IntKind.i64 q] 24)).cell? ⟨w.heap.size, 0, none⟩ = some (.int .i64 p) := by simp [go_sem, *]
  have k1 : (w3.alloc (Obj.cells #[Value.int IntKind.i64 p, Value.int IntKind.i64 q] 24)).cell? ⟨w.heap.size, 1, none⟩ = some (.int .i64 q) := by simp [go_sem, *]
  have k2 : (w3.alloc (Obj.cells #[Value.int IntKind.i64 p, Value.int IntKind.i64 q] 24)).cell? ⟨w.heap.size + 1, 0, none⟩ = some (.int .i64 r) := by simp [go_sem, *]
  have k3 : (w3.alloc (Obj.cells #[Value.int IntKind.i64 p, Value.int IntKind.i64 q] 24)).cell? ⟨w.heap.size + 1, 1, none⟩ = some (.int .i64 t) := by simp [go_sem, *]
  have k4 : (w3.alloc (Obj.cells #[Value.int IntKind.i64 p, Value.int IntKind.i64 q] 24)).cell? ⟨w1.heap.size, 0, none⟩ = some (.int .i64 0) := by simp [go_sem, *]
  have k5 : (w3.alloc (Obj.cells #[Value.int IntKind.i64 p, Value.int IntKind.i64 q] 24)).cell? ⟨w1.heap.size, 1, none⟩ = some (.int .i64 1) := by simp [go_sem, *]
  have k6 : (w3.alloc (Obj.cells #[Value.int IntKind.i64 p, Value.int IntKind.i64 q] 24)).cell? ⟨w2.heap.size, 0, none⟩ = some (.int .i64 sn) := by simp [go_sem, *]
  have k7 : (w3.alloc (Obj.cells #[Value.int IntKind.i64 p, Value.int IntKind.i64 q] 24)).cell? ⟨w2.heap.size, 1, none⟩ = some (.int .i64 sd) := by simp [go_sem, *]
  have k8 : (w3.alloc (Obj.cells #[Value.int IntKind.i64 p, Value.int IntKind.i64 q] 24)).cell? ⟨w3.heap.size, 0, none⟩ = some (.int .i64 p) := by simp [go_sem, *]
  have k9 : (w3.alloc (Obj.cells #[Value.int IntKind.i64 p, Value.int IntKind.i64 q] 24)).cell? ⟨w3.heap.size, 1, none⟩ = some (.int .i64 q) := by simp [go_sem, *]
  have hWb : Below w.heap.size w (w3.alloc (Obj.cells #[Value.int IntKind.i64 p, Value.int IntKind.i64 q] 24)) := by (repeat' (first | (with_reducible exact Below.refl _ _) | (with_reducible refine Below.setCell ?_ ?_ _) | (with_reducible refine Below.alloc ?_ ?_ _) | (with_reducible refine Below.drew ?_) | (with_reducible refine belowN ?_ _) | (with_reducible refine below_step ?_ ?_ (by with_reducible assumption)) | go_size))
  have hWz : w3.heap.size < (w3.alloc (Obj.cells #[Value.int IntKind.i64 p, Value.int IntKind.i64 q] 24)).heap.size := by simp
  generalize (w3.alloc (Obj.cells #[Value.int IntKind.i64 p, Value.int IntKind.i64 q] 24)) = W at *
  have g0 := cell_regrown k0
  have g1 := cell_regrown k1
  have g2 := cell_regrown k2
  have g3 := cell_regrown k3
  have g4 := cell_regrown k4
  have g5 := cell_regrown k5
  have g6 := cell_regrown k6
  have g7 := cell_regrown k7
  have g8 := cell_regrown k8
  have g9 := cell_regrown k9
  have A1 := at_class (W := W) HC1.out
  have A2 := at_class (W := W) HC2.out
  refine wp_region_quiet_below (by kernel_rfl) (by kernel_rfl) ?_; (repeat (first | go_big_quiet_step (first | with_reducible exact A1 _ _ | with_reducible exact A2 _ _) | quiet_step (first | with_reducible exact A1 _ _ | with_reducible exact A2 _ _))); refine wpQuiet_nil ?_; intro _ hw'; obtain ⟨⟨dq, osq⟩, hw''⟩ := hw'; subst hw''
  have c0' := cell_regrown k0 dq osq
  have c1' := cell_regrown k1 dq osq
  have c2' := cell_regrown k2 dq osq
  have c3' := cell_regrown k3 dq osq
  have c4' := cell_regrown k4 dq osq
  have c5' := cell_regrown k5 dq osq
  have hb4 := below_regrown W dq osq
  clear g0 g1 g2 g3 g4 g5 g6 g7 g8 g9 A1 A2
  generalize «Sort».grow (redrawn W dq) osq = w4 at *
  have hz4 := hb4.size
  have hb4' : Below w.heap.size w w4 := hWb.trans (hb4.mono (by omega))
  have l0 : w.heap.size < w4.heap.size := by omega
  have l1 : w.heap.size + 1 < w4.heap.size := by omega
  have l2 : w1.heap.size < w4.heap.size := by omega
  clear k0 k1 k2 k3 k4 k5 k6 k7 k8 k9
  clear hWb hb4 hz4 hWz W
  go_wp2_with (go_at_call 25; ((with_reducible refine (HMul.out _).mono ?_); rintro e w5 ⟨rfl, hb5⟩); have hz5 := hb5.size; (try simp only [World.size_alloc, World.size_setCell, World.size_drew, size_drewN'] at hz5); have : w.heap.size < w5.heap.size := (by omega); have := hb5.cell (p := ⟨w.heap.size, 0, none⟩) (by go_size); simp [go_sem, *] at this; have := hb5.cell (p := ⟨w.heap.size, 1, none⟩) (by go_size); simp [go_sem, *] at this; have : w.heap.size + 1 < w5.heap.size := (by omega); have := hb5.cell (p := ⟨w.heap.size + 1, 0, none⟩) (by go_size); simp [go_sem, *] at this; have := hb5.cell (p := ⟨w.heap.size + 1, 1, none⟩) (by go_size); simp [go_sem, *] at this; have : w1.heap.size < w5.heap.size := (by omega); have := hb5.cell (p := ⟨w1.heap.size, 0, none⟩) (by go_size); simp [go_sem, *] at this; have := hb5.cell (p := ⟨w1.heap.size, 1, none⟩) (by go_size); simp [go_sem, *] at this)
  have k0 : (w5.alloc (Obj.cells #[Value.int IntKind.i64 mn, Value.int IntKind.i64 md] 24)).cell? ⟨w.heap.size, 0, none⟩ = some (.int .i64 p) := by simp [go_sem, *]
  have k1 : (w5.alloc (Obj.cells #[Value.int IntKind.i64 mn, Value.int IntKind.i64 md] 24)).cell? ⟨w.heap.size, 1, none⟩ = some (.int .i64 q) := by simp [go_sem, *]
  have k2 : (w5.alloc (Obj.cells #[Value.int IntKind.i64 mn, Value.int IntKind.i64 md] 24)).cell? ⟨w.heap.size + 1, 0, none⟩ = some (.int .i64 r) := by simp [go_sem, *]
  have k3 : (w5.alloc (Obj.cells #[Value.int IntKind.i64 mn, Value.int IntKind.i64 md] 24)).cell? ⟨w.heap.size + 1, 1, none⟩ = some (.int .i64 t) := by simp [go_sem, *]
  have hWb : Below w.heap.size w (w5.alloc (Obj.cells #[Value.int IntKind.i64 mn, Value.int IntKind.i64 md] 24)) := by (refine Below.alloc ?_ (by omega) _); exact hb4'.trans (hb5.mono (by omega))
  generalize (w5.alloc (Obj.cells #[Value.int IntKind.i64 mn, Value.int IntKind.i64 md] 24)) = W at *
  have g0 := cell_regrown k0
  have g1 := cell_regrown k1
  have g2 := cell_regrown k2
  have g3 := cell_regrown k3
  have A1 := at_class (W := W) HC3.out
  have A2 := at_class (W := W) HC4.out
  have A3 := at_class (W := W) HC5.out
  refine wp_region_quiet_below (by kernel_rfl) (by kernel_rfl) ?_; (repeat (first | go_big_quiet_step (first | with_reducible exact A1 _ _ | with_reducible exact A2 _ _ | with_reducible exact A3 _ _) | quiet_step (first | with_reducible exact A1 _ _ | with_reducible exact A2 _ _ | with_reducible exact A3 _ _))); refine wpQuiet_nil ?_; intro _ hw'; obtain ⟨⟨dq, osq⟩, hw''⟩ := hw'; subst hw''
  have hb7 := below_regrown W dq osq
  clear g0 g1 g2 g3 A1 A2 A3
  generalize «Sort».grow (redrawn W dq) osq = w7 at *
  go_wp2
  go_ret
  exact ⟨by simp, hWb.trans (hb7.mono hWb.size)⟩

set_option maxHeartbeats 4000000 in
theorem field_s1 (p q r t sn sd mn md se me c0 c1 c2 : Int) (w : World)
    (hAdd : ∀ w, Calls Tryd.prog 19 #[R2 p q, R2 r t] w fun e w' => e = .returned (.tuple #[R2 sn sd, .int .i64 se]) ∧ Below w.heap.size w w')
    (hMul : ∀ w, Calls Tryd.prog 25 #[R2 p q, R2 r t] w fun e w' => e = .returned (.tuple #[R2 mn md, .int .i64 me]) ∧ Below w.heap.size w w')
    (hSub : ∀ w, Calls Tryd.prog 21 #[R2 sn sd, R2 r t] w fun e w' => e = .returned (.tuple #[R2 p q, .int .i64 0]) ∧ Below w.heap.size w w')
    (hC1 : ∀ w, Calls Tryd.prog 29 #[R2 sn sd, R2 p q] w fun e w' => e = .returned (.int .i64 c0) ∧ Below w.heap.size w w')
    (hC2 : ∀ w, Calls Tryd.prog 29 #[R2 r t, R2 0 1] w fun e w' => e = .returned (.int .i64 c0) ∧ Below w.heap.size w w')
    (hC3 : ∀ w, Calls Tryd.prog 29 #[R2 p q, R2 r t] w fun e w' => e = .returned (.int .i64 (-c2)) ∧ Below w.heap.size w w')
    (hC4 : ∀ w, Calls Tryd.prog 29 #[R2 r t, R2 p q] w fun e w' => e = .returned (.int .i64 c2) ∧ Below w.heap.size w w')
    (hC5 : ∀ w, Calls Tryd.prog 30 #[R2 p q, R2 r t] w fun e w' => e = .returned (.int .i64 (-c2)) ∧ Below w.heap.size w w')
    (hc2 : -1 ≤ c2) (hc3 : c2 ≤ 1) (hse : se = 0) (hme : me = 0) (hr : r = 0) (ht : t = 1) :
    Calls Tryd.prog 6 #[R2 p q, R2 r t] w fun e w' => e = .returned (.bool true) ∧ Below w.heap.size w w' := by
  have hwr : IntKind.i64.wrap (-c2) = -c2 := by rw [IntKind.wrap_i64]; omega
  have hA := Lib.hid awake_any
  have HAdd := Lib.hid hAdd
  have HMul := Lib.hid hMul
  have HSub := Lib.hid hSub
  have HC1 := Lib.hid hC1
  have HC2 := Lib.hid hC2
  have HC3 := Lib.hid hC3
  have HC4 := Lib.hid hC4
  have HC5 := Lib.hid hC5
  clear hAdd hMul hSub hC1 hC2 hC3 hC4 hC5
  subst hse
  subst hme
  subst hr ht
  go_enter Tryd.func6, Tryd.ntmps6
  go_wp2_with (first | (go_at_call 12; ((with_reducible refine (hA.out _).mono ?_); rintro e w1 ⟨rfl, hb1⟩); have hz1 := hb1.size; (try simp only [World.size_alloc, World.size_setCell, World.size_drew, size_drewN'] at hz1); have : w.heap.size < w1.heap.size := (by omega); have := hb1.cell (p := ⟨w.heap.size, 0, none⟩) (by go_size); simp [go_sem, *] at this; have := hb1.frozen (p := ⟨w.heap.size, 0, none⟩) (by go_size); simp [go_sem, *] at this; have := hb1.cell (p := ⟨w.heap.size, 1, none⟩) (by go_size); simp [go_sem, *] at this; have := hb1.frozen (p := ⟨w.heap.size, 1, none⟩) (by go_size); simp [go_sem, *] at this; have : w.heap.size + 1 < w1.heap.size := (by omega); have := hb1.cell (p := ⟨w.heap.size + 1, 0, none⟩) (by go_size); simp [go_sem, *] at this; have := hb1.frozen (p := ⟨w.heap.size + 1, 0, none⟩) (by go_size); simp [go_sem, *] at this; have := hb1.cell (p := ⟨w.heap.size + 1, 1, none⟩) (by go_size); simp [go_sem, *] at this; have := hb1.frozen (p := ⟨w.heap.size + 1, 1, none⟩) (by go_size); simp [go_sem, *] at this) | (go_at_call 19; ((with_reducible refine (HAdd.out _).mono ?_); rintro e w2 ⟨rfl, hb2⟩); have hz2 := hb2.size; (try simp only [World.size_alloc, World.size_setCell, World.size_drew, size_drewN'] at hz2); have : w.heap.size < w2.heap.size := (by omega); have := hb2.cell (p := ⟨w.heap.size, 0, none⟩) (by go_size); simp [go_sem, *] at this; have := hb2.frozen (p := ⟨w.heap.size, 0, none⟩) (by go_size); simp [go_sem, *] at this; have := hb2.cell (p := ⟨w.heap.size, 1, none⟩) (by go_size); simp [go_sem, *] at this; have := hb2.frozen (p := ⟨w.heap.size, 1, none⟩) (by go_size); simp [go_sem, *] at this; have : w.heap.size + 1 < w2.heap.size := (by omega); have := hb2.cell (p := ⟨w.heap.size + 1, 0, none⟩) (by go_size); simp [go_sem, *] at this; have := hb2.frozen (p := ⟨w.heap.size + 1, 0, none⟩) (by go_size); simp [go_sem, *] at this; have := hb2.cell (p := ⟨w.heap.size + 1, 1, none⟩) (by go_size); simp [go_sem, *] at this; have := hb2.frozen (p := ⟨w.heap.size + 1, 1, none⟩) (by go_size); simp [go_sem, *] at this; have : w1.heap.size < w2.heap.size := (by omega); have := hb2.cell (p := ⟨w1.heap.size, 0, none⟩) (by go_size); simp [go_sem, *] at this; have := hb2.frozen (p := ⟨w1.heap.size, 0, none⟩) (by go_size); simp [go_sem, *] at this; have := hb2.cell (p := ⟨w1.heap.size, 1, none⟩) (by go_size); simp [go_sem, *] at this; have := hb2.frozen (p := ⟨w1.heap.size, 1, none⟩) (by go_size); simp [go_sem, *] at this) | (go_at_call 21; ((with_reducible refine (HSub.out _).mono ?_); rintro e w3 ⟨rfl, hb3⟩); have hz3 := hb3.size; (try simp only [World.size_alloc, World.size_setCell, World.size_drew, size_drewN'] at hz3); have : w.heap.size < w3.heap.size := (by omega); have := hb3.cell (p := ⟨w.heap.size, 0, none⟩) (by go_size); simp [go_sem, *] at this; have := hb3.frozen (p := ⟨w.heap.size, 0, none⟩) (by go_size); simp [go_sem, *] at this; have := hb3.cell (p := ⟨w.heap.size, 1, none⟩) (by go_size); simp [go_sem, *] at this; have := hb3.frozen (p := ⟨w.heap.size, 1, none⟩) (by go_size); simp [go_sem, *] at this; have : w.heap.size + 1 < w3.heap.size := (by omega); have := hb3.cell (p := ⟨w.heap.size + 1, 0, none⟩) (by go_size); simp [go_sem, *] at this; have := hb3.frozen (p := ⟨w.heap.size + 1, 0, none⟩) (by go_size); simp [go_sem, *] at this; have := hb3.cell (p := ⟨w.heap.size + 1, 1, none⟩) (by go_size); simp [go_sem, *] at this; have := hb3.frozen (p := ⟨w.heap.size + 1, 1, none⟩) (by go_size); simp [go_sem, *] at this; have : w1.heap.size < w3.heap.size := (by omega); have := hb3.cell (p := ⟨w1.heap.size, 0, none⟩) (by go_size); simp [go_sem, *] at this; have := hb3.frozen (p := ⟨w1.heap.size, 0, none⟩) (by go_size); simp [go_sem, *] at this; have := hb3.cell (p := ⟨w1.heap.size, 1, none⟩) (by go_size); simp [go_sem, *] at this; have := hb3.frozen (p := ⟨w1.heap.size, 1, none⟩) (by go_size); simp [go_sem, *] at this; have : w2.heap.size < w3.heap.size := (by omega); have := hb3.cell (p := ⟨w2.heap.size, 0, none⟩) (by go_size); simp [go_sem, *] at this; have := hb3.frozen (p := ⟨w2.heap.size, 0, none⟩) (by go_size); simp [go_sem, *] at this; have := hb3.cell (p := ⟨w2.heap.size, 1, none⟩) (by go_size); simp [go_sem, *] at this; have := hb3.frozen (p := ⟨w2.heap.size, 1, none⟩) (by go_size); simp [go_sem, *] at this))
  have k0 : (w3.alloc (Obj.cells #[Value.int IntKind.i64 p, Value.int IntKind.i64 q] 24)).cell? ⟨w.heap.size, 0, none⟩ = some (.int .i64 p) := by simp [go_sem, *]
  have k1 : (w3.alloc (Obj.cells #[Value.int IntKind.i64 p, Value.int IntKind.i64 q] 24)).cell? ⟨w.heap.size, 1, none⟩ = some (.int .i64 q) := by simp [go_sem, *]
  have k2 : (w3.alloc (Obj.cells #[Value.int IntKind.i64 p, Value.int IntKind.i64 q] 24)).cell? ⟨w.heap.size + 1, 0, none⟩ = some (.int .i64 0) := by simp [go_sem, *]
  have k3 : (w3.alloc (Obj.cells #[Value.int IntKind.i64 p, Value.int IntKind.i64 q] 24)).cell? ⟨w.heap.size + 1, 1, none⟩ = some (.int .i64 1) := by simp [go_sem, *]
  have k4 : (w3.alloc (Obj.cells #[Value.int IntKind.i64 p, Value.int IntKind.i64 q] 24)).cell? ⟨w1.heap.size, 0, none⟩ = some (.int .i64 0) := by simp [go_sem, *]
  have k5 : (w3.alloc (Obj.cells #[Value.int IntKind.i64 p, Value.int IntKind.i64 q] 24)).cell? ⟨w1.heap.size, 1, none⟩ = some (.int .i64 1) := by simp [go_sem, *]
  have k6 : (w3.alloc (Obj.cells #[Value.int IntKind.i64 p, Value.int IntKind.i64 q] 24)).cell? ⟨w2.heap.size, 0, none⟩ = some (.int .i64 sn) := by simp [go_sem, *]
  have k7 : (w3.alloc (Obj.cells #[Value.int IntKind.i64 p, Value.int IntKind.i64 q] 24)).cell? ⟨w2.heap.size, 1, none⟩ = some (.int .i64 sd) := by simp [go_sem, *]
  have k8 : (w3.alloc (Obj.cells #[Value.int IntKind.i64 p, Value.int IntKind.i64 q] 24)).cell? ⟨w3.heap.size, 0, none⟩ = some (.int .i64 p) := by simp [go_sem, *]
  have k9 : (w3.alloc (Obj.cells #[Value.int IntKind.i64 p, Value.int IntKind.i64 q] 24)).cell? ⟨w3.heap.size, 1, none⟩ = some (.int .i64 q) := by simp [go_sem, *]
  have hWb : Below w.heap.size w (w3.alloc (Obj.cells #[Value.int IntKind.i64 p, Value.int IntKind.i64 q] 24)) := by (repeat' (first | (with_reducible exact Below.refl _ _) | (with_reducible refine Below.setCell ?_ ?_ _) | (with_reducible refine Below.alloc ?_ ?_ _) | (with_reducible refine Below.drew ?_) | (with_reducible refine belowN ?_ _) | (with_reducible refine below_step ?_ ?_ (by with_reducible assumption)) | go_size))
  have hWz : w3.heap.size < (w3.alloc (Obj.cells #[Value.int IntKind.i64 p, Value.int IntKind.i64 q] 24)).heap.size := by simp
  generalize (w3.alloc (Obj.cells #[Value.int IntKind.i64 p, Value.int IntKind.i64 q] 24)) = W at *
  have g0 := cell_regrown k0
  have g1 := cell_regrown k1
  have g2 := cell_regrown k2
  have g3 := cell_regrown k3
  have g4 := cell_regrown k4
  have g5 := cell_regrown k5
  have g6 := cell_regrown k6
  have g7 := cell_regrown k7
  have g8 := cell_regrown k8
  have g9 := cell_regrown k9
  have A1 := at_class (W := W) HC1.out
  have A2 := at_class (W := W) HC2.out
  refine wp_region_quiet_below (by kernel_rfl) (by kernel_rfl) ?_; (repeat (first | go_big_quiet_step (first | with_reducible exact A1 _ _ | with_reducible exact A2 _ _) | quiet_step (first | with_reducible exact A1 _ _ | with_reducible exact A2 _ _))); refine wpQuiet_nil ?_; intro _ hw'; obtain ⟨⟨dq, osq⟩, hw''⟩ := hw'; subst hw''
  have c0' := cell_regrown k0 dq osq
  have c1' := cell_regrown k1 dq osq
  have c2' := cell_regrown k2 dq osq
  have c3' := cell_regrown k3 dq osq
  have c4' := cell_regrown k4 dq osq
  have c5' := cell_regrown k5 dq osq
  have hb4 := below_regrown W dq osq
  clear g0 g1 g2 g3 g4 g5 g6 g7 g8 g9 A1 A2
  generalize «Sort».grow (redrawn W dq) osq = w4 at *
  have hz4 := hb4.size
  have hb4' : Below w.heap.size w w4 := hWb.trans (hb4.mono (by omega))
  have l0 : w.heap.size < w4.heap.size := by omega
  have l1 : w.heap.size + 1 < w4.heap.size := by omega
  have l2 : w1.heap.size < w4.heap.size := by omega
  clear k0 k1 k2 k3 k4 k5 k6 k7 k8 k9
  clear hWb hb4 hz4 hWz W
  go_wp2_with (go_at_call 25; ((with_reducible refine (HMul.out _).mono ?_); rintro e w5 ⟨rfl, hb5⟩); have hz5 := hb5.size; (try simp only [World.size_alloc, World.size_setCell, World.size_drew, size_drewN'] at hz5); have : w.heap.size < w5.heap.size := (by omega); have := hb5.cell (p := ⟨w.heap.size, 0, none⟩) (by go_size); simp [go_sem, *] at this; have := hb5.cell (p := ⟨w.heap.size, 1, none⟩) (by go_size); simp [go_sem, *] at this; have : w.heap.size + 1 < w5.heap.size := (by omega); have := hb5.cell (p := ⟨w.heap.size + 1, 0, none⟩) (by go_size); simp [go_sem, *] at this; have := hb5.cell (p := ⟨w.heap.size + 1, 1, none⟩) (by go_size); simp [go_sem, *] at this; have : w1.heap.size < w5.heap.size := (by omega); have := hb5.cell (p := ⟨w1.heap.size, 0, none⟩) (by go_size); simp [go_sem, *] at this; have := hb5.cell (p := ⟨w1.heap.size, 1, none⟩) (by go_size); simp [go_sem, *] at this)
  have k0 : (w5.alloc (Obj.cells #[Value.int IntKind.i64 mn, Value.int IntKind.i64 md] 24)).cell? ⟨w.heap.size, 0, none⟩ = some (.int .i64 p) := by simp [go_sem, *]
  have k1 : (w5.alloc (Obj.cells #[Value.int IntKind.i64 mn, Value.int IntKind.i64 md] 24)).cell? ⟨w.heap.size, 1, none⟩ = some (.int .i64 q) := by simp [go_sem, *]
  have k2 : (w5.alloc (Obj.cells #[Value.int IntKind.i64 mn, Value.int IntKind.i64 md] 24)).cell? ⟨w.heap.size + 1, 0, none⟩ = some (.int .i64 0) := by simp [go_sem, *]
  have k3 : (w5.alloc (Obj.cells #[Value.int IntKind.i64 mn, Value.int IntKind.i64 md] 24)).cell? ⟨w.heap.size + 1, 1, none⟩ = some (.int .i64 1) := by simp [go_sem, *]
  have hWb : Below w.heap.size w (w5.alloc (Obj.cells #[Value.int IntKind.i64 mn, Value.int IntKind.i64 md] 24)) := by (refine Below.alloc ?_ (by omega) _); exact hb4'.trans (hb5.mono (by omega))
  generalize (w5.alloc (Obj.cells #[Value.int IntKind.i64 mn, Value.int IntKind.i64 md] 24)) = W at *
  have g0 := cell_regrown k0
  have g1 := cell_regrown k1
  have g2 := cell_regrown k2
  have g3 := cell_regrown k3
  have A1 := at_class (W := W) HC3.out
  have A2 := at_class (W := W) HC4.out
  have A3 := at_class (W := W) HC5.out
  refine wp_region_quiet_below (by kernel_rfl) (by kernel_rfl) ?_; (repeat (first | go_big_quiet_step (first | with_reducible exact A1 _ _ | with_reducible exact A2 _ _ | with_reducible exact A3 _ _) | quiet_step (first | with_reducible exact A1 _ _ | with_reducible exact A2 _ _ | with_reducible exact A3 _ _))); refine wpQuiet_nil ?_; intro _ hw'; obtain ⟨⟨dq, osq⟩, hw''⟩ := hw'; subst hw''
  have hb7 := below_regrown W dq osq
  clear g0 g1 g2 g3 A1 A2 A3
  generalize «Sort».grow (redrawn W dq) osq = w7 at *
  go_wp2
  go_ret
  exact ⟨by simp, hWb.trans (hb7.mono hWb.size)⟩

set_option maxHeartbeats 4000000 in
theorem field_s2 (p q r t sn sd mn md se me c0 c1 c2 : Int) (w : World)
    (hAdd : ∀ w, Calls Tryd.prog 19 #[R2 p q, R2 r t] w fun e w' => e = .returned (.tuple #[R2 sn sd, .int .i64 se]) ∧ Below w.heap.size w w')
    (hMul : ∀ w, Calls Tryd.prog 25 #[R2 p q, R2 r t] w fun e w' => e = .returned (.tuple #[R2 mn md, .int .i64 me]) ∧ Below w.heap.size w w')
    (hSub : ∀ w, Calls Tryd.prog 21 #[R2 sn sd, R2 r t] w fun e w' => e = .returned (.tuple #[R2 p q, .int .i64 0]) ∧ Below w.heap.size w w')
    (hDiv : ∀ w, Calls Tryd.prog 27 #[R2 mn md, R2 r t] w fun e w' => e = .returned (.tuple #[R2 p q, .int .i64 0]) ∧ Below w.heap.size w w')
    (hC1 : ∀ w, Calls Tryd.prog 29 #[R2 sn sd, R2 p q] w fun e w' => e = .returned (.int .i64 c0) ∧ Below w.heap.size w w')
    (hC2 : ∀ w, Calls Tryd.prog 29 #[R2 r t, R2 0 1] w fun e w' => e = .returned (.int .i64 c0) ∧ Below w.heap.size w w')
    (hC3 : ∀ w, Calls Tryd.prog 29 #[R2 p q, R2 r t] w fun e w' => e = .returned (.int .i64 (-c2)) ∧ Below w.heap.size w w')
    (hC4 : ∀ w, Calls Tryd.prog 29 #[R2 r t, R2 p q] w fun e w' => e = .returned (.int .i64 c2) ∧ Below w.heap.size w w')
    (hC5 : ∀ w, Calls Tryd.prog 30 #[R2 p q, R2 r t] w fun e w' => e = .returned (.int .i64 (-c2)) ∧ Below w.heap.size w w')
    (hc2 : -1 ≤ c2) (hc3 : c2 ≤ 1) (hse : se = 0) (hme : me = 0) (kr : (r == 0) = false ∨ ((r == 0) = true ∧ (t == 1) = false)) :
    Calls Tryd.prog 6 #[R2 p q, R2 r t] w fun e w' => e = .returned (.bool true) ∧ Below w.heap.size w w' := by
  have hwr : IntKind.i64.wrap (-c2) = -c2 := by rw [IntKind.wrap_i64]; omega
  have hA := Lib.hid awake_any
  have HAdd := Lib.hid hAdd
  have HMul := Lib.hid hMul
  have HSub := Lib.hid hSub
  have HDiv := Lib.hid hDiv
  have HC1 := Lib.hid hC1
  have HC2 := Lib.hid hC2
  have HC3 := Lib.hid hC3
  have HC4 := Lib.hid hC4
  have HC5 := Lib.hid hC5
  clear hAdd hMul hSub hDiv hC1 hC2 hC3 hC4 hC5
  subst hse
  subst hme
  rcases kr with kr | ⟨kr, kt⟩
  all_goals
    go_enter Tryd.func6, Tryd.ntmps6
    go_wp2_with (first | (go_at_call 12; ((with_reducible refine (hA.out _).mono ?_); rintro e w1 ⟨rfl, hb1⟩); have hz1 := hb1.size; (try simp only [World.size_alloc, World.size_setCell, World.size_drew, size_drewN'] at hz1); have : w.heap.size < w1.heap.size := (by omega); have := hb1.cell (p := ⟨w.heap.size, 0, none⟩) (by go_size); simp [go_sem, *] at this; have := hb1.frozen (p := ⟨w.heap.size, 0, none⟩) (by go_size); simp [go_sem, *] at this; have := hb1.cell (p := ⟨w.heap.size, 1, none⟩) (by go_size); simp [go_sem, *] at this; have := hb1.frozen (p := ⟨w.heap.size, 1, none⟩) (by go_size); simp [go_sem, *] at this; have : w.heap.size + 1 < w1.heap.size := (by omega); have := hb1.cell (p := ⟨w.heap.size + 1, 0, none⟩) (by go_size); simp [go_sem, *] at this; have := hb1.frozen (p := ⟨w.heap.size + 1, 0, none⟩) (by go_size); simp [go_sem, *] at this; have := hb1.cell (p := ⟨w.heap.size + 1, 1, none⟩) (by go_size); simp [go_sem, *] at this; have := hb1.frozen (p := ⟨w.heap.size + 1, 1, none⟩) (by go_size); simp [go_sem, *] at this) | (go_at_call 19; ((with_reducible refine (HAdd.out _).mono ?_); rintro e w2 ⟨rfl, hb2⟩); have hz2 := hb2.size; (try simp only [World.size_alloc, World.size_setCell, World.size_drew, size_drewN'] at hz2); have : w.heap.size < w2.heap.size := (by omega); have := hb2.cell (p := ⟨w.heap.size, 0, none⟩) (by go_size); simp [go_sem, *] at this; have := hb2.frozen (p := ⟨w.heap.size, 0, none⟩) (by go_size); simp [go_sem, *] at this; have := hb2.cell (p := ⟨w.heap.size, 1, none⟩) (by go_size); simp [go_sem, *] at this; have := hb2.frozen (p := ⟨w.heap.size, 1, none⟩) (by go_size); simp [go_sem, *] at this; have : w.heap.size + 1 < w2.heap.size := (by omega); have := hb2.cell (p := ⟨w.heap.size + 1, 0, none⟩) (by go_size); simp [go_sem, *] at this; have := hb2.frozen (p := ⟨w.heap.size + 1, 0, none⟩) (by go_size); simp [go_sem, *] at this; have := hb2.cell (p := ⟨w.heap.size + 1, 1, none⟩) (by go_size); simp [go_sem, *] at this; have := hb2.frozen (p := ⟨w.heap.size + 1, 1, none⟩) (by go_size); simp [go_sem, *] at this; have : w1.heap.size < w2.heap.size := (by omega); have := hb2.cell (p := ⟨w1.heap.size, 0, none⟩) (by go_size); simp [go_sem, *] at this; have := hb2.frozen (p := ⟨w1.heap.size, 0, none⟩) (by go_size); simp [go_sem, *] at this; have := hb2.cell (p := ⟨w1.heap.size, 1, none⟩) (by go_size); simp [go_sem, *] at this; have := hb2.frozen (p := ⟨w1.heap.size, 1, none⟩) (by go_size); simp [go_sem, *] at this) | (go_at_call 21; ((with_reducible refine (HSub.out _).mono ?_); rintro e w3 ⟨rfl, hb3⟩); have hz3 := hb3.size; (try simp only [World.size_alloc, World.size_setCell, World.size_drew, size_drewN'] at hz3); have : w.heap.size < w3.heap.size := (by omega); have := hb3.cell (p := ⟨w.heap.size, 0, none⟩) (by go_size); simp [go_sem, *] at this; have := hb3.frozen (p := ⟨w.heap.size, 0, none⟩) (by go_size); simp [go_sem, *] at this; have := hb3.cell (p := ⟨w.heap.size, 1, none⟩) (by go_size); simp [go_sem, *] at this; have := hb3.frozen (p := ⟨w.heap.size, 1, none⟩) (by go_size); simp [go_sem, *] at this; have : w.heap.size + 1 < w3.heap.size := (by omega); have := hb3.cell (p := ⟨w.heap.size + 1, 0, none⟩) (by go_size); simp [go_sem, *] at this; have := hb3.frozen (p := ⟨w.heap.size + 1, 0, none⟩) (by go_size); simp [go_sem, *] at this; have := hb3.cell (p := ⟨w.heap.size + 1, 1, none⟩) (by go_size); simp [go_sem, *] at this; have := hb3.frozen (p := ⟨w.heap.size + 1, 1, none⟩) (by go_size); simp [go_sem, *] at this; have : w1.heap.size < w3.heap.size := (by omega); have := hb3.cell (p := ⟨w1.heap.size, 0, none⟩) (by go_size); simp [go_sem, *] at this; have := hb3.frozen (p := ⟨w1.heap.size, 0, none⟩) (by go_size); simp [go_sem, *] at this; have := hb3.cell (p := ⟨w1.heap.size, 1, none⟩) (by go_size); simp [go_sem, *] at this; have := hb3.frozen (p := ⟨w1.heap.size, 1, none⟩) (by go_size); simp [go_sem, *] at this; have : w2.heap.size < w3.heap.size := (by omega); have := hb3.cell (p := ⟨w2.heap.size, 0, none⟩) (by go_size); simp [go_sem, *] at this; have := hb3.frozen (p := ⟨w2.heap.size, 0, none⟩) (by go_size); simp [go_sem, *] at this; have := hb3.cell (p := ⟨w2.heap.size, 1, none⟩) (by go_size); simp [go_sem, *] at this; have := hb3.frozen (p := ⟨w2.heap.size, 1, none⟩) (by go_size); simp [go_sem, *] at this))
    have k0 : (w3.alloc (Obj.cells #[Value.int IntKind.i64 p, Value.int IntKind.i64 q] 24)).cell? ⟨w.heap.size, 0, none⟩ = some (.int .i64 p) := by simp [go_sem, *]
    have k1 : (w3.alloc (Obj.cells #[Value.int IntKind.i64 p, Value.int IntKind.i64 q] 24)).cell? ⟨w.heap.size, 1, none⟩ = some (.int .i64 q) := by simp [go_sem, *]
    have k2 : (w3.alloc (Obj.cells #[Value.int IntKind.i64 p, Value.int IntKind.i64 q] 24)).cell? ⟨w.heap.size + 1, 0, none⟩ = some (.int .i64 r) := by simp [go_sem, *]
    have k3 : (w3.alloc (Obj.cells #[Value.int IntKind.i64 p, Value.int IntKind.i64 q] 24)).cell? ⟨w.heap.size + 1, 1, none⟩ = some (.int .i64 t) := by simp [go_sem, *]
    have k4 : (w3.alloc (Obj.cells #[Value.int IntKind.i64 p, Value.int IntKind.i64 q] 24)).cell? ⟨w1.heap.size, 0, none⟩ = some (.int .i64 0) := by simp [go_sem, *]
    have k5 : (w3.alloc (Obj.cells #[Value.int IntKind.i64 p, Value.int IntKind.i64 q] 24)).cell? ⟨w1.heap.size, 1, none⟩ = some (.int .i64 1) := by simp [go_sem, *]
    have k6 : (w3.alloc (Obj.cells #[Value.int IntKind.i64 p, Value.int IntKind.i64 q] 24)).cell? ⟨w2.heap.size, 0, none⟩ = some (.int .i64 sn) := by simp [go_sem, *]
    have k7 : (w3.alloc (Obj.cells #[Value.int IntKind.i64 p, Value.int IntKind.i64 q] 24)).cell? ⟨w2.heap.size, 1, none⟩ = some (.int .i64 sd) := by simp [go_sem, *]
    have k8 : (w3.alloc (Obj.cells #[Value.int IntKind.i64 p, Value.int IntKind.i64 q] 24)).cell? ⟨w3.heap.size, 0, none⟩ = some (.int .i64 p) := by simp [go_sem, *]
    have k9 : (w3.alloc (Obj.cells #[Value.int IntKind.i64 p, Value.int IntKind.i64 q] 24)).cell? ⟨w3.heap.size, 1, none⟩ = some (.int .i64 q) := by simp [go_sem, *]
    have hWb : Below w.heap.size w (w3.alloc (Obj.cells #[Value.int IntKind.i64 p, Value.int IntKind.i64 q] 24)) := by (repeat' (first | (with_reducible exact Below.refl _ _) | (with_reducible refine Below.setCell ?_ ?_ _) | (with_reducible refine Below.alloc ?_ ?_ _) | (with_reducible refine Below.drew ?_) | (with_reducible refine belowN ?_ _) | (with_reducible refine below_step ?_ ?_ (by with_reducible assumption)) | go_size))
    have hWz : w3.heap.size < (w3.alloc (Obj.cells #[Value.int IntKind.i64 p, Value.int IntKind.i64 q] 24)).heap.size := by simp
    generalize (w3.alloc (Obj.cells #[Value.int IntKind.i64 p, Value.int IntKind.i64 q] 24)) = W at *
    have g0 := cell_regrown k0
    have g1 := cell_regrown k1
    have g2 := cell_regrown k2
    have g3 := cell_regrown k3
    have g4 := cell_regrown k4
    have g5 := cell_regrown k5
    have g6 := cell_regrown k6
    have g7 := cell_regrown k7
    have g8 := cell_regrown k8
    have g9 := cell_regrown k9
    have A1 := at_class (W := W) HC1.out
    have A2 := at_class (W := W) HC2.out
    refine wp_region_quiet_below (by kernel_rfl) (by kernel_rfl) ?_; (repeat (first | go_big_quiet_step (first | with_reducible exact A1 _ _ | with_reducible exact A2 _ _) | quiet_step (first | with_reducible exact A1 _ _ | with_reducible exact A2 _ _))); refine wpQuiet_nil ?_; intro _ hw'; obtain ⟨⟨dq, osq⟩, hw''⟩ := hw'; subst hw''
    have c0' := cell_regrown k0 dq osq
    have c1' := cell_regrown k1 dq osq
    have c2' := cell_regrown k2 dq osq
    have c3' := cell_regrown k3 dq osq
    have c4' := cell_regrown k4 dq osq
    have c5' := cell_regrown k5 dq osq
    have hb4 := below_regrown W dq osq
    clear g0 g1 g2 g3 g4 g5 g6 g7 g8 g9 A1 A2
    generalize «Sort».grow (redrawn W dq) osq = w4 at *
    have hz4 := hb4.size
    have hb4' : Below w.heap.size w w4 := hWb.trans (hb4.mono (by omega))
    have l0 : w.heap.size < w4.heap.size := by omega
    have l1 : w.heap.size + 1 < w4.heap.size := by omega
    have l2 : w1.heap.size < w4.heap.size := by omega
    clear k0 k1 k2 k3 k4 k5 k6 k7 k8 k9
    clear hWb hb4 hz4 hWz W
    go_wp2_with (first | (go_at_call 25; ((with_reducible refine (HMul.out _).mono ?_); rintro e w5 ⟨rfl, hb5⟩); have hz5 := hb5.size; (try simp only [World.size_alloc, World.size_setCell, World.size_drew, size_drewN'] at hz5); have : w.heap.size < w5.heap.size := (by omega); have := hb5.cell (p := ⟨w.heap.size, 0, none⟩) (by go_size); simp [go_sem, *] at this; have := hb5.cell (p := ⟨w.heap.size, 1, none⟩) (by go_size); simp [go_sem, *] at this; have : w.heap.size + 1 < w5.heap.size := (by omega); have := hb5.cell (p := ⟨w.heap.size + 1, 0, none⟩) (by go_size); simp [go_sem, *] at this; have := hb5.cell (p := ⟨w.heap.size + 1, 1, none⟩) (by go_size); simp [go_sem, *] at this; have : w1.heap.size < w5.heap.size := (by omega); have := hb5.cell (p := ⟨w1.heap.size, 0, none⟩) (by go_size); simp [go_sem, *] at this; have := hb5.cell (p := ⟨w1.heap.size, 1, none⟩) (by go_size); simp [go_sem, *] at this) | (go_at_call 27; ((with_reducible refine (HDiv.out _).mono ?_); rintro e w6 ⟨rfl, hb6⟩); have hz6 := hb6.size; (try simp only [World.size_alloc, World.size_setCell, World.size_drew, size_drewN'] at hz6); have : w.heap.size < w6.heap.size := (by omega); have := hb6.cell (p := ⟨w.heap.size, 0, none⟩) (by go_size); simp [go_sem, *] at this; have := hb6.cell (p := ⟨w.heap.size, 1, none⟩) (by go_size); simp [go_sem, *] at this; have : w.heap.size + 1 < w6.heap.size := (by omega); have := hb6.cell (p := ⟨w.heap.size + 1, 0, none⟩) (by go_size); simp [go_sem, *] at this; have := hb6.cell (p := ⟨w.heap.size + 1, 1, none⟩) (by go_size); simp [go_sem, *] at this))
    have k0 : (w6.alloc (Obj.cells #[Value.int IntKind.i64 p, Value.int IntKind.i64 q] 24)).cell? ⟨w.heap.size, 0, none⟩ = some (.int .i64 p) := by simp [go_sem, *]
    have k1 : (w6.alloc (Obj.cells #[Value.int IntKind.i64 p, Value.int IntKind.i64 q] 24)).cell? ⟨w.heap.size, 1, none⟩ = some (.int .i64 q) := by simp [go_sem, *]
    have k2 : (w6.alloc (Obj.cells #[Value.int IntKind.i64 p, Value.int IntKind.i64 q] 24)).cell? ⟨w.heap.size + 1, 0, none⟩ = some (.int .i64 r) := by simp [go_sem, *]
    have k3 : (w6.alloc (Obj.cells #[Value.int IntKind.i64 p, Value.int IntKind.i64 q] 24)).cell? ⟨w.heap.size + 1, 1, none⟩ = some (.int .i64 t) := by simp [go_sem, *]
    have hWb : Below w.heap.size w (w6.alloc (Obj.cells #[Value.int IntKind.i64 p, Value.int IntKind.i64 q] 24)) := by (refine Below.alloc ?_ (by omega) _); refine (((hb4'.trans (hb5.mono (by omega))).alloc (by omega) _).trans (hb6.mono ?_)); simp; omega
    generalize (w6.alloc (Obj.cells #[Value.int IntKind.i64 p, Value.int IntKind.i64 q] 24)) = W at *
    have g0 := cell_regrown k0
    have g1 := cell_regrown k1
    have g2 := cell_regrown k2
    have g3 := cell_regrown k3
    have A1 := at_class (W := W) HC3.out
    have A2 := at_class (W := W) HC4.out
    have A3 := at_class (W := W) HC5.out
    refine wp_region_quiet_below (by kernel_rfl) (by kernel_rfl) ?_; (repeat (first | go_big_quiet_step (first | with_reducible exact A1 _ _ | with_reducible exact A2 _ _ | with_reducible exact A3 _ _) | quiet_step (first | with_reducible exact A1 _ _ | with_reducible exact A2 _ _ | with_reducible exact A3 _ _))); refine wpQuiet_nil ?_; intro _ hw'; obtain ⟨⟨dq, osq⟩, hw''⟩ := hw'; subst hw''
    have hb7 := below_regrown W dq osq
    clear g0 g1 g2 g3 A1 A2 A3
    generalize «Sort».grow (redrawn W dq) osq = w7 at *
    go_wp2
    go_ret
    exact ⟨by simp, hWb.trans (hb7.mono hWb.size)⟩

theorem exactField_walk (p q r t : Int) (w : World) (hp : I64 p) (hq : I64 q) (hr : I64 r) (ht : I64 t) :
    Calls Tryd.prog 6 #[R2 p q, R2 r t] w fun e w' => e = .returned (.bool true) ∧ Below w.heap.size w w' := by
  have hC2 : ∀ w, Calls Tryd.prog 29 #[R2 r t, R2 0 1] w fun e w' => e = .returned (.int .i64 (cmpR r t 0 1)) ∧ Below w.heap.size w w' := fun w => cmp_any _ _ _ _ w hr ht (by unfold I64; omega) (by unfold I64; omega)
  have hC3 : ∀ w, Calls Tryd.prog 29 #[R2 p q, R2 r t] w fun e w' => e = .returned (.int .i64 (-cmpR r t p q)) ∧ Below w.heap.size w w' := fun w => by have h := cmp_any _ _ _ _ w hp hq hr ht; rw [cmpR_neg] at h; exact h
  have hC4 : ∀ w, Calls Tryd.prog 29 #[R2 r t, R2 p q] w fun e w' => e = .returned (.int .i64 (cmpR r t p q)) ∧ Below w.heap.size w w' := fun w => cmp_any _ _ _ _ w hr ht hp hq
  have hC5 : ∀ w, Calls Tryd.prog 30 #[R2 p q, R2 r t] w fun e w' => e = .returned (.int .i64 (-cmpR r t p q)) ∧ Below w.heap.size w w' := fun w => by have h := rcmp_any _ _ _ _ w hp hq hr ht; rw [cmpR_neg] at h; exact h
  obtain ⟨c1, c2⟩ := cmpR_bd r t p q
  have hAdd := fun w => add_any p q r t w hp hq hr ht
  have hMul := fun w => mul_any p q r t w hp hq hr ht
  have iv : ∀ {a b : Int}, validB a b = true → I64 a ∧ I64 b := fun h => by obtain ⟨x1, x2, x3, x4⟩ := valid_bound h; unfold I64; omega
  have hDivOf : validB p q = true → validB r t = true → makeE (wrap64 (p * r)) (wrap64 (q * t)) = 0 → ¬ (r = 0 ∧ t = 1) → ∀ w, Calls Tryd.prog 27 #[R2 (makeN (wrap64 (p * r)) (wrap64 (q * t))) (makeD (wrap64 (p * r)) (wrap64 (q * t))), R2 r t] w fun e w' => e = .returned (.tuple #[R2 p q, .int .i64 0]) ∧ Below w.heap.size w w' := fun hva hvb hm hz w => by
    have hr0 : r ≠ 0 := by
      intro h
      have g := valid_gcd hvb
      obtain ⟨b1, b2, b3, b4⟩ := valid_bound hvb
      rw [h] at g
      simp at g
      exact hz ⟨h, by omega⟩
    obtain ⟨e1, e2, e3, e4⟩ := field_mul hva hvb hr0 hm
    have h := div_any _ _ r t w (iv e1).1 (iv e1).2 hr ht
    obtain ⟨o1, o2, o3⟩ := op_yes (wrap64 (makeN (wrap64 (p * r)) (wrap64 (q * t)) * t)) (wrap64 (makeD (wrap64 (p * r)) (wrap64 (q * t)) * r)) (v := (validB (makeN (wrap64 (p * r)) (wrap64 (q * t))) (makeD (wrap64 (p * r)) (wrap64 (q * t))) && validB r t)) (by simp [e1, hvb])
    rw [o1, o2, o3, e2, e3, e4] at h; exact h
  have rt_cases : ¬ (r = 0 ∧ t = 1) → ((r == 0) = false ∨ ((r == 0) = true ∧ (t == 1) = false)) := fun hz => by
    by_cases h : r = 0
    · right; exact ⟨by simp [h], by simp; intro h2; exact hz ⟨h, h2⟩⟩
    · left; simpa using h
  generalize cmpR r t p q = cc at *
  cases hv : (validB p q && validB r t)
  · obtain ⟨o1, o2, o3⟩ := op_no (sumI p q r t) (wrap64 (q * t)) hv
    obtain ⟨u1, u2, u3⟩ := op_no (wrap64 (p * r)) (wrap64 (q * t)) hv
    rw [o1, o2, o3] at hAdd
    rw [u1, u2, u3] at hMul
    exact field_n0 p q r t _ _ _ _ _ _ _ 0 cc w hAdd hMul hC2 hC3 hC4 hC5 c1 c2 rfl rfl
  · obtain ⟨o1, o2, o3⟩ := op_yes (sumI p q r t) (wrap64 (q * t)) hv
    obtain ⟨u1, u2, u3⟩ := op_yes (wrap64 (p * r)) (wrap64 (q * t)) hv
    rw [o1, o2, o3] at hAdd
    rw [u1, u2, u3] at hMul
    simp only [Bool.and_eq_true] at hv
    obtain ⟨hva, hvb⟩ := hv
    by_cases hs : makeE (sumI p q r t) (wrap64 (q * t)) = 0
    · obtain ⟨f1, f2, f3, f4, f5⟩ := field_sum hva hvb hs
      have hSub : ∀ w, Calls Tryd.prog 21 #[R2 (makeN (sumI p q r t) (wrap64 (q * t))) (makeD (sumI p q r t) (wrap64 (q * t))), R2 r t] w fun e w' => e = .returned (.tuple #[R2 p q, .int .i64 0]) ∧ Below w.heap.size w w' := fun w => by
        have h := sub_any _ _ r t w (iv f1).1 (iv f1).2 hr ht
        obtain ⟨o1, o2, o3⟩ := op_yes (sumI (makeN (sumI p q r t) (wrap64 (q * t))) (makeD (sumI p q r t) (wrap64 (q * t))) (-r) t) (wrap64 (makeD (sumI p q r t) (wrap64 (q * t)) * t)) (v := (validB (makeN (sumI p q r t) (wrap64 (q * t))) (makeD (sumI p q r t) (wrap64 (q * t))) && validB r t)) (by simp [f1, hvb])
        rw [o1, o2, o3, f2, f3, f4] at h; exact h
      have hC1 : ∀ w, Calls Tryd.prog 29 #[R2 (makeN (sumI p q r t) (wrap64 (q * t))) (makeD (sumI p q r t) (wrap64 (q * t))), R2 p q] w fun e w' => e = .returned (.int .i64 (cmpR r t 0 1)) ∧ Below w.heap.size w w' := fun w => by
        have h := cmp_any _ _ p q w (iv f1).1 (iv f1).2 hp hq
        have x1 : cmpR (makeN (sumI p q r t) (wrap64 (q * t))) (makeD (sumI p q r t) (wrap64 (q * t))) p q = cmpR r t 0 1 := by
          unfold cmpR
          rw [if_pos (by simp [f1, hva]), if_pos (by simp [hvb, valid_0])]
          exact f5
        rw [x1] at h; exact h
      by_cases hm : makeE (wrap64 (p * r)) (wrap64 (q * t)) = 0
      · by_cases hz : r = 0 ∧ t = 1
        · exact field_s1 p q r t _ _ _ _ _ _ _ 0 cc w hAdd hMul hSub hC1 hC2 hC3 hC4 hC5 c1 c2 hs hm hz.1 hz.2
        · exact field_s2 p q r t _ _ _ _ _ _ _ 0 cc w hAdd hMul hSub (hDivOf hva hvb hm hz) hC1 hC2 hC3 hC4 hC5 c1 c2 hs hm (rt_cases hz)
      · exact field_s0 p q r t _ _ _ _ _ _ _ 0 cc w hAdd hMul hSub hC1 hC2 hC3 hC4 hC5 c1 c2 hs (by simpa using hm)
    · by_cases hm : makeE (wrap64 (p * r)) (wrap64 (q * t)) = 0
      · by_cases hz : r = 0 ∧ t = 1
        · exact field_n1 p q r t _ _ _ _ _ _ _ 0 cc w hAdd hMul hC2 hC3 hC4 hC5 c1 c2 (by simpa using hs) hm hz.1 hz.2
        · exact field_n2 p q r t _ _ _ _ _ _ _ 0 cc w hAdd hMul (hDivOf hva hvb hm hz) hC2 hC3 hC4 hC5 c1 c2 (by simpa using hs) hm (rt_cases hz)
      · exact field_n0 p q r t _ _ _ _ _ _ _ 0 cc w hAdd hMul hC2 hC3 hC4 hC5 c1 c2 (by simpa using hs) (by simpa using hm)


set_option maxRecDepth 100000 in
theorem exactField_lifted (os : Os) (started : os.Started) (H : Type) (enc : TypeId × Value → H) :
    ReturnsInHanded {} Tryd.checked os 6 .any (fun w args => (Rows.exactFieldSpec.pre enc Tryd.prog Tryd.f6 [] false w args ∧ laidMetH Tryd.prog laidE w) ∧ sizedMet enc Tryd.prog Tryd.f6 (OpenSpec.ofChange Rows.exactFieldSpec) false w args)
      (Rows.exactFieldSpec.post enc Tryd.prog Tryd.f6 false true false false) := by
  refine returnsInHanded_of_change_and (C := Tryd.checked) (X := fun w _ => laidMetH Tryd.prog laidE w) (fun _ _ _ hh h => h.of_heap hh) own started (by kernel_rfl) Tryd.func6
    (ChangeSpec.witness_shaped (enc := enc) (C := Tryd.checked) (os := os) (X := fun w _ => laidMetH Tryd.prog laidE w) false (World.doorLaid Tryd.prog 400 os) #[.agg #[.int .i64 0, .int .i64 0], .agg #[.int .i64 0, .int .i64 0]] 8 rfl (World.shaped_of_RefB (by kernel_rfl) (by kernel_rfl)) (by kernel_rfl) (by kernel_rfl) (by kernel_rfl) (laidE_met os _)) ?_
  intro WW base args ds gs before hval hW _ _ hL _
  have hpost := fun (W' : World) (hb : Below WW.heap.size WW W') (hfn : Rows.exactFieldSpec.fn H (ds ++ []) = { results := [.lit (.bool true)], args := ds }) =>
    post_of_law (fresh := true) (handsOn := false) laidOut (by rw [Tryd.params6]; intro t ht; simp at ht; (try subst ht) <;> (try (rcases ht with rfl | rfl)) <;> exact ⟨by kernel_rfl, of_decide_eq_true (by kernel_rfl)⟩) rfl hW (tb := 4) (by kernel_rfl) Tryd.underlying4 hfn hb
  obtain ⟨p, q, hA, hV, rfl, hfz, hnd⟩ := hW
  rw [Tryd.params6] at hA hval
  obtain ⟨v0, vs0, d0, ds0, p0, q0, hargs, rfl, rfl, h0, r0⟩ := trodAll_cons hA
  obtain ⟨v1, vs1, d1, ds1, p1, q1, rfl, rfl, rfl, h1, r1⟩ := trodAll_cons r0
  obtain ⟨rfl, rfl, rfl⟩ := trodAll_nil r1
  obtain rfl : args = #[v0, v1] := by cases args; simp_all
  obtain ⟨a0, b0, rfl, g0, e0⟩ := open_ratio (hval 0 _ v0 rfl rfl) h0
  obtain ⟨a1, b1, rfl, g1, e1⟩ := open_ratio (hval 1 _ v1 rfl rfl) h1
  refine (exactField_walk a0 b0 a1 b1 WW g0 e0 g1 e1).mono fun e W' ⟨he, hg⟩ => ?_
  exact ⟨_, he, hpost W' hg rfl⟩

theorem exactField_holds : Rows.ExactFieldSaid :=
  OpenClaim.holds_of_wide 6 Tryd.f6 rfl rfl rfl rfl rfl rfl rfl ⟨rfl, rfl, rfl, rfl, rfl⟩ rfl rfl rfl rfl rfl (by kernel_rfl) Tryd.func6 (by kernel_rfl)
    (of_decide_eq_true (by kernel_rfl)) (by unfold Func.isWrapper; first | (rw [if_pos (by decide +kernel)]; kernel_rfl) | (rw [if_neg (by decide +kernel)]; exact ⟨rfl, rfl⟩))
    (fun os started H enc _ => exactField_lifted os started H enc)

theorem exactField_card : Rows.ExactFieldCardSaid :=
  Claim7.holds_tied_plain_at .later [] [.data, .data, .data] true Rows.exactFieldCard.stood.harness Rows.exactFieldCard.stood.looks
    exactField_holds (fun _ h => by cases h) (by kernel_rfl) (fun _ h => by cases h) exactField_row_tie rfl ⟨rfl, rfl⟩ (by kernel_rfl) rfl
    (fun f fn hf hfn => by
      obtain rfl : f = 6 := Option.some.inj ((show Tryd.prog.funcNamed "scorebook/scorebooklaw01.ExactField" = some 6 by kernel_rfl).symm.trans hf) |>.symm
      obtain rfl : fn = Tryd.f6 := (Option.some.inj (Tryd.func6.symm.trans hfn)).symm
      exact ⟨by kernel_rfl, fun j t ht => by
        rw [Tryd.params6] at ht
        have hm : t ∈ [24, 24] := by simpa using Array.mem_of_getElem? ht
        have hall : ([24, 24].all fun u => !Tryd.prog.wantsStandIn u) = true := by kernel_rfl
        exact (show Tryd.prog.wantsStandIn t = false by simpa using List.all_eq_true.1 hall t hm)⟩)
    (by kernel_rfl)
#print axioms exactField_card

end Go.Proofs.YtaabebmaobdofaaDoor
