/- Contracts of both Texts of a ratio. -/
import Derived.Test.YtaabebmaobdofaaDoorEnvE
set_option linter.unusedSimpArgs false
set_option linter.unusedVariables false
namespace Go.Proofs.YtaabebmaobdofaaDoor
open Go.RowKit

theorem valid_bd {n d : Int} (h : validB n d = true) : 1 ≤ d ∧ d ≤ 2147483648 ∧ -2147483648 ≤ n ∧ n ≤ 2147483648 := by
  have : boundB n d = true := by unfold validB at h; simp at h; exact h.1
  simp [boundB] at this; omega
def txR (n d : Int) : List UInt8 := Lib.itoa n ++ 47 :: Lib.itoa d
def txV (n d : Int) : List UInt8 := if validB n d then txR n d else []
theorem slash_app (a b : List UInt8) : str a ++ ⟨#[47]⟩ ++ str b = str (a ++ 47 :: b) := by
  rw [show (⟨#[47]⟩ : ByteArray) = str [47] from rfl, str_app, str_app]; simp
theorem at_some {W : World} {f : FuncId} {args : Array Value} {v : Value} (h : ∀ w, Below W.heap.size W w → Calls Tryd.prog f args w fun e w' => e = .returned v ∧ Below w.heap.size w w') :
    ∀ d os, Calls Tryd.prog f args («Sort».grow (redrawn W d) os) fun e w'' => e = .returned v ∧ ∃ p : Regrown, w'' = «Sort».grow (redrawn W p.d) p.os := fun d os => Calls.regrown_of (h _ (below_regrown W d os))
theorem itoa_size (n : Int) (h : I64 n) : (str (Lib.itoa n)).size ≤ 30 := by
  rw [str_size]
  have := Lib.itoa_length_le n h.1 h.2
  omega

set_option maxHeartbeats 1000000 in
theorem ptext_any (n d : Int) (w : World) (hn : I64 n) (hd : I64 d) (hpow : Pow w) :
    Calls Tryd.prog 43 #[R2 n d] w fun e w' => e = .returned (S (txV n d)) ∧ Below w.heap.size w w' := by
  cases hv : validB n d
  · have HV : Hid (∀ w, Calls Tryd.prog 17 #[R2 n d] w fun e w' => e = .returned (.bool false) ∧ Below w.heap.size w w') := Lib.hid (fun w => by have h := valid_any n d w hn hd; rw [hv] at h; exact h)
    have e : txV n d = [] := by unfold txV; rw [hv]; rfl
    rw [e]
    clear hv e hpow
    go_enter Tryd.func43, Tryd.ntmps43
    go_wp2_with (go_at_call 17; ((with_reducible refine (HV.out _).mono ?_); rintro e w1 ⟨rfl, hb1⟩); have hz1 := hb1.size; (try simp only [World.size_alloc, World.size_setCell, World.size_drew, size_drewN'] at hz1); have : w.heap.size < w1.heap.size := (by omega); have := hb1.cell (p := ⟨w.heap.size, 0, none⟩) (by go_size); simp [go_sem, *] at this; have := hb1.frozen (p := ⟨w.heap.size, 0, none⟩) (by go_size); simp [go_sem, *] at this; have := hb1.cell (p := ⟨w.heap.size, 1, none⟩) (by go_size); simp [go_sem, *] at this; have := hb1.frozen (p := ⟨w.heap.size, 1, none⟩) (by go_size); simp [go_sem, *] at this)
    go_returns
    exact ⟨rfl, by (repeat' (first | (with_reducible exact Below.refl _ _) | (with_reducible refine Below.setCell ?_ ?_ _) | (with_reducible refine Below.alloc ?_ ?_ _) | (with_reducible refine Below.drew ?_) | (with_reducible refine belowN ?_ _) | (with_reducible refine below_step ?_ ?_ (by with_reducible assumption)) | go_size))⟩
  · have HV : Hid (∀ w, Calls Tryd.prog 17 #[R2 n d] w fun e w' => e = .returned (.bool true) ∧ Below w.heap.size w w') := Lib.hid (fun w => by have h := valid_any n d w hn hd; rw [hv] at h; exact h)
    have e : txV n d = txR n d := by unfold txV; rw [hv]; rfl
    have HP := Lib.hid hpow
    have z1 := itoa_size n hn
    have z2 := itoa_size d hd
    have HF : Hid (∀ k, I64 k → ∀ w', Pow w' → Calls Tryd.prog 53 #[.int .i64 k, .int .i64 10] w' fun e w'' => e = .returned (.string (str (Lib.itoa k))) ∧ Below w'.heap.size w' w'') := Lib.hid (fun k hk w' h => fmt_any k w' hk (Or.inr h))
    have HT : Hid (txR n d = Lib.itoa n ++ 47 :: Lib.itoa d) := Lib.hid rfl
    have HN := Lib.hid hn
    have HD := Lib.hid hd
    rw [e]
    clear hv e hpow hn hd
    go_enter Tryd.func43, Tryd.ntmps43
    go_wp2_with (go_at_call 17; ((with_reducible refine (HV.out _).mono ?_); rintro e w1 ⟨rfl, hb1⟩); have hz1 := hb1.size; (try simp only [World.size_alloc, World.size_setCell, World.size_drew, size_drewN'] at hz1); have : w.heap.size < w1.heap.size := (by omega); have := hb1.cell (p := ⟨w.heap.size, 0, none⟩) (by go_size); simp [go_sem, *] at this; have := hb1.frozen (p := ⟨w.heap.size, 0, none⟩) (by go_size); simp [go_sem, *] at this; have := hb1.cell (p := ⟨w.heap.size, 1, none⟩) (by go_size); simp [go_sem, *] at this; have := hb1.frozen (p := ⟨w.heap.size, 1, none⟩) (by go_size); simp [go_sem, *] at this)
    have k0 : w1.cell? ⟨w.heap.size, 0, none⟩ = some (.int .i64 n) := by simp [go_sem, *]
    have k1 : w1.cell? ⟨w.heap.size, 1, none⟩ = some (.int .i64 d) := by simp [go_sem, *]
    have hWb : Below w.heap.size w w1 := by (repeat' (first | (with_reducible exact Below.refl _ _) | (with_reducible refine Below.setCell ?_ ?_ _) | (with_reducible refine Below.alloc ?_ ?_ _) | (with_reducible refine Below.drew ?_) | (with_reducible refine belowN ?_ _) | (with_reducible refine below_step ?_ ?_ (by with_reducible assumption)) | go_size))
    have hPW : Pow w1 := pow_stays HP.out hWb
    have g0 := cell_regrown k0
    have g1 := cell_regrown k1
    have A1 := at_some (W := w1) (fun w' hb => HF.out n HN.out w' (pow_stays hPW hb))
    have A2 := at_some (W := w1) (fun w' hb => HF.out d HD.out w' (pow_stays hPW hb))
    generalize Lib.itoa n = L1 at *
    generalize Lib.itoa d = L2 at *
    refine wp_region_quiet_below (by kernel_rfl) (by kernel_rfl) ?_; (repeat (first | go_big_quiet_step (first | with_reducible exact A1 _ _ | with_reducible exact A2 _ _) | quiet_step (first | with_reducible exact A1 _ _ | with_reducible exact A2 _ _))); refine wpQuiet_nil ?_; intro _ hw'; obtain ⟨⟨dq, osq⟩, hw''⟩ := hw'; subst hw''
    have hb7 := below_regrown w1 dq osq
    clear g0 g1 A1 A2
    generalize «Sort».grow (redrawn w1 dq) osq = w7 at *
    go_wp2
    go_ret
    exact ⟨by rw [HT.out, slash_app]; rfl, hWb.trans (hb7.mono hWb.size)⟩

set_option maxHeartbeats 1000000 in
theorem rtext_any (n d : Int) (w : World) (hn : I64 n) (hd : I64 d) :
    Calls Tryd.prog 44 #[R2 n d] w fun e w' => e = .returned (S (txV n d)) ∧ Below w.heap.size w w' := by
  cases hv : validB n d
  · have HV : Hid (∀ w, Calls Tryd.prog 18 #[R2 n d] w fun e w' => e = .returned (.bool false) ∧ Below w.heap.size w w') := Lib.hid (fun w => by have h := rvalid_any n d w hn hd; rw [hv] at h; exact h)
    have e : txV n d = [] := by unfold txV; rw [hv]; rfl
    rw [e]
    clear hv e
    go_enter Tryd.func44, Tryd.ntmps44
    go_wp2_with (go_at_call 18; ((with_reducible refine (HV.out _).mono ?_); rintro e w1 ⟨rfl, hb1⟩); have hz1 := hb1.size; (try simp only [World.size_alloc, World.size_setCell, World.size_drew, size_drewN'] at hz1); have : w.heap.size < w1.heap.size := (by omega); have := hb1.cell (p := ⟨w.heap.size, 0, none⟩) (by go_size); simp [go_sem, *] at this; have := hb1.frozen (p := ⟨w.heap.size, 0, none⟩) (by go_size); simp [go_sem, *] at this; have := hb1.cell (p := ⟨w.heap.size, 1, none⟩) (by go_size); simp [go_sem, *] at this; have := hb1.frozen (p := ⟨w.heap.size, 1, none⟩) (by go_size); simp [go_sem, *] at this)
    go_returns
    exact ⟨rfl, by (repeat' (first | (with_reducible exact Below.refl _ _) | (with_reducible refine Below.setCell ?_ ?_ _) | (with_reducible refine Below.alloc ?_ ?_ _) | (with_reducible refine Below.drew ?_) | (with_reducible refine belowN ?_ _) | (with_reducible refine below_step ?_ ?_ (by with_reducible assumption)) | go_size))⟩
  · obtain ⟨d1, d2, n1, n2⟩ := valid_bd hv
    have HV : Hid (∀ w, Calls Tryd.prog 18 #[R2 n d] w fun e w' => e = .returned (.bool true) ∧ Below w.heap.size w w') := Lib.hid (fun w => by have h := rvalid_any n d w hn hd; rw [hv] at h; exact h)
    have e : txV n d = txR n d := by unfold txV; rw [hv]; rfl
    have z1 := itoa_size n hn
    have z2 := itoa_size d hd
    have HF1 : Hid (∀ w', Calls Tryd.prog 54 #[.int .i64 n] w' fun e w'' => e = .returned (.string (str (Lib.itoa n))) ∧ Below w'.heap.size w' w'') := Lib.hid (fun w' => rnum_any n w' (by omega) (by omega))
    have HF2 : Hid (∀ w', Calls Tryd.prog 54 #[.int .i64 d] w' fun e w'' => e = .returned (.string (str (Lib.itoa d))) ∧ Below w'.heap.size w' w'') := Lib.hid (fun w' => rnum_any d w' (by omega) (by omega))
    have HT : Hid (txR n d = Lib.itoa n ++ 47 :: Lib.itoa d) := Lib.hid rfl
    rw [e]
    clear hv e hn hd d1 d2 n1 n2
    go_enter Tryd.func44, Tryd.ntmps44
    go_wp2_with (go_at_call 18; ((with_reducible refine (HV.out _).mono ?_); rintro e w1 ⟨rfl, hb1⟩); have hz1 := hb1.size; (try simp only [World.size_alloc, World.size_setCell, World.size_drew, size_drewN'] at hz1); have : w.heap.size < w1.heap.size := (by omega); have := hb1.cell (p := ⟨w.heap.size, 0, none⟩) (by go_size); simp [go_sem, *] at this; have := hb1.frozen (p := ⟨w.heap.size, 0, none⟩) (by go_size); simp [go_sem, *] at this; have := hb1.cell (p := ⟨w.heap.size, 1, none⟩) (by go_size); simp [go_sem, *] at this; have := hb1.frozen (p := ⟨w.heap.size, 1, none⟩) (by go_size); simp [go_sem, *] at this)
    have k0 : w1.cell? ⟨w.heap.size, 0, none⟩ = some (.int .i64 n) := by simp [go_sem, *]
    have k1 : w1.cell? ⟨w.heap.size, 1, none⟩ = some (.int .i64 d) := by simp [go_sem, *]
    have hWb : Below w.heap.size w w1 := by (repeat' (first | (with_reducible exact Below.refl _ _) | (with_reducible refine Below.setCell ?_ ?_ _) | (with_reducible refine Below.alloc ?_ ?_ _) | (with_reducible refine Below.drew ?_) | (with_reducible refine belowN ?_ _) | (with_reducible refine below_step ?_ ?_ (by with_reducible assumption)) | go_size))
    have g0 := cell_regrown k0
    have g1 := cell_regrown k1
    have A1 := at_some (W := w1) (fun w' _ => HF1.out w')
    have A2 := at_some (W := w1) (fun w' _ => HF2.out w')
    generalize Lib.itoa n = L1 at *
    generalize Lib.itoa d = L2 at *
    refine wp_region_quiet_below (by kernel_rfl) (by kernel_rfl) ?_; (repeat (first | go_big_quiet_step (first | with_reducible exact A1 _ _ | with_reducible exact A2 _ _) | quiet_step (first | with_reducible exact A1 _ _ | with_reducible exact A2 _ _))); refine wpQuiet_nil ?_; intro _ hw'; obtain ⟨⟨dq, osq⟩, hw''⟩ := hw'; subst hw''
    have hb7 := below_regrown w1 dq osq
    clear g0 g1 A1 A2
    generalize «Sort».grow (redrawn w1 dq) osq = w7 at *
    go_wp2
    go_ret
    exact ⟨by rw [HT.out, slash_app]; rfl, hWb.trans (hb7.mono hWb.size)⟩
end Go.Proofs.YtaabebmaobdofaaDoor
