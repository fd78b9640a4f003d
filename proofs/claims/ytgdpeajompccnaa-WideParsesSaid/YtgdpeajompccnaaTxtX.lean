/- The contract of the reference's Text of a wide number: the numeral of its value. -/
import Derived.Test.YtgdpeajompccnaaTxtW
import Derived.Test.YtgdpeajompccnaaWideV
set_option linter.unusedSimpArgs false
set_option linter.unusedVariables false
namespace Go.Proofs.Ytgdpeajompccnaa
open Go.RowKit

def tl (U : Nat) : List UInt8 := if U = 0 then [] else Lib.decDigits U
theorem tl_step (U : Nat) (L : List UInt8) (h : 0 < U) : tl (U / 10) ++ (UInt8.ofNat (48 + U % 10) :: L) = tl U ++ L := by
  have e : tl U = Lib.decDigits U := by unfold tl; rw [if_neg (by omega)]
  rw [e]
  by_cases h10 : U < 10
  · have : U / 10 = 0 := by omega
    have e2 : tl (U / 10) = [] := by unfold tl; rw [if_pos this]
    rw [e2, Lib.decDigits_one h10, Nat.mod_eq_of_lt h10]; rfl
  · have e2 : tl (U / 10) = Lib.decDigits (U / 10) := by unfold tl; rw [if_neg (by omega)]
    have e3 : Lib.decDigits U = Lib.decDigits (U / 10) ++ [UInt8.ofNat (48 + U % 10)] := by rw [Lib.decDigits, dif_neg h10]
    rw [e2, e3]; simp
def padI (N : Nat) (U : Nat) (L : List UInt8) : Prop := (L = [] ∧ U = N) ∨ (L ≠ [] ∧ tl U ++ L = Lib.decDigits N)
theorem padI_len {N U : Nat} {L : List UInt8} (hN : N < 10 ^ (38 + 1)) (h : padI N U L) : L.length ≤ 39 := by
  rcases h with ⟨rfl, _⟩ | ⟨_, h⟩
  · simp
  · have h1 := congrArg List.length h
    rw [List.length_append] at h1
    have h2 := dec_len_le 38 N hN
    omega
theorem padI_step {N U : Nat} {L : List UInt8} (h : padI N U L) (hs : 0 < U ∨ L = []) : padI N (U / 10) (UInt8.ofNat (48 + U % 10) :: L) := by
  right
  refine ⟨by simp, ?_⟩
  rcases h with ⟨rfl, rfl⟩ | ⟨h1, h2⟩
  · by_cases hU : 0 < U
    · rw [tl_step U [] hU]; unfold tl; rw [if_neg (by omega)]; simp
    · obtain rfl : U = 0 := by omega
      rw [Lib.decDigits_one (by omega)]; rfl
  · rcases hs with hs | hs
    · rw [tl_step U L hs]; exact h2
    · exact absurd hs h1
theorem nums_dig (u : Nat) : strOfNums [48 + (u : Int) % 10] = str [UInt8.ofNat (48 + u % 10)] := by
  rw [nums_map]
  have : (48 + (u : Int) % 10) = 48 + ((u % 10 : Nat) : Int) := by omega
  rw [this]
  show str [toB _] = _
  rw [toB_dig]
theorem conv_at {W : World} {b : Nat} (c : Int) (h : W.cell? ⟨b, 0, none⟩ = some (.int .u8 c)) :
    (convert 75 9 (.slice (some ⟨b, 0, none⟩) 1 1)).run Try.prog W = .ok (.string (strOfNums [c])) W := by
  refine run_convert_bytes_arg _ 75 5 Try.underlying75 Try.underlying5 b 0 1 1 [c] rfl (fun i hi => ?_) 9 Try.underlying9
  obtain rfl : i = 0 := by omega
  simpa using h
theorem conv_rule (w2 : World) (b : Nat) (v0 v1 v2 v3 : Value) (c : Int) :
    (convert 75 9 (.slice (some ⟨w2.heap.size, 0, none⟩) 1 1)).run Try.prog (((((w2.setCell ⟨b, 0, none⟩ v0).setCell ⟨b, 1, none⟩ v1).setCell ⟨b, 2, none⟩ v2).setCell ⟨b, 3, none⟩ v3).alloc (Obj.cells #[.int .u8 c] 5)) =
      .ok (.string (strOfNums [c])) (((((w2.setCell ⟨b, 0, none⟩ v0).setCell ⟨b, 1, none⟩ v1).setCell ⟨b, 2, none⟩ v2).setCell ⟨b, 3, none⟩ v3).alloc (Obj.cells #[.int .u8 c] 5)) :=
  conv_at c (by simp [go_sem])
def zeroB (a b c d : Int) : Bool := a == 0 && (b == 0 && (c == 0 && d == 0))
/-- A number of four parts, compared with nothing. -/
theorem eq_parts (a b c d : Int) (w : World) : (Op.equalIn 10000 60 (.agg #[.int .u64 a, .int .u64 b, .int .u64 c, .int .u64 d]) (.agg #[.int .u64 0, .int .u64 0, .int .u64 0, .int .u64 0])).run Try.prog w = .ok (zeroB a b c d) w := by
  unfold zeroB
  have u3 := Try.underlying22
  have a3 := Try.isAgg22
  have z3 := Try.sizeOf22
  rw [show (10000 : Nat) = 9999 + 1 from rfl, Op.equalIn]
  simp only [Sem.run_bind, run_underlying Try.underlying60, Result.andThen_ok]
  simp only [Std.Legacy.Range.forIn_eq_forIn_range', Std.Legacy.Range.size, Nat.sub_zero, Nat.add_sub_cancel, Nat.div_one, List.range'_succ, List.range'_zero, List.forIn_cons, List.forIn_nil]
  go_simp
  by_cases h1 : a = 0 <;> by_cases h2 : b = 0 <;> by_cases h3 : c = 0 <;> by_cases h4 : d = 0 <;> simp [h1, h2, h3, h4]
abbrev P4L (x : Int) : List Value := [.int .u64 (l0 x), .int .u64 (l1 x), .int .u64 (l2 x), .int .u64 (l3 x)]
/-- At the head of a round: U is left, L is written. -/
structure RInv (a : Int) (w : World) (b : Nat) (N U : Nat) (L : List UInt8) (wr : World) : Prop where
  pad : padI N U L
  le : U ≤ N
  prow : Row wr b 60 (P4L (U : Int))
  arow : Row wr w.heap.size 24 [.int .i64 (wh a), .int .u64 (wl a)]
  lt : w.heap.size < b
  bel : Below w.heap.size w wr
theorem RInv.step {a : Int} {w : World} {b N U : Nat} {L : List UInt8} {wr w2 : World} (h : RInv a w b N U L wr) (hb : Below wr.heap.size wr w2) (hs : 0 < U ∨ L = []) (o : Obj) (W : World)
    (hW : W = ((((w2.setCell ⟨b, 0, none⟩ (.int .u64 (l0 ((U / 10 : Nat) : Int)))).setCell ⟨b, 1, none⟩ (.int .u64 (l1 ((U / 10 : Nat) : Int)))).setCell ⟨b, 2, none⟩ (.int .u64 (l2 ((U / 10 : Nat) : Int)))).setCell ⟨b, 3, none⟩ (.int .u64 (l3 ((U / 10 : Nat) : Int)))).alloc o) :
    RInv a w b N (U / 10) (UInt8.ofNat (48 + U % 10) :: L) W := by
  obtain ⟨pad, le, prow, arow, lt, bel⟩ := h
  subst hW
  have hbl := Row.lt prow
  have hal := Row.lt arow
  refine ⟨padI_step pad hs, by have := Nat.div_le_self U 10; omega, ?_, ?_, lt, ?_⟩
  · exact (((((prow.below hb hbl).put 0 _).put 1 _).put 2 _).put 3 _).alloc _
  · exact (((((arow.below hb hal).far (p := ⟨b, 0, none⟩) (by simp; omega) _).far (p := ⟨b, 1, none⟩) (by simp; omega) _).far (p := ⟨b, 2, none⟩) (by simp; omega) _).far (p := ⟨b, 3, none⟩) (by simp; omega) _).alloc _
  · have h1 := below_step bel (by omega) hb
    have h2 := (((h1.setCell (p := ⟨b, 0, none⟩) (by simp; omega) (.int .u64 (l0 ((U / 10 : Nat) : Int)))).setCell (p := ⟨b, 1, none⟩) (by simp; omega) (.int .u64 (l1 ((U / 10 : Nat) : Int)))).setCell (p := ⟨b, 2, none⟩) (by simp; omega) (.int .u64 (l2 ((U / 10 : Nat) : Int)))).setCell (p := ⟨b, 3, none⟩) (by simp; omega) (.int .u64 (l3 ((U / 10 : Nat) : Int)))
    exact h2.alloc (by simp; have := hb.size; omega) _
def lenOf : Value → Nat
  | .string s => s.size
  | _ => 0
theorem limbs (U : Nat) (h : (U : Int) < 340282366920938463463374607431768211456) (h0 : 0 < U) : (l0 U == 0) = false ∨ ((l0 U == 0) = true ∧ (l1 U == 0) = false) ∨ ((l0 U == 0) = true ∧ (l1 U == 0) = true ∧ (l2 U == 0) = false) ∨ ((l0 U == 0) = true ∧ (l1 U == 0) = true ∧ (l2 U == 0) = true ∧ (l3 U == 0) = false) := by
  simp only [beq_eq_false_iff_ne, beq_iff_eq]
  unfold l0 l1 l2 l3
  omega

set_option maxHeartbeats 4000000 in
theorem rtext_any (a : Int) (w : World) (ha : fits a) :
    Calls Try.prog 34 #[W a] w fun e w' => e = .returned (S (Lib.itoa a)) ∧ Below w.heap.size w w' := by
  obtain ⟨N, hN⟩ : ∃ N : Nat, size a = (N : Int) := ⟨(size a).toNat, by unfold size; split <;> omega⟩
  have hNb : (N : Int) ≤ 170141183460469231731687303715884105728 := by rw [← hN]; unfold fits lo127 hi127 at ha; unfold size; split <;> omega
  have hit : Hid ((a < 0 ∧ Lib.itoa a = 45 :: Lib.decDigits N) ∨ (¬ a < 0 ∧ Lib.itoa a = Lib.decDigits N)) := Lib.hid (by
    by_cases h : a < 0
    · left
      have e : a = -(N : Int) := by rw [← hN]; unfold size; rw [if_pos h]; omega
      exact ⟨h, by rw [e, Lib.itoa_neg N (by omega)]⟩
    · right
      have e : a = (N : Int) := by rw [← hN]; unfold size; rw [if_neg h]
      exact ⟨h, by rw [e, Lib.itoa_nonneg]⟩)
  have hS : Hid (∀ w, Calls Try.prog 43 #[W a] w fun e w' => e = .returned (P4 (N : Int)) ∧ Below w.heap.size w w') := Lib.hid (fun w => by have := rsize_any a w ha; rw [hN] at this; exact this)
  have hD : Hid (∀ (U : Nat), U ≤ N → ∀ w, Calls Try.prog 48 #[P4 (U : Int), .int .u64 10] w fun e w' => e = .returned (.tuple #[P4 ((U / 10 : Nat) : Int), .int .u64 ((U : Int) % 10)]) ∧ Below w.heap.size w w') := Lib.hid (fun U hU w => by
    have := rdivide_any (U : Int) 10 w (by omega) (by omega)
    rw [show ((U : Int) / 10) = ((U / 10 : Nat) : Int) by omega] at this
    exact this)
  have h10 : N < 10 ^ (38 + 1) := by
    have h2 : (10 : Nat) ^ (38 + 1) = 1000000000000000000000000000000000000000 := by decide
    omega
  have H10 := Lib.hid h10
  clear hN ha h10
  go_enter Try.func34, Try.ntmps34
  go_wp2_with (go_at_call 43; ((with_reducible refine (hS.out _).mono ?_); rintro e w1 ⟨rfl, hb1⟩); have hz1 := hb1.size; (try simp only [World.size_alloc, World.size_setCell, World.size_drew, size_drewN'] at hz1); have : w.heap.size < w1.heap.size := (by omega); have := hb1.cell (p := ⟨w.heap.size, 0, none⟩) (by go_size); simp [go_sem, *] at this; have := hb1.frozen (p := ⟨w.heap.size, 0, none⟩) (by go_size); simp [go_sem, *] at this; have := hb1.cell (p := ⟨w.heap.size, 1, none⟩) (by go_size); simp [go_sem, *] at this; have := hb1.frozen (p := ⟨w.heap.size, 1, none⟩) (by go_size); simp [go_sem, *] at this)
  have hI : Hid (∃ (U : Nat) (L : List UInt8), RInv a w w1.heap.size N U L (w1.alloc (Obj.cells #[Value.int IntKind.u64 (l0 (N : Int)), Value.int IntKind.u64 (l1 (N : Int)), Value.int IntKind.u64 (l2 (N : Int)), Value.int IntKind.u64 (l3 (N : Int))] 60)) ∧ Value.string ⟨#[]⟩ = Value.string (str L)) := Lib.hid (by
    have r2 : Row w1 w.heap.size 24 [.int .i64 (wh a), .int .u64 (wl a)] :=
      (Row.new w 24 [.int .i64 (wh a), .int .u64 (wl a)]).below hb1 (by simp only [World.size_alloc]; omega)
    refine ⟨N, [], ⟨Or.inl ⟨rfl, rfl⟩, Nat.le_refl _, Row.new w1 _ (P4L (N : Int)), r2.alloc _, by omega, ?_⟩, rfl⟩
    (repeat' (first | (with_reducible exact Below.refl _ _) | (with_reducible refine Below.setCell ?_ ?_ _) | (with_reducible refine Below.alloc ?_ ?_ _) | (with_reducible refine Below.drew ?_) | (with_reducible refine belowN ?_ _) | (with_reducible refine below_step ?_ ?_ (by with_reducible assumption)) | go_size)))
  go_loopw [4] (fun s wr => ∃ (U : Nat) (L : List UInt8), RInv a w w1.heap.size N U L wr ∧ s = .string (str L)) (fun s _ => 41 - lenOf s)
  case atStart => exact hI.out
  case round =>
    obtain ⟨U, L, hi, rfl⟩ := hrel
    have HI' := Lib.hid hi
    have hlt := hi.lt
    have hle := hi.le
    have lL := padI_len H10.out hi.pad
    have zL := str_size L
    have hbl := Row.lt hi.prow
    have hal := Row.lt hi.arow
    have x0 : wr.cell? ⟨w1.heap.size, 0, none⟩ = some (.int .u64 (l0 (U : Int))) := by rw [hi.prow.cell]; rfl
    have x1 : wr.cell? ⟨w1.heap.size, 1, none⟩ = some (.int .u64 (l1 (U : Int))) := by rw [hi.prow.cell]; rfl
    have x2 : wr.cell? ⟨w1.heap.size, 2, none⟩ = some (.int .u64 (l2 (U : Int))) := by rw [hi.prow.cell]; rfl
    have x3 : wr.cell? ⟨w1.heap.size, 3, none⟩ = some (.int .u64 (l3 (U : Int))) := by rw [hi.prow.cell]; rfl
    have f0 := hi.prow.free 0
    have f1 := hi.prow.free 1
    have f2 := hi.prow.free 2
    have f3 := hi.prow.free 3
    have y0 : wr.cell? ⟨w.heap.size, 0, none⟩ = some (.int .i64 (wh a)) := by rw [hi.arow.cell]; rfl
    clear hi hI
    have heq := eq_parts
    have hcv := conv_rule
    have g0 : wr.frozen? ⟨w.heap.size, 0, none⟩ = false := HI'.out.arow.free 0
    have HDU := Lib.hid (hD.out U hle)
    have d0 : 0 ≤ (U : Int) % 10 := by omega
    have d1 : (U : Int) % 10 < 10 := by omega
    have hw1 : IntKind.u64.wrap (48 + (U : Int) % 10) = 48 + (U : Int) % 10 := by rw [IntKind.wrap_u64]; omega
    have hw2 : IntKind.u8.wrap (48 + (U : Int) % 10) = 48 + (U : Int) % 10 := by rw [IntKind.wrap_u8]; omega
    have hzs : (strOfNums [48 + (U : Int) % 10]).size = 1 := by rw [nums_dig, str_size]; rfl
    rcases Nat.eq_zero_or_pos U with h0 | h0
    · have hq : zeroB (l0 (U : Int)) (l1 (U : Int)) (l2 (U : Int)) (l3 (U : Int)) = true := by rw [h0]; rfl
      by_cases hL : L = []
      · have kL : ((str L).toList == []) = true := by rw [str_toList, hL]; rfl
        have hgo : 0 < U ∨ L = [] := Or.inr hL
        clear h0 hL
        go_wp2_with (go_at_call 48; (with_reducible refine (HDU.out _).mono ?_); rintro e w2 ⟨rfl, hb2⟩; have hz2 := hb2.size; (try simp only [World.size_alloc, World.size_setCell, World.size_drew, size_drewN'] at hz2); have : w.heap.size < w2.heap.size := (by omega); have := hb2.cell (p := ⟨w.heap.size, 0, none⟩) (by go_size); simp [go_sem, *] at this; have := hb2.frozen (p := ⟨w.heap.size, 0, none⟩) (by go_size); simp [go_sem, *] at this; have : w1.heap.size < w2.heap.size := (by omega); have := hb2.cell (p := ⟨w1.heap.size, 0, none⟩) (by go_size); simp [go_sem, *] at this; have := hb2.frozen (p := ⟨w1.heap.size, 0, none⟩) (by go_size); simp [go_sem, *] at this; have := hb2.cell (p := ⟨w1.heap.size, 1, none⟩) (by go_size); simp [go_sem, *] at this; have := hb2.frozen (p := ⟨w1.heap.size, 1, none⟩) (by go_size); simp [go_sem, *] at this; have := hb2.cell (p := ⟨w1.heap.size, 2, none⟩) (by go_size); simp [go_sem, *] at this; have := hb2.frozen (p := ⟨w1.heap.size, 2, none⟩) (by go_size); simp [go_sem, *] at this; have := hb2.cell (p := ⟨w1.heap.size, 3, none⟩) (by go_size); simp [go_sem, *] at this; have := hb2.frozen (p := ⟨w1.heap.size, 3, none⟩) (by go_size); simp [go_sem, *] at this)
        have hst := HI'.out.step hb2 hgo (Obj.cells #[.int .u8 (48 + (U : Int) % 10)] 5) _ rfl
        exact ⟨⟨U / 10, _, hst, by rw [nums_dig, str_app]; rfl⟩, by
            have hz1 : (strOfNums [48 + (U : Int) % 10] ++ str L).size = L.length + 1 := by rw [nums_dig, str_app, str_size]; simp
            simp only [lenOf]
            rw [hz1, zL]
            omega⟩

      · have kL : ((str L).toList == []) = false := by rw [str_toList]; simpa using hL
        have HFin : Hid (L = Lib.decDigits N) := Lib.hid (by
          rcases HI'.out.pad with ⟨h1, _⟩ | ⟨_, h2⟩
          · exact absurd h1 hL
          · have : tl U = [] := by unfold tl; rw [if_pos h0]
            rw [this] at h2; exact h2)
        have hbel := HI'.out.bel
        clear h0 hL
        rcases hit.out with ⟨hn, he⟩ | ⟨hn, he⟩
        · have hn2 : wh a < 0 := (lt0_iff a).2 hn
          have HEQ := Lib.hid he
          clear he hn
          go_wp2
          go_ret
          exact ⟨by rw [HEQ.out, ← HFin.out, show (45 :: L) = [45] ++ L from rfl]; show Ending.returned (.string ((⟨#[45]⟩ : ByteArray) ++ str L)) = _; rw [show (⟨#[45]⟩ : ByteArray) = str [45] from rfl, str_app], hbel⟩
        · have hn2 : ¬ wh a < 0 := fun h => by have := (lt0_iff a).1 h; omega
          have HEQ := Lib.hid he
          clear he hn
          go_wp2
          go_ret
          exact ⟨by rw [HEQ.out, ← HFin.out]; rfl, hbel⟩
    · have hgo : 0 < U ∨ L = [] := Or.inl h0
      have hq : zeroB (l0 (U : Int)) (l1 (U : Int)) (l2 (U : Int)) (l3 (U : Int)) = false := by
        unfold zeroB
        rcases limbs U (by omega) h0 with q0 | ⟨q0, q1⟩ | ⟨q0, q1, q2⟩ | ⟨q0, q1, q2, q3⟩ <;> simp [*]
      clear h0
      go_wp2_with (go_at_call 48; (with_reducible refine (HDU.out _).mono ?_); rintro e w2 ⟨rfl, hb2⟩; have hz2 := hb2.size; (try simp only [World.size_alloc, World.size_setCell, World.size_drew, size_drewN'] at hz2); have : w.heap.size < w2.heap.size := (by omega); have := hb2.cell (p := ⟨w.heap.size, 0, none⟩) (by go_size); simp [go_sem, *] at this; have := hb2.frozen (p := ⟨w.heap.size, 0, none⟩) (by go_size); simp [go_sem, *] at this; have : w1.heap.size < w2.heap.size := (by omega); have := hb2.cell (p := ⟨w1.heap.size, 0, none⟩) (by go_size); simp [go_sem, *] at this; have := hb2.frozen (p := ⟨w1.heap.size, 0, none⟩) (by go_size); simp [go_sem, *] at this; have := hb2.cell (p := ⟨w1.heap.size, 1, none⟩) (by go_size); simp [go_sem, *] at this; have := hb2.frozen (p := ⟨w1.heap.size, 1, none⟩) (by go_size); simp [go_sem, *] at this; have := hb2.cell (p := ⟨w1.heap.size, 2, none⟩) (by go_size); simp [go_sem, *] at this; have := hb2.frozen (p := ⟨w1.heap.size, 2, none⟩) (by go_size); simp [go_sem, *] at this; have := hb2.cell (p := ⟨w1.heap.size, 3, none⟩) (by go_size); simp [go_sem, *] at this; have := hb2.frozen (p := ⟨w1.heap.size, 3, none⟩) (by go_size); simp [go_sem, *] at this)
      have hst := HI'.out.step hb2 hgo (Obj.cells #[.int .u8 (48 + (U : Int) % 10)] 5) _ rfl
      exact ⟨⟨U / 10, _, hst, by rw [nums_dig, str_app]; rfl⟩, by
            have hz1 : (strOfNums [48 + (U : Int) % 10] ++ str L).size = L.length + 1 := by rw [nums_dig, str_app, str_size]; simp
            simp only [lenOf]
            rw [hz1, zL]
            omega⟩

end Go.Proofs.Ytgdpeajompccnaa
