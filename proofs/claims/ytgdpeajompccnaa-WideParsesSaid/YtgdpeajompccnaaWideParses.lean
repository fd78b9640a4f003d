/- Parse of package wide gives the number or the error of the reference, for every string: WideParses returns true for every input, and old memory is as it was. No condition. -/
import Derived.Test.YtgdpeajompccnaaWideOpen
import Derived.Test.YtgdpeajompccnaaWideK
import Derived.Test.YtgdpeajompccnaaParY
import Derived.Test.YtgdpeajompccnaaParZ
set_option linter.unusedSimpArgs false
set_option linter.unusedVariables false
namespace Go.Proofs.Ytgdpeajompccnaa
open Go.ChangeShapes Go.WideShapes Go.ChangeAt Go.RowKit Go.Joins

section
variable {H : Type} {enc : TypeId × Value → H} {w : World} {base b0 : Nat} {spare : Nat → Bool} {held : Bool} {r : Reach}
set_option maxRecDepth 20000 in
theorem open_str {v : Value} {d : DataW H} {p : List MemPlace} (hv : Value.okWide Try.prog w r b0 9 v) (h : DataW.Trod enc Try.prog w base spare held 9 v d p) : ∃ s : ByteArray, v = .string s ∧ s.size ≤ maxLen := by
  obtain ⟨s, rfl, _, _, hs⟩ := Go.ChangeMaps.open_string (P := Try.prog) Try.underlying9 hv h
  exact ⟨s, rfl, hs⟩
end

/-- The reference's early refusals. -/
theorem rparse_short (l D : List UInt8) (w : World) (hl : l.length ≤ 1000) (hD : D.length = 0 ∨ 39 < D.length) (hsh : (l = 45 :: D) ∨ (l = D ∧ ∀ h : 0 < l.length, l[0] ≠ 45)) :
    Calls Try.prog 35 #[S l] w fun e w' => e = .returned (.tuple #[W 0, .int .i64 4]) ∧ Below w.heap.size w w' := by
  have hW0 : W 0 = .agg #[.int .i64 0, .int .u64 0] := by unfold W; rfl
  rw [hW0]
  have zl := str_size l
  have zD := str_size D
  rcases hsh with rfl | ⟨rfl, h45⟩
  · have zl2 : (str (45 :: D)).size = D.length + 1 := by rw [zl]; rfl
    have hlt0 : 0 < (str (45 :: D)).size := by omega
    have h45 : ((((str (45 :: D))[0]'hlt0).toNat : Int)) = 45 := by rw [str_get _ 0 hlt0 (by simp)]; rfl
    have hx1 : (str (45 :: D)).extract 1 (D.length + 1) = str D := ext_tail D 45 _ rfl
    have hDl : D.length ≤ 1000 := by simp at hl; omega
    clear zl hl hW0
    rcases hD with h | h
    · have k1 : ((D.length : Int) == 0) = true := beq_iff_eq.2 (by omega)
      go_enter Try.func35, Try.ntmps35
      go_wp2
      refine bodyPost_ret (v := .tuple #[.agg #[.int .i64 0, .int .u64 0], .int .i64 4]) (by simp [results, Try.results35, go_sem, *]) rfl ?_
      exact ⟨rfl, by (repeat' (first | (with_reducible exact Below.refl _ _) | (with_reducible refine Below.setCell ?_ ?_ _) | (with_reducible refine Below.alloc ?_ ?_ _) | (with_reducible refine Below.drew ?_) | (with_reducible refine belowN ?_ _) | (with_reducible refine below_step ?_ ?_ (by with_reducible assumption)) | go_size))⟩
    · have k1 : ((D.length : Int) == 0) = false := beq_eq_false_iff_ne.2 (by omega)
      have k2 : (39 : Int) < (D.length : Int) := by omega
      go_enter Try.func35, Try.ntmps35
      go_wp2
      refine bodyPost_ret (v := .tuple #[.agg #[.int .i64 0, .int .u64 0], .int .i64 4]) (by simp [results, Try.results35, go_sem, *]) rfl ?_
      exact ⟨rfl, by (repeat' (first | (with_reducible exact Below.refl _ _) | (with_reducible refine Below.setCell ?_ ?_ _) | (with_reducible refine Below.alloc ?_ ?_ _) | (with_reducible refine Below.drew ?_) | (with_reducible refine belowN ?_ _) | (with_reducible refine below_step ?_ ?_ (by with_reducible assumption)) | go_size))⟩
  · clear hW0
    rcases hD with h | h
    · have k1 : ((l.length : Int) == 0) = true := beq_iff_eq.2 (by omega)
      have k0 : ¬ (0 : Int) < (l.length : Int) := by omega
      go_enter Try.func35, Try.ntmps35
      go_wp2
      refine bodyPost_ret (v := .tuple #[.agg #[.int .i64 0, .int .u64 0], .int .i64 4]) (by simp [results, Try.results35, go_sem, *]) rfl ?_
      exact ⟨rfl, by (repeat' (first | (with_reducible exact Below.refl _ _) | (with_reducible refine Below.setCell ?_ ?_ _) | (with_reducible refine Below.alloc ?_ ?_ _) | (with_reducible refine Below.drew ?_) | (with_reducible refine belowN ?_ _) | (with_reducible refine below_step ?_ ?_ (by with_reducible assumption)) | go_size))⟩
    · have k1 : ((l.length : Int) == 0) = false := beq_eq_false_iff_ne.2 (by omega)
      have k2 : (39 : Int) < (l.length : Int) := by omega
      have hlt0 : 0 < (str l).size := by omega
      have h46 : ((((str l)[0]'hlt0).toNat : Int) == 45) = false := by
        rw [str_get _ 0 hlt0 (by omega)]
        exact beq_eq_false_iff_ne.2 (fun h => h45 (by omega) (UInt8.toNat_inj.1 (by show _ = 45; omega)))
      clear h45
      go_enter Try.func35, Try.ntmps35
      go_wp2
      refine bodyPost_ret (v := .tuple #[.agg #[.int .i64 0, .int .u64 0], .int .i64 4]) (by simp [results, Try.results35, go_sem, *]) rfl ?_
      exact ⟨rfl, by (repeat' (first | (with_reducible exact Below.refl _ _) | (with_reducible refine Below.setCell ?_ ?_ _) | (with_reducible refine Below.alloc ?_ ?_ _) | (with_reducible refine Below.drew ?_) | (with_reducible refine belowN ?_ _) | (with_reducible refine below_step ?_ ?_ (by with_reducible assumption)) | go_size))⟩
theorem shape_of (l : List UInt8) : ∃ D : List UInt8, (l = 45 :: D) ∨ (l = D ∧ ∀ h : 0 < l.length, l[0] ≠ 45) := by
  cases l with
  | nil => exact ⟨[], Or.inr ⟨rfl, fun h => by simp at h⟩⟩
  | cons c r =>
    by_cases hc : c = 45
    · subst hc; exact ⟨r, Or.inl rfl⟩
    · exact ⟨c :: r, Or.inr ⟨rfl, fun _ => hc⟩⟩
/-- No number's text. -/
theorem rparse_no (l : List UInt8) (w : World) (hl : l.length ≤ 1000) (hn : ∀ a, fits a → Lib.itoa a ≠ l) :
    Calls Try.prog 35 #[S l] w fun e w' => e = .returned (.tuple #[W 0, .int .i64 4]) ∧ Below w.heap.size w w' := by
  obtain ⟨D, hsh⟩ := shape_of l
  by_cases hD : D.length = 0 ∨ 39 < D.length
  · exact rparse_short l D w hl hD hsh
  · rcases hsh with rfl | ⟨rfl, h45⟩
    · exact rparse_neg D 0 4 (fun _ _ _ => True) w (by omega) (by omega) trivial (fun _ _ _ _ _ => ⟨fun _ => trivial, fun _ => trivial⟩) (fun _ _ _ _ _ => ⟨rfl, rfl⟩) (fun _ _ _ => ⟨rfl, rfl⟩) (fun x hx _ => ⟨fun h => absurd h (hn x hx), fun _ => ⟨rfl, rfl⟩⟩)
    · exact rparse_pos l 0 4 (fun _ _ _ => True) w (by omega) (by omega) h45 trivial (fun _ _ _ _ _ => ⟨fun _ => trivial, fun _ => trivial⟩) (fun _ _ _ _ _ => ⟨rfl, rfl⟩) (fun _ _ _ => ⟨rfl, rfl⟩) (fun x hx _ => ⟨fun _ => ⟨fun h => absurd h (hn _ (fits_clip _)), fun _ => ⟨rfl, rfl⟩⟩, fun _ => ⟨rfl, rfl⟩⟩)
/-- Each step of a number's digits. -/
theorem dig_step (D : List UInt8) (a : Int) (ha : fits a) (hall : D.all isDig = true) (hv : (digF 0 D : Int) = (a.natAbs : Int)) (k : Nat) (h : k < D.length) (x : Int) (hx : x = -(digF 0 (D.take k) : Int)) :
    fitB (x * 10) = true ∧ fitB (clip (x * 10) - ((D[k].toNat : Int) - 48)) = true ∧ clip (clip (x * 10) - ((D[k].toNat : Int) - 48)) = -(digF 0 (D.take (k + 1)) : Int) := by
  have h1 := digF_take D k h
  have h2 := digF_more D (k + 1)
  have h3 := List.all_eq_true.1 hall D[k] (List.getElem_mem h)
  rw [isDig_iff] at h3
  unfold fits lo127 hi127 at ha
  have e1 : fits (x * 10) := by unfold fits lo127 hi127; omega
  rw [clip_yes e1]
  have e2 : fits (x * 10 - ((D[k].toNat : Int) - 48)) := by unfold fits lo127 hi127; omega
  rw [clip_yes e2]
  exact ⟨fit_yes e1, fit_yes e2, by omega⟩
theorem rparse_ok (a : Int) (w : World) (ha : fits a) :
    Calls Try.prog 35 #[S (Lib.itoa a)] w fun e w' => e = .returned (.tuple #[W a, .int .i64 0]) ∧ Below w.heap.size w w' := by
  obtain ⟨D, hD⟩ : ∃ D, D = Lib.decDigits a.natAbs := ⟨_, rfl⟩
  obtain ⟨i1, i2, i3, i4⟩ := dec_all a.natAbs
  rw [← hD] at i1 i2 i3
  have hb : body (Lib.itoa a) = D := by rw [body_itoa, hD]
  have hDl : D.length ≤ 39 := by rw [← hb]; exact body_len a ha
  have hD0 : 1 ≤ D.length := by cases D with | nil => exact absurd rfl i3 | cons c r => simp
  have hu : (digF 0 D : Int) = (a.natAbs : Int) := by rw [i2]
  have hfull : D.take D.length = D := List.take_of_length_le (Nat.le_refl _)
  have hstep : ∀ k x (h : k < D.length), isDig D[k] = true → (x = -(digF 0 (D.take k) : Int) ∧ true = true) → (fitB (x * 10) = true → (clip (clip (x * 10) - ((D[k].toNat : Int) - 48)) = -(digF 0 (D.take (k + 1)) : Int) ∧ fitB (clip (x * 10) - ((D[k].toNat : Int) - 48)) = true)) ∧ (fitB (x * 10) = false → (clip (x * 10) = -(digF 0 (D.take (k + 1)) : Int) ∧ false = true)) := by
    intro k x h _ hx
    obtain ⟨s1, s2, s3⟩ := dig_step D a ha i1 hu k h x hx.1
    exact ⟨fun _ => ⟨s3, s2⟩, fun hf => by rw [s1] at hf; cases hf⟩
  rcases Int.lt_or_le a 0 with hn | hn
  · have hl : Lib.itoa a = 45 :: D := by
      have e : a = -(a.natAbs : Int) := by omega
      rw [hD, e, Lib.itoa_neg _ (by omega)]; simp
    rw [hl]
    refine rparse_neg D a 0 (fun k x b => x = -(digF 0 (D.take k) : Int) ∧ b = true) w hD0 hDl ⟨rfl, rfl⟩ hstep ?_ ?_ ?_
    · intro k x h hd _
      have := List.all_eq_true.1 i1 D[k] (List.getElem_mem h)
      rw [this] at hd; cases hd
    · intro k x h; cases h.2
    · intro x hx h
      have e : x = a := by have := h.1; rw [hfull] at this; omega
      subst e
      exact ⟨fun _ => ⟨rfl, rfl⟩, fun h => absurd hl h⟩
  · have hl : Lib.itoa a = D := by
      have e : a = (a.natAbs : Int) := by omega
      rw [hD, e, Lib.itoa_nonneg]; simp
    rw [hl]
    refine rparse_pos D a 0 (fun k x b => x = -(digF 0 (D.take k) : Int) ∧ b = true) w hD0 hDl ?_ ⟨rfl, rfl⟩ hstep ?_ ?_ ?_
    · intro h e
      have := List.all_eq_true.1 i1 (D[0]'h) (List.getElem_mem h)
      rw [e] at this; cases this
    · intro k x h hd _
      have := List.all_eq_true.1 i1 D[k] (List.getElem_mem h)
      rw [this] at hd; cases hd
    · intro k x h; cases h.2
    · intro x hx h
      have e : -x = a := by have := h.1; rw [hfull] at this; omega
      have e2 : clip (-x) = a := by rw [e]; exact clip_yes ha
      rw [e2]
      exact ⟨fun _ => ⟨fun _ => ⟨rfl, rfl⟩, fun h => absurd hl h⟩, fun h => by rw [e, fit_yes ha] at h; cases h⟩
set_option maxHeartbeats 4000000 in
theorem both_walk (l : List UInt8) (w : World) (V E : Int) (hl : l.length ≤ 200)
    (hP : ∀ w', Calls Try.prog 33 #[S l] w' fun e w'' => e = .returned (.tuple #[W V, .int .i64 E]) ∧ Below w'.heap.size w' w'')
    (hR : ∀ w', Calls Try.prog 35 #[S l] w' fun e w'' => e = .returned (.tuple #[W V, .int .i64 E]) ∧ Below w'.heap.size w' w'') :
    Calls Try.prog 10 #[S l] w fun e w' => e = .returned (.bool true) ∧ Below w.heap.size w w' := by
  have hA := Lib.hid awake_any
  have HP := Lib.hid hP
  have HR := Lib.hid hR
  have z := str_size l
  have z2 : ¬ (200 : Int) < ((str l).size : Int) := by omega
  unfold S at *
  generalize str l = t at *
  clear hP hR z hl
  go_enter Try.func10, Try.ntmps10
  go_wp2_with (first | (go_at_call 11; ((with_reducible refine (hA.out _).mono ?_); rintro e w1 ⟨rfl, hb1⟩); have hz1 := hb1.size; (try simp only [World.size_alloc, World.size_setCell, World.size_drew, size_drewN'] at hz1)) | (go_at_call 33; ((with_reducible refine (HP.out _).mono ?_); rintro e w2 ⟨rfl, hb2⟩); have hz2 := hb2.size; (try simp only [World.size_alloc, World.size_setCell, World.size_drew, size_drewN'] at hz2)) | (go_at_call 35; ((with_reducible refine (HR.out _).mono ?_); rintro e w3 ⟨rfl, hb3⟩); have hz3 := hb3.size; (try simp only [World.size_alloc, World.size_setCell, World.size_drew, size_drewN'] at hz3); have : w2.heap.size < w3.heap.size := (by omega); have := hb3.cell (p := ⟨w2.heap.size, 0, none⟩) (by go_size); simp [go_sem, *] at this; have := hb3.frozen (p := ⟨w2.heap.size, 0, none⟩) (by go_size); simp [go_sem, *] at this; have := hb3.cell (p := ⟨w2.heap.size, 1, none⟩) (by go_size); simp [go_sem, *] at this; have := hb3.frozen (p := ⟨w2.heap.size, 1, none⟩) (by go_size); simp [go_sem, *] at this))
  go_ret
  exact ⟨by simp [*], by (repeat' (first | (with_reducible exact Below.refl _ _) | (with_reducible refine Below.setCell ?_ ?_ _) | (with_reducible refine Below.alloc ?_ ?_ _) | (with_reducible refine Below.drew ?_) | (with_reducible refine belowN ?_ _) | (with_reducible refine below_step ?_ ?_ (by with_reducible assumption)) | go_size))⟩
set_option maxHeartbeats 4000000 in
theorem wideParses_walk (s : ByteArray) (w : World) (hs : s.size ≤ maxLen) :
    Calls Try.prog 10 #[.string s] w fun e w' => e = .returned (.bool true) ∧ Below w.heap.size w w' := by
  have hA := Lib.hid awake_any
  by_cases h2 : 200 < s.size
  · have z2 : (200 : Int) < (s.size : Int) := by omega
    clear h2 hs
    go_enter Try.func10, Try.ntmps10
    go_wp2_with (go_at_call 11; ((with_reducible refine (hA.out _).mono ?_); rintro e w1 ⟨rfl, hb1⟩); have hz1 := hb1.size; (try simp only [World.size_alloc, World.size_setCell, World.size_drew, size_drewN'] at hz1))
    go_ret
    exact ⟨rfl, by (repeat' (first | (with_reducible exact Below.refl _ _) | (with_reducible refine Below.setCell ?_ ?_ _) | (with_reducible refine Below.alloc ?_ ?_ _) | (with_reducible refine Below.drew ?_) | (with_reducible refine belowN ?_ _) | (with_reducible refine below_step ?_ ?_ (by with_reducible assumption)) | go_size))⟩
  · obtain ⟨l, rfl⟩ : ∃ l, s = str l := ⟨s.data.toList, (str_of s).symm⟩
    rw [str_size] at h2
    by_cases h : ∃ a, fits a ∧ Lib.itoa a = l
    · obtain ⟨a, ha, rfl⟩ := h
      exact both_walk _ w a 0 (by omega) (fun w' => wparse_ok a w' ha) (fun w' => rparse_ok a w' ha)
    · exact both_walk l w 0 4 (by omega) (fun w' => wparse_no l w' (by omega) (fun a ha e => h ⟨a, ha, e⟩)) (fun w' => rparse_no l w' (by omega) (fun a ha e => h ⟨a, ha, e⟩))


set_option maxRecDepth 100000 in
theorem wideParses_lifted (os : Os) (started : os.Started) (H : Type) (enc : TypeId × Value → H) :
    ReturnsInHanded {} Try.checked os 10 .any (Rows.wideParsesSpec.pre6 enc Try.prog Try.f10 Rows.wideParsesRow.domain false) (Rows.wideParsesSpec.post enc Try.prog Try.f10 false true false false) := by
  refine returnsInHanded_of_change (C := Try.checked) own started (by kernel_rfl) Try.func10
    (ChangeSpec.witness6 (enc := enc) (C := Try.checked) false ⟨#[], #[.string ⟨#[]⟩], []⟩ 8 (by kernel_rfl) (by kernel_rfl) (by kernel_rfl) (by kernel_rfl)) ?_
  intro WW base args ds gs before hval hW _ _
  have hpost := fun (W' : World) (hb : Below WW.heap.size WW W') (hfn : Rows.wideParsesSpec.fn H (ds ++ []) = { results := [.lit (.bool true)], args := ds }) =>
    post_of_law (fresh := true) (handsOn := false) laidOut (by rw [Try.params10]; intro t ht; simp at ht; (try subst ht) <;> (try (rcases ht with rfl | rfl)) <;> exact ⟨by kernel_rfl, of_decide_eq_true (by kernel_rfl)⟩) rfl hW (tb := 4) (by kernel_rfl) Try.underlying4 hfn hb
  obtain ⟨p, q, hA, hV, rfl, hfz, hnd⟩ := hW
  rw [Try.params10] at hA hval
  obtain ⟨v0, vs0, d0, ds0, p0, q0, hargs, rfl, rfl, h0, r0⟩ := trodAll_cons hA
  obtain ⟨rfl, rfl, rfl⟩ := trodAll_nil r0
  obtain rfl : args = #[v0] := by cases args; simp_all
  obtain ⟨a0, rfl, g0⟩ := open_str (hval 0 _ v0 rfl rfl) h0
  refine (wideParses_walk a0 WW g0).mono fun e W' ⟨he, hg⟩ => ?_
  exact ⟨_, he, hpost W' hg rfl⟩

theorem wideParses_holds : Rows.WideParsesSaid :=
  OpenClaim.holds_of_wide 10 Try.f10 rfl rfl rfl rfl rfl rfl rfl ⟨rfl, rfl, rfl, rfl, rfl⟩ rfl rfl rfl rfl rfl (by kernel_rfl) Try.func10 (by kernel_rfl)
    (of_decide_eq_true (by kernel_rfl)) (by unfold Func.isWrapper; first | (rw [if_pos (by decide +kernel)]; kernel_rfl) | (rw [if_neg (by decide +kernel)]; exact ⟨rfl, rfl⟩))
    (fun os started H enc _ => wideParses_lifted os started H enc)
#print axioms wideParses_holds

end Go.Proofs.Ytgdpeajompccnaa
