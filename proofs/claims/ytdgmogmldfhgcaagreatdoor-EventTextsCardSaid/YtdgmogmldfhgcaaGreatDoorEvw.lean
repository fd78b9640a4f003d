/- Layer 8 (event): words of the lines. -/
import Derived.Test.YtdgmogmldfhgcaaGreatDoorVz
import Derived.KernelRfl
import Derived.Test.YtdgmogmldfhgcaaGreatDoorProg
import Derived.Test.YtdgmogmldfhgcaaGreatDoorEvcn
import Derived.Test.YtdgmogmldfhgcaaGreatDoorEvrn
import Derived.Test.YtdgmogmldfhgcaaGreatDoorEvj
set_option linter.unusedSimpArgs false
set_option linter.unusedVariables false
set_option maxRecDepth 100000
namespace Go.Proofs.YtdgmogmldfhgcaaGreatDoor
open Go.RowKit


/-- The line of an event that is well. -/
def ewS (k : Int) (e : Ev) (d : Dl) : ByteArray :=
  if k = 1 ∧ e.ys = true then j3 ⟨#[84, 79, 83, 83]⟩ (itS e.sd) ⟨#[66, 65, 84]⟩ else
  if k = 1 ∧ e.ys = false then j3 ⟨#[84, 79, 83, 83]⟩ (itS e.sd) ⟨#[70, 73, 69, 76, 68]⟩ else
  if k = 2 ∧ e.ys = false then j3 ⟨#[79, 80, 69, 78]⟩ (itS e.pl) (itS e.ot) else
  if k = 3 ∧ e.ys = false then j2 ⟨#[66, 79, 87, 76]⟩ (itS e.pl) else
  if k = 4 ∧ e.ys = false then j2 ⟨#[66, 65, 76, 76]⟩ (prS d) else
  if k = 5 ∧ e.ys = false then j2 ⟨#[69, 78, 84, 69, 82]⟩ (itS e.pl) else
  if k = 5 ∧ e.ys = true then j2 ⟨#[84, 73, 77, 69, 79, 85, 84]⟩ (itS e.pl) else
  if k = 6 ∧ e.ys = true then j3 ⟨#[82, 69, 84, 73, 82, 69]⟩ (itS e.pl) ⟨#[72, 85, 82, 84]⟩ else
  if k = 6 ∧ e.ys = false then j3 ⟨#[82, 69, 84, 73, 82, 69]⟩ (itS e.pl) ⟨#[79, 85, 84]⟩ else
  if k = 7 ∧ e.ys = false then j2 ⟨#[70, 73, 69, 76, 68]⟩ (itS e.rn) else
  if k = 8 ∧ e.ys = false then j2 ⟨#[75, 69, 69, 80, 69, 82]⟩ (itS e.pl) else
  if k = 9 ∧ e.ys = true then j3 ⟨#[83, 85, 66]⟩ (itS e.pl) ⟨#[79, 78]⟩ else
  if k = 9 ∧ e.ys = false then j3 ⟨#[83, 85, 66]⟩ (itS e.pl) ⟨#[79, 70, 70]⟩ else
  if k = 10 ∧ e.ys = false then j1 ⟨#[78, 69, 87, 66, 65, 76, 76]⟩ else
  if k = 11 ∧ e.ys = false then j2 ⟨#[68, 69, 67, 76, 65, 82, 69]⟩ (itS e.sd) else
  if k = 12 ∧ e.ys = true then j3 ⟨#[70, 79, 76, 76, 79, 87]⟩ (itS e.sd) ⟨#[89, 69, 83]⟩ else
  if k = 12 ∧ e.ys = false then j3 ⟨#[70, 79, 76, 76, 79, 87]⟩ (itS e.sd) ⟨#[78, 79]⟩ else
  if k = 13 ∧ e.ys = false then j3 ⟨#[80, 69, 78, 65, 76, 84, 89]⟩ (itS e.sd) (itS e.rn) else
  if k = 14 ∧ e.ys = true then j3 ⟨#[82, 69, 86, 73, 69, 87]⟩ (itS e.sd) ⟨#[75, 69, 80, 84]⟩ else
  if k = 14 ∧ e.ys = false then j3 ⟨#[82, 69, 86, 73, 69, 87]⟩ (itS e.sd) ⟨#[76, 79, 83, 84]⟩ else
  if k = 15 ∧ e.ys = false then j3 ⟨#[82, 69, 86, 73, 83, 69]⟩ (itS e.rn) (itS e.ov) else
  if k = 16 ∧ e.ys = false then j1 ⟨#[83, 84, 79, 80]⟩ else ⟨#[]⟩
/-- The line of an event. -/
def ewL (k : Int) (e : Ev) (d : Dl) : ByteArray := if evC k e d = 0 then ewS k e d else ⟨#[]⟩
theorem ewS_1y (e : Ev) (d : Dl) : ewS 1 ⟨e.sd, e.pl, e.ot, true, e.rn, e.ov⟩ d = j3 ⟨#[84, 79, 83, 83]⟩ (itS e.sd) ⟨#[66, 65, 84]⟩ := rfl
theorem ewS_1n (e : Ev) (d : Dl) : ewS 1 ⟨e.sd, e.pl, e.ot, false, e.rn, e.ov⟩ d = j3 ⟨#[84, 79, 83, 83]⟩ (itS e.sd) ⟨#[70, 73, 69, 76, 68]⟩ := rfl
theorem ewS_2n (e : Ev) (d : Dl) : ewS 2 ⟨e.sd, e.pl, e.ot, false, e.rn, e.ov⟩ d = j3 ⟨#[79, 80, 69, 78]⟩ (itS e.pl) (itS e.ot) := rfl
theorem ewS_3n (e : Ev) (d : Dl) : ewS 3 ⟨e.sd, e.pl, e.ot, false, e.rn, e.ov⟩ d = j2 ⟨#[66, 79, 87, 76]⟩ (itS e.pl) := rfl
theorem ewS_4n (e : Ev) (d : Dl) : ewS 4 ⟨e.sd, e.pl, e.ot, false, e.rn, e.ov⟩ d = j2 ⟨#[66, 65, 76, 76]⟩ (prS d) := rfl
theorem ewS_5n (e : Ev) (d : Dl) : ewS 5 ⟨e.sd, e.pl, e.ot, false, e.rn, e.ov⟩ d = j2 ⟨#[69, 78, 84, 69, 82]⟩ (itS e.pl) := rfl
theorem ewS_5y (e : Ev) (d : Dl) : ewS 5 ⟨e.sd, e.pl, e.ot, true, e.rn, e.ov⟩ d = j2 ⟨#[84, 73, 77, 69, 79, 85, 84]⟩ (itS e.pl) := rfl
theorem ewS_6y (e : Ev) (d : Dl) : ewS 6 ⟨e.sd, e.pl, e.ot, true, e.rn, e.ov⟩ d = j3 ⟨#[82, 69, 84, 73, 82, 69]⟩ (itS e.pl) ⟨#[72, 85, 82, 84]⟩ := rfl
theorem ewS_6n (e : Ev) (d : Dl) : ewS 6 ⟨e.sd, e.pl, e.ot, false, e.rn, e.ov⟩ d = j3 ⟨#[82, 69, 84, 73, 82, 69]⟩ (itS e.pl) ⟨#[79, 85, 84]⟩ := rfl
theorem ewS_7n (e : Ev) (d : Dl) : ewS 7 ⟨e.sd, e.pl, e.ot, false, e.rn, e.ov⟩ d = j2 ⟨#[70, 73, 69, 76, 68]⟩ (itS e.rn) := rfl
theorem ewS_8n (e : Ev) (d : Dl) : ewS 8 ⟨e.sd, e.pl, e.ot, false, e.rn, e.ov⟩ d = j2 ⟨#[75, 69, 69, 80, 69, 82]⟩ (itS e.pl) := rfl
theorem ewS_9y (e : Ev) (d : Dl) : ewS 9 ⟨e.sd, e.pl, e.ot, true, e.rn, e.ov⟩ d = j3 ⟨#[83, 85, 66]⟩ (itS e.pl) ⟨#[79, 78]⟩ := rfl
theorem ewS_9n (e : Ev) (d : Dl) : ewS 9 ⟨e.sd, e.pl, e.ot, false, e.rn, e.ov⟩ d = j3 ⟨#[83, 85, 66]⟩ (itS e.pl) ⟨#[79, 70, 70]⟩ := rfl
theorem ewS_10n (e : Ev) (d : Dl) : ewS 10 ⟨e.sd, e.pl, e.ot, false, e.rn, e.ov⟩ d = j1 ⟨#[78, 69, 87, 66, 65, 76, 76]⟩ := rfl
theorem ewS_11n (e : Ev) (d : Dl) : ewS 11 ⟨e.sd, e.pl, e.ot, false, e.rn, e.ov⟩ d = j2 ⟨#[68, 69, 67, 76, 65, 82, 69]⟩ (itS e.sd) := rfl
theorem ewS_12y (e : Ev) (d : Dl) : ewS 12 ⟨e.sd, e.pl, e.ot, true, e.rn, e.ov⟩ d = j3 ⟨#[70, 79, 76, 76, 79, 87]⟩ (itS e.sd) ⟨#[89, 69, 83]⟩ := rfl
theorem ewS_12n (e : Ev) (d : Dl) : ewS 12 ⟨e.sd, e.pl, e.ot, false, e.rn, e.ov⟩ d = j3 ⟨#[70, 79, 76, 76, 79, 87]⟩ (itS e.sd) ⟨#[78, 79]⟩ := rfl
theorem ewS_13n (e : Ev) (d : Dl) : ewS 13 ⟨e.sd, e.pl, e.ot, false, e.rn, e.ov⟩ d = j3 ⟨#[80, 69, 78, 65, 76, 84, 89]⟩ (itS e.sd) (itS e.rn) := rfl
theorem ewS_14y (e : Ev) (d : Dl) : ewS 14 ⟨e.sd, e.pl, e.ot, true, e.rn, e.ov⟩ d = j3 ⟨#[82, 69, 86, 73, 69, 87]⟩ (itS e.sd) ⟨#[75, 69, 80, 84]⟩ := rfl
theorem ewS_14n (e : Ev) (d : Dl) : ewS 14 ⟨e.sd, e.pl, e.ot, false, e.rn, e.ov⟩ d = j3 ⟨#[82, 69, 86, 73, 69, 87]⟩ (itS e.sd) ⟨#[76, 79, 83, 84]⟩ := rfl
theorem ewS_15n (e : Ev) (d : Dl) : ewS 15 ⟨e.sd, e.pl, e.ot, false, e.rn, e.ov⟩ d = j3 ⟨#[82, 69, 86, 73, 83, 69]⟩ (itS e.rn) (itS e.ov) := rfl
theorem ewS_16n (e : Ev) (d : Dl) : ewS 16 ⟨e.sd, e.pl, e.ot, false, e.rn, e.ov⟩ d = j1 ⟨#[83, 84, 79, 80]⟩ := rfl
theorem ewL_bad {k : Int} {e : Ev} {d : Dl} (h : (evC k e d != 0) = true) : ewL k e d = ⟨#[]⟩ := by
  unfold ewL; rw [if_neg (by simpa using h)]
theorem ewL_ok {k : Int} {e : Ev} {d : Dl} (h : (evC k e d != 0) = false) : ewL k e d = ewS k e d := by
  unfold ewL; rw [if_pos (by simpa using h)]
theorem evC_ok {k : Int} {e : Ev} {d : Dl} (h : (evC k e d != 0) = false) : evC k e d = 0 := by simpa using h
theorem evC_R {k : Int} {e : Ev} {d : Dl} (h : (evC k e d != 0) = false) : evR k e = true ∧ evU k e d = true ∧ (k = 4 → ntC d = 0) := by
  have h := evC_ok h
  unfold evC at h
  split at h
  · omega
  · split at h
    · omega
    · split at h
      · omega
      · refine ⟨by simpa using ‹¬ evR k e = false›, by simpa using ‹¬ evU k e d = false›, fun hk => ?_⟩
        rw [if_pos hk] at h
        exact h
/-- The numbers of an event are those of the machine. -/
def eI64 (e : Ev) : Prop := I64 e.sd ∧ I64 e.pl ∧ I64 e.ot ∧ I64 e.rn ∧ I64 e.ov
theorem ba_app {x y z : ByteArray} (h : x ++ y = z) : x ++ y = z := h
theorem cat3 {a b c e x : ByteArray} (h1 : a ++ ⟨#[32]⟩ = b) (h2 : ⟨#[32]⟩ ++ c = e) : catB (catB b x) e = j3 a x c := by
  subst h1; subst h2; rw [j3_eq]; unfold catB; simp only [ByteArray.append_assoc]
theorem cat2 {a b x : ByteArray} (h1 : a ++ ⟨#[32]⟩ = b) : catB b x = j2 a x := by
  subst h1; rw [j2_eq]; rfl
theorem cat4 {a b x y : ByteArray} (h1 : a ++ ⟨#[32]⟩ = b) : catB (catB (catB b x) ⟨#[32]⟩) y = j3 a x y := by
  subst h1; rw [j3_eq]; rfl

/-- The library's variables and the table of forms. -/
def vE : List Ex := [⟨0, fun off => lgo fC off, fun _ => True, fun _ _ _ _ => trivial⟩, ⟨0, fun _ => none, Env, fun _ _ h hb => h.stays hb⟩]
theorem wE_v : ∀ e : Ex, e ∈ wE → e ∈ vE := fun e he => by
  have : e = ⟨0, fun off => lgo fC off, fun _ => True, fun _ _ _ _ => trivial⟩ := by simpa [wE] using he
  rw [this]
  exact List.mem_cons_self ..
theorem rE_v : ∀ e : Ex, e ∈ rE → e ∈ vE := fun e he => by
  have : e = ⟨0, fun _ => none, Env, fun _ _ h hb => h.stays hb⟩ := by simpa [rE] using he
  rw [this]
  exact List.mem_cons_of_mem _ (List.mem_cons_self ..)
theorem vE_of {w : World} (h1 : ExtOK wE w) (h2 : Env w) : ExtOK vE w := fun e he => by
  rcases List.mem_cons.1 he with rfl | he
  · exact h1 _ (by simp [wE])
  · rcases List.mem_cons.1 he with rfl | he
    · exact ⟨(fun _ _ h => by cases h), h2⟩
    · cases he
theorem sz1 {a b : ByteArray} (ha : a.size ≤ 1000) (hb : b.size ≤ 1000) : a.size + b.size ≤ 9223372036854775807 := by omega
theorem sz1n {a : ByteArray} {n : Nat} (hn : n ≤ 1000) (ha : a.size ≤ 1000) : n + a.size ≤ 9223372036854775807 := by omega
theorem sz2n {a b : ByteArray} {n : Nat} (ha : a.size ≤ 1000) (hb : b.size ≤ 1000) (hn : n ≤ 1000) : (catB a b).size + n ≤ 9223372036854775807 := by unfold catB; rw [ByteArray.size_append]; omega
theorem sz2 {a b c : ByteArray} (ha : a.size ≤ 1000) (hb : b.size ≤ 1000) (hc : c.size ≤ 1000) : (catB a b).size + c.size ≤ 9223372036854775807 := by unfold catB; rw [ByteArray.size_append]; omega
theorem sz3 {a b c d : ByteArray} (ha : a.size ≤ 1000) (hb : b.size ≤ 1000) (hc : c.size ≤ 1000) (hd : d.size ≤ 1000) : (catB (catB a b) c).size + d.size ≤ 9223372036854775807 := by unfold catB; rw [ByteArray.size_append, ByteArray.size_append]; omega
theorem catB_size (a b : ByteArray) : (catB a b).size = a.size + b.size := by unfold catB; rw [ByteArray.size_append]
theorem rdc_sp (n : Int) (hn : 0 ≤ n ∧ n ≤ 1000000) : SpecG Tryz.prog [] [] 30 #[.int .i64 n] [] (fun _ => .string (itS n)) := specG_ofC (fun w => rdecimal_small n w hn.1 hn.2)
theorem ev_small {k : Int} {e : Ev} {d : Dl} (h : (evC k e d != 0) = false) : (0 ≤ e.sd ∧ e.sd ≤ 1000000) ∧ (0 ≤ e.pl ∧ e.pl ≤ 1000000) ∧ (0 ≤ e.ot ∧ e.ot ≤ 1000000) ∧ (0 ≤ e.rn ∧ e.rn ≤ 1000000) ∧ (0 ≤ e.ov ∧ e.ov ≤ 1000000) := by
  obtain ⟨h1, h2, _⟩ := evC_R h
  unfold evR at h1
  unfold evU at h2
  simp only [decide_eq_true_eq] at h1 h2
  omega
theorem i64_small {n : Int} (h : 0 ≤ n ∧ n ≤ 1000000) : I64 n := ⟨by omega, by omega⟩
theorem wr_small {n : Int} (h : 0 ≤ n ∧ n ≤ 1000000) : IntKind.i64.wrap n = n := IntWalk.i64_in _ (i64_small h)
theorem itS_1000 {n : Int} (h : 0 ≤ n ∧ n ≤ 1000000) : (itS n).size ≤ 1000 := Nat.le_trans (itS_size (i64_small h)) (by decide)
theorem evr_sp (k : Int) (e : Ev) (d : Dl) : SpecG Tryz.prog [] [] 13 #[evV k e d] [] (fun _ => .int .i64 (evC k e d)) := by
  by_cases h1 : k < 1
  · have : evC k e d = 3 := by unfold evC; rw [if_pos (Or.inl h1)]
    rw [this]
    exact rc_o_sp k e d (beq_eq_false_iff_ne.2 (by omega)) (beq_eq_false_iff_ne.2 (by omega)) (beq_eq_false_iff_ne.2 (by omega)) (beq_eq_false_iff_ne.2 (by omega)) (beq_eq_false_iff_ne.2 (by omega)) (beq_eq_false_iff_ne.2 (by omega)) (beq_eq_false_iff_ne.2 (by omega)) (beq_eq_false_iff_ne.2 (by omega)) (beq_eq_false_iff_ne.2 (by omega)) (beq_eq_false_iff_ne.2 (by omega)) (beq_eq_false_iff_ne.2 (by omega)) (beq_eq_false_iff_ne.2 (by omega)) (beq_eq_false_iff_ne.2 (by omega)) (beq_eq_false_iff_ne.2 (by omega)) (beq_eq_false_iff_ne.2 (by omega)) (beq_eq_false_iff_ne.2 (by omega))
  by_cases h2 : 16 < k
  · have : evC k e d = 3 := by unfold evC; rw [if_pos (Or.inr h2)]
    rw [this]
    exact rc_o_sp k e d (beq_eq_false_iff_ne.2 (by omega)) (beq_eq_false_iff_ne.2 (by omega)) (beq_eq_false_iff_ne.2 (by omega)) (beq_eq_false_iff_ne.2 (by omega)) (beq_eq_false_iff_ne.2 (by omega)) (beq_eq_false_iff_ne.2 (by omega)) (beq_eq_false_iff_ne.2 (by omega)) (beq_eq_false_iff_ne.2 (by omega)) (beq_eq_false_iff_ne.2 (by omega)) (beq_eq_false_iff_ne.2 (by omega)) (beq_eq_false_iff_ne.2 (by omega)) (beq_eq_false_iff_ne.2 (by omega)) (beq_eq_false_iff_ne.2 (by omega)) (beq_eq_false_iff_ne.2 (by omega)) (beq_eq_false_iff_ne.2 (by omega)) (beq_eq_false_iff_ne.2 (by omega))
  have hk : k = 1 ∨ k = 2 ∨ k = 3 ∨ k = 4 ∨ k = 5 ∨ k = 6 ∨ k = 7 ∨ k = 8 ∨ k = 9 ∨ k = 10 ∨ k = 11 ∨ k = 12 ∨ k = 13 ∨ k = 14 ∨ k = 15 ∨ k = 16 := by omega
  rcases hk with rfl | rfl | rfl | rfl | rfl | rfl | rfl | rfl | rfl | rfl | rfl | rfl | rfl | rfl | rfl | rfl
  · exact rc_1_sp e d
  · exact rc_2_sp e d
  · exact rc_3_sp e d
  · exact rc_4_sp e d
  · exact rc_5_sp e d
  · exact rc_6_sp e d
  · exact rc_7_sp e d
  · exact rc_8_sp e d
  · exact rc_9_sp e d
  · exact rc_10_sp e d
  · exact rc_11_sp e d
  · exact rc_12_sp e d
  · exact rc_13_sp e d
  · exact rc_14_sp e d
  · exact rc_15_sp e d
  · exact rc_16_sp e d

end Go.Proofs.YtdgmogmldfhgcaaGreatDoor
