/- Names, and the check of rules, of both. -/
import Derived.Test.YtjdldofgkhibnaaGreatDoorVz
import Derived.KernelRfl
import Derived.Test.YtjdldofgkhibnaaGreatDoorProg
import Derived.Test.YtjdldofgkhibnaaGreatDoorRda
set_option linter.unusedSimpArgs false
set_option linter.unusedVariables false
set_option maxRecDepth 100000
namespace Go.Proofs.YtjdldofgkhibnaaGreatDoor
open Go.RowKit


def nmC (c : Int) : Bool := decide (c ≥ 65) && decide (c ≤ 90)
def nmD (c : Int) : Bool := decide (c ≥ 48) && decide (c ≤ 57)
/-- A byte that may stand in a name. -/
def nmO (c : Int) : Bool := nmC c || nmD c || c == 95 || c == 45
def nmI (b : ByteArray) (i : Nat) : Prop := i ≤ b.size ∧ ∀ j, j < i → nmO (chI b j) = true
/-- A name: 1 to 16 bytes, a capital, then capitals, digits, underscores, hyphens. -/
def nmOk (b : ByteArray) : Bool := decide (0 < b.size ∧ b.size ≤ 16) && nmC (chI b 0) && decide (∀ j, j < b.size → nmO (chI b j) = true)
theorem nm_0 (b : ByteArray) : nmI b 0 := ⟨Nat.zero_le _, fun j h => by omega⟩
theorem nm_step {b : ByteArray} {i : Nat} (h : nmI b i) (hi : i < b.size) (ho : nmO (chI b i) = true) : nmI b (i + 1) :=
  ⟨hi, fun j hj => by by_cases e : j = i; (subst e; exact ho); exact h.2 j (by omega)⟩
theorem nm_bad {b : ByteArray} {i : Nat} (hi : i < b.size) (ho : nmO (chI b i) = false) : nmOk b = false := by
  unfold nmOk
  rw [Bool.and_eq_false_iff]
  right
  rw [decide_eq_false_iff_not]
  intro h
  rw [h i hi] at ho
  cases ho
theorem nm_end {b : ByteArray} {i : Nat} (h : nmI b i) (hi : ¬ (i : Int) < b.size) (h1 : 0 < b.size) (h2 : b.size ≤ 16) (h3 : nmC (chI b 0) = true) : nmOk b = true := by
  have e : i = b.size := by have := h.1; omega
  subst e
  unfold nmOk
  rw [h3, decide_eq_true ⟨h1, h2⟩, decide_eq_true h.2]
  rfl
theorem nm_cap {b : ByteArray} (h3 : nmC (chI b 0) = false) : nmOk b = false := by unfold nmOk; rw [h3]; simp
theorem nm_len {b : ByteArray} (h : ¬ (0 < b.size ∧ b.size ≤ 16)) : nmOk b = false := by unfold nmOk; rw [decide_eq_false h]; simp
@[reducible] def nmL (b : ByteArray) : LoopR := ⟨Nat, fun i => [(19, .int .i64 i)], [], fun _ => [], nmI b, fun i => b.size - i, []⟩
/-- The first error of powerplays behind an over. -/
def pwE (ov : Int) : Int → List Ph → Int
  | _, [] => 0
  | b, p :: l => if p.pf < 1 ∨ p.pf > p.pt ∨ p.pt > ov ∨ p.po < 0 ∨ p.po > 11 then 2 else if p.pf ≤ b then 8 else pwE ov p.pt l
def inr (r : Rul) : Bool := decide ((2 ≤ r.q1 ∧ r.q1 ≤ 11) ∧ (1 ≤ r.q2 ∧ r.q2 ≤ 2) ∧ (0 ≤ r.q3 ∧ r.q3 ≤ 90) ∧ (4 ≤ r.q4 ∧ r.q4 ≤ 8) ∧ (0 ≤ r.q5 ∧ r.q5 ≤ 90) ∧ (1 ≤ r.q6 ∧ r.q6 ≤ 5) ∧ (1 ≤ r.q7 ∧ r.q7 ≤ 5) ∧ (0 ≤ r.q8 ∧ r.q8 ≤ 200) ∧ (0 ≤ r.q9 ∧ r.q9 ≤ 1000) ∧ (0 ≤ r.qa ∧ r.qa ≤ 9) ∧ (0 ≤ r.qo ∧ r.qo ≤ 11))
/-- The first error of rules. -/
def rck (r : Rul) : Int := if nmOk r.nm = false then 5 else if inr r = false then 2 else if (r.q9 ≠ 0 ∧ r.q2 = 1) ∨ (r.q3 = 0 ∧ (r.q5 ≠ 0 ∨ r.pw.length > 0)) then 1 else if r.q5 ≠ 0 ∧ r.q5 * r.q1 < r.q3 then 13 else if r.pw.length > 8 then 9 else pwE r.q3 0 r.pw
structure PwX where
  i : Nat
  b : Int
def pwI (r : Rul) (x : PwX) : Prop := x.i ≤ r.pw.length ∧ pwE r.q3 0 r.pw = pwE r.q3 x.b (r.pw.drop x.i)


/-- As the reference counts: the first byte is a capital. -/
def nmJ (b : ByteArray) (i : Nat) : Prop := nmI b i ∧ (0 < i → nmC (chI b 0) = true)
@[reducible] def nmR (b : ByteArray) : LoopR := ⟨Nat, fun i => [(3, .int .i64 i)], [], fun _ => [], nmJ b, fun i => b.size - i, []⟩
@[reducible] def pwL (r : Rul) : LoopR := ⟨PwX, fun x => [(13, .int .i64 x.i), (3, .int .i64 x.b)], [], fun _ => [], pwI r, fun x => r.pw.length - x.i, []⟩
/-- As the reference counts: the over before is that of the powerplay before. -/
def pwG (r : Rul) (i : Nat) : Prop := i ≤ r.pw.length ∧ pwE r.q3 0 r.pw = pwE r.q3 (if i = 0 then 0 else (r.pw.getD (i - 1) ⟨0, 0, 0⟩).pt) (r.pw.drop i)
@[reducible] def pwR (r : Rul) : LoopR := ⟨Nat, fun i => [(117, .int .i64 i)], [], fun _ => [], pwG r, fun i => r.pw.length - i, []⟩
theorem pw_drop {l : List Ph} {i : Nat} (h : i < l.length) : l.drop i = l.getD i ⟨0, 0, 0⟩ :: l.drop (i + 1) := by
  rw [List.drop_eq_getElem_cons h, List.getD_eq_getElem?_getD, List.getElem?_eq_getElem h]
  rfl
theorem pw_end {ov b : Int} {l : List Ph} {i : Nat} (h : ¬ (i : Int) < l.length) : pwE ov b (l.drop i) = 0 := by
  rw [List.drop_eq_nil_of_le (by omega)]
  rfl


theorem em_sz (b : ByteArray) : (ByteArray.toList b == ByteArray.toList (ByteArray.mk (Array.mk []))) = decide (b.size = 0) := by
  rw [ByteArray.toList_eq, ByteArray.toList_eq]
  obtain ⟨⟨l⟩⟩ := b
  cases l <;> simp [ByteArray.size]
theorem nmO_f (c : Int) : (!(decide (c ≥ 65) && decide (c ≤ 90)) && (!(decide (c ≥ 48) && decide (c ≤ 57)) && (c != 95 && c != 45))) = !(nmO c) := by
  unfold nmO nmC nmD
  simp only [bne]
  generalize (decide (c ≥ 65) && decide (c ≤ 90)) = p
  generalize (decide (c ≥ 48) && decide (c ≤ 57)) = q
  generalize (c == 95) = u
  generalize (c == 45) = v
  cases p <;> cases q <;> cases u <;> cases v <;> rfl
theorem nr_f {c : Int} (h : (decide (c ≥ 65) && decide (c ≤ 90)) = false) : (c != 95 && (c != 45 && (decide (c < 48) || decide (c > 57)))) = !(nmO c) := by
  have e : (decide (c < 48) || decide (c > 57)) = !(decide (c ≥ 48) && decide (c ≤ 57)) := by
    rw [Bool.eq_iff_iff]
    simp only [Bool.or_eq_true, Bool.not_eq_true', Bool.and_eq_false_iff, decide_eq_false_iff_not, decide_eq_true_eq]
    omega
  rw [e]
  unfold nmO nmC nmD
  rw [h]
  simp only [bne]
  generalize (decide (c ≥ 48) && decide (c ≤ 57)) = q
  generalize (c == 95) = u
  generalize (c == 45) = v
  cases q <;> cases u <;> cases v <;> rfl
theorem nm_first {b : ByteArray} (h : (decide (b.size = 0) || (decide ((b.size : Int) > 16) || !(decide (chI b 0 ≥ 65) && decide (chI b 0 ≤ 90)))) = true) : nmOk b = false := by
  simp only [Bool.or_eq_true, decide_eq_true_eq, Bool.not_eq_true'] at h
  rcases h with h | h | h
  · exact nm_len (by omega)
  · exact nm_len (by omega)
  · exact nm_cap h
theorem nm_all {b : ByteArray} {i : Nat} (h : (decide (b.size = 0) || (decide ((b.size : Int) > 16) || !(decide (chI b 0 ≥ 65) && decide (chI b 0 ≤ 90)))) = false) (hx : nmI b i) (hi : ¬ (i : Int) < b.size) : nmOk b = true := by
  simp only [Bool.or_eq_false_iff, decide_eq_false_iff_not, Bool.not_eq_false'] at h
  exact nm_end hx hi (by omega) (by omega) h.2.2
theorem nr_first {b : ByteArray} (h : (decide (b.size = 0) || decide ((b.size : Int) > 16)) = true) : nmOk b = false := by
  simp only [Bool.or_eq_true, decide_eq_true_eq] at h
  exact nm_len (by omega)
theorem nr_all {b : ByteArray} {i : Nat} (h : (decide (b.size = 0) || decide ((b.size : Int) > 16)) = false) (hx : nmJ b i) (hi : ¬ (i : Int) < b.size) : nmOk b = true := by
  simp only [Bool.or_eq_false_iff, decide_eq_false_iff_not] at h
  have := hx.1.1
  exact nm_end hx.1 hi (by omega) (by omega) (hx.2 (by omega))
theorem nr_cap {b : ByteArray} {i : Nat} (hx : nmJ b i) (hi : i < b.size) (hc : (decide (chI b i ≥ 65) && decide (chI b i ≤ 90)) = true) : nmJ b (i + 1) := by
  refine ⟨nm_step hx.1 hi (by unfold nmO nmC; rw [hc]; rfl), fun _ => ?_⟩
  by_cases e : i = 0
  · subst e; exact hc
  · exact hx.2 (by omega)
theorem nr_oth {b : ByteArray} {i : Nat} (hx : nmJ b i) (hi : i < b.size) (hc : (decide (chI b i ≥ 65) && decide (chI b i ≤ 90)) = false) (h : ((i : Int) == 0 || chI b i != 95 && (chI b i != 45 && (decide (chI b i < 48) || decide (chI b i > 57)))) = false) : nmJ b (i + 1) := by
  rw [nr_f hc] at h
  simp only [Bool.or_eq_false_iff, beq_eq_false_iff_ne, Bool.not_eq_false'] at h
  exact ⟨nm_step hx.1 hi h.2, fun _ => hx.2 (by omega)⟩
theorem nr_bad {b : ByteArray} {i : Nat} (hi : i < b.size) (hc : (decide (chI b i ≥ 65) && decide (chI b i ≤ 90)) = false) (h : ((i : Int) == 0 || chI b i != 95 && (chI b i != 45 && (decide (chI b i < 48) || decide (chI b i > 57)))) = true) : nmOk b = false := by
  rw [nr_f hc] at h
  simp only [Bool.or_eq_true, beq_iff_eq, Bool.not_eq_true'] at h
  rcases h with h | h
  · have e : i = 0 := by omega
    subst e
    exact nm_cap hc
  · exact nm_bad hi h
theorem rk_mul {r : Rul} (h : inr r = true) : IntKind.i64.wrap (r.q5 * r.q1) = r.q5 * r.q1 := by
  have h : (2 ≤ r.q1 ∧ r.q1 ≤ 11) ∧ (1 ≤ r.q2 ∧ r.q2 ≤ 2) ∧ (0 ≤ r.q3 ∧ r.q3 ≤ 90) ∧ (4 ≤ r.q4 ∧ r.q4 ≤ 8) ∧ (0 ≤ r.q5 ∧ r.q5 ≤ 90) ∧ (1 ≤ r.q6 ∧ r.q6 ≤ 5) ∧ (1 ≤ r.q7 ∧ r.q7 ≤ 5) ∧ (0 ≤ r.q8 ∧ r.q8 ≤ 200) ∧ (0 ≤ r.q9 ∧ r.q9 ≤ 1000) ∧ (0 ≤ r.qa ∧ r.qa ≤ 9) ∧ (0 ≤ r.qo ∧ r.qo ≤ 11) := by simpa [inr] using h
  have h1 : 0 ≤ r.q5 * r.q1 := Int.mul_nonneg (by omega) (by omega)
  have h2 : r.q5 * r.q1 ≤ 90 * 11 := Int.mul_le_mul (by omega) (by omega) (by omega) (by omega)
  exact IntWalk.i64_in _ (by omega)
theorem rk_all {r : Rul} (h1 : (!nmOk r.nm) = false) (h2 : (!inr r) = false) (h3 : (r.q9 != 0 && r.q2 == 1 || r.q3 == 0 && (r.q5 != 0 || decide ((r.pw.length : Int) > 0))) = false) (h4 : (r.q5 != 0 && decide (IntKind.i64.wrap (r.q5 * r.q1) < r.q3)) = false) : rck r = if r.pw.length > 8 then 9 else pwE r.q3 0 r.pw := by
  rw [rk_mul (r := r) (by simpa using h2)] at h4
  unfold rck
  rw [if_neg (by simpa using h1), if_neg (by simpa using h2), if_neg, if_neg]
  · intro hh
    have : (r.q5 != 0 && decide (r.q5 * r.q1 < r.q3)) = true := by simp only [Bool.and_eq_true, bne_iff_ne, decide_eq_true_eq]; exact hh
    rw [this] at h4; cases h4
  · intro hh
    have : (r.q9 != 0 && r.q2 == 1 || r.q3 == 0 && (r.q5 != 0 || decide ((r.pw.length : Int) > 0))) = true := by
      simp only [Bool.or_eq_true, Bool.and_eq_true, bne_iff_ne, beq_iff_eq, decide_eq_true_eq]
      omega
    rw [this] at h3; cases h3
def phZ : Ph := ⟨0, 0, 0⟩
def phB (ov : Int) (p : Ph) : Prop := p.pf < 1 ∨ p.pf > p.pt ∨ p.pt > ov ∨ p.po < 0 ∨ p.po > 11
theorem pw_bad {r : Rul} {b : Int} {i : Nat} (hi : i < r.pw.length) (e : pwE r.q3 0 r.pw = pwE r.q3 b (r.pw.drop i)) (hb : phB r.q3 (r.pw.getD i ⟨0, 0, 0⟩)) : pwE r.q3 0 r.pw = 2 := by
  rw [e, pw_drop hi]; simp only [pwE]; exact if_pos hb
theorem pw_ord {r : Rul} {b : Int} {i : Nat} (hi : i < r.pw.length) (e : pwE r.q3 0 r.pw = pwE r.q3 b (r.pw.drop i)) (hb : ¬ phB r.q3 (r.pw.getD i ⟨0, 0, 0⟩)) (ho : (r.pw.getD i ⟨0, 0, 0⟩).pf ≤ b) : pwE r.q3 0 r.pw = 8 := by
  rw [e, pw_drop hi]; simp only [pwE]; exact (if_neg hb).trans (if_pos ho)
theorem pw_nxt {r : Rul} {b : Int} {i : Nat} (hi : i < r.pw.length) (e : pwE r.q3 0 r.pw = pwE r.q3 b (r.pw.drop i)) (hb : ¬ phB r.q3 (r.pw.getD i ⟨0, 0, 0⟩)) (ho : ¬ (r.pw.getD i ⟨0, 0, 0⟩).pf ≤ b) : pwE r.q3 0 r.pw = pwE r.q3 (r.pw.getD i ⟨0, 0, 0⟩).pt (r.pw.drop (i + 1)) := by
  rw [e, pw_drop hi]; simp only [pwE]; exact (if_neg hb).trans (if_neg ho)
theorem phB_t {ov : Int} {p : Ph} (h : (decide (p.pf < 1) || (decide (p.pt < p.pf) || (decide (p.pt > ov) || !(decide (p.po ≥ 0) && decide (p.po ≤ 11))))) = true) : phB ov p := by
  simp only [Bool.or_eq_true, Bool.not_eq_true', Bool.and_eq_false_iff, decide_eq_true_eq, decide_eq_false_iff_not] at h
  unfold phB
  omega
theorem phB_f {ov : Int} {p : Ph} (h : (decide (p.pf < 1) || (decide (p.pt < p.pf) || (decide (p.pt > ov) || !(decide (p.po ≥ 0) && decide (p.po ≤ 11))))) = false) : ¬ phB ov p := by
  simp only [Bool.or_eq_false_iff, Bool.not_eq_false', Bool.and_eq_true, decide_eq_true_eq, decide_eq_false_iff_not] at h
  unfold phB
  omega
theorem g_w {i : Nat} (h : (i : Int) > 0) (hi : i ≤ 1000000) : IntKind.i64.wrap ((i : Int) - 1) = ((i - 1 : Nat) : Int) := by rw [IntWalk.i64_in _ (by omega)]; omega
theorem g_ord {r : Rul} {i : Nat} (hi : i ≤ 1000000) (h : (decide ((i : Int) > 0) && decide ((r.pw.getD i ⟨0, 0, 0⟩).pf ≤ (r.pw.getD (IntKind.i64.wrap ((i : Int) - 1)).toNat ⟨0, 0, 0⟩).pt)) = true) : (r.pw.getD i ⟨0, 0, 0⟩).pf ≤ (if i = 0 then 0 else (r.pw.getD (i - 1) ⟨0, 0, 0⟩).pt) := by
  simp only [Bool.and_eq_true, decide_eq_true_eq] at h
  have h2 := h.2
  rw [g_w h.1 hi, Int.toNat_natCast] at h2
  rw [if_neg (by omega)]
  exact h2
theorem g_nxt {r : Rul} {i : Nat} (hi : i ≤ 1000000) (hb : ¬ phB r.q3 (r.pw.getD i ⟨0, 0, 0⟩)) (h : (decide ((i : Int) > 0) && decide ((r.pw.getD i ⟨0, 0, 0⟩).pf ≤ (r.pw.getD (IntKind.i64.wrap ((i : Int) - 1)).toNat ⟨0, 0, 0⟩).pt)) = false) : ¬ (r.pw.getD i ⟨0, 0, 0⟩).pf ≤ (if i = 0 then 0 else (r.pw.getD (i - 1) ⟨0, 0, 0⟩).pt) := by
  simp only [Bool.and_eq_false_iff, decide_eq_false_iff_not] at h
  by_cases c : i = 0
  · rw [if_pos c]
    unfold phB at hb
    omega
  · rw [if_neg c]
    rcases h with h | h
    · omega
    · rw [g_w (by omega) hi, Int.toNat_natCast] at h
      exact h
theorem pwG_next {r : Rul} {i : Nat} (hx : pwG r i) (hi : i < r.pw.length) (h1 : i ≤ 1000000) (hb : ¬ phB r.q3 (r.pw.getD i ⟨0, 0, 0⟩)) (h : (decide ((i : Int) > 0) && decide ((r.pw.getD i ⟨0, 0, 0⟩).pf ≤ (r.pw.getD (IntKind.i64.wrap ((i : Int) - 1)).toNat ⟨0, 0, 0⟩).pt)) = false) : pwG r (i + 1) := by
  refine ⟨hi, ?_⟩
  rw [pw_nxt hi hx.2 hb (g_nxt h1 hb h), if_neg (by omega)]
  rfl
theorem pwG_0 (r : Rul) : pwG r 0 := ⟨Nat.zero_le _, rfl⟩
theorem pwI_ok {r : Rul} {x : PwX} (h : pwI r x) : x.i ≤ r.pw.length := h.1
theorem rrg (r : Rul) : (!(decide (r.q1 ≥ 2) && decide (r.q1 ≤ 11)) || (!(decide (r.q2 ≥ 1) && decide (r.q2 ≤ 2)) || (!(decide (r.q3 ≥ 0) && decide (r.q3 ≤ 90)) || (!(decide (r.q4 ≥ 4) && decide (r.q4 ≤ 8)) || (!(decide (r.q5 ≥ 0) && decide (r.q5 ≤ 90)) || (!(decide (r.q6 ≥ 1) && decide (r.q6 ≤ 5)) || (!(decide (r.q7 ≥ 1) && decide (r.q7 ≤ 5)) || (!(decide (r.q8 ≥ 0) && decide (r.q8 ≤ 200)) || (!(decide (r.q9 ≥ 0) && decide (r.q9 ≤ 1000)) || (!(decide (r.qa ≥ 0) && decide (r.qa ≤ 9)) || !(decide (r.qo ≥ 0) && decide (r.qo ≤ 11)))))))))))) = !(inr r) := by
  unfold inr
  rw [Bool.eq_iff_iff]
  simp only [Bool.or_eq_true, Bool.not_eq_true', Bool.and_eq_false_iff, decide_eq_false_iff_not]
  omega
theorem rrb (a b c : Bool) : (bif a then b || c else c) = (a && b || c) := by cases a <;> cases b <;> cases c <;> rfl

def tnm_h (b : ByteArray) : Hint := .nc (.cut [((16 : Nat), .bool (ByteArray.toList b == ByteArray.toList (ByteArray.mk (Array.mk [])) || (decide ((↑(ByteArray.size b) : Int) > (16 : Int)) || !(decide (chI b (0 : Nat) ≥ 65) && decide (chI b (0 : Nat) ≤ 90)))))] (.pl (.split (hl 7 (.lit .nil)) (.lit (.pl (.lit (.lit (.split (hl 3 (.lit
 .nil)) (.lit (.ix (.lit (.inl (.nc (.cut [((2 : Nat), .bool (decide (chI b (0 : Nat) ≥ 65) && decide (chI b (0 : Nat) ≤ 90)))] (.split (.lit (.lit .nil)) (.lit (.lit .nil))) (.lit (.lit .nil))))))))))))))) (.split (.perm [] .nil) (.pl (.inv (nmL b) fun x0 ↦ .split (.nc (.cut [((45 : Nat), .bool
 (!(decide (chI b x0 ≥ 65) && decide (chI b x0 ≤ 90)) && (!(decide (chI b x0 ≥ 48) && decide (chI b x0 ≤ 57)) && (chI b x0 != 95 && chI b x0 != 45))))] (.ix (.inl (.nc (.cut [((2 : Nat), .bool (decide (chI b x0 ≥ 65) && decide (chI b x0 ≤ 90)))] (.split (.lit (.lit .nil)) (.lit (.lit .nil))) (.split
 (.lit (.lit (.ix (.lit (.inl (.nc (.cut [((2 : Nat), .bool (decide (chI b x0 ≥ 48) && decide (chI b x0 ≤ 57)))] (.split (.lit (.lit .nil)) (.lit (.lit .nil))) (.lit (.lit (.split (.lit (.lit (.ix (.lit (.pl (.lit (.split (.lit (.lit (.ix (.lit (.pl (.lit .nil)))))) (hl 3 (.lit .nil))))))))) (hl 8
 (.lit .nil)))))))))))) (hl 14 (.lit .nil))))))) (.split (.perm [] .nil) (.perm [] .nil)))) (.perm [] .nil)))))
theorem tnm_x (b : ByteArray) : wpG Tryz.prog [] ([]) 400 31 [.string b] (tnm_h b) ([]) (fun _ => .bool (nmOk b)) = ((((ByteArray.toList b == ByteArray.toList (ByteArray.mk (Array.mk []))) = true -> Value.bool true = Value.bool (ByteArray.toList b == ByteArray.toList (ByteArray.mk (Array.mk [])) || (decide ((↑(ByteArray.size b) : Int) > (16 : Int)) || !(decide (chI b (0 : Nat) ≥ 65) && decide (chI b (0 : Nat) ≤
 90)))) /\ True) /\ ((ByteArray.toList b == ByteArray.toList (ByteArray.mk (Array.mk []))) = false -> (decide ((↑(ByteArray.size b) : Int) > (16 : Int)) = true -> Value.bool true = Value.bool (ByteArray.toList b == ByteArray.toList (ByteArray.mk (Array.mk [])) || (decide ((↑(ByteArray.size b) : Int)
 > (16 : Int)) || !(decide (chI b (0 : Nat) ≥ 65) && decide (chI b (0 : Nat) ≤ 90)))) /\ True) /\ (decide ((↑(ByteArray.size b) : Int) > (16 : Int)) = false -> ((0 : Int) ≤ (0 : Int) /\ (0 : Int) < (↑(ByteArray.size b) : Int)) /\ ((decide (chI b (0 : Nat) ≥ 65) = true -> Value.bool (decide (chI b (0
 : Nat) ≤ 90)) = Value.bool (decide (chI b (0 : Nat) ≥ 65) && decide (chI b (0 : Nat) ≤ 90)) /\ True) /\ (decide (chI b (0 : Nat) ≥ 65) = false -> Value.bool false = Value.bool (decide (chI b (0 : Nat) ≥ 65) && decide (chI b (0 : Nat) ≤ 90)) /\ True)) /\ ∀ (junk : Nat -> Value), (Value.bool !(decide
 (chI b (0 : Nat) ≥ 65) && decide (chI b (0 : Nat) ≤ 90))) = Value.bool (ByteArray.toList b == ByteArray.toList (ByteArray.mk (Array.mk [])) || (decide ((↑(ByteArray.size b) : Int) > (16 : Int)) || !(decide (chI b (0 : Nat) ≥ 65) && decide (chI b (0 : Nat) ≤ 90)))) /\ True))) /\ ∀ (junk : Nat ->
 Value), ((ByteArray.toList b == ByteArray.toList (ByteArray.mk (Array.mk [])) || (decide ((↑(ByteArray.size b) : Int) > (16 : Int)) || !(decide (chI b (0 : Nat) ≥ 65) && decide (chI b (0 : Nat) ≤ 90)))) = true -> Value.bool false = Value.bool (nmOk b)) /\ ((ByteArray.toList b == ByteArray.toList
 (ByteArray.mk (Array.mk [])) || (decide ((↑(ByteArray.size b) : Int) > (16 : Int)) || !(decide (chI b (0 : Nat) ≥ 65) && decide (chI b (0 : Nat) ≤ 90)))) = false -> (∃ x, nmI b x /\ Value.int .i64 0 = Value.int .i64 (↑x : Int) /\ True) /\ ∀ (x0 : Nat), nmI b x0 -> ∀ (junk : Nat -> Value), (decide
 ((↑x0 : Int) < (↑(ByteArray.size b) : Int)) = true -> (((0 : Int) ≤ (↑x0 : Int) /\ (↑x0 : Int) < (↑(ByteArray.size b) : Int)) /\ ((decide (chI b x0 ≥ 65) = true -> Value.bool (decide (chI b x0 ≤ 90)) = Value.bool (decide (chI b x0 ≥ 65) && decide (chI b x0 ≤ 90)) /\ True) /\ (decide (chI b x0 ≥ 65)
 = false -> Value.bool false = Value.bool (decide (chI b x0 ≥ 65) && decide (chI b x0 ≤ 90)) /\ True)) /\ ∀ (junk : Nat -> Value), ((!(decide (chI b x0 ≥ 65) && decide (chI b x0 ≤ 90))) = true -> ((0 : Int) ≤ (↑x0 : Int) /\ (↑x0 : Int) < (↑(ByteArray.size b) : Int)) /\ ((decide (chI b x0 ≥ 48) = true
 -> Value.bool (decide (chI b x0 ≤ 57)) = Value.bool (decide (chI b x0 ≥ 48) && decide (chI b x0 ≤ 57)) /\ True) /\ (decide (chI b x0 ≥ 48) = false -> Value.bool false = Value.bool (decide (chI b x0 ≥ 48) && decide (chI b x0 ≤ 57)) /\ True)) /\ ∀ (junk : Nat -> Value), ((!(decide (chI b x0 ≥ 48) &&
 decide (chI b x0 ≤ 57))) = true -> ((0 : Int) ≤ (↑x0 : Int) /\ (↑x0 : Int) < (↑(ByteArray.size b) : Int)) /\ ((chI b x0 != 95) = true -> ((0 : Int) ≤ (↑x0 : Int) /\ (↑x0 : Int) < (↑(ByteArray.size b) : Int)) /\ Value.bool (chI b x0 != 45) = Value.bool (!(decide (chI b x0 ≥ 65) && decide (chI b x0 ≤
 90)) && (!(decide (chI b x0 ≥ 48) && decide (chI b x0 ≤ 57)) && (chI b x0 != 95 && chI b x0 != 45))) /\ True) /\ ((chI b x0 != 95) = false -> Value.bool false = Value.bool (!(decide (chI b x0 ≥ 65) && decide (chI b x0 ≤ 90)) && (!(decide (chI b x0 ≥ 48) && decide (chI b x0 ≤ 57)) && (chI b x0 != 95
 && chI b x0 != 45))) /\ True)) /\ ((!(decide (chI b x0 ≥ 48) && decide (chI b x0 ≤ 57))) = false -> Value.bool false = Value.bool (!(decide (chI b x0 ≥ 65) && decide (chI b x0 ≤ 90)) && (!(decide (chI b x0 ≥ 48) && decide (chI b x0 ≤ 57)) && (chI b x0 != 95 && chI b x0 != 45))) /\ True)) /\
 ((!(decide (chI b x0 ≥ 65) && decide (chI b x0 ≤ 90))) = false -> Value.bool false = Value.bool (!(decide (chI b x0 ≥ 65) && decide (chI b x0 ≤ 90)) && (!(decide (chI b x0 ≥ 48) && decide (chI b x0 ≤ 57)) && (chI b x0 != 95 && chI b x0 != 45))) /\ True)) /\ ∀ (junk : Nat -> Value), ((!(decide (chI b
 x0 ≥ 65) && decide (chI b x0 ≤ 90)) && (!(decide (chI b x0 ≥ 48) && decide (chI b x0 ≤ 57)) && (chI b x0 != 95 && chI b x0 != 45))) = true -> Value.bool false = Value.bool (nmOk b)) /\ ((!(decide (chI b x0 ≥ 65) && decide (chI b x0 ≤ 90)) && (!(decide (chI b x0 ≥ 48) && decide (chI b x0 ≤ 57)) &&
 (chI b x0 != 95 && chI b x0 != 45))) = false -> ∃ y, nmI b y /\ ByteArray.size b - y < ByteArray.size b - x0 /\ Value.int .i64 (IntKind.i64.wrap ((↑x0 : Int) + (1 : Int))) = Value.int .i64 (↑y : Int) /\ True)) /\ (decide ((↑x0 : Int) < (↑(ByteArray.size b) : Int)) = false -> Value.bool true =
 Value.bool (nmOk b)))) := by kernel_rfl
set_option maxHeartbeats 4000000 in
theorem tnm_sp (b : ByteArray) (hl : b.size ≤ 1000000) : SpecG Tryz.prog [] ([]) 31 #[.string b] ([]) (fun _ => .bool (nmOk b)) := by
  refine specG_of (h := tnm_h b) (?_ : wpG Tryz.prog [] ([]) 400 31 [.string b] (tnm_h b) ([]) (fun _ => .bool (nmOk b)))
  rw [tnm_x]
  simp only [em_sz]
  (repeat' (first | with_reducible exact rfl | exact trivial | with_reducible assumption | exact cU_len _ | exact cI_len _ | exact cB_len _ | exact cU_one _ | exact cI_one _ | exact cB_one _ | exact (fun _ h => h) | exact (fun _ h => (List.not_mem_nil h).elim) | (with_reducible refine e1_in ?_) | (with_reducible refine e2_in ?_) | (with_reducible refine lx_in (Nat.le_of_ble_eq_true rfl) ?_) | (with_reducible refine rqx_rf ?_) | (with_reducible refine rqx_in ?_ ?_ ?_) | (with_reducible apply And.intro) | (with_reducible intro _)))
  all_goals (try (first | (simp only [*, Bool.and_true, Bool.true_and, Bool.and_false, Bool.false_and, Bool.or_true, Bool.true_or, Bool.or_false, Bool.false_or, Bool.not_true, Bool.not_false, cond_true, cond_false]; done) | (simp only [decide_eq_true_eq, decide_eq_false_iff_not] at *; first | omega | (simp_all; done))))
  all_goals first
    | exact ⟨0, nm_0 b, rfl, trivial⟩ | exact ⟨0, ⟨nm_0 b, fun h => absurd h (by decide)⟩, rfl, trivial⟩
    | (have h := ‹(decide _ || (decide _ || !(_ && _))) = true›; rw [nm_first h])
    | (have h := ‹(decide _ || decide _) = true›; rw [nr_first h])
    | (have hx := ‹nmI b _›; have hf := of_decide_eq_true ‹decide (((_ : Nat) : Int) < (b.size : Int)) = true›; have h := ‹(!(_ && _) && (!(_ && _) && _)) = true›; rw [nmO_f] at h; rw [nm_bad (Int.ofNat_lt.1 hf) (by simpa using h)])
    | (have hx := ‹nmI b _›; have hf := of_decide_eq_true ‹decide (((_ : Nat) : Int) < (b.size : Int)) = true›; have h := ‹(!(_ && _) && (!(_ && _) && _)) = false›; rw [nmO_f] at h; have := hx.1; exact ⟨_, nm_step hx (Int.ofNat_lt.1 hf) (by simpa using h), (by show _ - (_ + 1) < _; omega), (by rw [IntWalk.i64_in _ (by omega)]; rfl), trivial⟩)
    | (have hx := ‹nmI b _›; have hf := of_decide_eq_false ‹decide (((_ : Nat) : Int) < (b.size : Int)) = false›; have h := ‹(decide _ || (decide _ || !(_ && _))) = false›; rw [nm_all h hx hf])
    | (have hx := ‹nmJ b _›; have hf := of_decide_eq_true ‹decide (((_ : Nat) : Int) < (b.size : Int)) = true›; have hs := hl; have hc := ‹(decide _ && decide _) = true›; exact ⟨_, nr_cap hx (Int.ofNat_lt.1 hf) hc, (by show _ - (_ + 1) < _; omega), (by rw [IntWalk.i64_in _ (by omega)]; rfl), trivial⟩)
    | (have hx := ‹nmJ b _›; have hf := of_decide_eq_true ‹decide (((_ : Nat) : Int) < (b.size : Int)) = true›; have hs := hl; have hc := ‹(decide _ && decide _) = false›; have h := ‹((_ : Int) == 0 || (_ && _)) = false›; exact ⟨_, nr_oth hx (Int.ofNat_lt.1 hf) hc h, (by show _ - (_ + 1) < _; omega), (by rw [IntWalk.i64_in _ (by omega)]; rfl), trivial⟩)
    | (have hx := ‹nmJ b _›; have hf := of_decide_eq_true ‹decide (((_ : Nat) : Int) < (b.size : Int)) = true›; have hc := ‹(decide _ && decide _) = false›; have h := ‹((_ : Int) == 0 || (_ && _)) = true›; rw [nr_bad (Int.ofNat_lt.1 hf) hc h])
    | (have hx := ‹nmJ b _›; have hf := of_decide_eq_false ‹decide (((_ : Nat) : Int) < (b.size : Int)) = false›; have h := ‹(decide _ || decide _) = false›; rw [nr_all h hx hf])
    | trace_state
def irg_h (r : Rul) (B : RAd) : Hint := .nc (.cut [((2 : Nat), .bool (decide ((2 : Int) ≤ r.q1) && decide (r.q1 ≤ 11) && (decide ((1 : Int) ≤ r.q2) && decide (r.q2 ≤ 2) && (decide ((0 : Int) ≤ r.q3) && decide (r.q3 ≤ 90) && (decide ((4 : Int) ≤ r.q4) && decide (r.q4 ≤ 8) && (decide ((0 : Int) ≤ r.q5) && decide (r.q5 ≤ 90) && (decide ((1 :
 Int) ≤ r.q6) && decide (r.q6 ≤ 5) && (decide ((1 : Int) ≤ r.q7) && decide (r.q7 ≤ 5) && (decide ((0 : Int) ≤ r.q8) && decide (r.q8 ≤ 200) && (decide ((0 : Int) ≤ r.q9) && decide (r.q9 ≤ 1000) && (decide ((0 : Int) ≤ r.qa) && decide (r.qa ≤ 9) && (decide ((0 : Int) ≤ r.qo) && decide (r.qo ≤
 11)))))))))))))] (.ob 0 (.inl (.nc (.cut [((6 : Nat), .bool (decide ((2 : Int) ≤ r.q1) && decide (r.q1 ≤ 11)))] (.split (.lit (.lit (.lit .nil))) (.lit (.lit (.lit .nil)))) (.split (.lit (.ob 0 (.lit (.inl (.nc (.cut [((6 : Nat), .bool (decide ((1 : Int) ≤ r.q2) && decide (r.q2 ≤ 2)))] (.split (.lit
 (.lit (.lit .nil))) (.lit (.lit (.lit .nil)))) (.lit (.split (.lit (.ob 0 (.lit (.inl (.nc (.cut [((6 : Nat), .bool (decide ((0 : Int) ≤ r.q3) && decide (r.q3 ≤ 90)))] (.split (.lit (.lit (.lit .nil))) (.lit (.lit (.lit .nil)))) (.lit (.split (.lit (.ob 0 (.lit (.inl (.nc (.cut [((6 : Nat), .bool
 (decide ((4 : Int) ≤ r.q4) && decide (r.q4 ≤ 8)))] (.split (.lit (.lit (.lit .nil))) (.lit (.lit (.lit .nil)))) (.lit (.split (.lit (.ob 0 (.lit (.inl (.nc (.cut [((6 : Nat), .bool (decide ((0 : Int) ≤ r.q5) && decide (r.q5 ≤ 90)))] (.split (.lit (.lit (.lit .nil))) (.lit (.lit (.lit .nil)))) (.lit
 (.split (.lit (.ob 0 (.lit (.inl (.nc (.cut [((6 : Nat), .bool (decide ((1 : Int) ≤ r.q6) && decide (r.q6 ≤ 5)))] (.split (.lit (.lit (.lit .nil))) (.lit (.lit (.lit .nil)))) (.lit (.split (.lit (.ob 0 (.lit (.inl (.nc (.cut [((6 : Nat), .bool (decide ((1 : Int) ≤ r.q7) && decide (r.q7 ≤ 5)))]
 (.split (.lit (.lit (.lit .nil))) (.lit (.lit (.lit .nil)))) (.lit (.split (.lit (.ob 0 (.lit (.inl (.nc (.cut [((6 : Nat), .bool (decide ((0 : Int) ≤ r.q8) && decide (r.q8 ≤ 200)))] (.split (.lit (.lit (.lit .nil))) (.lit (.lit (.lit .nil)))) (.lit (.split (.lit (.ob 0 (.lit (.inl (.nc (.cut [((6 :
 Nat), .bool (decide ((0 : Int) ≤ r.q9) && decide (r.q9 ≤ 1000)))] (.split (.lit (.lit (.lit .nil))) (.lit (.lit (.lit .nil)))) (.lit (.split (.lit (.ob 0 (.lit (.inl (.nc (.cut [((6 : Nat), .bool (decide ((0 : Int) ≤ r.qa) && decide (r.qa ≤ 9)))] (.split (.lit (.lit (.lit .nil))) (.lit (.lit (.lit
 .nil)))) (.lit (.split (.lit (.ob 0 (.lit (.inl (.nc (.cut [((6 : Nat), .bool (decide ((0 : Int) ≤ r.qo) && decide (r.qo ≤ 11)))] (.split (.lit (.lit (.lit .nil))) (.lit (.lit (.lit .nil)))) (.lit .nil))))))) (.lit (.lit (.lit .nil))))))))))) (hl 6 (.lit .nil)))))))))) (hl 10 (.lit .nil))))))))))
 (hl 14 (.lit .nil)))))))))) (hl 18 (.lit .nil)))))))))) (hl 22 (.lit .nil)))))))))) (hl 26 (.lit .nil)))))))))) (hl 30 (.lit .nil)))))))))) (hl 34 (.lit .nil)))))))))) (hl 38 (.lit .nil))))))) (.perm [] .nil))
theorem irg_x (r : Rul) (B : RAd) : wpG Tryz.prog [] ([]) 400 32 [ruV r B] (irg_h r B) ([]) (fun _ => .bool (inr r)) = (∀ (b : Nat), (b = b /\ ((decide ((2 : Int) ≤ r.q1) = true -> Value.bool (decide (r.q1 ≤ 11)) = Value.bool (decide ((2 : Int) ≤ r.q1) && decide (r.q1 ≤ 11)) /\ True) /\ (decide ((2 : Int) ≤ r.q1) = false -> Value.bool false = Value.bool (decide ((2 : Int) ≤ r.q1) && decide (r.q1 ≤ 11)) /\ True)) /\ ∀
 (junk : Nat -> Value), ((decide ((2 : Int) ≤ r.q1) && decide (r.q1 ≤ 11)) = true -> b = b /\ ((decide ((1 : Int) ≤ r.q2) = true -> Value.bool (decide (r.q2 ≤ 2)) = Value.bool (decide ((1 : Int) ≤ r.q2) && decide (r.q2 ≤ 2)) /\ True) /\ (decide ((1 : Int) ≤ r.q2) = false -> Value.bool false =
 Value.bool (decide ((1 : Int) ≤ r.q2) && decide (r.q2 ≤ 2)) /\ True)) /\ ∀ (junk : Nat -> Value), ((decide ((1 : Int) ≤ r.q2) && decide (r.q2 ≤ 2)) = true -> b = b /\ ((decide ((0 : Int) ≤ r.q3) = true -> Value.bool (decide (r.q3 ≤ 90)) = Value.bool (decide ((0 : Int) ≤ r.q3) && decide (r.q3 ≤ 90))
 /\ True) /\ (decide ((0 : Int) ≤ r.q3) = false -> Value.bool false = Value.bool (decide ((0 : Int) ≤ r.q3) && decide (r.q3 ≤ 90)) /\ True)) /\ ∀ (junk : Nat -> Value), ((decide ((0 : Int) ≤ r.q3) && decide (r.q3 ≤ 90)) = true -> b = b /\ ((decide ((4 : Int) ≤ r.q4) = true -> Value.bool (decide (r.q4
 ≤ 8)) = Value.bool (decide ((4 : Int) ≤ r.q4) && decide (r.q4 ≤ 8)) /\ True) /\ (decide ((4 : Int) ≤ r.q4) = false -> Value.bool false = Value.bool (decide ((4 : Int) ≤ r.q4) && decide (r.q4 ≤ 8)) /\ True)) /\ ∀ (junk : Nat -> Value), ((decide ((4 : Int) ≤ r.q4) && decide (r.q4 ≤ 8)) = true -> b = b
 /\ ((decide ((0 : Int) ≤ r.q5) = true -> Value.bool (decide (r.q5 ≤ 90)) = Value.bool (decide ((0 : Int) ≤ r.q5) && decide (r.q5 ≤ 90)) /\ True) /\ (decide ((0 : Int) ≤ r.q5) = false -> Value.bool false = Value.bool (decide ((0 : Int) ≤ r.q5) && decide (r.q5 ≤ 90)) /\ True)) /\ ∀ (junk : Nat ->
 Value), ((decide ((0 : Int) ≤ r.q5) && decide (r.q5 ≤ 90)) = true -> b = b /\ ((decide ((1 : Int) ≤ r.q6) = true -> Value.bool (decide (r.q6 ≤ 5)) = Value.bool (decide ((1 : Int) ≤ r.q6) && decide (r.q6 ≤ 5)) /\ True) /\ (decide ((1 : Int) ≤ r.q6) = false -> Value.bool false = Value.bool (decide ((1
 : Int) ≤ r.q6) && decide (r.q6 ≤ 5)) /\ True)) /\ ∀ (junk : Nat -> Value), ((decide ((1 : Int) ≤ r.q6) && decide (r.q6 ≤ 5)) = true -> b = b /\ ((decide ((1 : Int) ≤ r.q7) = true -> Value.bool (decide (r.q7 ≤ 5)) = Value.bool (decide ((1 : Int) ≤ r.q7) && decide (r.q7 ≤ 5)) /\ True) /\ (decide ((1 :
 Int) ≤ r.q7) = false -> Value.bool false = Value.bool (decide ((1 : Int) ≤ r.q7) && decide (r.q7 ≤ 5)) /\ True)) /\ ∀ (junk : Nat -> Value), ((decide ((1 : Int) ≤ r.q7) && decide (r.q7 ≤ 5)) = true -> b = b /\ ((decide ((0 : Int) ≤ r.q8) = true -> Value.bool (decide (r.q8 ≤ 200)) = Value.bool
 (decide ((0 : Int) ≤ r.q8) && decide (r.q8 ≤ 200)) /\ True) /\ (decide ((0 : Int) ≤ r.q8) = false -> Value.bool false = Value.bool (decide ((0 : Int) ≤ r.q8) && decide (r.q8 ≤ 200)) /\ True)) /\ ∀ (junk : Nat -> Value), ((decide ((0 : Int) ≤ r.q8) && decide (r.q8 ≤ 200)) = true -> b = b /\ ((decide
 ((0 : Int) ≤ r.q9) = true -> Value.bool (decide (r.q9 ≤ 1000)) = Value.bool (decide ((0 : Int) ≤ r.q9) && decide (r.q9 ≤ 1000)) /\ True) /\ (decide ((0 : Int) ≤ r.q9) = false -> Value.bool false = Value.bool (decide ((0 : Int) ≤ r.q9) && decide (r.q9 ≤ 1000)) /\ True)) /\ ∀ (junk : Nat -> Value),
 ((decide ((0 : Int) ≤ r.q9) && decide (r.q9 ≤ 1000)) = true -> b = b /\ ((decide ((0 : Int) ≤ r.qa) = true -> Value.bool (decide (r.qa ≤ 9)) = Value.bool (decide ((0 : Int) ≤ r.qa) && decide (r.qa ≤ 9)) /\ True) /\ (decide ((0 : Int) ≤ r.qa) = false -> Value.bool false = Value.bool (decide ((0 :
 Int) ≤ r.qa) && decide (r.qa ≤ 9)) /\ True)) /\ ∀ (junk : Nat -> Value), ((decide ((0 : Int) ≤ r.qa) && decide (r.qa ≤ 9)) = true -> b = b /\ ((decide ((0 : Int) ≤ r.qo) = true -> Value.bool (decide (r.qo ≤ 11)) = Value.bool (decide ((0 : Int) ≤ r.qo) && decide (r.qo ≤ 11)) /\ True) /\ (decide ((0 :
 Int) ≤ r.qo) = false -> Value.bool false = Value.bool (decide ((0 : Int) ≤ r.qo) && decide (r.qo ≤ 11)) /\ True)) /\ ∀ (junk : Nat -> Value), .bool (decide ((0 : Int) ≤ r.qo) && decide (r.qo ≤ 11)) = Value.bool (decide ((2 : Int) ≤ r.q1) && decide (r.q1 ≤ 11) && (decide ((1 : Int) ≤ r.q2) && decide
 (r.q2 ≤ 2) && (decide ((0 : Int) ≤ r.q3) && decide (r.q3 ≤ 90) && (decide ((4 : Int) ≤ r.q4) && decide (r.q4 ≤ 8) && (decide ((0 : Int) ≤ r.q5) && decide (r.q5 ≤ 90) && (decide ((1 : Int) ≤ r.q6) && decide (r.q6 ≤ 5) && (decide ((1 : Int) ≤ r.q7) && decide (r.q7 ≤ 5) && (decide ((0 : Int) ≤ r.q8) &&
 decide (r.q8 ≤ 200) && (decide ((0 : Int) ≤ r.q9) && decide (r.q9 ≤ 1000) && (decide ((0 : Int) ≤ r.qa) && decide (r.qa ≤ 9) && (decide ((0 : Int) ≤ r.qo) && decide (r.qo ≤ 11)))))))))))) /\ True) /\ ((decide ((0 : Int) ≤ r.qa) && decide (r.qa ≤ 9)) = false -> Value.bool false = Value.bool (decide
 ((2 : Int) ≤ r.q1) && decide (r.q1 ≤ 11) && (decide ((1 : Int) ≤ r.q2) && decide (r.q2 ≤ 2) && (decide ((0 : Int) ≤ r.q3) && decide (r.q3 ≤ 90) && (decide ((4 : Int) ≤ r.q4) && decide (r.q4 ≤ 8) && (decide ((0 : Int) ≤ r.q5) && decide (r.q5 ≤ 90) && (decide ((1 : Int) ≤ r.q6) && decide (r.q6 ≤ 5) &&
 (decide ((1 : Int) ≤ r.q7) && decide (r.q7 ≤ 5) && (decide ((0 : Int) ≤ r.q8) && decide (r.q8 ≤ 200) && (decide ((0 : Int) ≤ r.q9) && decide (r.q9 ≤ 1000) && (decide ((0 : Int) ≤ r.qa) && decide (r.qa ≤ 9) && (decide ((0 : Int) ≤ r.qo) && decide (r.qo ≤ 11)))))))))))) /\ True)) /\ ((decide ((0 :
 Int) ≤ r.q9) && decide (r.q9 ≤ 1000)) = false -> Value.bool false = Value.bool (decide ((2 : Int) ≤ r.q1) && decide (r.q1 ≤ 11) && (decide ((1 : Int) ≤ r.q2) && decide (r.q2 ≤ 2) && (decide ((0 : Int) ≤ r.q3) && decide (r.q3 ≤ 90) && (decide ((4 : Int) ≤ r.q4) && decide (r.q4 ≤ 8) && (decide ((0 :
 Int) ≤ r.q5) && decide (r.q5 ≤ 90) && (decide ((1 : Int) ≤ r.q6) && decide (r.q6 ≤ 5) && (decide ((1 : Int) ≤ r.q7) && decide (r.q7 ≤ 5) && (decide ((0 : Int) ≤ r.q8) && decide (r.q8 ≤ 200) && (decide ((0 : Int) ≤ r.q9) && decide (r.q9 ≤ 1000) && (decide ((0 : Int) ≤ r.qa) && decide (r.qa ≤ 9) &&
 (decide ((0 : Int) ≤ r.qo) && decide (r.qo ≤ 11)))))))))))) /\ True)) /\ ((decide ((0 : Int) ≤ r.q8) && decide (r.q8 ≤ 200)) = false -> Value.bool false = Value.bool (decide ((2 : Int) ≤ r.q1) && decide (r.q1 ≤ 11) && (decide ((1 : Int) ≤ r.q2) && decide (r.q2 ≤ 2) && (decide ((0 : Int) ≤ r.q3) &&
 decide (r.q3 ≤ 90) && (decide ((4 : Int) ≤ r.q4) && decide (r.q4 ≤ 8) && (decide ((0 : Int) ≤ r.q5) && decide (r.q5 ≤ 90) && (decide ((1 : Int) ≤ r.q6) && decide (r.q6 ≤ 5) && (decide ((1 : Int) ≤ r.q7) && decide (r.q7 ≤ 5) && (decide ((0 : Int) ≤ r.q8) && decide (r.q8 ≤ 200) && (decide ((0 : Int) ≤
 r.q9) && decide (r.q9 ≤ 1000) && (decide ((0 : Int) ≤ r.qa) && decide (r.qa ≤ 9) && (decide ((0 : Int) ≤ r.qo) && decide (r.qo ≤ 11)))))))))))) /\ True)) /\ ((decide ((1 : Int) ≤ r.q7) && decide (r.q7 ≤ 5)) = false -> Value.bool false = Value.bool (decide ((2 : Int) ≤ r.q1) && decide (r.q1 ≤ 11) &&
 (decide ((1 : Int) ≤ r.q2) && decide (r.q2 ≤ 2) && (decide ((0 : Int) ≤ r.q3) && decide (r.q3 ≤ 90) && (decide ((4 : Int) ≤ r.q4) && decide (r.q4 ≤ 8) && (decide ((0 : Int) ≤ r.q5) && decide (r.q5 ≤ 90) && (decide ((1 : Int) ≤ r.q6) && decide (r.q6 ≤ 5) && (decide ((1 : Int) ≤ r.q7) && decide (r.q7
 ≤ 5) && (decide ((0 : Int) ≤ r.q8) && decide (r.q8 ≤ 200) && (decide ((0 : Int) ≤ r.q9) && decide (r.q9 ≤ 1000) && (decide ((0 : Int) ≤ r.qa) && decide (r.qa ≤ 9) && (decide ((0 : Int) ≤ r.qo) && decide (r.qo ≤ 11)))))))))))) /\ True)) /\ ((decide ((1 : Int) ≤ r.q6) && decide (r.q6 ≤ 5)) = false ->
 Value.bool false = Value.bool (decide ((2 : Int) ≤ r.q1) && decide (r.q1 ≤ 11) && (decide ((1 : Int) ≤ r.q2) && decide (r.q2 ≤ 2) && (decide ((0 : Int) ≤ r.q3) && decide (r.q3 ≤ 90) && (decide ((4 : Int) ≤ r.q4) && decide (r.q4 ≤ 8) && (decide ((0 : Int) ≤ r.q5) && decide (r.q5 ≤ 90) && (decide ((1
 : Int) ≤ r.q6) && decide (r.q6 ≤ 5) && (decide ((1 : Int) ≤ r.q7) && decide (r.q7 ≤ 5) && (decide ((0 : Int) ≤ r.q8) && decide (r.q8 ≤ 200) && (decide ((0 : Int) ≤ r.q9) && decide (r.q9 ≤ 1000) && (decide ((0 : Int) ≤ r.qa) && decide (r.qa ≤ 9) && (decide ((0 : Int) ≤ r.qo) && decide (r.qo ≤
 11)))))))))))) /\ True)) /\ ((decide ((0 : Int) ≤ r.q5) && decide (r.q5 ≤ 90)) = false -> Value.bool false = Value.bool (decide ((2 : Int) ≤ r.q1) && decide (r.q1 ≤ 11) && (decide ((1 : Int) ≤ r.q2) && decide (r.q2 ≤ 2) && (decide ((0 : Int) ≤ r.q3) && decide (r.q3 ≤ 90) && (decide ((4 : Int) ≤
 r.q4) && decide (r.q4 ≤ 8) && (decide ((0 : Int) ≤ r.q5) && decide (r.q5 ≤ 90) && (decide ((1 : Int) ≤ r.q6) && decide (r.q6 ≤ 5) && (decide ((1 : Int) ≤ r.q7) && decide (r.q7 ≤ 5) && (decide ((0 : Int) ≤ r.q8) && decide (r.q8 ≤ 200) && (decide ((0 : Int) ≤ r.q9) && decide (r.q9 ≤ 1000) && (decide
 ((0 : Int) ≤ r.qa) && decide (r.qa ≤ 9) && (decide ((0 : Int) ≤ r.qo) && decide (r.qo ≤ 11)))))))))))) /\ True)) /\ ((decide ((4 : Int) ≤ r.q4) && decide (r.q4 ≤ 8)) = false -> Value.bool false = Value.bool (decide ((2 : Int) ≤ r.q1) && decide (r.q1 ≤ 11) && (decide ((1 : Int) ≤ r.q2) && decide
 (r.q2 ≤ 2) && (decide ((0 : Int) ≤ r.q3) && decide (r.q3 ≤ 90) && (decide ((4 : Int) ≤ r.q4) && decide (r.q4 ≤ 8) && (decide ((0 : Int) ≤ r.q5) && decide (r.q5 ≤ 90) && (decide ((1 : Int) ≤ r.q6) && decide (r.q6 ≤ 5) && (decide ((1 : Int) ≤ r.q7) && decide (r.q7 ≤ 5) && (decide ((0 : Int) ≤ r.q8) &&
 decide (r.q8 ≤ 200) && (decide ((0 : Int) ≤ r.q9) && decide (r.q9 ≤ 1000) && (decide ((0 : Int) ≤ r.qa) && decide (r.qa ≤ 9) && (decide ((0 : Int) ≤ r.qo) && decide (r.qo ≤ 11)))))))))))) /\ True)) /\ ((decide ((0 : Int) ≤ r.q3) && decide (r.q3 ≤ 90)) = false -> Value.bool false = Value.bool (decide
 ((2 : Int) ≤ r.q1) && decide (r.q1 ≤ 11) && (decide ((1 : Int) ≤ r.q2) && decide (r.q2 ≤ 2) && (decide ((0 : Int) ≤ r.q3) && decide (r.q3 ≤ 90) && (decide ((4 : Int) ≤ r.q4) && decide (r.q4 ≤ 8) && (decide ((0 : Int) ≤ r.q5) && decide (r.q5 ≤ 90) && (decide ((1 : Int) ≤ r.q6) && decide (r.q6 ≤ 5) &&
 (decide ((1 : Int) ≤ r.q7) && decide (r.q7 ≤ 5) && (decide ((0 : Int) ≤ r.q8) && decide (r.q8 ≤ 200) && (decide ((0 : Int) ≤ r.q9) && decide (r.q9 ≤ 1000) && (decide ((0 : Int) ≤ r.qa) && decide (r.qa ≤ 9) && (decide ((0 : Int) ≤ r.qo) && decide (r.qo ≤ 11)))))))))))) /\ True)) /\ ((decide ((1 :
 Int) ≤ r.q2) && decide (r.q2 ≤ 2)) = false -> Value.bool false = Value.bool (decide ((2 : Int) ≤ r.q1) && decide (r.q1 ≤ 11) && (decide ((1 : Int) ≤ r.q2) && decide (r.q2 ≤ 2) && (decide ((0 : Int) ≤ r.q3) && decide (r.q3 ≤ 90) && (decide ((4 : Int) ≤ r.q4) && decide (r.q4 ≤ 8) && (decide ((0 : Int)
 ≤ r.q5) && decide (r.q5 ≤ 90) && (decide ((1 : Int) ≤ r.q6) && decide (r.q6 ≤ 5) && (decide ((1 : Int) ≤ r.q7) && decide (r.q7 ≤ 5) && (decide ((0 : Int) ≤ r.q8) && decide (r.q8 ≤ 200) && (decide ((0 : Int) ≤ r.q9) && decide (r.q9 ≤ 1000) && (decide ((0 : Int) ≤ r.qa) && decide (r.qa ≤ 9) && (decide
 ((0 : Int) ≤ r.qo) && decide (r.qo ≤ 11)))))))))))) /\ True)) /\ ((decide ((2 : Int) ≤ r.q1) && decide (r.q1 ≤ 11)) = false -> Value.bool false = Value.bool (decide ((2 : Int) ≤ r.q1) && decide (r.q1 ≤ 11) && (decide ((1 : Int) ≤ r.q2) && decide (r.q2 ≤ 2) && (decide ((0 : Int) ≤ r.q3) && decide
 (r.q3 ≤ 90) && (decide ((4 : Int) ≤ r.q4) && decide (r.q4 ≤ 8) && (decide ((0 : Int) ≤ r.q5) && decide (r.q5 ≤ 90) && (decide ((1 : Int) ≤ r.q6) && decide (r.q6 ≤ 5) && (decide ((1 : Int) ≤ r.q7) && decide (r.q7 ≤ 5) && (decide ((0 : Int) ≤ r.q8) && decide (r.q8 ≤ 200) && (decide ((0 : Int) ≤ r.q9)
 && decide (r.q9 ≤ 1000) && (decide ((0 : Int) ≤ r.qa) && decide (r.qa ≤ 9) && (decide ((0 : Int) ≤ r.qo) && decide (r.qo ≤ 11)))))))))))) /\ True)) /\ ∀ (junk : Nat -> Value), .bool (decide ((2 : Int) ≤ r.q1) && decide (r.q1 ≤ 11) && (decide ((1 : Int) ≤ r.q2) && decide (r.q2 ≤ 2) && (decide ((0 :
 Int) ≤ r.q3) && decide (r.q3 ≤ 90) && (decide ((4 : Int) ≤ r.q4) && decide (r.q4 ≤ 8) && (decide ((0 : Int) ≤ r.q5) && decide (r.q5 ≤ 90) && (decide ((1 : Int) ≤ r.q6) && decide (r.q6 ≤ 5) && (decide ((1 : Int) ≤ r.q7) && decide (r.q7 ≤ 5) && (decide ((0 : Int) ≤ r.q8) && decide (r.q8 ≤ 200) &&
 (decide ((0 : Int) ≤ r.q9) && decide (r.q9 ≤ 1000) && (decide ((0 : Int) ≤ r.qa) && decide (r.qa ≤ 9) && (decide ((0 : Int) ≤ r.qo) && decide (r.qo ≤ 11)))))))))))) = Value.bool (inr r)) := by kernel_rfl
set_option maxHeartbeats 4000000 in
theorem irg_sp (r : Rul) (B : RAd)  : SpecG Tryz.prog [] ([]) 32 #[ruV r B] ([]) (fun _ => .bool (inr r)) := by
  refine specG_of (h := irg_h r B) (?_ : wpG Tryz.prog [] ([]) 400 32 [ruV r B] (irg_h r B) ([]) (fun _ => .bool (inr r)))
  rw [irg_x]
  (repeat' (first | with_reducible exact rfl | exact trivial | with_reducible assumption | exact cU_len _ | exact cI_len _ | exact cB_len _ | exact cU_one _ | exact cI_one _ | exact cB_one _ | exact (fun _ h => h) | exact (fun _ h => (List.not_mem_nil h).elim) | (with_reducible refine e1_in ?_) | (with_reducible refine e2_in ?_) | (with_reducible refine lx_in (Nat.le_of_ble_eq_true rfl) ?_) | (with_reducible refine rqx_rf ?_) | (with_reducible refine rqx_in ?_ ?_ ?_) | (with_reducible apply And.intro) | (with_reducible intro _)))
  all_goals (first | (simp only [*, Bool.and_true, Bool.true_and, Bool.and_false, Bool.false_and, Bool.or_true, Bool.true_or, Bool.or_false, Bool.false_or, Bool.not_true, Bool.not_false, cond_true, cond_false]; done) | (refine boolI ?_; unfold inr; simp only [Bool.and_eq_true, decide_eq_true_eq] <;> omega) | (refine boolI ?_; unfold inr; simp only [Bool.and_eq_true, Bool.and_eq_false_iff, decide_eq_true_eq, decide_eq_false_iff_not, Bool.false_eq_true, false_iff] at *; omega) | trace_state)
def cpw_h (r : Rul) (B : RAd) : Hint := .ob 1 (.pl (.split (.perm [] .nil) (.ob 1 (.pl (.inv (pwL r) fun x0 ↦ .split (.ix (.lst (0 : Nat) (Int.toNat (↑(PwX.i x0) : Int) * (3 : Nat)) (Value.int .i64 (Ph.pf (List.getD r.pw (Int.toNat (↑(PwX.i x0) : Int)) (Ph.mk (0 : Int) (0 : Int) (0 : Int))))) (.lst (0 : Nat) (Int.toNat (↑(PwX.i x0) : Int)
 * (3 : Nat) + (1 : Nat)) (Value.int .i64 (Ph.pt (List.getD r.pw (Int.toNat (↑(PwX.i x0) : Int)) (Ph.mk (0 : Int) (0 : Int) (0 : Int))))) (.lst (0 : Nat) (Int.toNat (↑(PwX.i x0) : Int) * (3 : Nat) + (2 : Nat)) (Value.int .i64 (Ph.po (List.getD r.pw (Int.toNat (↑(PwX.i x0) : Int)) (Ph.mk (0 : Int) (0
 : Int) (0 : Int))))) (ho 2 3 (.cut [((39 : Nat), .bool (decide (Ph.pf (List.getD r.pw (Int.toNat (↑(PwX.i x0) : Int)) (Ph.mk (0 : Int) (0 : Int) (0 : Int))) < 1) || (decide (Ph.pf (List.getD r.pw (Int.toNat (↑(PwX.i x0) : Int)) (Ph.mk (0 : Int) (0 : Int) (0 : Int))) > Ph.pt (List.getD r.pw
 (Int.toNat (↑(PwX.i x0) : Int)) (Ph.mk (0 : Int) (0 : Int) (0 : Int)))) || (decide (Ph.pt (List.getD r.pw (Int.toNat (↑(PwX.i x0) : Int)) (Ph.mk (0 : Int) (0 : Int) (0 : Int))) > r.q3) || !(decide ((0 : Int) ≤ Ph.po (List.getD r.pw (Int.toNat (↑(PwX.i x0) : Int)) (Ph.mk (0 : Int) (0 : Int) (0 :
 Int)))) && decide (Ph.po (List.getD r.pw (Int.toNat (↑(PwX.i x0) : Int)) (Ph.mk (0 : Int) (0 : Int) (0 : Int))) ≤ 11))))))] (.ob 2 (.split (hl 15 (.lit .nil)) (.lit (.ob 2 (.lit (.lit (.ob 2 (.lit (.lit (.split (hl 9 (.lit .nil)) (.lit (.ob 2 (.lit (.lit (.ob 1 (.lit (.lit (.split (hl 3 (.lit .nil))
 (.lit (.ob 2 (.lit (.inl (.nc (.cut [((6 : Nat), .bool (decide ((0 : Int) ≤ Ph.po (List.getD r.pw (Int.toNat (↑(PwX.i x0) : Int)) (Ph.mk (0 : Int) (0 : Int) (0 : Int)))) && decide (Ph.po (List.getD r.pw (Int.toNat (↑(PwX.i x0) : Int)) (Ph.mk (0 : Int) (0 : Int) (0 : Int))) ≤ 11)))] (.split (.lit
 (.lit (.lit .nil))) (.lit (.lit (.lit .nil)))) (.lit (.lit .nil)))))))))))))))))))))))))) (.split (.perm [] .nil) (.ob 2 (.split (.perm [] .nil) (.ob 2 (.perm [] .nil))))))))))) (.perm [] .nil))))))
theorem cpw_x (r : Rul) (B : RAd) : wpG Tryz.prog [] ([(B.a, cP r.pw)]) 400 33 [ruV r B] (cpw_h r B) ([]) (fun _ => .int .i64 (if r.pw.length > 8 then 9 else pwE r.q3 0 r.pw)) = (∀ (b : Nat), b = b /\ (decide ((↑(r.pw.length) : Int) > (8 : Int)) = true -> Value.int .i64 9 = Value.int .i64 (if r.pw.length > (8 : Nat) then (9 : Int) else pwE r.q3 (0 : Int) r.pw)) /\ (decide ((↑(r.pw.length) : Int) > (8 : Int)) = false -> b = b /\ (∃ x, pwI r x /\ Value.int .i64 0 = Value.int
 .i64 (↑(PwX.i x) : Int) /\ Value.int .i64 0 = Value.int .i64 (PwX.b x) /\ True) /\ ∀ (x0 : PwX), pwI r x0 -> ∀ (junk : Nat -> Value), (decide ((↑(PwX.i x0) : Int) < (↑(r.pw.length) : Int)) = true -> (((0 : Int) ≤ (↑(PwX.i x0) : Int) /\ (↑(PwX.i x0) : Int) < (↑(r.pw.length) : Int)) /\ AOK (RAd.a B)
 (r.pw.length)) /\ bk (RAd.a B) = bk (RAd.a B) /\ ofs (RAd.a B) + Int.toNat (↑(PwX.i x0) : Int) * (3 : Nat) = ofs (RAd.a B) + Int.toNat (↑(PwX.i x0) : Int) * (3 : Nat) /\ lgo (cP r.pw) (Int.toNat (↑(PwX.i x0) : Int) * (3 : Nat)) = some (Value.int .i64 (Ph.pf (List.getD r.pw (Int.toNat (↑(PwX.i x0) :
 Int)) (Ph.mk (0 : Int) (0 : Int) (0 : Int))))) /\ bk (RAd.a B) = bk (RAd.a B) /\ ofs (RAd.a B) + Int.toNat (↑(PwX.i x0) : Int) * (3 : Nat) + (1 : Nat) = ofs (RAd.a B) + (Int.toNat (↑(PwX.i x0) : Int) * (3 : Nat) + (1 : Nat)) /\ lgo (cP r.pw) (Int.toNat (↑(PwX.i x0) : Int) * (3 : Nat) + (1 : Nat)) =
 some (Value.int .i64 (Ph.pt (List.getD r.pw (Int.toNat (↑(PwX.i x0) : Int)) (Ph.mk (0 : Int) (0 : Int) (0 : Int))))) /\ bk (RAd.a B) = bk (RAd.a B) /\ ofs (RAd.a B) + Int.toNat (↑(PwX.i x0) : Int) * (3 : Nat) + (2 : Nat) = ofs (RAd.a B) + (Int.toNat (↑(PwX.i x0) : Int) * (3 : Nat) + (2 : Nat)) /\
 lgo (cP r.pw) (Int.toNat (↑(PwX.i x0) : Int) * (3 : Nat) + (2 : Nat)) = some (Value.int .i64 (Ph.po (List.getD r.pw (Int.toNat (↑(PwX.i x0) : Int)) (Ph.mk (0 : Int) (0 : Int) (0 : Int))))) /\ ∀ (b_1 : Nat), e2 b_1 3 ((b_1 = b_1 /\ (decide (Ph.pf (List.getD r.pw (Int.toNat (↑(PwX.i x0) : Int)) (Ph.mk
 (0 : Int) (0 : Int) (0 : Int))) < 1) = true -> Value.bool true = Value.bool (decide (Ph.pf (List.getD r.pw (Int.toNat (↑(PwX.i x0) : Int)) (Ph.mk (0 : Int) (0 : Int) (0 : Int))) < 1) || (decide (Ph.pf (List.getD r.pw (Int.toNat (↑(PwX.i x0) : Int)) (Ph.mk (0 : Int) (0 : Int) (0 : Int))) > Ph.pt
 (List.getD r.pw (Int.toNat (↑(PwX.i x0) : Int)) (Ph.mk (0 : Int) (0 : Int) (0 : Int)))) || (decide (Ph.pt (List.getD r.pw (Int.toNat (↑(PwX.i x0) : Int)) (Ph.mk (0 : Int) (0 : Int) (0 : Int))) > r.q3) || !(decide ((0 : Int) ≤ Ph.po (List.getD r.pw (Int.toNat (↑(PwX.i x0) : Int)) (Ph.mk (0 : Int) (0
 : Int) (0 : Int)))) && decide (Ph.po (List.getD r.pw (Int.toNat (↑(PwX.i x0) : Int)) (Ph.mk (0 : Int) (0 : Int) (0 : Int))) ≤ 11))))) /\ True) /\ (decide (Ph.pf (List.getD r.pw (Int.toNat (↑(PwX.i x0) : Int)) (Ph.mk (0 : Int) (0 : Int) (0 : Int))) < 1) = false -> b_1 = b_1 /\ b_1 = b_1 /\ (decide
 (Ph.pf (List.getD r.pw (Int.toNat (↑(PwX.i x0) : Int)) (Ph.mk (0 : Int) (0 : Int) (0 : Int))) > Ph.pt (List.getD r.pw (Int.toNat (↑(PwX.i x0) : Int)) (Ph.mk (0 : Int) (0 : Int) (0 : Int)))) = true -> Value.bool true = Value.bool (decide (Ph.pf (List.getD r.pw (Int.toNat (↑(PwX.i x0) : Int)) (Ph.mk
 (0 : Int) (0 : Int) (0 : Int))) < 1) || (decide (Ph.pf (List.getD r.pw (Int.toNat (↑(PwX.i x0) : Int)) (Ph.mk (0 : Int) (0 : Int) (0 : Int))) > Ph.pt (List.getD r.pw (Int.toNat (↑(PwX.i x0) : Int)) (Ph.mk (0 : Int) (0 : Int) (0 : Int)))) || (decide (Ph.pt (List.getD r.pw (Int.toNat (↑(PwX.i x0) :
 Int)) (Ph.mk (0 : Int) (0 : Int) (0 : Int))) > r.q3) || !(decide ((0 : Int) ≤ Ph.po (List.getD r.pw (Int.toNat (↑(PwX.i x0) : Int)) (Ph.mk (0 : Int) (0 : Int) (0 : Int)))) && decide (Ph.po (List.getD r.pw (Int.toNat (↑(PwX.i x0) : Int)) (Ph.mk (0 : Int) (0 : Int) (0 : Int))) ≤ 11))))) /\ True) /\
 (decide (Ph.pf (List.getD r.pw (Int.toNat (↑(PwX.i x0) : Int)) (Ph.mk (0 : Int) (0 : Int) (0 : Int))) > Ph.pt (List.getD r.pw (Int.toNat (↑(PwX.i x0) : Int)) (Ph.mk (0 : Int) (0 : Int) (0 : Int)))) = false -> b_1 = b_1 /\ b = b /\ (decide (Ph.pt (List.getD r.pw (Int.toNat (↑(PwX.i x0) : Int)) (Ph.mk
 (0 : Int) (0 : Int) (0 : Int))) > r.q3) = true -> Value.bool true = Value.bool (decide (Ph.pf (List.getD r.pw (Int.toNat (↑(PwX.i x0) : Int)) (Ph.mk (0 : Int) (0 : Int) (0 : Int))) < 1) || (decide (Ph.pf (List.getD r.pw (Int.toNat (↑(PwX.i x0) : Int)) (Ph.mk (0 : Int) (0 : Int) (0 : Int))) > Ph.pt
 (List.getD r.pw (Int.toNat (↑(PwX.i x0) : Int)) (Ph.mk (0 : Int) (0 : Int) (0 : Int)))) || (decide (Ph.pt (List.getD r.pw (Int.toNat (↑(PwX.i x0) : Int)) (Ph.mk (0 : Int) (0 : Int) (0 : Int))) > r.q3) || !(decide ((0 : Int) ≤ Ph.po (List.getD r.pw (Int.toNat (↑(PwX.i x0) : Int)) (Ph.mk (0 : Int) (0
 : Int) (0 : Int)))) && decide (Ph.po (List.getD r.pw (Int.toNat (↑(PwX.i x0) : Int)) (Ph.mk (0 : Int) (0 : Int) (0 : Int))) ≤ 11))))) /\ True) /\ (decide (Ph.pt (List.getD r.pw (Int.toNat (↑(PwX.i x0) : Int)) (Ph.mk (0 : Int) (0 : Int) (0 : Int))) > r.q3) = false -> b_1 = b_1 /\ ((decide ((0 : Int)
 ≤ Ph.po (List.getD r.pw (Int.toNat (↑(PwX.i x0) : Int)) (Ph.mk (0 : Int) (0 : Int) (0 : Int)))) = true -> Value.bool (decide (Ph.po (List.getD r.pw (Int.toNat (↑(PwX.i x0) : Int)) (Ph.mk (0 : Int) (0 : Int) (0 : Int))) ≤ 11)) = Value.bool (decide ((0 : Int) ≤ Ph.po (List.getD r.pw (Int.toNat
 (↑(PwX.i x0) : Int)) (Ph.mk (0 : Int) (0 : Int) (0 : Int)))) && decide (Ph.po (List.getD r.pw (Int.toNat (↑(PwX.i x0) : Int)) (Ph.mk (0 : Int) (0 : Int) (0 : Int))) ≤ 11)) /\ True) /\ (decide ((0 : Int) ≤ Ph.po (List.getD r.pw (Int.toNat (↑(PwX.i x0) : Int)) (Ph.mk (0 : Int) (0 : Int) (0 : Int)))) =
 false -> Value.bool false = Value.bool (decide ((0 : Int) ≤ Ph.po (List.getD r.pw (Int.toNat (↑(PwX.i x0) : Int)) (Ph.mk (0 : Int) (0 : Int) (0 : Int)))) && decide (Ph.po (List.getD r.pw (Int.toNat (↑(PwX.i x0) : Int)) (Ph.mk (0 : Int) (0 : Int) (0 : Int))) ≤ 11)) /\ True)) /\ ∀ (junk : Nat ->
 Value), (Value.bool !(decide ((0 : Int) ≤ Ph.po (List.getD r.pw (Int.toNat (↑(PwX.i x0) : Int)) (Ph.mk (0 : Int) (0 : Int) (0 : Int)))) && decide (Ph.po (List.getD r.pw (Int.toNat (↑(PwX.i x0) : Int)) (Ph.mk (0 : Int) (0 : Int) (0 : Int))) ≤ 11))) = Value.bool (decide (Ph.pf (List.getD r.pw
 (Int.toNat (↑(PwX.i x0) : Int)) (Ph.mk (0 : Int) (0 : Int) (0 : Int))) < 1) || (decide (Ph.pf (List.getD r.pw (Int.toNat (↑(PwX.i x0) : Int)) (Ph.mk (0 : Int) (0 : Int) (0 : Int))) > Ph.pt (List.getD r.pw (Int.toNat (↑(PwX.i x0) : Int)) (Ph.mk (0 : Int) (0 : Int) (0 : Int)))) || (decide (Ph.pt
 (List.getD r.pw (Int.toNat (↑(PwX.i x0) : Int)) (Ph.mk (0 : Int) (0 : Int) (0 : Int))) > r.q3) || !(decide ((0 : Int) ≤ Ph.po (List.getD r.pw (Int.toNat (↑(PwX.i x0) : Int)) (Ph.mk (0 : Int) (0 : Int) (0 : Int)))) && decide (Ph.po (List.getD r.pw (Int.toNat (↑(PwX.i x0) : Int)) (Ph.mk (0 : Int) (0 :
 Int) (0 : Int))) ≤ 11))))) /\ True)))) /\ ∀ (junk : Nat -> Value), ((decide (Ph.pf (List.getD r.pw (Int.toNat (↑(PwX.i x0) : Int)) (Ph.mk (0 : Int) (0 : Int) (0 : Int))) < 1) || (decide (Ph.pf (List.getD r.pw (Int.toNat (↑(PwX.i x0) : Int)) (Ph.mk (0 : Int) (0 : Int) (0 : Int))) > Ph.pt (List.getD
 r.pw (Int.toNat (↑(PwX.i x0) : Int)) (Ph.mk (0 : Int) (0 : Int) (0 : Int)))) || (decide (Ph.pt (List.getD r.pw (Int.toNat (↑(PwX.i x0) : Int)) (Ph.mk (0 : Int) (0 : Int) (0 : Int))) > r.q3) || !(decide ((0 : Int) ≤ Ph.po (List.getD r.pw (Int.toNat (↑(PwX.i x0) : Int)) (Ph.mk (0 : Int) (0 : Int) (0 :
 Int)))) && decide (Ph.po (List.getD r.pw (Int.toNat (↑(PwX.i x0) : Int)) (Ph.mk (0 : Int) (0 : Int) (0 : Int))) ≤ 11))))) = true -> Value.int .i64 2 = Value.int .i64 (if r.pw.length > (8 : Nat) then (9 : Int) else pwE r.q3 (0 : Int) r.pw)) /\ ((decide (Ph.pf (List.getD r.pw (Int.toNat (↑(PwX.i x0) :
 Int)) (Ph.mk (0 : Int) (0 : Int) (0 : Int))) < 1) || (decide (Ph.pf (List.getD r.pw (Int.toNat (↑(PwX.i x0) : Int)) (Ph.mk (0 : Int) (0 : Int) (0 : Int))) > Ph.pt (List.getD r.pw (Int.toNat (↑(PwX.i x0) : Int)) (Ph.mk (0 : Int) (0 : Int) (0 : Int)))) || (decide (Ph.pt (List.getD r.pw (Int.toNat
 (↑(PwX.i x0) : Int)) (Ph.mk (0 : Int) (0 : Int) (0 : Int))) > r.q3) || !(decide ((0 : Int) ≤ Ph.po (List.getD r.pw (Int.toNat (↑(PwX.i x0) : Int)) (Ph.mk (0 : Int) (0 : Int) (0 : Int)))) && decide (Ph.po (List.getD r.pw (Int.toNat (↑(PwX.i x0) : Int)) (Ph.mk (0 : Int) (0 : Int) (0 : Int))) ≤ 11)))))
 = false -> b_1 = b_1 /\ (decide (Ph.pf (List.getD r.pw (Int.toNat (↑(PwX.i x0) : Int)) (Ph.mk (0 : Int) (0 : Int) (0 : Int))) ≤ PwX.b x0) = true -> Value.int .i64 8 = Value.int .i64 (if r.pw.length > (8 : Nat) then (9 : Int) else pwE r.q3 (0 : Int) r.pw)) /\ (decide (Ph.pf (List.getD r.pw (Int.toNat
 (↑(PwX.i x0) : Int)) (Ph.mk (0 : Int) (0 : Int) (0 : Int))) ≤ PwX.b x0) = false -> b_1 = b_1 /\ ∃ y, pwI r y /\ r.pw.length - PwX.i y < r.pw.length - PwX.i x0 /\ Value.int .i64 (IntKind.i64.wrap ((↑(PwX.i x0) : Int) + (1 : Int))) = Value.int .i64 (↑(PwX.i y) : Int) /\ Value.int .i64 (Ph.pt
 (List.getD r.pw (Int.toNat (↑(PwX.i x0) : Int)) (Ph.mk (0 : Int) (0 : Int) (0 : Int)))) = Value.int .i64 (PwX.b y) /\ True)))) /\ (decide ((↑(PwX.i x0) : Int) < (↑(r.pw.length) : Int)) = false -> Value.int .i64 0 = Value.int .i64 (if r.pw.length > (8 : Nat) then (9 : Int) else pwE r.q3 (0 : Int)
 r.pw)))) := by kernel_rfl
set_option maxHeartbeats 4000000 in
theorem cpw_sp (r : Rul) (B : RAd) (hB : AOK B.a r.pw.length) (hl : r.pw.length ≤ 1000000) : SpecG Tryz.prog [] ([(B.a, cP r.pw)]) 33 #[ruV r B] ([]) (fun _ => .int .i64 (if r.pw.length > 8 then 9 else pwE r.q3 0 r.pw)) := by
  refine specG_of (h := cpw_h r B) (?_ : wpG Tryz.prog [] ([(B.a, cP r.pw)]) 400 33 [ruV r B] (cpw_h r B) ([]) (fun _ => .int .i64 (if r.pw.length > 8 then 9 else pwE r.q3 0 r.pw)))
  rw [cpw_x]
  (repeat' (first | with_reducible exact rfl | exact trivial | with_reducible assumption | exact cU_len _ | exact cI_len _ | exact cB_len _ | exact cU_one _ | exact cI_one _ | exact cB_one _ | exact (fun _ h => h) | exact (fun _ h => (List.not_mem_nil h).elim) | (with_reducible refine e1_in ?_) | (with_reducible refine e2_in ?_) | (with_reducible refine lx_in (Nat.le_of_ble_eq_true rfl) ?_) | (with_reducible refine rqx_rf ?_) | (with_reducible refine rqx_in ?_ ?_ ?_) | (with_reducible apply And.intro) | (with_reducible intro _)))
  all_goals (try simp only [Int.toNat_natCast] at *)
  all_goals (try (first | (simp only [*, Bool.and_true, Bool.true_and, Bool.and_false, Bool.false_and, Bool.or_true, Bool.true_or, Bool.or_false, Bool.false_or, Bool.not_true, Bool.not_false, cond_true, cond_false]; done)))
  all_goals (try simp only [decide_eq_true_eq, decide_eq_false_iff_not, Bool.or_eq_true, Bool.or_eq_false_iff, Bool.not_eq_true', Bool.not_eq_false', Bool.and_eq_true, Bool.and_eq_false_iff] at *)
  all_goals first
    | exact ⟨⟨0, 0⟩, ⟨Nat.zero_le _, rfl⟩, rfl, rfl, trivial⟩ | omega | (refine cP_get0 ?_; omega) | (refine cP_get1 ?_; omega) | (refine cP_get2 ?_; omega)
    | (refine intI ?_; rw [if_pos (by omega)])
    | (have hx := ‹pwI _ _›; refine intI ?_; rw [if_neg (by omega), pw_bad (by omega) hx.2 (by unfold phB; omega)])
    | (have hx := ‹pwI _ _›; refine intI ?_; rw [if_neg (by omega), pw_ord (by omega) hx.2 (by unfold phB; omega) (by assumption)])
    | (have hx := ‹pwI _ _›; have h9 := hx.1; exact ⟨⟨_, _⟩, ⟨(show _ + 1 ≤ _ by omega), pw_nxt (by omega) hx.2 (by unfold phB; omega) (by assumption)⟩, (by show _ - (_ + 1) < _; omega), (by rw [IntWalk.i64_in _ (by omega)]; rfl), rfl, trivial⟩)
    | (have hx := ‹pwI _ _›; refine intI ?_; rw [if_neg (by omega), hx.2, pw_end (by omega)])
    | trace_state
def rch_h (r : Rul) (B : RAd) : Hint := .ob 1 (.specg [] [] [] [] (fun ads0 x ↦ Value.bool (nmOk r.nm)) (.split (.perm [] .nil) (ho 1 14 (.specg [] [] [] [] (fun ads0 x ↦ Value.bool (inr r)) (.split (.perm [] .nil) (.cut [((12 : Nat), .bool (r.q9 != 0 && r.q2 == 1))] (.ob 1 (.pl (.split (.lit (.ob 1 (.lit (.pl (.lit .nil))))) (.lit (.lit
 (.lit .nil)))))) (.cut [((12 : Nat), .bool (r.q9 != 0 && r.q2 == 1 || r.q3 == 0 && (r.q5 != 0 || decide ((↑(r.pw.length) : Int) > (0 : Int)))))] (.split .nil (.cut [((12 : Nat), .bool (r.q3 == 0 && (r.q5 != 0 || decide ((↑(r.pw.length) : Int) > (0 : Int)))))] (.ob 1 (.pl (.split (.lit (.ob 1 (.lit
 (.pl (.lit (.split (hl 5 (.lit .nil)) (.lit (.ob 1 (.lit (.pl (hl 3 (.lit .nil)))))))))))) (hl 4 (.lit .nil))))) .nil)) (.split (.perm [] .nil) (.cut [((35 : Nat), .bool (r.q5 != 0 && decide (IntKind.i64.wrap (r.q5 * r.q1) < r.q3)))] (.ob 1 (.pl (.split (.lit (.ob 1 (.lit (.lit (.ob 1 (hl 3 (.ob 1
 (.lit (.lit .nil))))))))) (hl 7 (.lit .nil))))) (.split (.perm [] .nil) (ho 1 14 (.specg [] [0] [cP r.pw] [] (fun ads0 x ↦ Value.int .i64 (if r.pw.length > (8 : Nat) then (9 : Int) else pwE r.q3 (0 : Int) r.pw)) (.perm [] .nil)))))))))))))
theorem rch_x (r : Rul) (B : RAd) : wpG Tryz.prog [] ([(B.a, cP r.pw)]) 400 14 [ruV r B] (rch_h r B) ([]) (fun _ => .int .i64 (rck r)) = (∀ (b : Nat), b = b /\ (SpecG Tryz.prog [] [] (31 : FuncId) #[Value.string r.nm] [] fun x ↦ Value.bool (nmOk r.nm)) /\ (∀ (e : Ex), e ∈ [] -> e ∈ []) /\ ((!nmOk r.nm) = true -> Value.int .i64 5 = Value.int .i64 (rck r)) /\ ((!nmOk r.nm) = false -> e1 b 14 ((SpecG Tryz.prog [] [] (32 : FuncId) #[ruV r B]
 [] fun x ↦ Value.bool (inr r)) /\ (∀ (e : Ex), e ∈ [] -> e ∈ []) /\ ((!inr r) = true -> Value.int .i64 2 = Value.int .i64 (rck r)) /\ ((!inr r) = false -> (b = b /\ ((r.q9 != 0) = true -> b = b /\ Value.bool (r.q2 == 1) = Value.bool (r.q9 != 0 && r.q2 == 1) /\ True) /\ ((r.q9 != 0) = false ->
 Value.bool false = Value.bool (r.q9 != 0 && r.q2 == 1) /\ True)) /\ ∀ (junk : Nat -> Value), (((r.q9 != 0 && r.q2 == 1) = true -> Value.bool true = Value.bool (r.q9 != 0 && r.q2 == 1 || r.q3 == 0 && (r.q5 != 0 || decide ((↑(r.pw.length) : Int) > (0 : Int)))) /\ True) /\ ((r.q9 != 0 && r.q2 == 1) =
 false -> (b = b /\ ((r.q3 == 0) = true -> b = b /\ ((r.q5 != 0) = true -> Value.bool true = Value.bool (r.q3 == 0 && (r.q5 != 0 || decide ((↑(r.pw.length) : Int) > (0 : Int)))) /\ True) /\ ((r.q5 != 0) = false -> b = b /\ Value.bool (decide ((↑(r.pw.length) : Int) > (0 : Int))) = Value.bool (r.q3 ==
 0 && (r.q5 != 0 || decide ((↑(r.pw.length) : Int) > (0 : Int)))) /\ True)) /\ ((r.q3 == 0) = false -> Value.bool false = Value.bool (r.q3 == 0 && (r.q5 != 0 || decide ((↑(r.pw.length) : Int) > (0 : Int)))) /\ True)) /\ ∀ (junk : Nat -> Value), .bool (r.q3 == 0 && (r.q5 != 0 || decide
 ((↑(r.pw.length) : Int) > (0 : Int)))) = Value.bool (r.q9 != 0 && r.q2 == 1 || r.q3 == 0 && (r.q5 != 0 || decide ((↑(r.pw.length) : Int) > (0 : Int)))) /\ True)) /\ ∀ (junk : Nat -> Value), ((r.q9 != 0 && r.q2 == 1 || r.q3 == 0 && (r.q5 != 0 || decide ((↑(r.pw.length) : Int) > (0 : Int)))) = true ->
 Value.int .i64 1 = Value.int .i64 (rck r)) /\ ((r.q9 != 0 && r.q2 == 1 || r.q3 == 0 && (r.q5 != 0 || decide ((↑(r.pw.length) : Int) > (0 : Int)))) = false -> (b = b /\ ((r.q5 != 0) = true -> e1 b 3 (Value.bool (decide (IntKind.i64.wrap (r.q5 * r.q1) < r.q3)) = Value.bool (r.q5 != 0 && decide
 (IntKind.i64.wrap (r.q5 * r.q1) < r.q3)) /\ True)) /\ ((r.q5 != 0) = false -> Value.bool false = Value.bool (r.q5 != 0 && decide (IntKind.i64.wrap (r.q5 * r.q1) < r.q3)) /\ True)) /\ ∀ (junk : Nat -> Value), ((r.q5 != 0 && decide (IntKind.i64.wrap (r.q5 * r.q1) < r.q3)) = true -> Value.int .i64 13 =
 Value.int .i64 (rck r)) /\ ((r.q5 != 0 && decide (IntKind.i64.wrap (r.q5 * r.q1) < r.q3)) = false -> e1 b 14 (cP r.pw = cP r.pw /\ (SpecG Tryz.prog [] [(RAd.a B, cP r.pw)] (33 : FuncId) #[ruV r B] [] fun x ↦ Value.int .i64 (if r.pw.length > (8 : Nat) then (9 : Int) else pwE r.q3 (0 : Int) r.pw)) /\
 (∀ (e : Ex), e ∈ [] -> e ∈ []) /\ Value.int .i64 (if r.pw.length > (8 : Nat) then (9 : Int) else pwE r.q3 (0 : Int) r.pw) = Value.int .i64 (rck r)))))))) := by kernel_rfl
set_option maxHeartbeats 4000000 in
theorem rch_sp (r : Rul) (B : RAd) (hB : AOK B.a r.pw.length) (hl : r.pw.length ≤ 1000000) (hn : r.nm.size ≤ 1000000) : SpecG Tryz.prog [] ([(B.a, cP r.pw)]) 14 #[ruV r B] ([]) (fun _ => .int .i64 (rck r)) := by
  refine specG_of (h := rch_h r B) (?_ : wpG Tryz.prog [] ([(B.a, cP r.pw)]) 400 14 [ruV r B] (rch_h r B) ([]) (fun _ => .int .i64 (rck r)))
  rw [rch_x]
  (repeat' (first | with_reducible exact rfl | exact trivial | with_reducible assumption | exact tnm_sp _ hn | exact irg_sp _ _ | exact cpw_sp _ _ hB hl | exact cU_len _ | exact cI_len _ | exact cB_len _ | exact cU_one _ | exact cI_one _ | exact cB_one _ | exact (fun _ h => h) | exact (fun _ h => (List.not_mem_nil h).elim) | (with_reducible refine e1_in ?_) | (with_reducible refine e2_in ?_) | (with_reducible refine lx_in (Nat.le_of_ble_eq_true rfl) ?_) | (with_reducible refine rqx_rf ?_) | (with_reducible refine rqx_in ?_ ?_ ?_) | (with_reducible apply And.intro) | (with_reducible intro _)))
  all_goals (try (first | (simp only [*, Bool.and_true, Bool.true_and, Bool.and_false, Bool.false_and, Bool.or_true, Bool.true_or, Bool.or_false, Bool.false_or, Bool.not_true, Bool.not_false, cond_true, cond_false]; done) | (refine intI ?_; rw [rk_all (by assumption) (by assumption) (by assumption) (by assumption)]) | (simp_all; done)))
  all_goals first
    | (refine intI ?_; unfold rck; simp_all; done)
    | (refine intI ?_; have e := rk_mul (r := r) (by simp_all); unfold rck; simp_all; done)
    | (refine intI ?_; have e := rk_mul (r := r) (by simp_all); unfold rck; simp_all; omega)
    | trace_state
end Go.Proofs.YtjdldofgkhibnaaGreatDoor
