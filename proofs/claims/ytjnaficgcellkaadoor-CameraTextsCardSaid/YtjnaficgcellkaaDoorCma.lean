/- Layer 31 (camera): observations, their check, the lowest, the bounce, what is behind it, of both. -/
import Derived.Test.YtjnaficgcellkaaDoorVz
import Derived.KernelRfl
import Derived.Test.YtjnaficgcellkaaDoorProg
set_option linter.unusedSimpArgs false
set_option linter.unusedVariables false
set_option maxRecDepth 100000
namespace Go.Proofs.YtjnaficgcellkaaDoor
open Go.RowKit


def nthS : List (Option Addr × Nat) → Nat → Option Addr × Nat
  | [], _ => (none, 0)
  | p :: _, 0 => p
  | _ :: l, n + 1 => nthS l n
/-- The limits of the parts. -/
def lsC : List Value := [.int .i64 0, .int .i64 (-300000), .int .i64 (-50000), .int .i64 0, .int .i64 1]
def moC : List Value := [.int .i64 4000, .int .i64 300000, .int .i64 50000, .int .i64 50000, .int .i64 1000]
def wE : List Ex :=
  ⟨0, fun off => lgo lsC off, fun _ => True, fun _ _ _ _ => trivial⟩ ::
  ⟨1, fun off => lgo moC off, fun _ => True, fun _ _ _ _ => trivial⟩ ::
  []
/-- An observation. -/
structure Sn where
  t : Int
  x : Int
  y : Int
  z : Int
  e : Int
/-- The element with an index. -/
def gSn (l : List Sn) (m : Nat) : Sn := l.getD m ⟨0, 0, 0, 0, 0⟩
def cSn (l : List Sn) : List Value := l.flatMap fun p => [.int .i64 p.t, .int .i64 p.x, .int .i64 p.y, .int .i64 p.z, .int .i64 p.e]
def cSn_rd (l : List Sn) (m : Nat) : Nat → Value
  | 0 => .int .i64 (gSn l m).t
  | 1 => .int .i64 (gSn l m).x
  | 2 => .int .i64 (gSn l m).y
  | 3 => .int .i64 (gSn l m).z
  | _ => .int .i64 (gSn l m).e
theorem cSn_len (l : List Sn) : (cSn l).length = l.length * 5 := by
  induction l with
  | nil => rfl
  | cons p l ih => simp only [cSn, List.flatMap_cons, List.length_append] at *; rw [ih]; simp; omega
theorem cSn_at {l : List Sn} {m j : Nat} (h : m < l.length) (hj : j < 5) : (cSn l)[m * 5 + j]? = some (cSn_rd l m j) := by
  induction l generalizing m with
  | nil => simp at h
  | cons p l ih =>
    have e : cSn (p :: l) = [.int .i64 p.t, .int .i64 p.x, .int .i64 p.y, .int .i64 p.z, .int .i64 p.e] ++ cSn l := rfl
    rw [e]
    cases m with
    | zero =>
      rw [List.getElem?_append_left (by simp; omega)]
      have : j = 0 ∨ j = 1 ∨ j = 2 ∨ j = 3 ∨ j = 4 := by omega
      rcases this with rfl | rfl | rfl | rfl | rfl <;> rfl
    | succ m =>
      rw [List.getElem?_append_right (by simp; omega)]
      have e2 : (m + 1) * 5 + j - ([.int .i64 p.t, .int .i64 p.x, .int .i64 p.y, .int .i64 p.z, .int .i64 p.e] : List Value).length = m * 5 + j := by simp; omega
      rw [e2, ih (by simpa using h)]
      have : j = 0 ∨ j = 1 ∨ j = 2 ∨ j = 3 ∨ j = 4 := by omega
      rcases this with rfl | rfl | rfl | rfl | rfl <;> simp [cSn_rd, gSn]
theorem cSn_one (l : List Sn) : ∀ u ∈ cSn l, u.oneCell' = true := by
  intro u hu
  simp only [cSn, List.mem_flatMap, List.mem_cons, List.not_mem_nil, or_false] at hu
  obtain ⟨p, _, h | h | h | h | h⟩ := hu <;> (rw [h]; rfl)
theorem cSn_app (l : List Sn) (d : Sn) : lapp (cSn l) [.int .i64 d.t, .int .i64 d.x, .int .i64 d.y, .int .i64 d.z, .int .i64 d.e] = cSn (l ++ [d]) := by
  rw [lapp_eq]
  unfold cSn
  rw [List.flatMap_append]
  rfl
theorem cSn_get0 {l : List Sn} {m : Nat} (h : m < l.length) : lgo (cSn l) (m * 5) = some (.int .i64 (gSn l m).t) := by rw [lgo_eq]; exact cSn_at (j := 0) h (by omega)
theorem cSn_get1 {l : List Sn} {m : Nat} (h : m < l.length) : lgo (cSn l) (m * 5 + 1) = some (.int .i64 (gSn l m).x) := by rw [lgo_eq]; exact cSn_at (j := 1) h (by omega)
theorem cSn_get2 {l : List Sn} {m : Nat} (h : m < l.length) : lgo (cSn l) (m * 5 + 2) = some (.int .i64 (gSn l m).y) := by rw [lgo_eq]; exact cSn_at (j := 2) h (by omega)
theorem cSn_get3 {l : List Sn} {m : Nat} (h : m < l.length) : lgo (cSn l) (m * 5 + 3) = some (.int .i64 (gSn l m).z) := by rw [lgo_eq]; exact cSn_at (j := 3) h (by omega)
theorem cSn_get4 {l : List Sn} {m : Nat} (h : m < l.length) : lgo (cSn l) (m * 5 + 4) = some (.int .i64 (gSn l m).e) := by rw [lgo_eq]; exact cSn_at (j := 4) h (by omega)

def sRng (s : Sn) : Bool := (decide (0 ≤ s.t) && decide (s.t ≤ 4000)) && (decide (-300000 ≤ s.x) && decide (s.x ≤ 300000)) && (decide (-50000 ≤ s.y) && decide (s.y ≤ 50000)) && (decide (0 ≤ s.z) && decide (s.z ≤ 50000)) && (decide (1 ≤ s.e) && decide (s.e ≤ 1000))
def badS (l : List Sn) (i : Nat) : Bool := !sRng (gSn l i) || (decide (0 < i) && decide ((gSn l i).t ≤ (gSn l (i - 1)).t))
def fbad (l : List Sn) : Option Nat := (List.range l.length).find? (badS l)
/-- The first error, and its index. -/
def ckI (l : List Sn) : Int := if 64 < l.length then -1 else match fbad l with
  | none => -1
  | some i => (i : Int)
def ckE (l : List Sn) : Int := if 64 < l.length then 9 else match fbad l with
  | none => 0
  | some i => if sRng (gSn l i) = true then 8 else 2
def ckP (l : List Sn) (i : Nat) : Prop := i ≤ l.length ∧ ∀ m, m < i → badS l m = false
theorem gSn_in {l : List Sn} {m : Nat} (h : m < l.length) : gSn l m ∈ l := by
  unfold gSn
  rw [List.getD_eq_getElem?_getD, List.getElem?_eq_getElem h]
  exact List.getElem_mem _
theorem gSn_el {l : List Sn} {m : Nat} (h : m < l.length) : gSn l m = l[m] := by
  unfold gSn
  rw [List.getD_eq_getElem?_getD, List.getElem?_eq_getElem h]; rfl
theorem lt_s {l : List Sn} {i : Nat} (h : decide ((i : Int) < (l.length : Int)) = true) : i < l.length := by have := of_decide_eq_true h; omega
theorem ge_s {l : List Sn} {i : Nat} (h : decide ((i : Int) < (l.length : Int)) = false) (h2 : i ≤ l.length) : i = l.length := by have := of_decide_eq_false h; omega
theorem wr_s {i : Nat} (h : i ≤ 9223372036854775806) : Value.int IntKind.i64 (IntKind.i64.wrap ((i : Int) + 1)) = Value.int IntKind.i64 ((i + 1 : Nat) : Int) := by rw [IntWalk.i64_in _ (by omega)]; rfl
theorem wm_n {i : Nat} (h : i ≤ 9223372036854775806) (h0 : 0 < i) : IntKind.i64.wrap ((i : Int) - 1) = ((i - 1 : Nat) : Int) := by rw [IntWalk.i64_in _ (by omega)]; omega
theorem ckP_0 (l : List Sn) : ckP l 0 := ⟨Nat.zero_le _, fun m h => by omega⟩
theorem ckP_s {l : List Sn} {i : Nat} (h : ckP l i) (hi : i < l.length) (hc : badS l i = false) : ckP l (i + 1) :=
  ⟨hi, fun m hm => by
    by_cases e : m < i
    · exact h.2 m e
    · have : m = i := by omega
      rw [this]; exact hc⟩
theorem fb_some {l : List Sn} {i : Nat} (h : ckP l i) (hi : i < l.length) (hc : badS l i = true) : fbad l = some i := by
  unfold fbad
  rw [List.find?_range_eq_some]
  exact ⟨hc, List.mem_range.2 hi, fun j hj => by rw [h.2 j hj]; rfl⟩
theorem fb_none {l : List Sn} (h : ckP l l.length) : fbad l = none := by
  unfold fbad
  rw [List.find?_eq_none]
  intro m hm
  rw [h.2 m (List.mem_range.1 hm)]; decide
theorem ck_9 {l : List Sn} (h : decide ((l.length : Int) > 64) = true) : ckI l = -1 ∧ ckE l = 9 := by
  have := of_decide_eq_true h
  unfold ckI ckE
  rw [if_pos (by omega), if_pos (by omega)]; exact ⟨rfl, rfl⟩
theorem ck_2 {l : List Sn} {i : Nat} (h : decide ((l.length : Int) > 64) = false) (hp : ckP l i) (hi : i < l.length) (hr : sRng (gSn l i) = false) : ckI l = (i : Int) ∧ ckE l = 2 := by
  have := of_decide_eq_false h
  unfold ckI ckE
  rw [if_neg (by omega), if_neg (by omega), fb_some hp hi (by unfold badS; rw [hr]; rfl)]
  exact ⟨rfl, by simp [hr]⟩
theorem ck_8 {l : List Sn} {i : Nat} (h : decide ((l.length : Int) > 64) = false) (hp : ckP l i) (hi : i < l.length) (hr : sRng (gSn l i) = true) (h0 : 0 < i) (ho : (gSn l i).t ≤ (gSn l (i - 1)).t) : ckI l = (i : Int) ∧ ckE l = 8 := by
  have := of_decide_eq_false h
  unfold ckI ckE
  rw [if_neg (by omega), if_neg (by omega), fb_some hp hi (by unfold badS; rw [decide_eq_true h0, decide_eq_true ho]; simp)]
  exact ⟨rfl, by simp [hr]⟩
theorem ck_0 {l : List Sn} (h : decide ((l.length : Int) > 64) = false) (hp : ckP l l.length) : ckI l = -1 ∧ ckE l = 0 := by
  have := of_decide_eq_false h
  unfold ckI ckE
  rw [if_neg (by omega), if_neg (by omega), fb_none hp]; exact ⟨rfl, rfl⟩
theorem bad_n {l : List Sn} {i : Nat} (hr : sRng (gSn l i) = true) (h : i = 0 ∨ ¬ (gSn l i).t ≤ (gSn l (i - 1)).t) : badS l i = false := by
  unfold badS
  rw [hr]
  rcases h with h | h
  · subst h; simp
  · simp [h]
/-- What a list without an error is. -/
theorem ckE_0 {l : List Sn} (h : ckE l = 0) : l.length ≤ 64 ∧ ckP l l.length := by
  unfold ckE at h
  split at h
  · omega
  · refine ⟨by omega, Nat.le_refl _, fun m hm => ?_⟩
    cases hf : fbad l with
    | none =>
      unfold fbad at hf
      rw [List.find?_eq_none] at hf
      simpa using hf m (List.mem_range.2 hm)
    | some i => rw [hf] at h; dsimp only at h; split at h <;> omega
theorem ckI_0 {l : List Sn} (h : ckE l = 0) : ckI l = -1 := by
  obtain ⟨h1, h2⟩ := ckE_0 h
  unfold ckI
  rw [if_neg (by omega), fb_none h2]
theorem bad_0 {l : List Sn} {i : Nat} (h : badS l i = false) : sRng (gSn l i) = true ∧ (0 < i → (gSn l (i - 1)).t < (gSn l i).t) := by
  unfold badS at h
  simp at h
  exact ⟨h.1, fun h0 => h.2 h0⟩
theorem sRng_b {s : Sn} (h : sRng s = true) : (0 ≤ s.t ∧ s.t ≤ 4000) ∧ (-300000 ≤ s.x ∧ s.x ≤ 300000) ∧ (-50000 ≤ s.y ∧ s.y ≤ 50000) ∧ (0 ≤ s.z ∧ s.z ≤ 50000) ∧ (1 ≤ s.e ∧ s.e ≤ 1000) := by
  unfold sRng at h
  simp at h
  omega
/-! The lowest of the first ones. -/
def lowI (l : List Sn) : Nat → Nat
  | 0 => 0
  | k + 1 => if (gSn l k).z < (gSn l (lowI l k)).z then k else lowI l k
theorem low_lt (l : List Sn) : ∀ k, lowI l k ≤ k - 1 := by
  intro k
  induction k with
  | zero => simp [lowI]
  | succ k ih => simp only [lowI]; split <;> omega
theorem low_len {l : List Sn} {k : Nat} (h : k ≤ l.length) (h0 : 0 < l.length) : lowI l k < l.length := by have := low_lt l k; omega
theorem low_y {l : List Sn} {k : Nat} (h : decide ((gSn l k).z < (gSn l (lowI l k)).z) = true) : lowI l (k + 1) = k := by
  have := of_decide_eq_true h
  simp only [lowI]; rw [if_pos this]
theorem low_n {l : List Sn} {k : Nat} (h : decide ((gSn l k).z < (gSn l (lowI l k)).z) = false) : lowI l (k + 1) = lowI l k := by
  have := of_decide_eq_false h
  simp only [lowI]; rw [if_neg this]
/-- Does the ball bounce, and where? -/
def buB (l : List Sn) : Bool := decide (ckE l = 0) && !(decide (lowI l l.length = 0) || decide ((lowI l l.length : Int) = (l.length : Int) - 1) || decide ((gSn l (lowI l l.length)).z > 1000))
def buN (l : List Sn) : Nat := if buB l = true then lowI l l.length else 0
theorem buN_le (l : List Sn) : buN l ≤ l.length - 1 := by
  unfold buN
  split
  · exact low_lt _ _
  · omega
/-- What is behind the bounce. -/
def bhS (l : List Sn) : List Sn := l.drop (buN l)
theorem bh_len (l : List Sn) : (bhS l).length = l.length - buN l := by unfold bhS; rw [List.length_drop]
theorem bh_at (l : List Sn) (m : Nat) : gSn (bhS l) m = gSn l (buN l + m) := by unfold gSn bhS; rw [List.getD_eq_getElem?_getD, List.getD_eq_getElem?_getD, List.getElem?_drop]
theorem bh_0 {l : List Sn} (h : buB l = false) : bhS l = l := by unfold bhS buN; rw [if_neg (by simp [h])]; rfl
theorem bu_n {l : List Sn} (h : buB l = true) : buN l = lowI l l.length := by unfold buN; rw [if_pos h]
theorem bu_0 {l : List Sn} (h : buB l = false) : buN l = 0 := by unfold buN; rw [if_neg (by simp [h])]
theorem tu_s {a b c d : Int} (h1 : a = c) (h2 : b = d) : Value.tuple #[.int .i64 a, .int .i64 b] = .tuple #[.int .i64 c, .int .i64 d] := by rw [h1, h2]
theorem wm_t {i : Nat} (h : i ≤ 9223372036854775806) (h0 : decide ((i : Int) > 0) = true) : (IntKind.i64.wrap ((i : Int) - 1)).toNat = i - 1 := by
  have := of_decide_eq_true h0
  rw [wm_n h (by omega)]; omega
theorem ord_t {l : List Sn} {i : Nat} (hi : i ≤ 9223372036854775806) (h : (decide ((i : Int) > 0) && decide ((gSn l i).t ≤ (gSn l (IntKind.i64.wrap ((i : Int) - 1)).toNat).t)) = true) : 0 < i ∧ (gSn l i).t ≤ (gSn l (i - 1)).t := by
  rw [Bool.and_eq_true] at h
  rw [wm_t hi h.1] at h
  have := of_decide_eq_true h.1
  exact ⟨by omega, of_decide_eq_true h.2⟩
theorem ord_f {l : List Sn} {i : Nat} (hi : i ≤ 9223372036854775806) (h : (decide ((i : Int) > 0) && decide ((gSn l i).t ≤ (gSn l (IntKind.i64.wrap ((i : Int) - 1)).toNat).t)) = false) : i = 0 ∨ ¬ (gSn l i).t ≤ (gSn l (i - 1)).t := by
  by_cases h0 : i = 0
  · exact Or.inl h0
  · have h1 : decide ((i : Int) > 0) = true := decide_eq_true (by omega)
    rw [h1, wm_t hi h1, Bool.true_and] at h
    exact Or.inr (of_decide_eq_false h)
theorem ck_next {l : List Sn} {i : Nat} (hl : l.length ≤ 9223372036854775807) (hp : ckP l i) (hi : i < l.length) (hr : (!sRng (gSn l i)) = false) (h : (decide ((i : Int) > 0) && decide ((gSn l i).t ≤ (gSn l (IntKind.i64.wrap ((i : Int) - 1)).toNat).t)) = false) : ckP l (i + 1) :=
  ckP_s hp hi (bad_n (by simpa using hr) (ord_f (by omega) h))
theorem ck_ord {l : List Sn} {i : Nat} (hl : l.length ≤ 9223372036854775807) (h64 : decide ((l.length : Int) > 64) = false) (hp : ckP l i) (hi : i < l.length) (hr : (!sRng (gSn l i)) = false) (h : (decide ((i : Int) > 0) && decide ((gSn l i).t ≤ (gSn l (IntKind.i64.wrap ((i : Int) - 1)).toNat).t)) = true) : Value.tuple #[.int .i64 (i : Int), .int .i64 8] = .tuple #[.int .i64 (ckI l), .int .i64 (ckE l)] := by
  obtain ⟨h0, ho⟩ := ord_t (by omega) h
  obtain ⟨e1, e2⟩ := ck_8 h64 hp hi (by simpa using hr) h0 ho
  rw [e1, e2]
theorem ck_rng {l : List Sn} {i : Nat} (h64 : decide ((l.length : Int) > 64) = false) (hp : ckP l i) (hi : i < l.length) (hr : (!sRng (gSn l i)) = true) : Value.tuple #[.int .i64 (i : Int), .int .i64 2] = .tuple #[.int .i64 (ckI l), .int .i64 (ckE l)] := by
  obtain ⟨e1, e2⟩ := ck_2 h64 hp hi (by simpa using hr)
  rw [e1, e2]
theorem ck_end {l : List Sn} {i : Nat} (h64 : decide ((l.length : Int) > 64) = false) (hp : ckP l i) (hi : i = l.length) : Value.tuple #[.int .i64 (-1), .int .i64 0] = .tuple #[.int .i64 (ckI l), .int .i64 (ckE l)] := by
  subst hi
  obtain ⟨e1, e2⟩ := ck_0 h64 hp
  rw [e1, e2]
theorem lo_st {l : List Sn} {i : Nat} : Value.int IntKind.i64 (bif decide ((gSn l i).z < (gSn l (lowI l i)).z) then (i : Int) else (lowI l i : Int)) = Value.int IntKind.i64 (lowI l (i + 1) : Int) := by
  simp only [lowI]
  by_cases h : (gSn l i).z < (gSn l (lowI l i)).z <;> simp [h]
theorem low_i {l : List Sn} {i : Nat} (h : decide ((i : Int) < (l.length : Int)) = true) : lowI l i < l.length := by
  have := of_decide_eq_true h
  exact low_len (by omega) (by omega)
theorem rng_r (s : Sn) : (!(decide (s.t ≥ 0) && decide (s.t ≤ 4000)) || (!(decide (s.x ≥ -300000) && decide (s.x ≤ 300000)) || (!(decide (s.y ≥ -50000) && decide (s.y ≤ 50000)) || (!(decide (s.z ≥ 0) && decide (s.z ≤ 50000)) || !(decide (s.e ≥ 1) && decide (s.e ≤ 1000)))))) = !sRng s := by
  rw [Bool.eq_iff_iff]
  unfold sRng
  simp
  omega
theorem low_nz {l : List Sn} (h : ((lowI l l.length : Int) == 0) = false) : lowI l l.length < l.length := by
  have h1 : ¬ (lowI l l.length : Int) = 0 := by simpa using h
  have := low_lt l l.length
  omega
theorem buB_c {l : List Sn} (hl : l.length ≤ 9223372036854775807) : buB l = (!(ckE l != 0) && !((lowI l l.length : Int) == 0 || ((lowI l l.length : Int) == IntKind.i64.wrap ((l.length : Int) - 1) || decide ((gSn l (lowI l l.length)).z > 1000)))) := by
  unfold buB
  rw [IntWalk.i64_in _ (show -9223372036854775808 ≤ (l.length : Int) - 1 ∧ (l.length : Int) - 1 ≤ 9223372036854775807 by omega)]
  have e1 : decide (ckE l = 0) = !(ckE l != 0) := by rw [Bool.eq_iff_iff]; simp
  have e2 : decide (lowI l l.length = 0) = ((lowI l l.length : Int) == 0) := by rw [Bool.eq_iff_iff]; simp
  have e3 : decide ((lowI l l.length : Int) = (l.length : Int) - 1) = ((lowI l l.length : Int) == (l.length : Int) - 1) := by rw [Bool.eq_iff_iff]; simp
  rw [e1, e2, e3, Bool.or_assoc]
theorem bu_v1 {l : List Sn} (hl : l.length ≤ 9223372036854775807) (h : (ckE l != 0) = true) : buB l = false := by rw [buB_c hl, h]; rfl
theorem bu_v2 {l : List Sn} (hl : l.length ≤ 9223372036854775807) (h : ((lowI l l.length : Int) == 0 || ((lowI l l.length : Int) == IntKind.i64.wrap ((l.length : Int) - 1) || decide ((gSn l (lowI l l.length)).z > 1000))) = true) : buB l = false := by rw [buB_c hl, h]; simp
theorem bu_v3 {l : List Sn} (hl : l.length ≤ 9223372036854775807) (h0 : (ckE l != 0) = false) (h : ((lowI l l.length : Int) == 0 || ((lowI l l.length : Int) == IntKind.i64.wrap ((l.length : Int) - 1) || decide ((gSn l (lowI l l.length)).z > 1000))) = false) : buB l = true := by rw [buB_c hl, h0, h]; rfl
theorem bu_v4 {l : List Sn} (h : ((l.length : Int) == 0) = true) : buB l = false := by
  have h1 : l.length = 0 := by have : (l.length : Int) = 0 := by simpa using h
                               omega
  unfold buB
  rw [h1]
  simp [lowI]
theorem bu_v5 {l : List Sn} (hl : l.length ≤ 9223372036854775807) (h : (ckE l != 0 || (l.length : Int) == 0) = true) : buB l = false := by
  rw [Bool.or_eq_true] at h
  rcases h with h | h
  · exact bu_v1 hl h
  · exact bu_v4 h
theorem or_f {a b : Bool} (h : (a || b) = false) : a = false ∧ b = false := by revert h; cases a <;> cases b <;> simp
theorem bu_w0 {l : List Sn} (h : buB l = false) : Value.tuple #[.int .i64 0, .bool false] = .tuple #[.int .i64 (buN l : Nat), .bool (buB l)] := by rw [h, bu_0 h]; rfl
theorem bu_w1 {l : List Sn} (h : buB l = true) : Value.tuple #[.int .i64 (lowI l l.length : Nat), .bool true] = .tuple #[.int .i64 (buN l : Nat), .bool (buB l)] := by rw [h, bu_n h]
@[reducible] def ckL (k : Nat) (l : List Sn) : LoopR := ⟨Nat, fun i => [(k, .int .i64 i)], [], fun _ => [], ckP l, fun i => l.length - i, []⟩
@[reducible] def loL (k j : Nat) (l : List Sn) : LoopR := ⟨Nat, fun i => [(k, .int .i64 i), (j, .int .i64 (lowI l i))], [], fun _ => [], fun i => i ≤ l.length, fun i => l.length - i, []⟩

def rwo_h (a b c d e : Int) : Hint := ho 0 5 (ho 1 10 (.perm [] .nil))
theorem rwo_x (a b c d e : Int) : wpG Tryd.prog [] ([]) 400 27 [.agg #[.int .i64 a, .int .i64 b, .int .i64 c, .int .i64 d, .int .i64 e]] (rwo_h a b c d e) ([]) (fun _ => .agg #[.int .i64 a, .int .i64 b, .int .i64 c, .int .i64 d, .int .i64 e]) = (∀ (b_1 b_2 : Nat), e1 b_1 5 (e2 b_2 5 (e1 b_2 5 (Value.agg (Array.mk [.int .i64 a, .int .i64 b, .int .i64 c, .int .i64 d, .int .i64 e]) = Value.agg (Array.mk [.int .i64 a, .int .i64 b, .int .i64 c, .int .i64 d, .int .i64 e]))))) := by kernel_rfl
set_option maxHeartbeats 4000000 in
theorem rwo_sp (a b c d e : Int)  : SpecG Tryd.prog [] ([]) 27 #[.agg #[.int .i64 a, .int .i64 b, .int .i64 c, .int .i64 d, .int .i64 e]] ([]) (fun _ => .agg #[.int .i64 a, .int .i64 b, .int .i64 c, .int .i64 d, .int .i64 e]) := by
  refine specG_of (h := rwo_h a b c d e) (?_ : wpG Tryd.prog [] ([]) 400 27 [.agg #[.int .i64 a, .int .i64 b, .int .i64 c, .int .i64 d, .int .i64 e]] (rwo_h a b c d e) ([]) (fun _ => .agg #[.int .i64 a, .int .i64 b, .int .i64 c, .int .i64 d, .int .i64 e]))
  rw [rwo_x]
  (repeat' (first | with_reducible exact rfl | exact trivial | with_reducible assumption | exact cU_len _ | exact cI_len _ | exact cB_len _ | exact cU_one _ | exact cI_one _ | exact cB_one _ | exact (fun _ h => h) | exact (fun _ h => (List.not_mem_nil h).elim) | (with_reducible refine e1_in ?_) | (with_reducible refine e2_in ?_) | (with_reducible refine lx_in (Nat.le_of_ble_eq_true rfl) ?_) | (with_reducible refine rqx_rf ?_) | (with_reducible refine rqx_in ?_ ?_ ?_) | (with_reducible apply And.intro) | (with_reducible intro _)))
  all_goals (first | rfl | trace_state)
def irg_h (a b c d e : Int) : Hint := ho 0 5 (.rounds 64 (.lit (.pl (.cut [((21 : Nat), .bool (decide (a < 0) || decide (a > 4000)))] (.pl (.ex (0 : Nat) (Value.int .i64 0) (.split (hl 4 (.lit .nil)) (.lit (.lit (.pl (.lit (.ex (1 : Nat) (Value.int .i64 4000) (.lit (.lit .nil)))))))))) (.split (.perm [] .nil) (.lit (.pl (.cut [((21 :
 Nat), .bool (decide (b < (-300000 : Int)) || decide (b > 300000)))] (.pl (.ex (0 : Nat) (Value.int .i64 (-300000 : Int)) (.split (hl 4 (.lit .nil)) (.lit (.lit (.pl (.lit (.ex (1 : Nat) (Value.int .i64 300000) (.lit (.lit .nil)))))))))) (.split (.perm [] .nil) (.lit (.pl (.cut [((21 : Nat), .bool
 (decide (c < (-50000 : Int)) || decide (c > 50000)))] (.pl (.ex (0 : Nat) (Value.int .i64 (-50000 : Int)) (.split (hl 4 (.lit .nil)) (.lit (.lit (.pl (.lit (.ex (1 : Nat) (Value.int .i64 50000) (.lit (.lit .nil)))))))))) (.split (.perm [] .nil) (.lit (.pl (.cut [((21 : Nat), .bool (decide (d < 0) ||
 decide (d > 50000)))] (.pl (.ex (0 : Nat) (Value.int .i64 0) (.split (hl 4 (.lit .nil)) (.lit (.lit (.pl (.lit (.ex (1 : Nat) (Value.int .i64 50000) (.lit (.lit .nil)))))))))) (.split (.perm [] .nil) (.lit (.pl (.cut [((21 : Nat), .bool (decide (e < 1) || decide (e > 1000)))] (.pl (.ex (0 : Nat)
 (Value.int .i64 1) (.split (hl 4 (.lit .nil)) (.lit (.lit (.pl (.lit (.ex (1 : Nat) (Value.int .i64 1000) (.lit (.lit .nil)))))))))) (.split (.perm [] .nil) (.lit (.perm [] .nil)))))))))))))))))))))))
theorem irg_x (a b c d e : Int) : wpG Tryd.prog wE ([]) 400 28 [.agg #[.int .i64 a, .int .i64 b, .int .i64 c, .int .i64 d, .int .i64 e]] (irg_h a b c d e) ([]) (fun _ => .bool (sRng ⟨a, b, c, d, e⟩)) = (∀ (b_1 : Nat), e1 b_1 5 (((0 : Nat) = (0 : Nat) /\ lgo [Value.int .i64 0, .int .i64 (-300000 : Int), .int .i64 (-50000 : Int), .int .i64 0, .int .i64 1] (0 : Nat) = some (Value.int .i64 0) /\ (decide (a < 0) = true -> Value.bool true = Value.bool (decide (a < 0) || decide (a > 4000)) /\ True) /\
 (decide (a < 0) = false -> (1 : Nat) = (1 : Nat) /\ lgo [Value.int .i64 4000, .int .i64 300000, .int .i64 50000, .int .i64 50000, .int .i64 1000] (0 : Nat) = some (Value.int .i64 4000) /\ Value.bool (decide (a > 4000)) = Value.bool (decide (a < 0) || decide (a > 4000)) /\ True)) /\ ∀ (junk : Nat ->
 Value), ((decide (a < 0) || decide (a > 4000)) = true -> Value.bool false = Value.bool (sRng (Sn.mk a b c d e))) /\ ((decide (a < 0) || decide (a > 4000)) = false -> ((0 : Nat) = (0 : Nat) /\ lgo [Value.int .i64 0, .int .i64 (-300000 : Int), .int .i64 (-50000 : Int), .int .i64 0, .int .i64 1] (1 :
 Nat) = some (Value.int .i64 (-300000 : Int)) /\ (decide (b < (-300000 : Int)) = true -> Value.bool true = Value.bool (decide (b < (-300000 : Int)) || decide (b > 300000)) /\ True) /\ (decide (b < (-300000 : Int)) = false -> (1 : Nat) = (1 : Nat) /\ lgo [Value.int .i64 4000, .int .i64 300000, .int
 .i64 50000, .int .i64 50000, .int .i64 1000] (1 : Nat) = some (Value.int .i64 300000) /\ Value.bool (decide (b > 300000)) = Value.bool (decide (b < (-300000 : Int)) || decide (b > 300000)) /\ True)) /\ ∀ (junk : Nat -> Value), ((decide (b < (-300000 : Int)) || decide (b > 300000)) = true ->
 Value.bool false = Value.bool (sRng (Sn.mk a b c d e))) /\ ((decide (b < (-300000 : Int)) || decide (b > 300000)) = false -> ((0 : Nat) = (0 : Nat) /\ lgo [Value.int .i64 0, .int .i64 (-300000 : Int), .int .i64 (-50000 : Int), .int .i64 0, .int .i64 1] (2 : Nat) = some (Value.int .i64 (-50000 :
 Int)) /\ (decide (c < (-50000 : Int)) = true -> Value.bool true = Value.bool (decide (c < (-50000 : Int)) || decide (c > 50000)) /\ True) /\ (decide (c < (-50000 : Int)) = false -> (1 : Nat) = (1 : Nat) /\ lgo [Value.int .i64 4000, .int .i64 300000, .int .i64 50000, .int .i64 50000, .int .i64 1000]
 (2 : Nat) = some (Value.int .i64 50000) /\ Value.bool (decide (c > 50000)) = Value.bool (decide (c < (-50000 : Int)) || decide (c > 50000)) /\ True)) /\ ∀ (junk : Nat -> Value), ((decide (c < (-50000 : Int)) || decide (c > 50000)) = true -> Value.bool false = Value.bool (sRng (Sn.mk a b c d e))) /\
 ((decide (c < (-50000 : Int)) || decide (c > 50000)) = false -> ((0 : Nat) = (0 : Nat) /\ lgo [Value.int .i64 0, .int .i64 (-300000 : Int), .int .i64 (-50000 : Int), .int .i64 0, .int .i64 1] (3 : Nat) = some (Value.int .i64 0) /\ (decide (d < 0) = true -> Value.bool true = Value.bool (decide (d <
 0) || decide (d > 50000)) /\ True) /\ (decide (d < 0) = false -> (1 : Nat) = (1 : Nat) /\ lgo [Value.int .i64 4000, .int .i64 300000, .int .i64 50000, .int .i64 50000, .int .i64 1000] (3 : Nat) = some (Value.int .i64 50000) /\ Value.bool (decide (d > 50000)) = Value.bool (decide (d < 0) || decide (d
 > 50000)) /\ True)) /\ ∀ (junk : Nat -> Value), ((decide (d < 0) || decide (d > 50000)) = true -> Value.bool false = Value.bool (sRng (Sn.mk a b c d e))) /\ ((decide (d < 0) || decide (d > 50000)) = false -> ((0 : Nat) = (0 : Nat) /\ lgo [Value.int .i64 0, .int .i64 (-300000 : Int), .int .i64
 (-50000 : Int), .int .i64 0, .int .i64 1] (4 : Nat) = some (Value.int .i64 1) /\ (decide (e < 1) = true -> Value.bool true = Value.bool (decide (e < 1) || decide (e > 1000)) /\ True) /\ (decide (e < 1) = false -> (1 : Nat) = (1 : Nat) /\ lgo [Value.int .i64 4000, .int .i64 300000, .int .i64 50000,
 .int .i64 50000, .int .i64 1000] (4 : Nat) = some (Value.int .i64 1000) /\ Value.bool (decide (e > 1000)) = Value.bool (decide (e < 1) || decide (e > 1000)) /\ True)) /\ ∀ (junk : Nat -> Value), ((decide (e < 1) || decide (e > 1000)) = true -> Value.bool false = Value.bool (sRng (Sn.mk a b c d e)))
 /\ ((decide (e < 1) || decide (e > 1000)) = false -> Value.bool true = Value.bool (sRng (Sn.mk a b c d e))))))))) := by kernel_rfl
set_option maxHeartbeats 4000000 in
theorem irg_sp (a b c d e : Int)  : SpecG Tryd.prog wE ([]) 28 #[.agg #[.int .i64 a, .int .i64 b, .int .i64 c, .int .i64 d, .int .i64 e]] ([]) (fun _ => .bool (sRng ⟨a, b, c, d, e⟩)) := by
  refine specG_of (h := irg_h a b c d e) (?_ : wpG Tryd.prog wE ([]) 400 28 [.agg #[.int .i64 a, .int .i64 b, .int .i64 c, .int .i64 d, .int .i64 e]] (irg_h a b c d e) ([]) (fun _ => .bool (sRng ⟨a, b, c, d, e⟩)))
  rw [irg_x]
  (repeat' (first | with_reducible exact rfl | exact trivial | with_reducible assumption | exact cU_len _ | exact cI_len _ | exact cB_len _ | exact cU_one _ | exact cI_one _ | exact cB_one _ | exact (fun _ h => h) | exact (fun _ h => (List.not_mem_nil h).elim) | (with_reducible refine e1_in ?_) | (with_reducible refine e2_in ?_) | (with_reducible refine lx_in (Nat.le_of_ble_eq_true rfl) ?_) | (with_reducible refine rqx_rf ?_) | (with_reducible refine rqx_in ?_ ?_ ?_) | (with_reducible apply And.intro) | (with_reducible intro _)))
  all_goals (first | rfl | (simp only [*, Bool.and_true, Bool.true_and, Bool.and_false, Bool.false_and, Bool.or_true, Bool.true_or, Bool.or_false, Bool.false_or, Bool.not_true, Bool.not_false, cond_true, cond_false]; done) | (refine congrArg Value.bool ?_; simp only [*, Bool.true_or, Bool.false_or]; done) | (refine congrArg Value.bool ?_; unfold sRng; (try simp at *); (first | omega | (simp_all; done) | (simp_all; omega))) | trace_state)
def chk_h (a : Option Addr) (c : Nat) (l : List Sn) : Hint := .pl (.split (.perm [] .nil) (.pl (.inv (ckL (11 : Nat) l) fun x0 ↦ .split (.ix (.lst (0 : Nat) (x0 * (5 : Nat)) (Value.int .i64 (Sn.t (gSn l x0))) (.lst (0 : Nat) (x0 * (5 : Nat) + (1 : Nat)) (Value.int .i64 (Sn.x (gSn l x0))) (.lst (0 : Nat) (x0 * (5 : Nat) + (2 : Nat)) (Value.int .i64 (Sn.y (gSn l
 x0))) (.lst (0 : Nat) (x0 * (5 : Nat) + (3 : Nat)) (Value.int .i64 (Sn.z (gSn l x0))) (.lst (0 : Nat) (x0 * (5 : Nat) + (4 : Nat)) (Value.int .i64 (Sn.e (gSn l x0))) (ho 1 10 (.specg [] [] [] [] (fun ads0 x ↦ Value.agg #[Value.int .i64 (Sn.t (gSn l x0)), .int .i64 (Sn.x (gSn l x0)), .int .i64 (Sn.y
 (gSn l x0)), .int .i64 (Sn.z (gSn l x0)), .int .i64 (Sn.e (gSn l x0))]) (.specg wE [] [] [] (fun ads0 x ↦ Value.bool (sRng (gSn l x0))) (.split (.perm [] .nil) (.cut [((33 : Nat), .bool (decide ((↑x0 : Int) > (0 : Int)) && decide (Sn.t (gSn l x0) ≤ Sn.t (gSn l (Int.toNat (IntKind.i64.wrap ((↑x0 :
 Int) - (1 : Int))))))))] (.draw [0, 1] none [0, 1] (.take 0 (.take 1 (.take 2 (.take 3 (.split (.take 4 (.lit (.ob 1 (.take 5 (.lit (.take 6 (.lit (.take 7 (.lit (.take 8 (.lit (.ix (.take 9 (.lit (.take 10 (.lit (.lst (0 : Nat) (Int.toNat (IntKind.i64.wrap ((↑x0 : Int) - (1 : Int))) * (5 : Nat))
 (Value.int .i64 (Sn.t (gSn l (Int.toNat (IntKind.i64.wrap ((↑x0 : Int) - (1 : Int))))))) (.take 11 (.lit (.take 12 (.lit .nil))))))))))))))))))))) (.take 4 (.lit (.take 5 (.lit (.take 6 (.lit (.take 7 (.lit (.take 8 (.lit (.take 9 (.lit (.take 10 (.lit (.take 11 (.lit (.take 12 (.lit
 .nil)))))))))))))))))))))))) (.split (.perm [] .nil) (.perm [] .nil))))))))))))) (.perm [] .nil))))
theorem chk_x (a : Option Addr) (c : Nat) (l : List Sn) : wpG Tryd.prog wE ([(a, cSn l)]) 400 11 [.slice a l.length c] (chk_h a c l) ([]) (fun _ => .tuple #[.int .i64 (ckI l), .int .i64 (ckE l)]) = ((decide ((↑(List.length l) : Int) > (64 : Int)) = true -> Value.tuple (Array.mk [.int .i64 (-1 : Int), .int .i64 9]) = Value.tuple (Array.mk [.int .i64 (ckI l), .int .i64 (ckE l)])) /\ (decide ((↑(List.length l) : Int) > (64 : Int)) = false -> (∃ x, ckP l x /\ Value.int .i64 0 = Value.int .i64 (↑x :
 Int) /\ True) /\ ∀ (x0 : Nat), ckP l x0 -> ∀ (junk : Nat -> Value), (decide ((↑x0 : Int) < (↑(List.length l) : Int)) = true -> (((0 : Int) ≤ (↑x0 : Int) /\ (↑x0 : Int) < (↑(List.length l) : Int)) /\ AOK a (List.length l)) /\ bk a = bk a /\ ofs a + x0 * (5 : Nat) = ofs a + x0 * (5 : Nat) /\ lgo (cSn
 l) (x0 * (5 : Nat)) = some (Value.int .i64 (Sn.t (gSn l x0))) /\ bk a = bk a /\ ofs a + x0 * (5 : Nat) + (1 : Nat) = ofs a + (x0 * (5 : Nat) + (1 : Nat)) /\ lgo (cSn l) (x0 * (5 : Nat) + (1 : Nat)) = some (Value.int .i64 (Sn.x (gSn l x0))) /\ bk a = bk a /\ ofs a + x0 * (5 : Nat) + (2 : Nat) = ofs a
 + (x0 * (5 : Nat) + (2 : Nat)) /\ lgo (cSn l) (x0 * (5 : Nat) + (2 : Nat)) = some (Value.int .i64 (Sn.y (gSn l x0))) /\ bk a = bk a /\ ofs a + x0 * (5 : Nat) + (3 : Nat) = ofs a + (x0 * (5 : Nat) + (3 : Nat)) /\ lgo (cSn l) (x0 * (5 : Nat) + (3 : Nat)) = some (Value.int .i64 (Sn.z (gSn l x0))) /\ bk
 a = bk a /\ ofs a + x0 * (5 : Nat) + (4 : Nat) = ofs a + (x0 * (5 : Nat) + (4 : Nat)) /\ lgo (cSn l) (x0 * (5 : Nat) + (4 : Nat)) = some (Value.int .i64 (Sn.e (gSn l x0))) /\ ∀ (b : Nat), e2 b 5 (e1 b 5 ((SpecG Tryd.prog [] [] (27 : FuncId) #[Value.agg #[Value.int .i64 (Sn.t (gSn l x0)), .int .i64
 (Sn.x (gSn l x0)), .int .i64 (Sn.y (gSn l x0)), .int .i64 (Sn.z (gSn l x0)), .int .i64 (Sn.e (gSn l x0))]] [] fun x ↦ Value.agg #[Value.int .i64 (Sn.t (gSn l x0)), .int .i64 (Sn.x (gSn l x0)), .int .i64 (Sn.y (gSn l x0)), .int .i64 (Sn.z (gSn l x0)), .int .i64 (Sn.e (gSn l x0))]) /\ (∀ (e : Ex), e ∈
 [] -> e ∈ wE) /\ (SpecG Tryd.prog wE [] (28 : FuncId) #[Value.agg #[Value.int .i64 (Sn.t (gSn l x0)), .int .i64 (Sn.x (gSn l x0)), .int .i64 (Sn.y (gSn l x0)), .int .i64 (Sn.z (gSn l x0)), .int .i64 (Sn.e (gSn l x0))]] [] fun x ↦ Value.bool (sRng (gSn l x0))) /\ (∀ (e : Ex), e ∈ wE -> e ∈ wE) /\
 ((!sRng (gSn l x0)) = true -> Value.tuple (Array.mk [.int .i64 (↑x0 : Int), .int .i64 2]) = Value.tuple (Array.mk [.int .i64 (ckI l), .int .i64 (ckE l)])) /\ ((!sRng (gSn l x0)) = false -> ((decide ((↑x0 : Int) > (0 : Int)) = true -> b = b /\ (((0 : Int) ≤ IntKind.i64.wrap ((↑x0 : Int) - (1 : Int))
 /\ IntKind.i64.wrap ((↑x0 : Int) - (1 : Int)) < (↑(List.length l) : Int)) /\ AOK a (List.length l)) /\ bk a = bk a /\ ofs a + Int.toNat (IntKind.i64.wrap ((↑x0 : Int) - (1 : Int))) * (5 : Nat) = ofs a + Int.toNat (IntKind.i64.wrap ((↑x0 : Int) - (1 : Int))) * (5 : Nat) /\ lgo (cSn l) (Int.toNat
 (IntKind.i64.wrap ((↑x0 : Int) - (1 : Int))) * (5 : Nat)) = some (Value.int .i64 (Sn.t (gSn l (Int.toNat (IntKind.i64.wrap ((↑x0 : Int) - (1 : Int))))))) /\ Value.bool (decide (Sn.t (gSn l x0) ≤ Sn.t (gSn l (Int.toNat (IntKind.i64.wrap ((↑x0 : Int) - (1 : Int))))))) = Value.bool (decide ((↑x0 : Int)
 > (0 : Int)) && decide (Sn.t (gSn l x0) ≤ Sn.t (gSn l (Int.toNat (IntKind.i64.wrap ((↑x0 : Int) - (1 : Int))))))) /\ True) /\ (decide ((↑x0 : Int) > (0 : Int)) = false -> Value.bool false = Value.bool (decide ((↑x0 : Int) > (0 : Int)) && decide (Sn.t (gSn l x0) ≤ Sn.t (gSn l (Int.toNat
 (IntKind.i64.wrap ((↑x0 : Int) - (1 : Int))))))) /\ True)) /\ ∀ (junk : Nat -> Value), ((decide ((↑x0 : Int) > (0 : Int)) && decide (Sn.t (gSn l x0) ≤ Sn.t (gSn l (Int.toNat (IntKind.i64.wrap ((↑x0 : Int) - (1 : Int))))))) = true -> Value.tuple (Array.mk [.int .i64 (↑x0 : Int), .int .i64 8]) =
 Value.tuple (Array.mk [.int .i64 (ckI l), .int .i64 (ckE l)])) /\ ((decide ((↑x0 : Int) > (0 : Int)) && decide (Sn.t (gSn l x0) ≤ Sn.t (gSn l (Int.toNat (IntKind.i64.wrap ((↑x0 : Int) - (1 : Int))))))) = false -> ∃ y, ckP l y /\ List.length l - y < List.length l - x0 /\ Value.int .i64
 (IntKind.i64.wrap ((↑x0 : Int) + (1 : Int))) = Value.int .i64 (↑y : Int) /\ True))))) /\ (decide ((↑x0 : Int) < (↑(List.length l) : Int)) = false -> Value.tuple (Array.mk [.int .i64 (-1 : Int), .int .i64 0]) = Value.tuple (Array.mk [.int .i64 (ckI l), .int .i64 (ckE l)])))) := by kernel_rfl
set_option maxHeartbeats 4000000 in
theorem chk_sp (a : Option Addr) (c : Nat) (l : List Sn) (hA : AOK a l.length) (hl : l.length ≤ 9223372036854775807) : SpecG Tryd.prog wE ([(a, cSn l)]) 11 #[.slice a l.length c] ([]) (fun _ => .tuple #[.int .i64 (ckI l), .int .i64 (ckE l)]) := by
  refine specG_of (h := chk_h a c l) (?_ : wpG Tryd.prog wE ([(a, cSn l)]) 400 11 [.slice a l.length c] (chk_h a c l) ([]) (fun _ => .tuple #[.int .i64 (ckI l), .int .i64 (ckE l)]))
  rw [chk_x]
  (repeat' (first | with_reducible exact rfl | exact trivial | with_reducible assumption | (with_reducible exact rwo_sp _ _ _ _ _) | (with_reducible exact irg_sp _ _ _ _ _) | exact cSn_len _ | exact cSn_one _ | exact cU_len _ | exact cI_len _ | exact cB_len _ | exact cU_one _ | exact cI_one _ | exact cB_one _ | exact (fun _ h => h) | exact (fun _ h => (List.not_mem_nil h).elim) | (with_reducible refine e1_in ?_) | (with_reducible refine e2_in ?_) | (with_reducible refine lx_in (Nat.le_of_ble_eq_true rfl) ?_) | (with_reducible refine rqx_rf ?_) | (with_reducible refine rqx_in ?_ ?_ ?_) | (with_reducible apply And.intro) | (with_reducible intro _)))
  all_goals (try simp only [Int.toNat_natCast] at *)
  all_goals (try (first | exact ⟨0, ckP_0 _, rfl, trivial⟩ | (simp only [*, Bool.and_true, Bool.true_and, Bool.and_false, Bool.false_and, Bool.or_true, Bool.true_or, Bool.or_false, Bool.false_or, Bool.not_true, Bool.not_false, cond_true, cond_false]; done)))
  all_goals (try simp only [rng_r] at *)
  all_goals (try (first | (have hi := lt_s ‹_›; first | omega | exact hA | exact cSn_get0 hi | exact cSn_get1 hi | exact cSn_get2 hi | exact cSn_get3 hi | exact cSn_get4 hi)))
  all_goals (first
    | (exact tu_s (ck_9 ‹_›).1.symm (ck_9 ‹_›).2.symm)
    | (have hx := ‹ckP l _›; have hi := lt_s ‹_›; first | exact ck_rng ‹_› hx hi ‹_› | exact ck_ord hl ‹_› hx hi ‹_› ‹_› | exact ⟨_, ck_next hl hx hi ‹_› ‹_›, (by show _ - (_ + 1) < _; omega), wr_s (by omega), trivial⟩)
    | (have hx := ‹ckP l _›; exact ck_end ‹_› hx (ge_s ‹_› hx.1))
    | (have hx := ‹ckP l _›; have hi := lt_s ‹_›; have h0 := of_decide_eq_true ‹decide ((_ : Int) > 0) = true›; first | omega | (rw [wm_n (by omega) (by omega)]; omega) | (rw [wm_t (by omega) ‹_›]; exact cSn_get0 (by omega)))
    | trace_state)
def low_h (a : Option Addr) (c : Nat) (l : List Sn) : Hint := .pl (.inv (loL (8 : Nat) (3 : Nat) l) fun x0 ↦ .split (.ix (.lst (0 : Nat) (x0 * (5 : Nat)) (Value.int .i64 (Sn.t (gSn l x0))) (.lst (0 : Nat) (x0 * (5 : Nat) + (1 : Nat)) (Value.int .i64 (Sn.x (gSn l x0))) (.lst (0 : Nat) (x0 * (5 : Nat) + (2 : Nat)) (Value.int .i64 (Sn.y (gSn l x0))) (.lst (0 :
 Nat) (x0 * (5 : Nat) + (3 : Nat)) (Value.int .i64 (Sn.z (gSn l x0))) (.lst (0 : Nat) (x0 * (5 : Nat) + (4 : Nat)) (Value.int .i64 (Sn.e (gSn l x0))) (ho 1 5 (.draw [0, 1] none [0, 1] (.take 0 (.take 1 (.ob 1 (.take 2 (.take 3 (.take 4 (.ix (.take 5 (.take 6 (.lst (0 : Nat) (Int.toNat (↑(lowI l x0) :
 Int) * (5 : Nat) + (3 : Nat)) (Value.int .i64 (Sn.z (gSn l (Int.toNat (↑(lowI l x0) : Int))))) (.take 7 (.cut [((3 : Nat), .int .i64 (bif decide (Sn.z (gSn l x0) < Sn.z (gSn l (Int.toNat (↑(lowI l x0) : Int)))) then (↑x0 : Int) else (↑(lowI l x0) : Int)))] (.split .nil .nil) (.perm []
 .nil))))))))))))))))))))) (.perm [] .nil))
theorem low_x (a : Option Addr) (c : Nat) (l : List Sn) : wpG Tryd.prog wE ([(a, cSn l)]) 400 30 [.slice a l.length c] (low_h a c l) ([]) (fun _ => .int .i64 (lowI l l.length : Nat)) = ((∃ x, x ≤ List.length l /\ Value.int .i64 0 = Value.int .i64 (↑x : Int) /\ Value.int .i64 0 = Value.int .i64 (↑(lowI l x) : Int) /\ True) /\ ∀ (x0 : Nat), x0 ≤ List.length l -> ∀ (junk : Nat -> Value), (decide ((↑x0 : Int) < (↑(List.length l) : Int)) = true -> (((0 : Int) ≤ (↑x0 : Int) /\ (↑x0 : Int)
 < (↑(List.length l) : Int)) /\ AOK a (List.length l)) /\ bk a = bk a /\ ofs a + x0 * (5 : Nat) = ofs a + x0 * (5 : Nat) /\ lgo (cSn l) (x0 * (5 : Nat)) = some (Value.int .i64 (Sn.t (gSn l x0))) /\ bk a = bk a /\ ofs a + x0 * (5 : Nat) + (1 : Nat) = ofs a + (x0 * (5 : Nat) + (1 : Nat)) /\ lgo (cSn l)
 (x0 * (5 : Nat) + (1 : Nat)) = some (Value.int .i64 (Sn.x (gSn l x0))) /\ bk a = bk a /\ ofs a + x0 * (5 : Nat) + (2 : Nat) = ofs a + (x0 * (5 : Nat) + (2 : Nat)) /\ lgo (cSn l) (x0 * (5 : Nat) + (2 : Nat)) = some (Value.int .i64 (Sn.y (gSn l x0))) /\ bk a = bk a /\ ofs a + x0 * (5 : Nat) + (3 :
 Nat) = ofs a + (x0 * (5 : Nat) + (3 : Nat)) /\ lgo (cSn l) (x0 * (5 : Nat) + (3 : Nat)) = some (Value.int .i64 (Sn.z (gSn l x0))) /\ bk a = bk a /\ ofs a + x0 * (5 : Nat) + (4 : Nat) = ofs a + (x0 * (5 : Nat) + (4 : Nat)) /\ lgo (cSn l) (x0 * (5 : Nat) + (4 : Nat)) = some (Value.int .i64 (Sn.e (gSn
 l x0))) /\ ∀ (b : Nat), e2 b 5 (b = b /\ (((0 : Int) ≤ (↑(lowI l x0) : Int) /\ (↑(lowI l x0) : Int) < (↑(List.length l) : Int)) /\ AOK a (List.length l)) /\ bk a = bk a /\ ofs a + Int.toNat (↑(lowI l x0) : Int) * (5 : Nat) + (3 : Nat) = ofs a + (Int.toNat (↑(lowI l x0) : Int) * (5 : Nat) + (3 :
 Nat)) /\ lgo (cSn l) (Int.toNat (↑(lowI l x0) : Int) * (5 : Nat) + (3 : Nat)) = some (Value.int .i64 (Sn.z (gSn l (Int.toNat (↑(lowI l x0) : Int))))) /\ ((decide (Sn.z (gSn l x0) < Sn.z (gSn l (Int.toNat (↑(lowI l x0) : Int)))) = true -> Value.int .i64 (↑x0 : Int) = Value.int .i64 (bif decide (Sn.z
 (gSn l x0) < Sn.z (gSn l (Int.toNat (↑(lowI l x0) : Int)))) then (↑x0 : Int) else (↑(lowI l x0) : Int)) /\ True) /\ (decide (Sn.z (gSn l x0) < Sn.z (gSn l (Int.toNat (↑(lowI l x0) : Int)))) = false -> Value.int .i64 (↑(lowI l x0) : Int) = Value.int .i64 (bif decide (Sn.z (gSn l x0) < Sn.z (gSn l
 (Int.toNat (↑(lowI l x0) : Int)))) then (↑x0 : Int) else (↑(lowI l x0) : Int)) /\ True)) /\ ∀ (junk : Nat -> Value), ∃ y, y ≤ List.length l /\ List.length l - y < List.length l - x0 /\ Value.int .i64 (IntKind.i64.wrap ((↑x0 : Int) + (1 : Int))) = Value.int .i64 (↑y : Int) /\ Value.int .i64 (bif
 decide (Sn.z (gSn l x0) < Sn.z (gSn l (Int.toNat (↑(lowI l x0) : Int)))) then (↑x0 : Int) else (↑(lowI l x0) : Int)) = Value.int .i64 (↑(lowI l y) : Int) /\ True)) /\ (decide ((↑x0 : Int) < (↑(List.length l) : Int)) = false -> Value.int .i64 (↑(lowI l x0) : Int) = Value.int .i64 (↑(lowI l
 (List.length l)) : Int))) := by kernel_rfl
set_option maxHeartbeats 4000000 in
theorem low_sp (a : Option Addr) (c : Nat) (l : List Sn) (hA : AOK a l.length) (hl : l.length ≤ 9223372036854775807) : SpecG Tryd.prog wE ([(a, cSn l)]) 30 #[.slice a l.length c] ([]) (fun _ => .int .i64 (lowI l l.length : Nat)) := by
  refine specG_of (h := low_h a c l) (?_ : wpG Tryd.prog wE ([(a, cSn l)]) 400 30 [.slice a l.length c] (low_h a c l) ([]) (fun _ => .int .i64 (lowI l l.length : Nat)))
  rw [low_x]
  (repeat' (first | with_reducible exact rfl | exact trivial | with_reducible assumption | exact cSn_len _ | exact cSn_one _ | exact cU_len _ | exact cI_len _ | exact cB_len _ | exact cU_one _ | exact cI_one _ | exact cB_one _ | exact (fun _ h => h) | exact (fun _ h => (List.not_mem_nil h).elim) | (with_reducible refine e1_in ?_) | (with_reducible refine e2_in ?_) | (with_reducible refine lx_in (Nat.le_of_ble_eq_true rfl) ?_) | (with_reducible refine rqx_rf ?_) | (with_reducible refine rqx_in ?_ ?_ ?_) | (with_reducible apply And.intro) | (with_reducible intro _)))
  all_goals (try simp only [Int.toNat_natCast] at *)
  all_goals (try (first | exact ⟨0, Nat.zero_le _, rfl, rfl, trivial⟩ | (simp only [*, Bool.and_true, Bool.true_and, Bool.and_false, Bool.false_and, Bool.or_true, Bool.true_or, Bool.or_false, Bool.false_or, Bool.not_true, Bool.not_false, cond_true, cond_false]; done)))
  all_goals (try (first | (have hi := lt_s ‹_›; first | omega | exact hA | exact cSn_get0 hi | exact cSn_get1 hi | exact cSn_get2 hi | exact cSn_get3 hi | exact cSn_get4 hi)))
  all_goals (first
    | (have hi := lt_s ‹_›; exact ⟨_ + 1, (show _ + 1 ≤ _ by omega), (by show _ - (_ + 1) < _; omega), wr_s (by omega), lo_st, trivial⟩)
    | (have e := ge_s ‹_› ‹_›; rw [e])
    | (have hj := low_i ‹_›; first | omega | exact cSn_get3 hj)
    | trace_state)
def bou_h (a : Option Addr) (c : Nat) (l : List Sn) : Hint := .specg wE [0] [cSn l] [] (fun ads0 x ↦ Value.tuple #[Value.int .i64 (ckI l), .int .i64 (ckE l)]) (.pl (.split (.perm [] .nil) (.specg wE [0] [cSn l] [] (fun ads0 x ↦ Value.int .i64 (↑(lowI l (List.length l)) : Int)) (.cut [((32 : Nat), .bool ((↑(lowI l (List.length l)) : Int) == (0 : Int) || ((↑(lowI
 l (List.length l)) : Int) == IntKind.i64.wrap ((↑(List.length l) : Int) - (1 : Int)) || decide (Sn.z (gSn l (Int.toNat (↑(lowI l (List.length l)) : Int))) > 1000))))] (.pl (.split (hl 11 (.lit .nil)) (.lit (.lit (.pl (.lit (.lit (.pl (.lit (.split (hl 5 (.lit .nil)) (.lit (.lit (.ix (.lit (.lit
 (.lst (0 : Nat) (Int.toNat (↑(lowI l (List.length l)) : Int) * (5 : Nat) + (3 : Nat)) (Value.int .i64 (Sn.z (gSn l (Int.toNat (↑(lowI l (List.length l)) : Int))))) (.lit (.lit .nil)))))))))))))))))) (.split (.perm [] .nil) (.perm [] .nil))))))
theorem bou_x (a : Option Addr) (c : Nat) (l : List Sn) : wpG Tryd.prog wE ([(a, cSn l)]) 400 13 [.slice a l.length c] (bou_h a c l) ([]) (fun _ => .tuple #[.int .i64 (buN l : Nat), .bool (buB l)]) = (cSn l = cSn l /\ (SpecG Tryd.prog wE [(a, cSn l)] (11 : FuncId) #[Value.slice a (List.length l) c] [] fun x ↦ Value.tuple #[Value.int .i64 (ckI l), .int .i64 (ckE l)]) /\ (∀ (e : Ex), e ∈ wE -> e ∈ wE) /\ ((ckE l != 0) = true -> Value.tuple (Array.mk [.int .i64 0, .bool false]) = Value.tuple (Array.mk
 [.int .i64 (↑(buN l) : Int), .bool (buB l)])) /\ ((ckE l != 0) = false -> cSn l = cSn l /\ (SpecG Tryd.prog wE [(a, cSn l)] (30 : FuncId) #[Value.slice a (List.length l) c] [] fun x ↦ Value.int .i64 (↑(lowI l (List.length l)) : Int)) /\ (∀ (e : Ex), e ∈ wE -> e ∈ wE) /\ ((((↑(lowI l (List.length l))
 : Int) == (0 : Int)) = true -> Value.bool true = Value.bool ((↑(lowI l (List.length l)) : Int) == (0 : Int) || ((↑(lowI l (List.length l)) : Int) == IntKind.i64.wrap ((↑(List.length l) : Int) - (1 : Int)) || decide (Sn.z (gSn l (Int.toNat (↑(lowI l (List.length l)) : Int))) > 1000))) /\ True) /\
 (((↑(lowI l (List.length l)) : Int) == (0 : Int)) = false -> (((↑(lowI l (List.length l)) : Int) == IntKind.i64.wrap ((↑(List.length l) : Int) - (1 : Int))) = true -> Value.bool true = Value.bool ((↑(lowI l (List.length l)) : Int) == (0 : Int) || ((↑(lowI l (List.length l)) : Int) ==
 IntKind.i64.wrap ((↑(List.length l) : Int) - (1 : Int)) || decide (Sn.z (gSn l (Int.toNat (↑(lowI l (List.length l)) : Int))) > 1000))) /\ True) /\ (((↑(lowI l (List.length l)) : Int) == IntKind.i64.wrap ((↑(List.length l) : Int) - (1 : Int))) = false -> (((0 : Int) ≤ (↑(lowI l (List.length l)) :
 Int) /\ (↑(lowI l (List.length l)) : Int) < (↑(List.length l) : Int)) /\ AOK a (List.length l)) /\ bk a = bk a /\ ofs a + Int.toNat (↑(lowI l (List.length l)) : Int) * (5 : Nat) + (3 : Nat) = ofs a + (Int.toNat (↑(lowI l (List.length l)) : Int) * (5 : Nat) + (3 : Nat)) /\ lgo (cSn l) (Int.toNat
 (↑(lowI l (List.length l)) : Int) * (5 : Nat) + (3 : Nat)) = some (Value.int .i64 (Sn.z (gSn l (Int.toNat (↑(lowI l (List.length l)) : Int))))) /\ Value.bool (decide (Sn.z (gSn l (Int.toNat (↑(lowI l (List.length l)) : Int))) > 1000)) = Value.bool ((↑(lowI l (List.length l)) : Int) == (0 : Int) ||
 ((↑(lowI l (List.length l)) : Int) == IntKind.i64.wrap ((↑(List.length l) : Int) - (1 : Int)) || decide (Sn.z (gSn l (Int.toNat (↑(lowI l (List.length l)) : Int))) > 1000))) /\ True))) /\ ∀ (junk : Nat -> Value), (((↑(lowI l (List.length l)) : Int) == (0 : Int) || ((↑(lowI l (List.length l)) : Int)
 == IntKind.i64.wrap ((↑(List.length l) : Int) - (1 : Int)) || decide (Sn.z (gSn l (Int.toNat (↑(lowI l (List.length l)) : Int))) > 1000))) = true -> Value.tuple (Array.mk [.int .i64 0, .bool false]) = Value.tuple (Array.mk [.int .i64 (↑(buN l) : Int), .bool (buB l)])) /\ (((↑(lowI l (List.length l))
 : Int) == (0 : Int) || ((↑(lowI l (List.length l)) : Int) == IntKind.i64.wrap ((↑(List.length l) : Int) - (1 : Int)) || decide (Sn.z (gSn l (Int.toNat (↑(lowI l (List.length l)) : Int))) > 1000))) = false -> Value.tuple (Array.mk [.int .i64 (↑(lowI l (List.length l)) : Int), .bool true]) =
 Value.tuple (Array.mk [.int .i64 (↑(buN l) : Int), .bool (buB l)])))) := by kernel_rfl
set_option maxHeartbeats 4000000 in
theorem bou_sp (a : Option Addr) (c : Nat) (l : List Sn) (hA : AOK a l.length) (hl : l.length ≤ 9223372036854775807) : SpecG Tryd.prog wE ([(a, cSn l)]) 13 #[.slice a l.length c] ([]) (fun _ => .tuple #[.int .i64 (buN l : Nat), .bool (buB l)]) := by
  refine specG_of (h := bou_h a c l) (?_ : wpG Tryd.prog wE ([(a, cSn l)]) 400 13 [.slice a l.length c] (bou_h a c l) ([]) (fun _ => .tuple #[.int .i64 (buN l : Nat), .bool (buB l)]))
  rw [bou_x]
  (repeat' (first | with_reducible exact rfl | exact trivial | with_reducible assumption | (with_reducible exact chk_sp _ _ _ hA hl) | (with_reducible exact low_sp _ _ _ hA hl) | exact cSn_len _ | exact cSn_one _ | exact cU_len _ | exact cI_len _ | exact cB_len _ | exact cU_one _ | exact cI_one _ | exact cB_one _ | exact (fun _ h => h) | exact (fun _ h => (List.not_mem_nil h).elim) | (with_reducible refine e1_in ?_) | (with_reducible refine e2_in ?_) | (with_reducible refine lx_in (Nat.le_of_ble_eq_true rfl) ?_) | (with_reducible refine rqx_rf ?_) | (with_reducible refine rqx_in ?_ ?_ ?_) | (with_reducible apply And.intro) | (with_reducible intro _)))
  all_goals (try simp only [Int.toNat_natCast] at *)
  all_goals (try (first | exact ⟨0, Nat.zero_le _, rfl, rfl, trivial⟩ | (simp only [*, Bool.and_true, Bool.true_and, Bool.and_false, Bool.false_and, Bool.or_true, Bool.true_or, Bool.or_false, Bool.false_or, Bool.not_true, Bool.not_false, cond_true, cond_false]; done)))
  all_goals (try (have e := ge_s ‹decide ((_ : Int) < (l.length : Int)) = false› ‹_ ≤ l.length›; subst e))
  all_goals (try (first | (have hi := lt_s ‹_›; first | omega | exact hA | exact cSn_get0 hi | exact cSn_get1 hi | exact cSn_get2 hi | exact cSn_get3 hi | exact cSn_get4 hi)))
  all_goals (first
    | (have hi := lt_s ‹_›; exact ⟨_ + 1, (show _ + 1 ≤ _ by omega), (by show _ - (_ + 1) < _; omega), wr_s (by omega), lo_st, trivial⟩)
    | (have hj := low_i ‹_›; first | omega | exact cSn_get3 hj)
    | (have hj := low_nz ‹_›; first | omega | exact cSn_get3 hj)
    | (exact bu_w0 (bu_v1 hl ‹_›))
    | (exact bu_w0 (bu_v2 hl ‹_›))
    | (exact bu_w1 (bu_v3 hl ‹_› ‹_›))
    | (exact bu_w0 (bu_v5 hl ‹_›))
    | (exact bu_w1 (bu_v3 hl (or_f ‹(ckE l != 0 || _) = false›).1 ‹_›))
    | trace_state)

/-- An address within a list. -/
def subA (a : Option Addr) (k : Nat) : Option Addr := some ⟨bk a, ofs a + k * 5, none⟩
theorem aok_sub (a : Option Addr) (k n : Nat) : AOK (subA a k) n := ⟨(fun e => by cases e), (fun _ q hq => by injection hq with hq; subst hq; rfl)⟩
theorem cSn_drop (l : List Sn) (k : Nat) : cSn (l.drop k) = (cSn l).drop (k * 5) := by
  induction k generalizing l with
  | zero => simp
  | succ k ih =>
    cases l with
    | nil => simp [cSn]
    | cons p l =>
      rw [List.drop_succ_cons, ih]
      have e : cSn (p :: l) = [.int .i64 p.t, .int .i64 p.x, .int .i64 p.y, .int .i64 p.z, .int .i64 p.e] ++ cSn l := rfl
      rw [e, List.drop_append]
      have h1 : ([Value.int .i64 p.t, .int .i64 p.x, .int .i64 p.y, .int .i64 p.z, .int .i64 p.e] : List Value).drop ((k + 1) * 5) = [] := List.drop_eq_nil_of_le (by simp; omega)
      have h2 : (k + 1) * 5 - ([Value.int .i64 p.t, .int .i64 p.x, .int .i64 p.y, .int .i64 p.z, .int .i64 p.e] : List Value).length = k * 5 := by simp; omega
      rw [h1, h2]; rfl
theorem rd_sub {w : World} {a : Option Addr} {l : List Sn} (h : Rd w a (cSn l)) (k : Nat) : Rd w (subA a k) (cSn (l.drop k)) := by
  intro j v hv
  rw [cSn_drop, List.getElem?_drop] at hv
  have := h _ _ hv
  show w.cell? ⟨bk a, ofs a + k * 5 + j, none⟩ = some v
  rw [Nat.add_assoc]
  exact this
theorem nil_of {l : List Sn} (h : l.length = 0) : l = [] := by cases l with
  | nil => rfl
  | cons p l => simp at h


theorem specG_sub {P : Program} {E : List Ex} {f : FuncId} {args : Array Value} {rows : List RowT} {v : List (Option Addr × Nat) → Value} {a b : Option Addr} {xs ys : List Value} (h : SpecG P E [(a, xs), (b, ys)] f args rows v) (hr : ∀ w, Rd w a xs → Rd w b ys) : SpecG P E [(a, xs)] f args rows v := by
  intro w hE hw
  refine h w hE fun a' xs' hm => ?_
  have h1 := hw a xs (List.mem_singleton.2 rfl)
  rcases List.mem_cons.1 hm with e | e
  · injection e with e1 e2
    subst e1 e2
    exact h1
  · rw [List.mem_singleton] at e
    injection e with e1 e2
    subst e1 e2
    exact hr w h1
def subE (a : Option Addr) (c : Nat) : Option Addr := if c = 0 then a else Option.map (fun x => x) a
theorem subE_eq (a : Option Addr) (c : Nat) : subE a c = a := by unfold subE; split <;> simp
theorem buN_0 : buN [] = 0 := by have := buN_le []; simp at this; exact this
theorem bhS_0 : bhS [] = [] := by unfold bhS; simp

def bhx_h (a : Option Addr) (c : Nat) (l : List Sn) : Hint := .specg wE [0] [cSn l] [] (fun ads0 x ↦ Value.tuple #[Value.int .i64 (ckI l), .int .i64 (ckE l)]) (.pl (.known true (.perm [] .nil)))
theorem bhx_x (a : Option Addr) (c : Nat) (l : List Sn) : wpG Tryd.prog wE ([(a, cSn l)]) 400 16 [.slice a l.length c] (bhx_h a c l) ([]) (fun _ => .slice none 0 0) = (cSn l = cSn l /\ (SpecG Tryd.prog wE [(a, cSn l)] (11 : FuncId) #[Value.slice a (List.length l) c] [] fun x ↦ Value.tuple #[Value.int .i64 (ckI l), .int .i64 (ckE l)]) /\ (∀ (e : Ex), e ∈ wE -> e ∈ wE) /\ (ckE l != 0) = true /\ Value.slice none (0 : Nat) (0 : Nat) = Value.slice none (0 : Nat) (0 :
 Nat)) := by kernel_rfl
set_option maxHeartbeats 4000000 in
theorem bhx_sp (a : Option Addr) (c : Nat) (l : List Sn) (hA : AOK a l.length) (hl : l.length ≤ 9223372036854775807) (he : (ckE l != 0) = true) : SpecG Tryd.prog wE ([(a, cSn l)]) 16 #[.slice a l.length c] ([]) (fun _ => .slice none 0 0) := by
  refine specG_of (h := bhx_h a c l) (?_ : wpG Tryd.prog wE ([(a, cSn l)]) 400 16 [.slice a l.length c] (bhx_h a c l) ([]) (fun _ => .slice none 0 0))
  rw [bhx_x]
  (repeat' (first | with_reducible exact rfl | exact trivial | with_reducible assumption | (with_reducible exact chk_sp _ _ _ hA hl) | (with_reducible exact bou_sp _ _ _ hA hl) | exact cSn_len _ | exact cSn_one _ | exact cU_len _ | exact cI_len _ | exact cB_len _ | exact cU_one _ | exact cI_one _ | exact cB_one _ | exact (fun _ h => h) | exact (fun _ h => (List.not_mem_nil h).elim) | (with_reducible refine e1_in ?_) | (with_reducible refine e2_in ?_) | (with_reducible refine lx_in (Nat.le_of_ble_eq_true rfl) ?_) | (with_reducible refine rqx_rf ?_) | (with_reducible refine rqx_in ?_ ?_ ?_) | (with_reducible apply And.intro) | (with_reducible intro _)))
  all_goals (first | rfl | (simp only [*, Bool.and_true, Bool.true_and, Bool.and_false, Bool.false_and, Bool.or_true, Bool.true_or, Bool.or_false, Bool.false_or, Bool.not_true, Bool.not_false, cond_true, cond_false]; done) | trace_state)
def bhn_h (a : Option Addr) (c : Nat) (l : List Sn) : Hint := .specg wE [0] [cSn l] [] (fun ads0 x ↦ Value.tuple #[Value.int .i64 (ckI l), .int .i64 (ckE l)]) (.pl (.known false (.specg wE [0] [cSn l] [] (fun ads0 x ↦ Value.tuple #[Value.int .i64 (↑(buN l) : Int), .bool (buB l)]) (.ix (.apl (2 : Nat) (1 : Nat) (cSn (bhS l)) (.perm [2] .nil))))))
theorem bhn_x (a : Option Addr) (c : Nat) (l : List Sn) : wpG Tryd.prog wE ([(a, cSn l), (subA a ((buN l : Nat) : Int).toNat, cSn (bhS l))]) 400 16 [.slice a l.length c] (bhn_h a c l) ([⟨33, 5, l.length - ((buN l : Nat) : Int).toNat, cSn (bhS l)⟩]) (fun ads => .slice (nthS ads 0).1 (l.length - ((buN l : Nat) : Int).toNat) (nthS ads 0).2) = (cSn l = cSn l /\ (SpecG Tryd.prog wE [(a, cSn l)] (11 : FuncId) #[Value.slice a (List.length l) c] [] fun x ↦ Value.tuple #[Value.int .i64 (ckI l), .int .i64 (ckE l)]) /\ (∀ (e : Ex), e ∈ wE -> e ∈ wE) /\ (ckE l != 0) = false /\ cSn l = cSn l /\ (SpecG Tryd.prog wE [(a, cSn l)] (13 : FuncId)
 #[Value.slice a (List.length l) c] [] fun x ↦ Value.tuple #[Value.int .i64 (↑(buN l) : Int), .bool (buB l)]) /\ (∀ (e : Ex), e ∈ wE -> e ∈ wE) /\ ∀ (b : Nat), (((0 : Int) ≤ (↑(buN l) : Int) /\ (↑(buN l) : Int) < (↑(List.length l) : Int)) /\ List.length l ≤ c /\ AOK a (List.length l)) /\ some
 (Addr.mk (bk a) (ofs a + Int.toNat (↑(buN l) : Int) * (5 : Nat)) none) = some (Addr.mk (bk a) (ofs a + Int.toNat (↑(buN l) : Int) * (5 : Nat)) none) /\ AOK (some (Addr.mk (bk a) (ofs a + Int.toNat (↑(buN l) : Int) * (5 : Nat)) none)) (List.length l - Int.toNat (↑(buN l) : Int)) /\ List.length (cSn
 (bhS l)) = (List.length l - Int.toNat (↑(buN l) : Int)) * (5 : Nat) /\ (∀ (u : Value), u ∈ Ob.cells (Ob.mk (0 : Nat) (Prod.snd (subA a (Int.toNat (↑(buN l) : Int)), cSn (bhS l))) (0 : TypeId) (some (Ow.mk (Prod.fst (subA a (Int.toNat (↑(buN l) : Int)), cSn (bhS l))) (0 : Nat) (0 : Nat) (0 : Nat))))
 -> Value.oneCell' u = true) /\ ((0 : Nat) + (List.length l - Int.toNat (↑(buN l) : Int))) * (41 : Nat) ≤ (140737488355328 : Nat) /\ cSn (bhS l) = cSn (bhS l) /\ some (Addr.mk b (0 : Nat) none) = some (Addr.mk b (0 : Nat) none) /\ ∀ (a' : Option Addr) (cap : Nat), AOK a' (List.length l - Int.toNat
 (↑(buN l) : Int)) -> (33 : Nat) = (33 : Nat) /\ (5 : Nat) = (5 : Nat) /\ List.length l - Int.toNat (↑(buN l) : Int) = List.length l - Int.toNat (↑(buN l) : Int) /\ cSn (bhS l) = cSn (bhS l) /\ Value.slice a' (List.length l - Int.toNat (↑(buN l) : Int)) cap = Value.slice a' (List.length l - Int.toNat
 (↑(buN l) : Int)) cap) := by kernel_rfl
set_option maxHeartbeats 4000000 in
theorem bhn_sp (a : Option Addr) (c : Nat) (l : List Sn) (hA : AOK a l.length) (hl : l.length ≤ 9223372036854775807) (he : (ckE l != 0) = false) (hn : 0 < l.length) (hc : l.length ≤ c) : SpecG Tryd.prog wE ([(a, cSn l), (subA a ((buN l : Nat) : Int).toNat, cSn (bhS l))]) 16 #[.slice a l.length c] ([⟨33, 5, l.length - ((buN l : Nat) : Int).toNat, cSn (bhS l)⟩]) (fun ads => .slice (nthS ads 0).1 (l.length - ((buN l : Nat) : Int).toNat) (nthS ads 0).2) := by
  refine specG_of (h := bhn_h a c l) (?_ : wpG Tryd.prog wE ([(a, cSn l), (subA a ((buN l : Nat) : Int).toNat, cSn (bhS l))]) 400 16 [.slice a l.length c] (bhn_h a c l) ([⟨33, 5, l.length - ((buN l : Nat) : Int).toNat, cSn (bhS l)⟩]) (fun ads => .slice (nthS ads 0).1 (l.length - ((buN l : Nat) : Int).toNat) (nthS ads 0).2))
  rw [bhn_x]
  (repeat' (first | with_reducible exact rfl | exact trivial | with_reducible assumption | (with_reducible exact chk_sp _ _ _ hA hl) | (with_reducible exact bou_sp _ _ _ hA hl) | exact cSn_len _ | exact cSn_one _ | exact cU_len _ | exact cI_len _ | exact cB_len _ | exact cU_one _ | exact cI_one _ | exact cB_one _ | exact (fun _ h => h) | exact (fun _ h => (List.not_mem_nil h).elim) | (with_reducible refine e1_in ?_) | (with_reducible refine e2_in ?_) | (with_reducible refine lx_in (Nat.le_of_ble_eq_true rfl) ?_) | (with_reducible refine rqx_rf ?_) | (with_reducible refine rqx_in ?_ ?_ ?_) | (with_reducible apply And.intro) | (with_reducible intro _)))
  all_goals (first | rfl | (simp only [*, Bool.and_true, Bool.true_and, Bool.and_false, Bool.false_and, Bool.or_true, Bool.true_or, Bool.or_false, Bool.false_or, Bool.not_true, Bool.not_false, cond_true, cond_false]; done) | (have := buN_le l; omega) | exact aok_sub _ _ _ | exact hA | exact hc | (rw [cSn_len, bh_len]; rfl) | (have h64 := (ckE_0 (by simpa using he)).1; omega) | trace_state)
def bhe_h (a : Option Addr) (c : Nat) : Hint := .specg wE [0] [cSn []] [] (fun ads0 x ↦ Value.tuple #[Value.int .i64 (ckI []), .int .i64 (ckE [])]) (.pl (.lit (.specg wE [0] [cSn []] [] (fun ads0 x ↦ Value.tuple #[Value.int .i64 (↑(buN []) : Int), .bool (buB [])]) (.pl (.apl (2 : Nat) (1 : Nat) (cSn []) (.perm [2] .nil))))))
theorem bhe_x (a : Option Addr) (c : Nat) : wpG Tryd.prog wE ([(a, cSn []), (subE a c, cSn [])]) 400 16 [.slice a 0 c] (bhe_h a c) ([⟨33, 5, 0, cSn []⟩]) (fun ads => .slice (nthS ads 0).1 0 (nthS ads 0).2) = (cSn [] = cSn [] /\ (SpecG Tryd.prog wE [(a, cSn [])] (11 : FuncId) #[Value.slice a (List.length ([] : List Int)) c] [] fun x ↦ Value.tuple #[Value.int .i64 (ckI []), .int .i64 (ckE [])]) /\ (∀ (e : Ex), e ∈ wE -> e ∈ wE) /\ cSn [] = cSn [] /\ (SpecG Tryd.prog wE [(a, cSn [])] (13 : FuncId)
 #[Value.slice a (List.length ([] : List Int)) c] [] fun x ↦ Value.tuple #[Value.int .i64 (↑(buN []) : Int), .bool (buB [])]) /\ (∀ (e : Ex), e ∈ wE -> e ∈ wE) /\ ∀ (b : Nat), ((if c = (0 : Nat) then a else Option.map (fun x => x) a) = if c = (0 : Nat) then a else Option.map (fun x => x) a) /\ AOK
 (if c = (0 : Nat) then a else Option.map (fun x => x) a) (0 : Nat) /\ List.length (cSn []) = (0 : Nat) /\ (∀ (u : Value), u ∈ Ob.cells (Ob.mk (0 : Nat) (Prod.snd (subE a c, cSn [])) (0 : TypeId) (some (Ow.mk (Prod.fst (subE a c, cSn [])) (0 : Nat) (0 : Nat) (0 : Nat)))) -> Value.oneCell' u = true)
 /\ (0 : Nat) ≤ (140737488355328 : Nat) /\ cSn [] = cSn [] /\ some (Addr.mk b (0 : Nat) none) = some (Addr.mk b (0 : Nat) none) /\ ∀ (a' : Option Addr) (cap : Nat), AOK a' (0 : Nat) -> (33 : Nat) = (33 : Nat) /\ (5 : Nat) = (5 : Nat) /\ (0 : Nat) = (0 : Nat) /\ cSn [] = cSn [] /\ Value.slice a' (0 :
 Nat) cap = Value.slice a' (0 : Nat) cap) := by kernel_rfl
set_option maxHeartbeats 4000000 in
theorem bhe_sp (a : Option Addr) (c : Nat) (hA : AOK a 0) : SpecG Tryd.prog wE ([(a, cSn []), (subE a c, cSn [])]) 16 #[.slice a 0 c] ([⟨33, 5, 0, cSn []⟩]) (fun ads => .slice (nthS ads 0).1 0 (nthS ads 0).2) := by
  refine specG_of (h := bhe_h a c) (?_ : wpG Tryd.prog wE ([(a, cSn []), (subE a c, cSn [])]) 400 16 [.slice a 0 c] (bhe_h a c) ([⟨33, 5, 0, cSn []⟩]) (fun ads => .slice (nthS ads 0).1 0 (nthS ads 0).2))
  rw [bhe_x]
  (repeat' (first | with_reducible exact rfl | exact trivial | with_reducible assumption | exact cSn_len _ | exact cSn_one _ | exact cU_len _ | exact cI_len _ | exact cB_len _ | exact cU_one _ | exact cI_one _ | exact cB_one _ | exact (fun _ h => h) | exact (fun _ h => (List.not_mem_nil h).elim) | (with_reducible refine e1_in ?_) | (with_reducible refine e2_in ?_) | (with_reducible refine lx_in (Nat.le_of_ble_eq_true rfl) ?_) | (with_reducible refine rqx_rf ?_) | (with_reducible refine rqx_in ?_ ?_ ?_) | (with_reducible apply And.intro) | (with_reducible intro _)))
  all_goals (first | (refine chk_sp _ _ [] hA (show (0 : Nat) ≤ 9223372036854775807 from Nat.zero_le _); done) | (refine bou_sp _ _ [] hA (show (0 : Nat) ≤ 9223372036854775807 from Nat.zero_le _); done) | (show _ = subE a c; rfl) | exact Nat.zero_le _ | (show AOK (subE a c) 0; rw [subE_eq]; exact hA) | rfl | (simp only [*, Bool.and_true, Bool.true_and, Bool.and_false, Bool.false_and, Bool.or_true, Bool.true_or, Bool.or_false, Bool.false_or, Bool.not_true, Bool.not_false, cond_true, cond_false]; done) | (have := buN_le l; omega) | exact aok_sub _ _ _ | exact hA | exact hc | (rw [cSn_len, bh_len]; rfl) | (have h64 := (ckE_0 (by simpa using he)).1; omega) | trace_state)

theorem beh_sp (a : Option Addr) (c : Nat) (l : List Sn) (hA : AOK a l.length) (hl : l.length ≤ 9223372036854775807) (hc : l.length ≤ c) (he : (ckE l != 0) = false) :
    SpecG Tryd.prog wE [(a, cSn l)] 16 #[.slice a l.length c] [⟨33, 5, (bhS l).length, cSn (bhS l)⟩] (fun ads => .slice (nthS ads 0).1 (bhS l).length (nthS ads 0).2) := by
  rcases Nat.eq_zero_or_pos l.length with h0 | h0
  · have := nil_of h0
    subst this
    rw [bhS_0]
    exact specG_sub (bhe_sp a c hA) fun w hw => by rw [subE_eq]; exact hw
  · have h := bhn_sp a c l hA hl he h0 hc
    have e : (bhS l).length = l.length - ((buN l : Nat) : Int).toNat := bh_len l
    rw [← e] at h
    exact specG_sub h fun w hw => rd_sub hw _

end Go.Proofs.YtjnaficgcellkaaDoor
