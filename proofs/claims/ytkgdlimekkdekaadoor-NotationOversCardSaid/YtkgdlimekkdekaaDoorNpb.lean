/- Layer 7 (notation): the law that an over is read back from its symbols (NotationJoins). -/
import Derived.Test.YtkgdlimekkdekaaDoorVz
import Derived.KernelRfl
import Derived.Test.YtkgdlimekkdekaaDoorProg
import Derived.Test.YtkgdlimekkdekaaDoorBrd
import Derived.Test.YtkgdlimekkdekaaDoorNoK
import Derived.Test.YtkgdlimekkdekaaDoorSpc
import Derived.Test.YtkgdlimekkdekaaDoorSqw
import Derived.Test.YtkgdlimekkdekaaDoorNpa
set_option linter.unusedSimpArgs false
set_option linter.unusedVariables false
set_option maxRecDepth 100000
namespace Go.Proofs.YtkgdlimekkdekaaDoor
open Go.RowKit


def eI {α : Type} (l m : List α) (i : Nat) : Prop := i ≤ l.length ∧ l.length = m.length ∧ l.take i = m.take i
theorem eI_0 {α : Type} {l m : List α} (h : l.length = m.length) : eI l m 0 := ⟨Nat.zero_le _, h, by simp⟩
theorem take_step {α : Type} {l m : List α} {i : Nat} {d : α} (h1 : i < l.length) (h2 : i < m.length) : l.take (i + 1) = m.take (i + 1) ↔ l.take i = m.take i ∧ l.getD i d = m.getD i d := by
  rw [List.take_add_one, List.take_add_one, List.getD_eq_getElem?_getD, List.getD_eq_getElem?_getD, List.getElem?_eq_getElem h1, List.getElem?_eq_getElem h2]
  simp only [Option.toList_some, Option.getD_some]
  constructor
  · intro h
    have := List.append_inj h (by simp; omega)
    exact ⟨this.1, by simpa using this.2⟩
  · rintro ⟨h, e⟩
    rw [h, e]
theorem eI_step {α : Type} {d : α} {l m : List α} {i : Nat} (h : eI l m i) (hi : i < l.length) (e : l.getD i d = m.getD i d) : eI l m (i + 1) :=
  ⟨hi, h.2.1, (take_step (d := d) hi (by have := h.2.1; omega)).2 ⟨h.2.2, e⟩⟩
theorem eI_fin {α : Type} {l m : List α} {i : Nat} (h : eI l m i) (hi : ¬ (i : Int) < l.length) : l = m := by
  have e : i = l.length := by have := h.1; omega
  subst e
  have := h.2.2
  rw [List.take_length, h.2.1, List.take_length] at this
  exact this
theorem gD_take {l : List Dl} {n i : Nat} (h : i < n) : gD (l.take n) i = gD l i := by
  rw [gD, gD, List.getD_eq_getElem?_getD, List.getD_eq_getElem?_getD, List.getElem?_take, if_pos h]
theorem ln_take {l : List Dl} {n : Nat} (h : n ≤ l.length) : (l.take n).length = n := by rw [List.length_take]; omega
theorem dl_eq {a b : Dl} (h1 : a.t = b.t) (h2 : a.s = b.s) (h3 : a.r = b.r) (h4 : a.sh = b.sh) (h5 : a.b = b.b) (h6 : a.x = b.x) (h7 : a.h = b.h) (h8 : a.v = b.v) (h9 : a.f = b.f) (h10 : a.g = b.g) (h11 : a.u = b.u) (h12 : a.z = b.z) : a = b := by
  cases a; cases b; simp only at *; subst h1 h2 h3 h4 h5 h6 h7 h8 h9 h10 h11 h12; rfl
@[reducible] def smL (l m : List Dl) : LoopR := ⟨Nat, fun i => [(13, .int .i64 i)], [], fun _ => [], eI l m, fun i => l.length - i, []⟩
theorem rdD_of {w : World} {a : Option Addr} {n c : Nat} {ds : List Dl} (hA : AOK a n) (hn : n ≤ ds.length) (hc : n ≤ c ∧ c ≤ 9223372036854775807) (h : Rd w a (cD ds)) : RdD w (.slice a n c) (ds.take n) := by
  have hlen := ln_take hn
  by_cases h0 : n = 0
  · subst h0; exact Or.inl ⟨by simp, a, c, rfl⟩
  · cases a with
    | none => exact absurd (hA.1 rfl) h0
    | some q =>
      have hq := hA.2 h0 q rfl
      obtain ⟨g, o, s⟩ := q
      simp only at hq
      subst hq
      have at0 : ∀ (i : Nat) (d : Dl), (ds.take n)[i]? = some d → ∀ (j : Nat) (u : Value), (DC d)[j]? = some u → w.cell? ⟨g, o + i * 12 + j, none⟩ = some u := by
        intro i d hd j u hu
        have hin : i < n := by have := (List.getElem?_eq_some_iff.1 hd).1; omega
        have hj : j < 12 := by have := (List.getElem?_eq_some_iff.1 hu).1; simpa [DC] using this
        rw [List.getElem?_take, if_pos hin] at hd
        have h1 := cD_at (l := ds) (m := i) (j := j) (by omega) hj
        have h2 := h (i * 12 + j) _ h1
        have e : cD_rd ds i j = u := by
          have eg : gD ds i = d := by rw [gD, List.getD_eq_getElem?_getD, hd]; rfl
          have hjj : j = 0 ∨ j = 1 ∨ j = 2 ∨ j = 3 ∨ j = 4 ∨ j = 5 ∨ j = 6 ∨ j = 7 ∨ j = 8 ∨ j = 9 ∨ j = 10 ∨ j = 11 := by omega
          rcases hjj with rfl | rfl | rfl | rfl | rfl | rfl | rfl | rfl | rfl | rfl | rfl | rfl <;> (simp only [cD_rd, eg]; simpa [DC] using hu)
        rw [e] at h2
        simpa [bk, ofs, Nat.add_assoc] using h2
      have hlt : g < w.heap.size := by
        have hd : (ds.take n)[0]? = some ((ds.take n)[0]'(by omega)) := List.getElem?_eq_getElem _
        exact block_of_cell (at0 0 _ hd 0 _ rfl)
      refine Or.inr ⟨fun e => h0 (by rw [← hlen, e]; rfl), g, o, c, by rw [hlen], hlt, by rw [hlen]; exact hc.1, hc.2, at0⟩
theorem ovr_sp (a : Option Addr) (ds : List Dl) (n c : Nat) (hA : AOK a n) (hn : n ≤ ds.length) (hc : n ≤ c ∧ c ≤ 9223372036854775807) (hl : n ≤ 1000) (hw : ∀ d ∈ ds, Wf d) : SpecG Tryd.prog [] [(a, cD ds)] 8 #[.slice a n c] [] (fun _ => .tuple #[.string (str (ovL (ds.take n))), .int .i64 (ovE (ds.take n))]) := by
  intro w _ hrd
  have h := over_any (ds.take n) (.slice a n c) w (by rw [ln_take hn]; exact hl) (fun d hd => hw d (List.mem_of_mem_take hd)) (rdD_of hA hn hc (hrd _ _ (List.mem_cons_self ..)))
  exact h.mono fun e w' ⟨he, hb⟩ => ⟨[], he, ownsL_nil _ _, hb⟩


theorem nt_len {l k : List Dl} {n m : Nat} (hn : n ≤ l.length) (hm : m ≤ k.length) (h : ¬ n = m) : ¬ l.take n = k.take m := fun e => h (by have := congrArg List.length e; rwa [ln_take hn, ln_take hm] at this)
theorem ne_atD {l k : List Dl} {i : Nat} (h : ¬ gD l i = gD k i) : ¬ l = k := fun e => h (by rw [e])
theorem gD_eq {l k : List Dl} {n m i : Nat} (h1 : i < n) (h2 : i < m) (e : gD l i = gD k i) : (l.take n).getD i ⟨0, 0, 0, 0, 0, false, 0, 0, 0, 0, false, 0⟩ = (k.take m).getD i ⟨0, 0, 0, 0, 0, false, 0, 0, 0, 0, false, 0⟩ := by
  have a := gD_take (l := l) h1
  have b := gD_take (l := k) h2
  unfold gD at a b e
  rw [a, b, e]
theorem flg (a b : Dl) : (a.t == b.t && (a.s == b.s && (a.r == b.r && (a.sh == b.sh && (a.b == b.b && (a.x == b.x && (a.h == b.h && (a.v == b.v && (a.f == b.f && (a.g == b.g && (a.u == b.u && (a.z == b.z && true)))))))))))) = decide (a = b) := by
  rw [Bool.eq_iff_iff]
  simp only [Bool.and_eq_true, beq_iff_eq, decide_eq_true_eq, and_true]
  constructor
  · rintro ⟨h1, h2, h3, h4, h5, h6, h7, h8, h9, h10, h11, h12⟩
    exact dl_eq h1 h2 h3 h4 h5 h6 h7 h8 h9 h10 h11 h12
  · rintro rfl
    exact ⟨rfl, rfl, rfl, rfl, rfl, rfl, rfl, rfl, rfl, rfl, rfl, rfl⟩
theorem nat_t {n m : Nat} (h : ((n : Int) != (m : Int)) = true) : ¬ n = m := fun e => by rw [e] at h; simp at h
theorem nat_f {n m : Nat} (h : ((n : Int) != (m : Int)) = false) : n = m := by
  rw [bne_eq_false_iff_eq] at h
  exact Int.ofNat.inj h
theorem not_t {b : Bool} (h : (!b) = true) : b = false := by simpa using h
theorem not_f {b : Bool} (h : (!b) = false) : b = true := by simpa using h

def smD_h (a b : Option Addr) (l k : List Dl) (n m c d : Nat) : Hint := .pl (.pl (.pl (.split (.perm [] .nil) (.pl (.inv (smL (List.take n l) (List.take m k)) fun x0 ↦ .split (.draw [0, 1] none [0, 1] (.take 0 (.take 1 (.take 2 (.ix (.take 3 (.lst (0 : Nat) (x0 * (12 : Nat)) (Value.int .u8 (Dl.t (gD l x0))) (.lst (0 : Nat) (x0 * (12 : Nat) + (1 : Nat)) (Value.int .u8
 (Dl.s (gD l x0))) (.lst (0 : Nat) (x0 * (12 : Nat) + (2 : Nat)) (Value.int .i64 (Dl.r (gD l x0))) (.lst (0 : Nat) (x0 * (12 : Nat) + (3 : Nat)) (Value.int .i64 (Dl.sh (gD l x0))) (.lst (0 : Nat) (x0 * (12 : Nat) + (4 : Nat)) (Value.int .i64 (Dl.b (gD l x0))) (.lst (0 : Nat) (x0 * (12 : Nat) + (5 :
 Nat)) (Value.bool (Dl.x (gD l x0))) (.lst (0 : Nat) (x0 * (12 : Nat) + (6 : Nat)) (Value.int .u8 (Dl.h (gD l x0))) (.lst (0 : Nat) (x0 * (12 : Nat) + (7 : Nat)) (Value.int .i64 (Dl.v (gD l x0))) (.lst (0 : Nat) (x0 * (12 : Nat) + (8 : Nat)) (Value.int .i64 (Dl.f (gD l x0))) (.lst (0 : Nat) (x0 * (12
 : Nat) + (9 : Nat)) (Value.int .i64 (Dl.g (gD l x0))) (.lst (0 : Nat) (x0 * (12 : Nat) + (10 : Nat)) (Value.bool (Dl.u (gD l x0))) (.lst (0 : Nat) (x0 * (12 : Nat) + (11 : Nat)) (Value.int .i64 (Dl.z (gD l x0))) (.take 4 (.take 5 (.take 6 (.ix (.take 7 (.lst (1 : Nat) (x0 * (12 : Nat)) (Value.int
 .u8 (Dl.t (gD k x0))) (.lst (1 : Nat) (x0 * (12 : Nat) + (1 : Nat)) (Value.int .u8 (Dl.s (gD k x0))) (.lst (1 : Nat) (x0 * (12 : Nat) + (2 : Nat)) (Value.int .i64 (Dl.r (gD k x0))) (.lst (1 : Nat) (x0 * (12 : Nat) + (3 : Nat)) (Value.int .i64 (Dl.sh (gD k x0))) (.lst (1 : Nat) (x0 * (12 : Nat) + (4
 : Nat)) (Value.int .i64 (Dl.b (gD k x0))) (.lst (1 : Nat) (x0 * (12 : Nat) + (5 : Nat)) (Value.bool (Dl.x (gD k x0))) (.lst (1 : Nat) (x0 * (12 : Nat) + (6 : Nat)) (Value.int .u8 (Dl.h (gD k x0))) (.lst (1 : Nat) (x0 * (12 : Nat) + (7 : Nat)) (Value.int .i64 (Dl.v (gD k x0))) (.lst (1 : Nat) (x0 *
 (12 : Nat) + (8 : Nat)) (Value.int .i64 (Dl.f (gD k x0))) (.lst (1 : Nat) (x0 * (12 : Nat) + (9 : Nat)) (Value.int .i64 (Dl.g (gD k x0))) (.lst (1 : Nat) (x0 * (12 : Nat) + (10 : Nat)) (Value.bool (Dl.u (gD k x0))) (.lst (1 : Nat) (x0 * (12 : Nat) + (11 : Nat)) (Value.int .i64 (Dl.z (gD k x0)))
 (.take 8 (.split (.perm [] .nil) (.perm [] .nil)))))))))))))))))))))))))))))))))))))) (.perm [] .nil))))))
theorem smD_x (a b : Option Addr) (l k : List Dl) (n m c d : Nat) : wpG Tryd.prog [] ([(a, cD l), (b, cD k)]) 400 12 [.slice a n c, .slice b m d] (smD_h a b l k n m c d) ([]) (fun _ => .bool (decide (l.take n = k.take m))) = ((((↑n : Int) != (↑m : Int)) = true -> Value.bool false = Value.bool (decide (List.take n l = List.take m k))) /\ (((↑n : Int) != (↑m : Int)) = false -> (∃ x, eI (List.take n l) (List.take m k) x /\ Value.int .i64 0 = Value.int .i64 (↑x : Int) /\ True) /\ ∀ (x0 : Nat), eI (List.take n l) (List.take m
 k) x0 -> ∀ (junk : Nat -> Value), (decide ((↑x0 : Int) < (↑n : Int)) = true -> (((0 : Int) ≤ (↑x0 : Int) /\ (↑x0 : Int) < (↑n : Int)) /\ AOK a n) /\ bk a = bk a /\ ofs a + x0 * (12 : Nat) = ofs a + x0 * (12 : Nat) /\ lgo (cD l) (x0 * (12 : Nat)) = some (Value.int .u8 (Dl.t (gD l x0))) /\ bk a = bk a
 /\ ofs a + x0 * (12 : Nat) + (1 : Nat) = ofs a + (x0 * (12 : Nat) + (1 : Nat)) /\ lgo (cD l) (x0 * (12 : Nat) + (1 : Nat)) = some (Value.int .u8 (Dl.s (gD l x0))) /\ bk a = bk a /\ ofs a + x0 * (12 : Nat) + (2 : Nat) = ofs a + (x0 * (12 : Nat) + (2 : Nat)) /\ lgo (cD l) (x0 * (12 : Nat) + (2 : Nat))
 = some (Value.int .i64 (Dl.r (gD l x0))) /\ bk a = bk a /\ ofs a + x0 * (12 : Nat) + (3 : Nat) = ofs a + (x0 * (12 : Nat) + (3 : Nat)) /\ lgo (cD l) (x0 * (12 : Nat) + (3 : Nat)) = some (Value.int .i64 (Dl.sh (gD l x0))) /\ bk a = bk a /\ ofs a + x0 * (12 : Nat) + (4 : Nat) = ofs a + (x0 * (12 :
 Nat) + (4 : Nat)) /\ lgo (cD l) (x0 * (12 : Nat) + (4 : Nat)) = some (Value.int .i64 (Dl.b (gD l x0))) /\ bk a = bk a /\ ofs a + x0 * (12 : Nat) + (5 : Nat) = ofs a + (x0 * (12 : Nat) + (5 : Nat)) /\ lgo (cD l) (x0 * (12 : Nat) + (5 : Nat)) = some (Value.bool (Dl.x (gD l x0))) /\ bk a = bk a /\ ofs
 a + x0 * (12 : Nat) + (6 : Nat) = ofs a + (x0 * (12 : Nat) + (6 : Nat)) /\ lgo (cD l) (x0 * (12 : Nat) + (6 : Nat)) = some (Value.int .u8 (Dl.h (gD l x0))) /\ bk a = bk a /\ ofs a + x0 * (12 : Nat) + (7 : Nat) = ofs a + (x0 * (12 : Nat) + (7 : Nat)) /\ lgo (cD l) (x0 * (12 : Nat) + (7 : Nat)) = some
 (Value.int .i64 (Dl.v (gD l x0))) /\ bk a = bk a /\ ofs a + x0 * (12 : Nat) + (8 : Nat) = ofs a + (x0 * (12 : Nat) + (8 : Nat)) /\ lgo (cD l) (x0 * (12 : Nat) + (8 : Nat)) = some (Value.int .i64 (Dl.f (gD l x0))) /\ bk a = bk a /\ ofs a + x0 * (12 : Nat) + (9 : Nat) = ofs a + (x0 * (12 : Nat) + (9 :
 Nat)) /\ lgo (cD l) (x0 * (12 : Nat) + (9 : Nat)) = some (Value.int .i64 (Dl.g (gD l x0))) /\ bk a = bk a /\ ofs a + x0 * (12 : Nat) + (10 : Nat) = ofs a + (x0 * (12 : Nat) + (10 : Nat)) /\ lgo (cD l) (x0 * (12 : Nat) + (10 : Nat)) = some (Value.bool (Dl.u (gD l x0))) /\ bk a = bk a /\ ofs a + x0 *
 (12 : Nat) + (11 : Nat) = ofs a + (x0 * (12 : Nat) + (11 : Nat)) /\ lgo (cD l) (x0 * (12 : Nat) + (11 : Nat)) = some (Value.int .i64 (Dl.z (gD l x0))) /\ (((0 : Int) ≤ (↑x0 : Int) /\ (↑x0 : Int) < (↑m : Int)) /\ AOK b m) /\ bk b = bk b /\ ofs b + x0 * (12 : Nat) = ofs b + x0 * (12 : Nat) /\ lgo (cD
 k) (x0 * (12 : Nat)) = some (Value.int .u8 (Dl.t (gD k x0))) /\ bk b = bk b /\ ofs b + x0 * (12 : Nat) + (1 : Nat) = ofs b + (x0 * (12 : Nat) + (1 : Nat)) /\ lgo (cD k) (x0 * (12 : Nat) + (1 : Nat)) = some (Value.int .u8 (Dl.s (gD k x0))) /\ bk b = bk b /\ ofs b + x0 * (12 : Nat) + (2 : Nat) = ofs b
 + (x0 * (12 : Nat) + (2 : Nat)) /\ lgo (cD k) (x0 * (12 : Nat) + (2 : Nat)) = some (Value.int .i64 (Dl.r (gD k x0))) /\ bk b = bk b /\ ofs b + x0 * (12 : Nat) + (3 : Nat) = ofs b + (x0 * (12 : Nat) + (3 : Nat)) /\ lgo (cD k) (x0 * (12 : Nat) + (3 : Nat)) = some (Value.int .i64 (Dl.sh (gD k x0))) /\
 bk b = bk b /\ ofs b + x0 * (12 : Nat) + (4 : Nat) = ofs b + (x0 * (12 : Nat) + (4 : Nat)) /\ lgo (cD k) (x0 * (12 : Nat) + (4 : Nat)) = some (Value.int .i64 (Dl.b (gD k x0))) /\ bk b = bk b /\ ofs b + x0 * (12 : Nat) + (5 : Nat) = ofs b + (x0 * (12 : Nat) + (5 : Nat)) /\ lgo (cD k) (x0 * (12 : Nat)
 + (5 : Nat)) = some (Value.bool (Dl.x (gD k x0))) /\ bk b = bk b /\ ofs b + x0 * (12 : Nat) + (6 : Nat) = ofs b + (x0 * (12 : Nat) + (6 : Nat)) /\ lgo (cD k) (x0 * (12 : Nat) + (6 : Nat)) = some (Value.int .u8 (Dl.h (gD k x0))) /\ bk b = bk b /\ ofs b + x0 * (12 : Nat) + (7 : Nat) = ofs b + (x0 *
 (12 : Nat) + (7 : Nat)) /\ lgo (cD k) (x0 * (12 : Nat) + (7 : Nat)) = some (Value.int .i64 (Dl.v (gD k x0))) /\ bk b = bk b /\ ofs b + x0 * (12 : Nat) + (8 : Nat) = ofs b + (x0 * (12 : Nat) + (8 : Nat)) /\ lgo (cD k) (x0 * (12 : Nat) + (8 : Nat)) = some (Value.int .i64 (Dl.f (gD k x0))) /\ bk b = bk
 b /\ ofs b + x0 * (12 : Nat) + (9 : Nat) = ofs b + (x0 * (12 : Nat) + (9 : Nat)) /\ lgo (cD k) (x0 * (12 : Nat) + (9 : Nat)) = some (Value.int .i64 (Dl.g (gD k x0))) /\ bk b = bk b /\ ofs b + x0 * (12 : Nat) + (10 : Nat) = ofs b + (x0 * (12 : Nat) + (10 : Nat)) /\ lgo (cD k) (x0 * (12 : Nat) + (10 :
 Nat)) = some (Value.bool (Dl.u (gD k x0))) /\ bk b = bk b /\ ofs b + x0 * (12 : Nat) + (11 : Nat) = ofs b + (x0 * (12 : Nat) + (11 : Nat)) /\ lgo (cD k) (x0 * (12 : Nat) + (11 : Nat)) = some (Value.int .i64 (Dl.z (gD k x0))) /\ ((!(Dl.t (gD l x0) == Dl.t (gD k x0) && (Dl.s (gD l x0) == Dl.s (gD k
 x0) && (Dl.r (gD l x0) == Dl.r (gD k x0) && (Dl.sh (gD l x0) == Dl.sh (gD k x0) && (Dl.b (gD l x0) == Dl.b (gD k x0) && (Dl.x (gD l x0) == Dl.x (gD k x0) && (Dl.h (gD l x0) == Dl.h (gD k x0) && (Dl.v (gD l x0) == Dl.v (gD k x0) && (Dl.f (gD l x0) == Dl.f (gD k x0) && (Dl.g (gD l x0) == Dl.g (gD k
 x0) && (Dl.u (gD l x0) == Dl.u (gD k x0) && (Dl.z (gD l x0) == Dl.z (gD k x0) && true))))))))))))) = true -> Value.bool false = Value.bool (decide (List.take n l = List.take m k))) /\ ((!(Dl.t (gD l x0) == Dl.t (gD k x0) && (Dl.s (gD l x0) == Dl.s (gD k x0) && (Dl.r (gD l x0) == Dl.r (gD k x0) &&
 (Dl.sh (gD l x0) == Dl.sh (gD k x0) && (Dl.b (gD l x0) == Dl.b (gD k x0) && (Dl.x (gD l x0) == Dl.x (gD k x0) && (Dl.h (gD l x0) == Dl.h (gD k x0) && (Dl.v (gD l x0) == Dl.v (gD k x0) && (Dl.f (gD l x0) == Dl.f (gD k x0) && (Dl.g (gD l x0) == Dl.g (gD k x0) && (Dl.u (gD l x0) == Dl.u (gD k x0) &&
 (Dl.z (gD l x0) == Dl.z (gD k x0) && true))))))))))))) = false -> ∃ y, eI (List.take n l) (List.take m k) y /\ List.length (List.take n l) - y < List.length (List.take n l) - x0 /\ Value.int .i64 (IntKind.i64.wrap ((↑x0 : Int) + (1 : Int))) = Value.int .i64 (↑y : Int) /\ True)) /\ (decide ((↑x0 :
 Int) < (↑n : Int)) = false -> Value.bool true = Value.bool (decide (List.take n l = List.take m k))))) := by kernel_rfl
set_option maxHeartbeats 4000000 in
theorem smD_sp (a b : Option Addr) (l k : List Dl) (n m c d : Nat) (hA : AOK a n) (hB : AOK b m) (hn : n ≤ l.length) (hm : m ≤ k.length) (hl : n ≤ 1000000) : SpecG Tryd.prog [] ([(a, cD l), (b, cD k)]) 12 #[.slice a n c, .slice b m d] ([]) (fun _ => .bool (decide (l.take n = k.take m))) := by
  refine specG_of (h := smD_h a b l k n m c d) (?_ : wpG Tryd.prog [] ([(a, cD l), (b, cD k)]) 400 12 [.slice a n c, .slice b m d] (smD_h a b l k n m c d) ([]) (fun _ => .bool (decide (l.take n = k.take m))))
  rw [smD_x]
  (repeat' (first | with_reducible exact rfl | exact trivial | with_reducible assumption | exact cU_len _ | exact cI_len _ | exact cB_len _ | exact cU_one _ | exact cI_one _ | exact cB_one _ | exact (fun _ h => h) | exact (fun _ h => (List.not_mem_nil h).elim) | exact cS_len _ | exact cS_one _ | exact cD_len _ | exact cD_one _ | (with_reducible refine e1_in ?_) | (with_reducible refine e2_in ?_) | (with_reducible refine lx_in (Nat.le_of_ble_eq_true rfl) ?_) | (with_reducible refine rqx_rf ?_) | (with_reducible refine rqx_in ?_ ?_ ?_) | (with_reducible apply And.intro) | (with_reducible intro _)))
  all_goals (try simp only [Int.toNat_natCast] at *)
  all_goals (try simp only [flg] at *)
  all_goals first
    | (rw [decide_eq_false (nt_len hn hm (nat_t ‹((_ : Int) != (_ : Int)) = true›))]; done)
    | (have hq := nat_f ‹((_ : Int) != (_ : Int)) = false›; have z1 := ln_take hn; have z2 := ln_take hm; first
        | exact ⟨0, eI_0 (by omega), rfl, trivial⟩
        | (have hx := ‹eI _ _ _›; have hf := of_decide_eq_true ‹decide (((_ : Nat) : Int) < ((_ : Nat) : Int)) = true›; have hf2 := Int.ofNat_lt.1 hf; first
            | omega
            | ((with_reducible refine cD_get0 ?_); omega) | ((with_reducible refine cD_get1 ?_); omega) | ((with_reducible refine cD_get2 ?_); omega) | ((with_reducible refine cD_get3 ?_); omega) | ((with_reducible refine cD_get4 ?_); omega) | ((with_reducible refine cD_get5 ?_); omega) | ((with_reducible refine cD_get6 ?_); omega) | ((with_reducible refine cD_get7 ?_); omega) | ((with_reducible refine cD_get8 ?_); omega) | ((with_reducible refine cD_get9 ?_); omega) | ((with_reducible refine cD_get10 ?_); omega) | ((with_reducible refine cD_get11 ?_); omega)
            | (have he := of_decide_eq_false (not_t ‹(!decide (gD _ _ = gD _ _)) = true›); rw [decide_eq_false (fun e => he (by rw [← gD_take (l := l) hf2, ← gD_take (l := k) (n := m) (by omega), e]))]; done)
            | (have he := of_decide_eq_true (not_f ‹(!decide (gD _ _ = gD _ _)) = false›); exact ⟨_, eI_step hx (by omega) (gD_eq hf2 (by omega) he), (by show _ - (_ + 1) < _; omega), (by rw [IntWalk.i64_in _ (by omega)]; rfl), trivial⟩))
        | (have hx := ‹eI _ _ _›; have hf := of_decide_eq_false ‹decide (((_ : Nat) : Int) < ((_ : Nat) : Int)) = false›; rw [decide_eq_true (eI_fin hx (by omega))]; done))
    | trace_state
end Go.Proofs.YtkgdlimekkdekaaDoor
