/- Layer 14 (innings): who has come in, bowlers who differ (of both). -/
import Derived.Test.YtnhlpgdadbjmoaaGreatDoorVz
import Derived.KernelRfl
import Derived.Test.YtnhlpgdadbjmoaaGreatDoorProg
import Derived.Test.YtnhlpgdadbjmoaaGreatDoorFda
import Derived.Test.YtnhlpgdadbjmoaaGreatDoorFdf
import Derived.Test.YtnhlpgdadbjmoaaGreatDoorFdh
import Derived.Test.YtnhlpgdadbjmoaaGreatDoorRua
import Derived.Test.YtnhlpgdadbjmoaaGreatDoorCra
import Derived.Test.YtnhlpgdadbjmoaaGreatDoorSpa
set_option linter.unusedSimpArgs false
set_option linter.unusedVariables false
set_option maxRecDepth 100000
namespace Go.Proofs.YtnhlpgdadbjmoaaGreatDoor
open Go.RowKit


/-- Element k is a number from 1 to m, and none of those before. -/
def okB (l : List Int) (m : Int) (k : Nat) : Bool := decide (1 ≤ l.getD k 0) && decide (l.getD k 0 ≤ m) && !hasL (l.take k) (l.getD k 0)
def difB (l : List Int) (m : Int) : Nat → Bool
  | 0 => true
  | k + 1 => difB l m k && okB l m k
theorem dif_all {l : List Int} {m : Int} {n : Nat} : difB l m n = true ↔ ∀ k, k < n → okB l m k = true := by
  induction n with
  | zero => simp [difB]
  | succ n ih =>
    simp only [difB, Bool.and_eq_true, ih]
    constructor
    · rintro ⟨h1, h2⟩ k hk
      by_cases e : k = n
      · subst e; exact h2
      · exact h1 k (by omega)
    · exact fun h => ⟨fun k hk => h k (by omega), h n (by omega)⟩
def dfI (l : List Int) (m : Int) (i : Nat) : Prop := i ≤ l.length ∧ difB l m i = true
theorem df_step {l : List Int} {m : Int} {i : Nat} (h : dfI l m i) (hi : i < l.length) (ho : okB l m i = true) : dfI l m (i + 1) := ⟨hi, by simp only [difB, h.2, ho, Bool.and_self]⟩
theorem df_no {l : List Int} {m : Int} {i : Nat} (hi : i < l.length) (ho : okB l m i = false) : difB l m l.length = false := by
  cases e : difB l m l.length with
  | false => rfl
  | true => rw [dif_all.1 e i hi] at ho; cases ho
theorem df_end {l : List Int} {m : Int} {i : Nat} (h : dfI l m i) (hi : ¬ (i : Int) < l.length) : difB l m l.length = true := by
  have e : i = l.length := by have := h.1; omega
  rw [← e]
  exact h.2
/-- Whether a beginning of a list has a number. -/
theorem hasp_sp (a : Option Addr) (l : List Int) (c i : Nat) (p : Int) (hA : AOK a l.length) (hi : i ≤ l.length) (hl : l.length ≤ 1000000) : SpecG Tryz.prog [] [(a, cI l)] 114 #[.slice a i c, .int .i64 p] [] (fun _ => .bool (hasL (l.take i) p)) := by
  have e : (l.take i).length = i := by rw [List.length_take]; omega
  have h := cnt_sp a (l.take i) c p (by rw [e]; exact ⟨fun h0 => by have := hA.1 h0; omega, fun h0 => hA.2 (by omega)⟩) (by rw [e]; omega)
  rw [e] at h
  intro w hE hr
  refine h w hE fun b xs hm => ?_
  rw [List.mem_singleton] at hm
  injection hm with e1 e2
  subst e1 e2
  intro k v hv
  refine hr _ _ (List.mem_singleton.2 rfl) k v ?_
  rw [show cI (l.take i) = (cI l).take i by simp [cI, List.map_take]] at hv
  rw [List.getElem?_take] at hv
  split at hv
  · exact hv
  · cases hv
theorem aok_pre {a : Option Addr} {n i : Nat} (h : AOK a n) (hi : i ≤ n) : AOK a i := ⟨fun e => by have := h.1 e; omega, fun h0 => h.2 (by omega)⟩
theorem ok_f {l : List Int} {m : Int} {i : Nat} (h : (!(decide (1 ≤ l.getD i 0) && decide (l.getD i 0 ≤ m)) || hasL (l.take i) (l.getD i 0)) = true) : okB l m i = false := by
  unfold okB
  revert h
  cases decide (1 ≤ l.getD i 0) <;> cases decide (l.getD i 0 ≤ m) <;> cases hasL (l.take i) (l.getD i 0) <;> decide
theorem ok_t {l : List Int} {m : Int} {i : Nat} (h : (!(decide (1 ≤ l.getD i 0) && decide (l.getD i 0 ≤ m)) || hasL (l.take i) (l.getD i 0)) = false) : okB l m i = true := by
  unfold okB
  revert h
  cases decide (1 ≤ l.getD i 0) <;> cases decide (l.getD i 0 ≤ m) <;> cases hasL (l.take i) (l.getD i 0) <;> decide
theorem ok_r {l : List Int} {m : Int} {i : Nat} (h : (decide (l.getD i 0 ≥ 1) && decide (l.getD i 0 ≤ m)) = true) (h2 : hasL (l.take i) (l.getD i 0) = false) : okB l m i = true := by
  unfold okB
  rw [h2]
  simpa using h
theorem ok_r1 {l : List Int} {m : Int} {i : Nat} (h : (decide (l.getD i 0 ≥ 1) && decide (l.getD i 0 ≤ m)) = false) : okB l m i = false := by
  unfold okB
  have : (decide (1 ≤ l.getD i 0) && decide (l.getD i 0 ≤ m)) = false := h
  rw [this]
  rfl
theorem ok_r1n {l : List Int} {m : Int} {i : Nat} (h : (!(decide (l.getD i 0 ≥ 1) && decide (l.getD i 0 ≤ m))) = true) : okB l m i = false := ok_r1 (by simpa only [Bool.not_eq_true'] using h)
theorem ok_rn {l : List Int} {m : Int} {i : Nat} (h : (!(decide (l.getD i 0 ≥ 1) && decide (l.getD i 0 ≤ m))) = false) (h2 : hasL (l.take i) (l.getD i 0) = false) : okB l m i = true := ok_r (by simpa only [Bool.not_eq_false'] using h) h2
theorem ok_r2 {l : List Int} {m : Int} {i : Nat} (h2 : hasL (l.take i) (l.getD i 0) = true) : okB l m i = false := by
  unfold okB
  rw [h2]
  simp
@[reducible] def dfL (l : List Int) (m : Int) : LoopR := ⟨Nat, fun i => [(9, .int .i64 i)], [], fun _ => [], dfI l m, fun i => l.length - i, []⟩

def idf_h (a : Option Addr) (l : List Int) (c : Nat) (m : Int) : Hint := Hint.pl (Hint.inv (dfL l m) fun x0 ↦ Hint.split (Hint.ix (Hint.lst (0 : Nat) (x0 * (1 : Nat)) (Value.int .i64 (List.getD l x0 (0 : Int))) (Hint.cut [((24 : Nat), .bool (!(decide ((1 : Int) ≤ List.getD l x0 (0 : Int)) && decide (List.getD l x0 (0 : Int) ≤ m)) || hasL (List.take x0 l) (List.getD l x0
 (0 : Int))))] (Hint.inl (Hint.nc (Hint.cut [((6 : Nat), .bool (decide ((1 : Int) ≤ List.getD l x0 (0 : Int)) && decide (List.getD l x0 (0 : Int) ≤ m)))] (Hint.split (Hint.lit (Hint.lit (Hint.lit Hint.nil))) (Hint.lit (Hint.lit (Hint.lit Hint.nil)))) (Hint.split (hl 4 (Hint.lit Hint.nil)) (Hint.lit
 (Hint.lit (Hint.ix (Hint.lit (Hint.lit (Hint.specg [] [0] [cI l] [] (fun ads0 x ↦ Value.bool (hasL (List.take x0 l) (List.getD l x0 (0 : Int)))) (Hint.lit Hint.nil))))))))))) (Hint.split (Hint.perm [] Hint.nil) (Hint.perm [] Hint.nil))))) (Hint.perm [] Hint.nil))
theorem idf_x (a : Option Addr) (l : List Int) (c : Nat) (m : Int) : wpG Tryz.prog [] ([(a, cI l)]) 400 67 [.slice a l.length c, .int .i64 m] (idf_h a l c m) ([]) (fun _ => .bool (difB l m l.length)) = ((∃ x, dfI l m x /\ Value.int .i64 0 = Value.int .i64 (↑x : Int) /\ True) /\ ∀ (x0 : Nat), dfI l m x0 -> ∀ (junk : Nat -> Value), (decide ((↑x0 : Int) < (↑(List.length l) : Int)) = true -> (((0 : Int) ≤ (↑x0 : Int) /\ (↑x0 : Int) < (↑(List.length l) : Int)) /\ AOK a (List.length l)) /\ bk a = bk a /\
 ofs a + x0 * (1 : Nat) = ofs a + x0 * (1 : Nat) /\ lgo (cI l) (x0 * (1 : Nat)) = some (Value.int .i64 (List.getD l x0 (0 : Int))) /\ (((decide ((1 : Int) ≤ List.getD l x0 (0 : Int)) = true -> Value.bool (decide (List.getD l x0 (0 : Int) ≤ m)) = Value.bool (decide ((1 : Int) ≤ List.getD l x0 (0 :
 Int)) && decide (List.getD l x0 (0 : Int) ≤ m)) /\ True) /\ (decide ((1 : Int) ≤ List.getD l x0 (0 : Int)) = false -> Value.bool false = Value.bool (decide ((1 : Int) ≤ List.getD l x0 (0 : Int)) && decide (List.getD l x0 (0 : Int) ≤ m)) /\ True)) /\ ∀ (junk : Nat -> Value), ((!(decide ((1 : Int) ≤
 List.getD l x0 (0 : Int)) && decide (List.getD l x0 (0 : Int) ≤ m))) = true -> Value.bool true = Value.bool (!(decide ((1 : Int) ≤ List.getD l x0 (0 : Int)) && decide (List.getD l x0 (0 : Int) ≤ m)) || hasL (List.take x0 l) (List.getD l x0 (0 : Int))) /\ True) /\ ((!(decide ((1 : Int) ≤ List.getD l
 x0 (0 : Int)) && decide (List.getD l x0 (0 : Int) ≤ m))) = false -> ((0 : Int) ≤ (↑x0 : Int) /\ (↑x0 : Int) ≤ (↑c : Int)) /\ cI l = cI l /\ (SpecG Tryz.prog [] [(a, cI l)] (114 : FuncId) #[Value.slice a x0 c, .int .i64 (List.getD l x0 (0 : Int))] [] fun x ↦ Value.bool (hasL (List.take x0 l)
 (List.getD l x0 (0 : Int)))) /\ (∀ (e : Ex), e ∈ [] -> e ∈ []) /\ Value.bool (hasL (List.take x0 l) (List.getD l x0 (0 : Int))) = Value.bool (!(decide ((1 : Int) ≤ List.getD l x0 (0 : Int)) && decide (List.getD l x0 (0 : Int) ≤ m)) || hasL (List.take x0 l) (List.getD l x0 (0 : Int))) /\ True)) /\ ∀
 (junk : Nat -> Value), ((!(decide ((1 : Int) ≤ List.getD l x0 (0 : Int)) && decide (List.getD l x0 (0 : Int) ≤ m)) || hasL (List.take x0 l) (List.getD l x0 (0 : Int))) = true -> Value.bool false = Value.bool (difB l m (List.length l))) /\ ((!(decide ((1 : Int) ≤ List.getD l x0 (0 : Int)) && decide
 (List.getD l x0 (0 : Int) ≤ m)) || hasL (List.take x0 l) (List.getD l x0 (0 : Int))) = false -> ∃ y, dfI l m y /\ List.length l - y < List.length l - x0 /\ Value.int .i64 (IntKind.i64.wrap ((↑x0 : Int) + (1 : Int))) = Value.int .i64 (↑y : Int) /\ True)) /\ (decide ((↑x0 : Int) < (↑(List.length l) :
 Int)) = false -> Value.bool true = Value.bool (difB l m (List.length l)))) := by kernel_rfl
set_option maxHeartbeats 4000000 in
theorem idf_sp (a : Option Addr) (l : List Int) (c : Nat) (m : Int) (hA : AOK a l.length) (hl : l.length ≤ 1000000) (hc : l.length ≤ c) : SpecG Tryz.prog [] ([(a, cI l)]) 67 #[.slice a l.length c, .int .i64 m] ([]) (fun _ => .bool (difB l m l.length)) := by
  refine specG_of (h := idf_h a l c m) (?_ : wpG Tryz.prog [] ([(a, cI l)]) 400 67 [.slice a l.length c, .int .i64 m] (idf_h a l c m) ([]) (fun _ => .bool (difB l m l.length)))
  rw [idf_x]
  (repeat' (first | with_reducible exact rfl | exact trivial | with_reducible assumption | exact cU_len _ | exact cI_len _ | exact cB_len _ | exact cU_one _ | exact cI_one _ | exact cB_one _ | exact (fun _ h => h) | exact (fun _ h => (List.not_mem_nil h).elim) | (with_reducible refine e1_in ?_) | (with_reducible refine e2_in ?_) | (with_reducible refine lx_in (Nat.le_of_ble_eq_true rfl) ?_) | (with_reducible refine rqx_rf ?_) | (with_reducible refine rqx_in ?_ ?_ ?_) | (with_reducible apply And.intro) | (with_reducible intro _)))
  all_goals (try simp only [Int.toNat_natCast] at *)
  all_goals first
    | exact ⟨0, ⟨Nat.zero_le _, rfl⟩, rfl, trivial⟩
    | exact Int.natCast_nonneg _
    | exact hA
    | (simp only [*, Bool.and_true, Bool.true_and, Bool.and_false, Bool.false_and, Bool.or_true, Bool.true_or, Bool.or_false, Bool.false_or, Bool.not_true, Bool.not_false, cond_true, cond_false]; done)
    | (have hf := of_decide_eq_true ‹decide (((_ : Nat) : Int) < (l.length : Int)) = true›; first | omega | exact aok_pre hA (by omega) | (refine cI_get ?_; omega) | exact hasp_sp _ _ _ _ _ hA (by omega) hl | (have hx := ‹dfI _ _ _›; have ho := ‹(!_ || _) = false›; exact ⟨_, df_step hx (by omega) (ok_t ho), (by show _ - (_ + 1) < _; omega), (by rw [IntWalk.i64_in _ (by omega)]; rfl), trivial⟩) | (have ho := ‹(!_ || _) = true›; rw [df_no (by omega) (ok_f ho)]; done) | (have ho := ‹(!_ || _) = true›; rw [df_no (by omega) (ok_f ho)]; rfl))
    | (have hf := of_decide_eq_false ‹decide (((_ : Nat) : Int) < (l.length : Int)) = false›; rw [df_end ‹dfI _ _ _› hf]; done)
    | (have hf := of_decide_eq_false ‹decide (((_ : Nat) : Int) < (l.length : Int)) = false›; rw [df_end ‹dfI _ _ _› hf]; rfl)
    | trace_state
def ibg_h (s : Inn) (A : Adr) : Hint := Hint.ob 5 (Hint.inl (Hint.inl (Hint.pl (Hint.inv (bgR s) fun x0 ↦ Hint.split (Hint.ix (Hint.lst (0 : Nat) (x0 * (1 : Nat)) (Value.int .u8 (List.getD s.bts x0 (0 : Int))) (Hint.inl (Hint.pl (Hint.split (Hint.perm [] Hint.nil) (Hint.perm [] Hint.nil)))))) (Hint.perm [] Hint.nil)))))
theorem ibg_x (s : Inn) (A : Adr) : wpG Tryz.prog [] (rdI s A) 400 66 [inV s A] (ibg_h s A) ([]) (fun _ => .bool (beg s)) = (∀ (b : Nat), b = b /\ (∃ x, (x ≤ s.bts.length /\ ∀ (x_1 : Int), x_1 ∈ List.take x s.bts -> x_1 = (0 : Int)) /\ Value.int .i64 0 = Value.int .i64 (↑x : Int) /\ True) /\ ∀ (x0 : Nat), (x0 ≤ s.bts.length /\ ∀ (x : Int), x ∈ List.take x0 s.bts -> x = (0 : Int)) -> ∀ (junk : Nat -> Value), (decide ((↑x0 :
 Int) < (↑(s.bts.length) : Int)) = true -> (((0 : Int) ≤ (↑x0 : Int) /\ (↑x0 : Int) < (↑(s.bts.length) : Int)) /\ AOK (Adr.a1 A) (s.bts.length)) /\ bk (Adr.a1 A) = bk (Adr.a1 A) /\ ofs (Adr.a1 A) + x0 * (1 : Nat) = ofs (Adr.a1 A) + x0 * (1 : Nat) /\ lgo (cU s.bts) (x0 * (1 : Nat)) = some (Value.int
 .u8 (List.getD s.bts x0 (0 : Int))) /\ ((List.getD s.bts x0 (0 : Int) != (0 : Int)) = true -> Value.bool (decide ((↑x0 : Int) ≥ (0 : Int))) = Value.bool (beg s)) /\ ((List.getD s.bts x0 (0 : Int) != (0 : Int)) = false -> ∃ y, (y ≤ s.bts.length /\ ∀ (x : Int), x ∈ List.take y s.bts -> x = (0 : Int))
 /\ s.bts.length - y < s.bts.length - x0 /\ Value.int .i64 (IntKind.i64.wrap ((↑x0 : Int) + (1 : Int))) = Value.int .i64 (↑y : Int) /\ True)) /\ (decide ((↑x0 : Int) < (↑(s.bts.length) : Int)) = false -> Value.bool false = Value.bool (beg s))) := by kernel_rfl
set_option maxHeartbeats 4000000 in
theorem ibg_sp (s : Inn) (A : Adr) (hA : OkI s A) : SpecG Tryz.prog [] (rdI s A) 66 #[inV s A] ([]) (fun _ => .bool (beg s)) := by
  refine specG_of (h := ibg_h s A) (?_ : wpG Tryz.prog [] (rdI s A) 400 66 [inV s A] (ibg_h s A) ([]) (fun _ => .bool (beg s)))
  rw [ibg_x]
  (repeat' (first | with_reducible exact rfl | exact trivial | with_reducible assumption | exact cU_len _ | exact cI_len _ | exact cB_len _ | exact cU_one _ | exact cI_one _ | exact cB_one _ | exact (fun _ h => h) | exact (fun _ h => (List.not_mem_nil h).elim) | (with_reducible refine e1_in ?_) | (with_reducible refine e2_in ?_) | (with_reducible refine lx_in (Nat.le_of_ble_eq_true rfl) ?_) | (with_reducible refine rqx_rf ?_) | (with_reducible refine rqx_in ?_ ?_ ?_) | (with_reducible apply And.intro) | (with_reducible intro _)))
  all_goals (try simp only [Int.toNat_natCast, decide_eq_true_eq, decide_eq_false_iff_not, beq_iff_eq, beq_eq_false_iff_ne, bne_iff_ne, bne_eq_false_iff_eq, ne_eq, Decidable.not_not] at *)
  all_goals first
    | exact ⟨0, bgI_0 _, rfl, trivial⟩
    | omega
    | (refine cU_get ?_; omega)
    | exact hA.k1
    | (have hx := ‹bgI _ _›; have hn := ‹List.getD s.bts _ 0 = 0›; have := hA.l1; exact ⟨_, bgI_step hx (by omega) hn, (by show _ - (_ + 1) < _; omega), (by rw [IntWalk.i64_in _ (by omega)]; rfl), trivial⟩)
    | (have he := ‹¬ List.getD s.bts _ 0 = 0›; have h1 := bg_hit (by omega) he; unfold beg; rw [h1]; exact congrArg Value.bool (decide_eq_true (by omega)))
    | (have he := ‹¬ List.getD s.bts _ 0 = 0›; have h1 := bg_hit (by omega) he; unfold beg; rw [h1])
    | (unfold beg; rw [bg_no ‹bgI _ _› (by assumption)]; done)
    | (unfold beg; rw [bg_no ‹bgI _ _› (by assumption)]; rfl)
    | trace_state

def inb (x : Int) : Bool := decide (0 ≤ x) && decide (x ≤ 1000000000)
def cnB (l : List Int) : Bool := l.all inb
def cnI (l : List Int) (i : Nat) : Prop := i ≤ l.length ∧ ∀ x ∈ l.take i, inb x = true
theorem cnI_0 (l : List Int) : cnI l 0 := ⟨Nat.zero_le _, fun x hx => by simp at hx⟩
theorem cnI_step {l : List Int} {i : Nat} (h : cnI l i) (hi : i < l.length) (hn : inb (l.getD i 0) = true) : cnI l (i + 1) := by
  refine ⟨hi, fun x hm => ?_⟩
  rw [List.take_add_one, List.getElem?_eq_getElem hi, List.mem_append] at hm
  rcases hm with hm | hm
  · exact h.2 x hm
  · rw [List.getD_eq_getElem?_getD, List.getElem?_eq_getElem hi] at hn
    simp at hm hn
    rw [hm]; exact hn
theorem cn_hit {l : List Int} {i : Nat} (hi : i < l.length) (he : inb (l.getD i 0) = false) : cnB l = false := by
  unfold cnB
  rw [List.all_eq_false]
  refine ⟨l[i], List.getElem_mem _, ?_⟩
  rw [List.getD_eq_getElem?_getD, List.getElem?_eq_getElem hi] at he
  simp at he
  simp [he]
theorem inb_f {x : Int} (h : (!(decide (0 ≤ x) && decide (x ≤ 1000000000))) = true) : inb x = false := by
  unfold inb
  simpa only [Bool.not_eq_true'] using h
theorem inb_t {x : Int} (h : (!(decide (0 ≤ x) && decide (x ≤ 1000000000))) = false) : inb x = true := by
  unfold inb
  simpa only [Bool.not_eq_false'] using h
theorem cn_no {l : List Int} {i : Nat} (h : cnI l i) (hi : ¬ (i : Int) < l.length) : cnB l = true := by
  have e : i = l.length := by have := h.1; omega
  have := h.2
  rw [e, List.take_length] at this
  unfold cnB
  rw [List.all_eq_true]
  exact this
@[reducible] def cnL (l : List Int) : LoopR := ⟨Nat, fun i => [(8, .int .i64 i)], [], fun _ => [], cnI l, fun i => l.length - i, []⟩

def icn_h (a : Option Addr) (l : List Int) (c : Nat) : Hint := Hint.inl (Hint.inl (Hint.pl (Hint.inv (cnL l) fun x0 ↦ Hint.split (Hint.ix (Hint.lst (0 : Nat) (x0 * (1 : Nat)) (Value.int .i64 (List.getD l x0 (0 : Int))) (Hint.inl (Hint.inl (Hint.nc (Hint.cut [((6 : Nat), .bool (decide ((0 : Int) ≤ List.getD l x0 (0 : Int)) && decide (List.getD l x0 (0 : Int) ≤
 (1000000000 : Int))))] (Hint.split (Hint.lit (Hint.lit (Hint.lit Hint.nil))) (Hint.lit (Hint.lit (Hint.lit Hint.nil)))) (Hint.split (Hint.perm [] Hint.nil) (Hint.perm [] Hint.nil)))))))) (Hint.perm [] Hint.nil))))
theorem icn_x (a : Option Addr) (l : List Int) (c : Nat) : wpG Tryz.prog [] ([(a, cI l)]) 400 68 [.slice a l.length c] (icn_h a l c) ([]) (fun _ => .bool (cnB l)) = ((∃ x, cnI l x /\ Value.int .i64 0 = Value.int .i64 (↑x : Int) /\ True) /\ ∀ (x0 : Nat), cnI l x0 -> ∀ (junk : Nat -> Value), (decide ((↑x0 : Int) < (↑(List.length l) : Int)) = true -> (((0 : Int) ≤ (↑x0 : Int) /\ (↑x0 : Int) < (↑(List.length l) : Int)) /\ AOK a (List.length l)) /\ bk a = bk a /\ ofs
 a + x0 * (1 : Nat) = ofs a + x0 * (1 : Nat) /\ lgo (cI l) (x0 * (1 : Nat)) = some (Value.int .i64 (List.getD l x0 (0 : Int))) /\ ((decide ((0 : Int) ≤ List.getD l x0 (0 : Int)) = true -> Value.bool (decide (List.getD l x0 (0 : Int) ≤ (1000000000 : Int))) = Value.bool (decide ((0 : Int) ≤ List.getD l
 x0 (0 : Int)) && decide (List.getD l x0 (0 : Int) ≤ (1000000000 : Int))) /\ True) /\ (decide ((0 : Int) ≤ List.getD l x0 (0 : Int)) = false -> Value.bool false = Value.bool (decide ((0 : Int) ≤ List.getD l x0 (0 : Int)) && decide (List.getD l x0 (0 : Int) ≤ (1000000000 : Int))) /\ True)) /\ ∀ (junk
 : Nat -> Value), ((!(decide ((0 : Int) ≤ List.getD l x0 (0 : Int)) && decide (List.getD l x0 (0 : Int) ≤ (1000000000 : Int)))) = true -> (Value.bool !decide ((↑x0 : Int) ≥ (0 : Int))) = Value.bool (cnB l)) /\ ((!(decide ((0 : Int) ≤ List.getD l x0 (0 : Int)) && decide (List.getD l x0 (0 : Int) ≤
 (1000000000 : Int)))) = false -> ∃ y, cnI l y /\ List.length l - y < List.length l - x0 /\ Value.int .i64 (IntKind.i64.wrap ((↑x0 : Int) + (1 : Int))) = Value.int .i64 (↑y : Int) /\ True)) /\ (decide ((↑x0 : Int) < (↑(List.length l) : Int)) = false -> Value.bool true = Value.bool (cnB l))) := by kernel_rfl
set_option maxHeartbeats 4000000 in
theorem icn_sp (a : Option Addr) (l : List Int) (c : Nat) (hA : AOK a l.length) (hl : l.length ≤ 1000000) : SpecG Tryz.prog [] ([(a, cI l)]) 68 #[.slice a l.length c] ([]) (fun _ => .bool (cnB l)) := by
  refine specG_of (h := icn_h a l c) (?_ : wpG Tryz.prog [] ([(a, cI l)]) 400 68 [.slice a l.length c] (icn_h a l c) ([]) (fun _ => .bool (cnB l)))
  rw [icn_x]
  (repeat' (first | with_reducible exact rfl | exact trivial | with_reducible assumption | exact cU_len _ | exact cI_len _ | exact cB_len _ | exact cU_one _ | exact cI_one _ | exact cB_one _ | exact (fun _ h => h) | exact (fun _ h => (List.not_mem_nil h).elim) | (with_reducible refine e1_in ?_) | (with_reducible refine e2_in ?_) | (with_reducible refine lx_in (Nat.le_of_ble_eq_true rfl) ?_) | (with_reducible refine rqx_rf ?_) | (with_reducible refine rqx_in ?_ ?_ ?_) | (with_reducible apply And.intro) | (with_reducible intro _)))
  all_goals (try simp only [Int.toNat_natCast] at *)
  all_goals first
    | exact ⟨0, cnI_0 _, rfl, trivial⟩
    | exact Int.natCast_nonneg _
    | exact hA
    | (simp only [*, Bool.and_true, Bool.true_and, Bool.and_false, Bool.false_and, Bool.or_true, Bool.true_or, Bool.or_false, Bool.false_or, Bool.not_true, Bool.not_false, cond_true, cond_false]; done)
    | (have hf := of_decide_eq_true ‹decide (((_ : Nat) : Int) < (l.length : Int)) = true›; first | omega | (refine cI_get ?_; omega) | (have hx := ‹cnI _ _›; have ho := ‹(!(decide _ && decide _)) = false›; exact ⟨_, cnI_step hx (by omega) (inb_t ho), (by show _ - (_ + 1) < _; omega), (by rw [IntWalk.i64_in _ (by omega)]; rfl), trivial⟩) | (have ho := ‹(!(decide _ && decide _)) = true›; rw [cn_hit (by omega) (inb_f ho), decide_eq_true (show _ ≥ (0 : Int) from Int.natCast_nonneg _)]; rfl))
    | (have hf := of_decide_eq_false ‹decide (((_ : Nat) : Int) < (l.length : Int)) = false›; rw [cn_no ‹cnI _ _› hf]; done)
    | (have hf := of_decide_eq_false ‹decide (((_ : Nat) : Int) < (l.length : Int)) = false›; rw [cn_no ‹cnI _ _› hf]; rfl)
    | trace_state

def ovB (r : Rul) (s : Inn) : Bool := (decide ((if 1 < r.q3 then 1 else r.q3) ≤ s.ov) && decide (s.ov ≤ r.q3)) && (decide (0 ≤ s.io) && decide (s.io ≤ IntKind.i64.wrap (r.q4 - 1)))

def iov_h (r : Rul) (B : RAd) (s : Inn) (A : Adr) : Hint := Hint.nc (Hint.cut [((4 : Nat), .bool (decide ((if (1 : Int) < r.q3 then (1 : Int) else r.q3) ≤ s.ov) && decide (s.ov ≤ r.q3) && (decide ((0 : Int) ≤ s.io) && decide (s.io ≤ IntKind.i64.wrap (r.q4 - 1)))))] (Hint.ob 1 (Hint.ob 0 (Hint.pl (Hint.ob 0 (Hint.inl (Hint.nc (Hint.cut [((6 : Nat), .bool
 (decide ((if (1 : Int) < r.q3 then (1 : Int) else r.q3) ≤ s.ov) && decide (s.ov ≤ r.q3)))] (Hint.split (Hint.lit (Hint.lit (Hint.lit Hint.nil))) (Hint.lit (Hint.lit (Hint.lit Hint.nil)))) (Hint.split (Hint.lit (Hint.ob 1 (Hint.lit (Hint.lit (Hint.ob 0 (Hint.lit (Hint.lit (Hint.inl (Hint.nc (Hint.cut
 [((6 : Nat), .bool (decide ((0 : Int) ≤ s.io) && decide (s.io ≤ IntKind.i64.wrap (r.q4 - 1))))] (Hint.split (Hint.lit (Hint.lit (Hint.lit Hint.nil))) (Hint.lit (Hint.lit (Hint.lit Hint.nil)))) (Hint.lit Hint.nil))))))))))) (hl 5 (Hint.lit Hint.nil)))))))))) (Hint.perm [] Hint.nil))
theorem iov_x (r : Rul) (B : RAd) (s : Inn) (A : Adr) : wpG Tryz.prog [] ([]) 401 37 [ruV r B, inV s A] (iov_h r B s A) ([]) (fun _ => .bool (ovB r s)) = (∀ (b b_1 : Nat), (b_1 = b_1 /\ b = b /\ b = b /\ ((decide ((if (1 : Int) < r.q3 then (1 : Int) else r.q3) ≤ s.ov) = true -> Value.bool (decide (s.ov ≤ r.q3)) = Value.bool (decide ((if (1 : Int) < r.q3 then (1 : Int) else r.q3) ≤ s.ov) && decide (s.ov ≤ r.q3)) /\ True) /\ (decide ((if (1 : Int) < r.q3
 then (1 : Int) else r.q3) ≤ s.ov) = false -> Value.bool false = Value.bool (decide ((if (1 : Int) < r.q3 then (1 : Int) else r.q3) ≤ s.ov) && decide (s.ov ≤ r.q3)) /\ True)) /\ ∀ (junk : Nat -> Value), ((decide ((if (1 : Int) < r.q3 then (1 : Int) else r.q3) ≤ s.ov) && decide (s.ov ≤ r.q3)) = true
 -> b_1 = b_1 /\ b = b /\ ((decide ((0 : Int) ≤ s.io) = true -> Value.bool (decide (s.io ≤ IntKind.i64.wrap (r.q4 - 1))) = Value.bool (decide ((0 : Int) ≤ s.io) && decide (s.io ≤ IntKind.i64.wrap (r.q4 - 1))) /\ True) /\ (decide ((0 : Int) ≤ s.io) = false -> Value.bool false = Value.bool (decide ((0
 : Int) ≤ s.io) && decide (s.io ≤ IntKind.i64.wrap (r.q4 - 1))) /\ True)) /\ ∀ (junk : Nat -> Value), .bool (decide ((0 : Int) ≤ s.io) && decide (s.io ≤ IntKind.i64.wrap (r.q4 - 1))) = Value.bool (decide ((if (1 : Int) < r.q3 then (1 : Int) else r.q3) ≤ s.ov) && decide (s.ov ≤ r.q3) && (decide ((0 :
 Int) ≤ s.io) && decide (s.io ≤ IntKind.i64.wrap (r.q4 - 1)))) /\ True) /\ ((decide ((if (1 : Int) < r.q3 then (1 : Int) else r.q3) ≤ s.ov) && decide (s.ov ≤ r.q3)) = false -> Value.bool false = Value.bool (decide ((if (1 : Int) < r.q3 then (1 : Int) else r.q3) ≤ s.ov) && decide (s.ov ≤ r.q3) &&
 (decide ((0 : Int) ≤ s.io) && decide (s.io ≤ IntKind.i64.wrap (r.q4 - 1)))) /\ True)) /\ ∀ (junk : Nat -> Value), .bool (decide ((if (1 : Int) < r.q3 then (1 : Int) else r.q3) ≤ s.ov) && decide (s.ov ≤ r.q3) && (decide ((0 : Int) ≤ s.io) && decide (s.io ≤ IntKind.i64.wrap (r.q4 - 1)))) = Value.bool
 (decide ((if (1 : Int) < r.q3 then (1 : Int) else r.q3) ≤ s.ov) && decide (s.ov ≤ r.q3) && (decide ((0 : Int) ≤ s.io) && decide (s.io ≤ IntKind.i64.wrap (r.q4 - 1))))) := by kernel_rfl
set_option maxHeartbeats 4000000 in
theorem iov_sp (r : Rul) (B : RAd) (s : Inn) (A : Adr)  : SpecG Tryz.prog [] ([]) 37 #[ruV r B, inV s A] ([]) (fun _ => .bool (ovB r s)) := by
  refine specG_of (h := iov_h r B s A) (?_ : wpG Tryz.prog [] ([]) 401 37 [ruV r B, inV s A] (iov_h r B s A) ([]) (fun _ => .bool (ovB r s)))
  rw [iov_x]
  (repeat' (first | with_reducible exact rfl | exact trivial | with_reducible assumption | exact cU_len _ | exact cI_len _ | exact cB_len _ | exact cU_one _ | exact cI_one _ | exact cB_one _ | exact (fun _ h => h) | exact (fun _ h => (List.not_mem_nil h).elim) | (with_reducible refine e1_in ?_) | (with_reducible refine e2_in ?_) | (with_reducible refine lx_in (Nat.le_of_ble_eq_true rfl) ?_) | (with_reducible refine rqx_rf ?_) | (with_reducible refine rqx_in ?_ ?_ ?_) | (with_reducible apply And.intro) | (with_reducible intro _)))
  all_goals (first | (simp only [*, Bool.and_true, Bool.true_and, Bool.and_false, Bool.false_and, Bool.or_true, Bool.true_or, Bool.or_false, Bool.false_or, Bool.not_true, Bool.not_false, cond_true, cond_false]; done) | trace_state)

/-- Does the status of player i + 1 go with the places? -/
def plB (s : Inn) (i : Nat) : Bool := ((s.st == (i : Int) + 1) || (s.ot == (i : Int) + 1)) == (s.bts.getD i 0 == 1)
def batB (s : Inn) : Bool := !(((s.st == s.ot) && !((s.st == 0) && (s.ot == 0))) || (((s.st == 0) && (s.ot == 0)) && beg s)) && ((List.range s.bts.length).all (plB s) && (s.wk == (s.bts.countP (· == 2) : Int)))


/-- None of the first j is the number. -/
def fwI (l : List Int) (p : Int) (i j : Nat) : Prop := j ≤ i ∧ ∀ x ∈ l.take j, x ≠ p
theorem fw_0 (l : List Int) (p : Int) (i : Nat) : fwI l p i 0 := ⟨Nat.zero_le _, fun x hx => by simp at hx⟩
theorem fw_step {l : List Int} {p : Int} {i j : Nat} (h : fwI l p i j) (hi : i ≤ l.length) (hj : j < i) (hn : ¬ p = l.getD j 0) : fwI l p i (j + 1) := by
  refine ⟨hj, fun x hm => ?_⟩
  have hl : j < l.length := by omega
  rw [List.take_add_one, List.getElem?_eq_getElem hl, List.mem_append] at hm
  rcases hm with hm | hm
  · exact h.2 x hm
  · rw [List.getD_eq_getElem?_getD, List.getElem?_eq_getElem hl] at hn
    simp at hm hn
    rw [hm]; exact fun e => hn e.symm
theorem fw_no {l : List Int} {p : Int} {i j : Nat} (h : fwI l p i j) (hj : ¬ (j : Int) < (i : Int)) : hasL (l.take i) p = false := by
  have e : j = i := by have := h.1; omega
  subst e
  unfold hasL
  rw [List.any_eq_false]
  intro x hx
  have := h.2 x hx
  simpa using this
theorem fw_hit {l : List Int} {p : Int} {i j : Nat} (hi : i ≤ l.length) (hj : j < i) (he : p = l.getD j 0) : hasL (l.take i) p = true := by
  unfold hasL
  rw [List.any_eq_true]
  have hl : j < l.length := by omega
  refine ⟨l[j], List.mem_take_iff_getElem.2 ⟨j, by omega, rfl⟩, ?_⟩
  rw [List.getD_eq_getElem?_getD, List.getElem?_eq_getElem hl] at he
  simp at he
  simp [he]
@[reducible] def fwO (l : List Int) (m : Int) : LoopR := ⟨Nat, fun i => [(11, .int .i64 i)], [], fun _ => [], dfI l m, fun i => l.length - i, []⟩
@[reducible] def fwN (l : List Int) (i : Nat) : LoopR := ⟨Nat, fun j => [(24, .int .i64 j)], [], fun _ => [], fwI l (l.getD ((i : Int)).toNat 0) i, fun j => i - j, []⟩

end Go.Proofs.YtnhlpgdadbjmoaaGreatDoor
