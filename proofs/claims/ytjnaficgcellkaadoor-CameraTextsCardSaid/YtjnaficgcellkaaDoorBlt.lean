/- The text package's and the strings' contracts at the lines of observations: Cut, SplitN, Number. -/
import Derived.Test.YtjnaficgcellkaaDoorBlc
import Derived.Test.YtjnaficgcellkaaDoorCmc
import Derived.Test.YtjnaficgcellkaaDoorNumA
import Derived.Test.YtjnaficgcellkaaDoorNumB
set_option linter.unusedSimpArgs false
set_option linter.unusedVariables false
set_option maxRecDepth 100000
namespace Go.Proofs.YtjnaficgcellkaaDoor
open Go.RowKit

/-- The library's variables, the powers of ten, the limits. -/
def rO : Ex := ⟨1000000, fun _ => none, Env, fun _ _ h hb => h.stays hb⟩
def tE : List Ex := wE ++ [rO, pO]
theorem rO_tE : rO ∈ tE := List.mem_append_right _ (List.mem_cons_self ..)
theorem wE_tE : ∀ x ∈ wE, x ∈ tE := fun _ h => List.mem_append_left _ h
theorem kE_tE : ∀ x ∈ kE, x ∈ tE := fun x h => by
  rcases List.mem_cons.1 h with h | h
  · rw [h]; exact List.mem_append_right _ (List.mem_cons_of_mem _ (List.mem_cons_self ..))
  · exact wE_tE x h
/-- The words of a line, and what is left of a text. -/
def jw (s : Sn) : ByteArray := j5 (dcS s.t) (dcS s.x) (dcS s.y) (dcS s.z) (dcS s.e)
def rxL : List Sn → ByteArray
  | [] => ⟨#[]⟩
  | s :: l => catB (lnB s) (rxL l)
def rxB (l : List Sn) (i : Nat) : ByteArray := rxL (l.drop i)
theorem cat_data2 (a b : ByteArray) : (catB a b).data.toList = a.data.toList ++ b.data.toList := by unfold catB; simp
theorem ba_ext2 {a b : ByteArray} (h : a.data.toList = b.data.toList) : a = b := by
  apply ByteArray.ext
  exact Array.toList_inj.1 h
theorem dc_data (n : Int) : (dcS n).data.toList = Lib.itoa n := str_list _
theorem jw_data (s : Sn) : (jw s).data.toList = Lib.itoa s.t ++ 32 :: (Lib.itoa s.x ++ 32 :: (Lib.itoa s.y ++ 32 :: (Lib.itoa s.z ++ 32 :: Lib.itoa s.e))) := by
  unfold jw j5 jnB
  rw [str_list]
  simp only [List.map_cons, List.map_nil, dc_data]
  simp [Lib.join_cons, Lib.joinTail]
theorem it32 (n : Int) : ∀ x ∈ Lib.itoa n, x ≠ 32 := itoa_no n 32 (by decide) (by decide)
theorem it10 (n : Int) : ∀ x ∈ Lib.itoa n, x ≠ 10 := itoa_no n 10 (by decide) (by decide)
theorem jw10 (s : Sn) : ∀ x ∈ (jw s).data.toList, x ≠ 10 := by
  intro x hx
  rw [jw_data] at hx
  simp only [List.mem_append, List.mem_cons] at hx
  rcases hx with h | rfl | h | rfl | h | rfl | h | rfl | h
  · exact it10 _ x h
  · decide
  · exact it10 _ x h
  · decide
  · exact it10 _ x h
  · decide
  · exact it10 _ x h
  · decide
  · exact it10 _ x h
theorem rx_s {l : List Sn} {i : Nat} (h : i < l.length) : rxB l i = catB (lnB (gSn l i)) (rxB l (i + 1)) := by
  unfold rxB
  rw [List.drop_eq_getElem_cons h, gSn_el h]
  rfl
theorem rx_e (l : List Sn) : rxB l l.length = ⟨#[]⟩ := by unfold rxB; rw [List.drop_length]; rfl
theorem rx_size {l : List Sn} (h : ckP l l.length) : ∀ k i, l.length - i = k → (rxB l i).size ≤ 110 * k := by
  intro k
  induction k with
  | zero =>
    intro i hi
    unfold rxB
    rw [List.drop_eq_nil_of_le (by omega)]
    exact Nat.le_refl _
  | succ k ih =>
    intro i hi
    have hlt : i < l.length := by omega
    have h1 := ih (i + 1) (by omega)
    have h2 := ln_size (bad_0 (h.2 i hlt)).1
    rw [rx_s hlt, cat_size]
    omega
theorem rx_ne {l : List Sn} (h : ckP l l.length) {i : Nat} (hi : i < l.length) : rxB l i ≠ ⟨#[]⟩ := by
  intro e
  have h2 := ln_size (bad_0 (h.2 i hi)).1
  have h3 : (rxB l i).size = (lnB (gSn l i)).size + (rxB l (i + 1)).size := by rw [rx_s hi, cat_size]
  rw [e] at h3
  have : (⟨#[]⟩ : ByteArray).size = 0 := rfl
  omega
/-- The whole text is what is left at the beginning. -/
theorem cat_assoc (a b c : ByteArray) : catB (catB a b) c = catB a (catB b c) := ba_ext2 (by simp only [cat_data2, List.append_assoc])
theorem cat_nil (a : ByteArray) : catB a ⟨#[]⟩ = a := ba_ext2 (by rw [cat_data2]; simp)
theorem nil_cat (a : ByteArray) : catB ⟨#[]⟩ a = a := ba_ext2 (by rw [cat_data2]; simp)
theorem tx_rx (l : List Sn) : ∀ k i, l.length - i = k → i ≤ l.length → catB (txB l i) (rxB l i) = txB l l.length := by
  intro k
  induction k with
  | zero =>
    intro i hi hle
    have e : i = l.length := by omega
    rw [e, rx_e, cat_nil]
  | succ k ih =>
    intro i hi hle
    rw [rx_s (by omega), ← ih (i + 1) (by omega) (by omega)]
    simp only [txB]
    rw [cat_assoc]
theorem rx_tx (l : List Sn) : rxB l 0 = txB l l.length := by
  rw [← tx_rx l l.length 0 (by omega) (Nat.zero_le _)]
  show _ = catB ⟨#[]⟩ _
  rw [nil_cat]
theorem str_bk (s : ByteArray) : str s.data.toList = s := by cases s; rfl
theorem cut_c {l : List Sn} (he : (ckE l != 0) = false) {i : Nat} (hi : i < l.length) : SpecG Tryd.prog tE [] 35 #[.string (rxB l i), .string ⟨#[10]⟩] [] (fun _ => .tuple #[.string (jw (gSn l i)), .string (rxB l (i + 1)), .bool true]) := by
  obtain ⟨h64, hp⟩ := ckE_0 (ck_n he)
  have hs := rx_size hp _ i rfl
  intro w hE _
  have hl : (rxB l i).data.toList.length = (rxB l i).size := Array.length_toList
  have h := cut_any (rxB l i).data.toList [10] w (by omega) (hE rO rO_tE).2
  have e : (rxB l i).data.toList = (jw (gSn l i)).data.toList ++ 10 :: (rxB l (i + 1)).data.toList := by
    rw [rx_s hi, cat_data2]
    show (catB (jw (gSn l i)) ⟨#[10]⟩).data.toList ++ _ = _
    rw [cat_data2, List.append_assoc]
    rfl
  have hc : Lib.cut (rxB l i).data.toList [10] = ((jw (gSn l i)).data.toList, (rxB l (i + 1)).data.toList, true) := by
    rw [e]
    exact cut_at 10 _ _ (jw10 _)
  rw [hc] at h
  have h2 : Calls Tryd.prog 35 #[.string (rxB l i), .string ⟨#[10]⟩] w fun e w' => e = .returned (.tuple #[.string (jw (gSn l i)), .string (rxB l (i + 1)), .bool true]) ∧ Below w.heap.size w w' := by
    have h3 : Calls Tryd.prog 35 #[.string (str (rxB l i).data.toList), .string (str [10])] w fun e w' => e = .returned (.tuple #[.string (str (jw (gSn l i)).data.toList), .string (str (rxB l (i + 1)).data.toList), .bool true]) ∧ Below w.heap.size w w' := h
    rw [str_bk, str_bk, str_bk] at h3
    exact h3
  exact h2.mono fun e w' ⟨he, hb⟩ => ⟨[], he, ownsL_nil _ _, hb⟩
theorem num_c (n lo hi : Int) (h64 : I64 n) (h0 : lo ≤ n) (h1 : n ≤ hi) (hlo : I64 lo) (hhi : I64 hi) : SpecG Tryd.prog tE [] 45 #[.string (dcS n), .int .i64 lo, .int .i64 hi] [] (fun _ => .tuple #[.int .i64 n, .int .i64 0]) := by
  intro w hE _
  have h := number_any (Lib.itoa n) lo hi w (by have := Lib.itoa_length_le n h64.1 h64.2; omega) hlo hhi (hE rO rO_tE).2
  rw [numV_itoa h64 h0 h1, numE_itoa h64 h0 h1] at h
  exact h.mono fun e w' ⟨he, hb⟩ => ⟨[], he, ownsL_nil _ _, hb⟩
theorem idx_at (A B : List UInt8) (h : ∀ x ∈ A, x ≠ 32) : Lib.index (A ++ 32 :: B) [32] = (A.length : Int) := by rw [Lib.index_one]; exact indexByte_at 32 B A h
theorem idx_no (A : List UInt8) (h : ∀ x ∈ A, x ≠ 32) : Lib.index A [32] = -1 := by
  have := cut_no 32 A h
  unfold Lib.cut at this
  split at this
  · rename_i h1
    exact absurd (congrArg (fun z => z.2.2) this) (by simp)
  · rename_i h1
    have := Lib.index_ge A [32]
    omega
theorem sk_at (k : Nat) (A B : List UInt8) (h : ∀ x ∈ A, x ≠ 32) : Lib.splitK [32] 0 (k + 1) (A ++ 32 :: B) = A :: Lib.splitK [32] 0 k B := by
  simp only [Lib.splitK]
  rw [idx_at A B h, if_neg (by simp)]
  simp
theorem sk_no (k : Nat) (A : List UInt8) (h : ∀ x ∈ A, x ≠ 32) : Lib.splitK [32] 0 (k + 1) A = [A] := by
  simp only [Lib.splitK]
  rw [idx_no A h]; rfl
theorem sp_jw (s : Sn) : Lib.splitB ⟨#[32]⟩ 0 5 (jw s) = [dcS s.t, dcS s.x, dcS s.y, dcS s.z, dcS s.e] := by
  have h := Lib.splitB_data ⟨#[32]⟩ 0 5 (jw s)
  have e : (⟨#[32]⟩ : ByteArray).data.toList = [32] := rfl
  rw [e, jw_data, sk_at 4 _ _ (it32 _), sk_at 3 _ _ (it32 _), sk_at 2 _ _ (it32 _), sk_at 1 _ _ (it32 _), sk_no 0 _ (it32 _)] at h
  have h2 : [dcS s.t, dcS s.x, dcS s.y, dcS s.z, dcS s.e].map (fun b : ByteArray => b.data.toList) = [Lib.itoa s.t, Lib.itoa s.x, Lib.itoa s.y, Lib.itoa s.z, Lib.itoa s.e] := by simp only [List.map_cons, List.map_nil, dc_data]
  have hinj : ∀ (a b : List ByteArray), a.map (fun b : ByteArray => b.data.toList) = b.map (fun b : ByteArray => b.data.toList) → a = b := by
    intro a
    induction a with
    | nil => intro b hb; cases b with
      | nil => rfl
      | cons _ _ => simp at hb
    | cons x a ih => intro b hb; cases b with
      | nil => simp at hb
      | cons y b =>
        simp only [List.map_cons, List.cons.injEq] at hb
        rw [ba_ext2 hb.1, ih b hb.2]
  exact hinj _ _ (h.trans h2.symm)
theorem ownsL_pre (w : World) (el : TypeId) (cs : Array Value) (cells : List Value) (n c : Nat) (h : cells.length = n * 1) (hc : cs.size = c * 1) (hn : n ≤ c) (hm : c ≤ 4294967296) (ht : cs.toList.take (n * 1) = cells) : OwnsL w.heap.size [⟨el, 1, n, cells⟩] [(some ⟨w.heap.size, 0, none⟩, c)] (w.alloc (.cells cs el)) := by
  have hb : (w.alloc (.cells cs el)).heap[w.heap.size]? = some (.cells cs el (0, 0)) := by
    show (w.heap.push (Obj.cells cs el (0, 0)))[w.heap.size]? = some _
    rw [Array.getElem?_push_size]
  refine ⟨rfl, fun i o ho => ?_, fun i j o p k ho hp _ _ => ?_⟩
  · match i, ho with
    | 0, ho =>
      simp only [obsOf, List.getElem?_cons_zero, Option.some.injEq] at ho
      subst ho
      refine ⟨Ob.ok_lit ⟨h, Or.inr ⟨w.heap.size, c, cs, rfl, Nat.le_refl _, hb, hn, by unfold maxLen; omega, hc, ht⟩⟩, fun k hk => ?_, fun u hu => ?_⟩
      · have hk := Ob.dep_lit.1 hk
        unfold Ob.dep0 at hk
        simp at hk
        omega
      · simp only [Option.some.injEq] at hu
        subst hu
        exact ⟨⟨(fun e => by cases e), (fun _ q hq => by injection hq with hq; subst hq; rfl)⟩, hn⟩
    | i + 1, ho => simp [obsOf] at ho
  · match i, j, ho, hp with
    | 0, 0, _, _ => rfl
    | i + 1, _, ho, _ => simp [obsOf] at ho
    | 0, j + 1, _, hp => simp [obsOf] at hp
theorem spl_c (s : Sn) (hr : sRng s = true) : SpecG Tryd.prog tE [] 44 #[.string (jw s), .string ⟨#[32]⟩, .int .i64 6] [⟨9, 1, 5, [.string (dcS s.t), .string (dcS s.x), .string (dcS s.y), .string (dcS s.z), .string (dcS s.e)]⟩] (fun ads => .slice (nthS ads 0).1 5 (nthS ads 0).2) := by
  intro w hE _
  obtain ⟨m, hm⟩ := (hE rO rO_tE).2.max
  have hz := (ln_size hr).2
  have hz1 : (lnB s).size = (jw s).size + 1 := cat_size _ _
  have hz2 : 5 ≤ (jw s).size := by
    unfold jw
    have d1 : ∀ n : Int, 1 ≤ (dcS n).size := fun n => by
      unfold dcS
      rw [str_size]
      rcases Nat.eq_zero_or_pos (Lib.itoa n).length with h | h
      · exfalso
        have h1 := List.eq_nil_of_length_eq_zero h
        have h2 := (itoa_dec n).1
        rw [h1] at h2
        cases h2
      · exact h
    rw [j5_size]
    have := d1 s.t
    omega
  have h := Tryd.strings_SplitN (jw s) ⟨#[32]⟩ 6 m w (by omega) hm (by decide) (by omega) (by omega)
  have e6 : min 6 ((jw s).size + 1) = 6 := by omega
  rw [e6] at h
  have e5 : 6 - 1 = 5 := rfl
  rw [e5, sp_jw s] at h
  refine h.mono fun e w' ⟨he, hw⟩ => ?_
  refine ⟨[(some ⟨w.heap.size, 0, none⟩, 6)], he, ?_, ?_⟩
  · rw [hw]
    exact ownsL_pre w _ _ _ 5 6 rfl rfl (by decide) (by decide) rfl
  · rw [hw]
    exact Below.alloc (Below.refl _ w) (Nat.le_refl _) _
end Go.Proofs.YtjnaficgcellkaaDoor
