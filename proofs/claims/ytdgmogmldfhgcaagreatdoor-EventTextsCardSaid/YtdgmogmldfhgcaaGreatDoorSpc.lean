/- Plain words: lists of bytes with blanks between, split at the blanks again; how many blanks there are. No run of the program. -/
import Derived.Test.YtdgmogmldfhgcaaGreatDoorStr
import Derived.Lib.Split
import Derived.Lib.SplitLaws
import Derived.Lib.Join
import Derived.Lib.Replace
set_option linter.unusedSimpArgs false
set_option linter.unusedVariables false
namespace Go.Proofs.YtdgmogmldfhgcaaGreatDoor
open Go.Lib

theorem bx_zero (s old : List UInt8) (hs : s ≠ []) (h : old.isPrefixOf s = true) : index s old = ((0 : Nat) : Int) := by
  cases s with
  | nil => exact absurd rfl hs
  | cons c r => rw [index, if_pos h]; rfl
theorem bx_cons (c : UInt8) (r old : List UInt8) (h : old.isPrefixOf (c :: r) = false) : (index (c :: r) old = -1 ∧ index r old = -1) ∨ ∃ i : Nat, index r old = i ∧ index (c :: r) old = ((i + 1 : Nat) : Int) := by
  rw [index, h]
  by_cases hm : index r old = -1
  · left; simp [hm]
  · right
    have := index_ge r old
    refine ⟨(index r old).toNat, by omega, ?_⟩
    simp [hm]; omega
theorem bt_hit (s old : List UInt8) (hs : s ≠ []) (ho : old ≠ []) (h : old.isPrefixOf s = true) : count s old = 1 + count (s.drop old.length) old := by
  have := count_hit (i := 0) ho (bx_zero s old hs h)
  rwa [Nat.zero_add] at this
theorem bt_cons (c : UInt8) (r old : List UInt8) (ho : old ≠ []) (h : old.isPrefixOf (c :: r) = false) : count (c :: r) old = count r old := by
  rcases bx_cons c r old h with ⟨h1, h2⟩ | ⟨i, h1, h2⟩
  · rw [count_miss h1, count_miss h2]
  · rw [count_hit ho h1, count_hit ho h2]
    have : (c :: r).drop (i + 1 + old.length) = r.drop (i + old.length) := by
      rw [show i + 1 + old.length = (i + old.length) + 1 by omega, List.drop_succ_cons]
    rw [this]
theorem bp_hit (r : List UInt8) : split (32 :: r) [32] = [] :: split r [32] := by
  unfold split
  have hp : [(32 : UInt8)].isPrefixOf (32 :: r) = true := by simp [List.isPrefixOf]
  have hi := bx_zero (32 :: r) [32] (by simp) hp
  rw [bt_hit (32 :: r) [32] (by simp) (by simp) hp, Nat.add_comm, splitK, hi]
  simp
theorem bp_cons (c : UInt8) (r : List UInt8) (hc : c.toNat ≠ 32) : split (c :: r) [32] = match split r [32] with | [] => [[c]] | p :: ps => (c :: p) :: ps := by
  unfold split
  have hp : [(32 : UInt8)].isPrefixOf (c :: r) = false := by
    have : (32 : UInt8) ≠ c := fun e => hc (by rw [← e]; rfl)
    simp [List.isPrefixOf, this]
  rw [bt_cons c r [32] (by simp) hp]
  rcases bx_cons c r [32] hp with ⟨h1, h2⟩ | ⟨i, h1, h2⟩
  · rw [count_miss h2]; rfl
  · rw [count_hit (by simp) h1, Nat.add_comm, splitK, splitK, h1, h2]
    have e1 : (((i : Nat) : Int) == -1) = false := beq_eq_false_iff_ne.2 (by omega)
    have e2 : (((i + 1 : Nat) : Int) == -1) = false := beq_eq_false_iff_ne.2 (by omega)
    rw [e1, e2]
    simp
theorem bp_nil : split [] [32] = [[]] := by
  unfold split
  have : index [] [32] = -1 := rfl
  rw [count_miss this]; rfl
theorem bp_word (x : List UInt8) (hx : ∀ c ∈ x, c.toNat ≠ 32) : split x [32] = [x] := by
  induction x with
  | nil => exact bp_nil
  | cons c r ih => rw [bp_cons c r (hx c (List.mem_cons_self ..)), ih fun d hd => hx d (List.mem_cons_of_mem _ hd)]
theorem bp_app (x l : List UInt8) (hx : ∀ c ∈ x, c.toNat ≠ 32) : split (x ++ 32 :: l) [32] = x :: split l [32] := by
  induction x with
  | nil => exact bp_hit l
  | cons c r ih => rw [List.cons_append, bp_cons c _ (hx c (List.mem_cons_self ..)), ih fun d hd => hx d (List.mem_cons_of_mem _ hd)]
theorem jt_cons (y : List UInt8) (r : List (List UInt8)) : joinTail [32] (y :: r) = 32 :: (y ++ joinTail [32] r) := by simp [joinTail]
theorem bp_join (xs : List (List UInt8)) (h : xs ≠ []) (hn : ∀ x ∈ xs, ∀ c ∈ x, c.toNat ≠ 32) : split (join xs [32]) [32] = xs := by
  induction xs with
  | nil => exact absurd rfl h
  | cons x r ih =>
    rw [join_cons]
    cases r with
    | nil => rw [show joinTail [32] ([] : List (List UInt8)) = [] from rfl, List.append_nil]; exact bp_word x (hn x (List.mem_cons_self ..))
    | cons y r =>
      have h2 := ih (by simp) fun z hz => hn z (List.mem_cons_of_mem _ hz)
      rw [join_cons] at h2
      rw [jt_cons, bp_app x _ (hn x (List.mem_cons_self ..)), h2]
theorem cn_word (x : List UInt8) (hx : ∀ c ∈ x, c.toNat ≠ 32) : x.count 32 = 0 := by
  rw [List.count_eq_zero]
  intro h
  exact hx 32 h rfl
theorem cn_join (xs : List (List UInt8)) (hn : ∀ x ∈ xs, ∀ c ∈ x, c.toNat ≠ 32) : countByte (join xs [32]) 32 = xs.length - 1 := by
  have key : ∀ r : List (List UInt8), (∀ x ∈ r, ∀ c ∈ x, c.toNat ≠ 32) → (joinTail [32] r).count 32 = r.length := by
    intro r
    induction r with
    | nil => intro _; rfl
    | cons y r ih =>
      intro hr
      rw [jt_cons, List.count_cons, List.count_append, cn_word y (hr y (List.mem_cons_self ..)), ih fun z hz => hr z (List.mem_cons_of_mem _ hz)]
      simp
  unfold countByte
  cases xs with
  | nil => rfl
  | cons x r =>
    rw [join_cons, List.count_append, cn_word x (hn x (List.mem_cons_self ..)), key r fun z hz => hn z (List.mem_cons_of_mem _ hz)]
    simp
/-- The pieces of a string between blanks. -/
def spB (s : ByteArray) : List ByteArray := splitB ⟨#[32]⟩ 0 (countB s ⟨#[32]⟩) s
theorem spB_data (l : List UInt8) : spB (str l) = (split l [32]).map str := by
  have h1 := splitB_data (str [32]) 0 (countB (str l) (str [32])) (str l)
  have h2 : splitK (str [32]).data.toList 0 (countB (str l) (str [32])) (str l).data.toList = split l [32] := by
    show splitK (str [32]).data.toList 0 (count (str l).data.toList (str [32]).data.toList) (str l).data.toList = _
    rw [str_list, str_list]; rfl
  rw [h2] at h1
  rw [← h1, List.map_map]
  show _ = (spB (str l)).map _
  conv => lhs; rw [← List.map_id (spB (str l))]
  apply List.map_congr_left
  intro x _
  exact (str_of x).symm
theorem spB_len (s : ByteArray) : (spB s).length = countB s ⟨#[32]⟩ + 1 := splitB_all ⟨#[32]⟩ (by decide) 0 _ s rfl
end Go.Proofs.YtdgmogmldfhgcaaGreatDoor
