/- Layer 8 (event): contracts at the literals of the chapter's examples. -/
import Derived.Test.YtdgmogmldfhgcaaGreatDoorVz
import Derived.KernelRfl
import Derived.Test.YtdgmogmldfhgcaaGreatDoorProg
import Derived.Test.YtdgmogmldfhgcaaGreatDoorEvw
import Derived.Test.YtdgmogmldfhgcaaGreatDoorEwt
import Derived.Test.YtdgmogmldfhgcaaGreatDoorBrs
import Derived.Test.YtdgmogmldfhgcaaGreatDoorBrv
import Derived.Test.YtdgmogmldfhgcaaGreatDoorSpc
import Derived.Test.YtdgmogmldfhgcaaGreatDoorEvj
set_option linter.unusedSimpArgs false
set_option linter.unusedVariables false
set_option maxRecDepth 100000
namespace Go.Proofs.YtdgmogmldfhgcaaGreatDoor
open Go.RowKit


theorem ownsL_alloc (w : World) (el : TypeId) (cells : List Value) (n : Nat) (h : cells.length = n * 1) (hn : n ≤ 4294967296) : OwnsL w.heap.size [⟨el, 1, n, cells⟩] [(some ⟨w.heap.size, 0, none⟩, n)] (w.alloc (.cells cells.toArray el)) := by
  have hb : (w.alloc (.cells cells.toArray el)).heap[w.heap.size]? = some (.cells cells.toArray el (0, 0)) := by
    show (w.heap.push (Obj.cells cells.toArray el (0, 0)))[w.heap.size]? = some _
    rw [Array.getElem?_push_size]
  refine ⟨rfl, fun i o ho => ?_, fun i j o p k ho hp _ _ => ?_⟩
  · match i, ho with
    | 0, ho =>
      simp only [obsOf, List.getElem?_cons_zero, Option.some.injEq] at ho
      subst ho
      refine ⟨⟨h, Or.inr ⟨w.heap.size, n, cells.toArray, rfl, Nat.le_refl _, hb, Nat.le_refl _, by unfold maxLen; omega, by simpa using h, by simp [← h]⟩⟩, fun k hk => ?_, fun u hu => ?_⟩
      · simp [Ob.dep] at hk; omega
      · simp only [Option.some.injEq] at hu
        subst hu
        exact ⟨⟨(fun e => by cases e), (fun _ q hq => by injection hq with hq; subst hq; rfl)⟩, Nat.le_refl _⟩
    | i + 1, ho => simp [obsOf] at ho
  · match i, j, ho, hp with
    | 0, 0, _, _ => rfl
    | i + 1, _, ho, _ => simp [obsOf] at ho
    | 0, j + 1, _, hp => simp [obsOf] at hp
theorem spl_l (s : ByteArray) (l : List ByteArray) (hs : s.size ≤ 1000000) (h : spB s = l) : SpecG Tryz.prog rE [] 40 #[.string s, .string ⟨#[32]⟩] [⟨9, 1, l.length, l.map Value.string⟩] (fun ads => .slice (nthA ads 0).1 l.length l.length) := by
  subst h
  intro w hE _
  obtain ⟨m, hm⟩ := (rE_env hE).max
  have h1 := Tryz.strings_Split s ⟨#[32]⟩ m w (by omega) hm (by decide)
  refine h1.mono fun e w' ⟨he, hw⟩ => ?_
  have hl := spB_len s
  have hc : (spB s).length ≤ s.size + 1 := by
    have := Lib.countB_le ⟨#[32]⟩ (by decide) s.size s (Nat.le_refl _)
    omega
  refine ⟨[(some ⟨w.heap.size, 0, none⟩, (spB s).length)], ?_, ?_, ?_⟩
  · rw [he, hl]; rfl
  · rw [hw]
    exact ownsL_alloc w _ ((spB s).map Value.string) _ (by rw [List.length_map]; omega) (by omega)
  · rw [hw]
    exact Below.alloc (Below.refl _ w) (Nat.le_refl _) _
theorem sA_sp : SpecG Tryz.prog rE [] 40 #[.string ⟨#[84, 79, 83, 83, 32, 50, 32, 70, 73, 69, 76, 68]⟩, .string ⟨#[32]⟩] [⟨9, 1, 3, [.string ⟨#[84, 79, 83, 83]⟩, .string ⟨#[50]⟩, .string ⟨#[70, 73, 69, 76, 68]⟩]⟩] (fun ads => .slice (nthA ads 0).1 3 3) :=
  spl_l ⟨#[84, 79, 83, 83, 32, 50, 32, 70, 73, 69, 76, 68]⟩ [⟨#[84, 79, 83, 83]⟩, ⟨#[50]⟩, ⟨#[70, 73, 69, 76, 68]⟩] (by decide) (by kernel_rfl)
theorem sB_sp : SpecG Tryz.prog rE [] 40 #[.string ⟨#[66, 79, 87, 76, 32, 49, 50]⟩, .string ⟨#[32]⟩] [⟨9, 1, 2, [.string ⟨#[66, 79, 87, 76]⟩, .string ⟨#[49, 50]⟩]⟩] (fun ads => .slice (nthA ads 0).1 2 2) :=
  spl_l ⟨#[66, 79, 87, 76, 32, 49, 50]⟩ [⟨#[66, 79, 87, 76]⟩, ⟨#[49, 50]⟩] (by decide) (by kernel_rfl)
theorem sC_sp : SpecG Tryz.prog rE [] 40 #[.string ⟨#[84, 79, 83, 83, 32, 49, 32, 66, 65, 84]⟩, .string ⟨#[32]⟩] [⟨9, 1, 3, [.string ⟨#[84, 79, 83, 83]⟩, .string ⟨#[49]⟩, .string ⟨#[66, 65, 84]⟩]⟩] (fun ads => .slice (nthA ads 0).1 3 3) :=
  spl_l ⟨#[84, 79, 83, 83, 32, 49, 32, 66, 65, 84]⟩ [⟨#[84, 79, 83, 83]⟩, ⟨#[49]⟩, ⟨#[66, 65, 84]⟩] (by decide) (by kernel_rfl)
theorem sD_sp : SpecG Tryz.prog rE [] 40 #[.string ⟨#[80, 76, 65, 89]⟩, .string ⟨#[32]⟩] [⟨9, 1, 1, [.string ⟨#[80, 76, 65, 89]⟩]⟩] (fun ads => .slice (nthA ads 0).1 1 1) :=
  spl_l ⟨#[80, 76, 65, 89]⟩ [⟨#[80, 76, 65, 89]⟩] (by decide) (by kernel_rfl)
theorem nA_sp : SpecG Tryz.prog rE [] 68 #[.string ⟨#[50]⟩, .int .i64 1, .int .i64 2] [] (fun _ => .tuple #[.int .i64 2, .int .i64 0]) := by
  have h := num_g [50] 1 2 (by decide) ⟨by decide, by decide⟩ ⟨by decide, by decide⟩
  have e1 : numV [50] 1 2 = 2 := by decide +kernel
  have e2 : numE [50] 1 2 = 0 := by decide +kernel
  rw [e1, e2] at h
  exact h
theorem nB_sp : SpecG Tryz.prog rE [] 68 #[.string ⟨#[49, 50]⟩, .int .i64 1, .int .i64 11] [] (fun _ => .tuple #[.int .i64 0, .int .i64 2]) := by
  have h := num_g [49, 50] 1 11 (by decide) ⟨by decide, by decide⟩ ⟨by decide, by decide⟩
  have e1 : numV [49, 50] 1 11 = 0 := by decide +kernel
  have e2 : numE [49, 50] 1 11 = 2 := by decide +kernel
  rw [e1, e2] at h
  exact h
theorem nC_sp : SpecG Tryz.prog rE [] 68 #[.string ⟨#[49]⟩, .int .i64 1, .int .i64 2] [] (fun _ => .tuple #[.int .i64 1, .int .i64 0]) := by
  have h := num_g [49] 1 2 (by decide) ⟨by decide, by decide⟩ ⟨by decide, by decide⟩
  have e1 : numV [49] 1 2 = 1 := by decide +kernel
  have e2 : numE [49] 1 2 = 0 := by decide +kernel
  rw [e1, e2] at h
  exact h
theorem tA_sp : SpecG Tryz.prog vE [] 10 #[.agg #[.int .u8 1, .int .i64 2, .int .i64 0, .int .i64 0, .bool false, .int .i64 0, .int .i64 0, .int .u8 0, .int .u8 0, .int .i64 0, .int .i64 0, .int .i64 0, .bool false, .int .u8 0, .int .i64 0, .int .i64 0, .int .i64 0, .bool false, .int .i64 0]] [] (fun _ => .tuple #[.string ⟨#[84, 79, 83, 83, 32, 50, 32, 70, 73, 69, 76, 68]⟩, .int .i64 0]) := by
  have h := tx_1n_sp ⟨2, 0, 0, false, 0, 0⟩ ⟨0, 0, 0, 0, 0, false, 0, 0, 0, 0, false, 0⟩ (by decide +kernel)
  have e : j3 ⟨#[84, 79, 83, 83]⟩ (itS (⟨2, 0, 0, false, 0, 0⟩ : Ev).sd) ⟨#[70, 73, 69, 76, 68]⟩ = ⟨#[84, 79, 83, 83, 32, 50, 32, 70, 73, 69, 76, 68]⟩ := by kernel_rfl
  exact (congrArg (fun b => SpecG Tryz.prog vE [] 10 #[.agg #[.int .u8 1, .int .i64 2, .int .i64 0, .int .i64 0, .bool false, .int .i64 0, .int .i64 0, .int .u8 0, .int .u8 0, .int .i64 0, .int .i64 0, .int .i64 0, .bool false, .int .u8 0, .int .i64 0, .int .i64 0, .int .i64 0, .bool false, .int .i64 0]] [] (fun _ => .tuple #[.string b, .int .i64 0])) e).mp h
theorem tC_sp : SpecG Tryz.prog vE [] 10 #[.agg #[.int .u8 1, .int .i64 1, .int .i64 0, .int .i64 0, .bool true, .int .i64 0, .int .i64 0, .int .u8 0, .int .u8 0, .int .i64 0, .int .i64 0, .int .i64 0, .bool false, .int .u8 0, .int .i64 0, .int .i64 0, .int .i64 0, .bool false, .int .i64 0]] [] (fun _ => .tuple #[.string ⟨#[84, 79, 83, 83, 32, 49, 32, 66, 65, 84]⟩, .int .i64 0]) := by
  have h := tx_1y_sp ⟨1, 0, 0, true, 0, 0⟩ ⟨0, 0, 0, 0, 0, false, 0, 0, 0, 0, false, 0⟩ (by decide +kernel)
  have e : j3 ⟨#[84, 79, 83, 83]⟩ (itS (⟨1, 0, 0, true, 0, 0⟩ : Ev).sd) ⟨#[66, 65, 84]⟩ = ⟨#[84, 79, 83, 83, 32, 49, 32, 66, 65, 84]⟩ := by kernel_rfl
  exact (congrArg (fun b => SpecG Tryz.prog vE [] 10 #[.agg #[.int .u8 1, .int .i64 1, .int .i64 0, .int .i64 0, .bool true, .int .i64 0, .int .i64 0, .int .u8 0, .int .u8 0, .int .i64 0, .int .i64 0, .int .i64 0, .bool false, .int .u8 0, .int .i64 0, .int .i64 0, .int .i64 0, .bool false, .int .i64 0]] [] (fun _ => .tuple #[.string b, .int .i64 0])) e).mp h
theorem tR_sp : SpecG Tryz.prog vE [] 10 #[.agg #[.int .u8 14, .int .i64 1, .int .i64 0, .int .i64 0, .bool false, .int .i64 0, .int .i64 0, .int .u8 0, .int .u8 0, .int .i64 0, .int .i64 0, .int .i64 0, .bool false, .int .u8 0, .int .i64 0, .int .i64 0, .int .i64 0, .bool false, .int .i64 0]] [] (fun _ => .tuple #[.string ⟨#[82, 69, 86, 73, 69, 87, 32, 49, 32, 76, 79, 83, 84]⟩, .int .i64 0]) := by
  have h := tx_14n_sp ⟨1, 0, 0, false, 0, 0⟩ ⟨0, 0, 0, 0, 0, false, 0, 0, 0, 0, false, 0⟩ (by decide +kernel)
  have e : j3 ⟨#[82, 69, 86, 73, 69, 87]⟩ (itS (⟨1, 0, 0, false, 0, 0⟩ : Ev).sd) ⟨#[76, 79, 83, 84]⟩ = ⟨#[82, 69, 86, 73, 69, 87, 32, 49, 32, 76, 79, 83, 84]⟩ := by kernel_rfl
  exact (congrArg (fun b => SpecG Tryz.prog vE [] 10 #[.agg #[.int .u8 14, .int .i64 1, .int .i64 0, .int .i64 0, .bool false, .int .i64 0, .int .i64 0, .int .u8 0, .int .u8 0, .int .i64 0, .int .i64 0, .int .i64 0, .bool false, .int .u8 0, .int .i64 0, .int .i64 0, .int .i64 0, .bool false, .int .i64 0]] [] (fun _ => .tuple #[.string b, .int .i64 0])) e).mp h
theorem tB_sp : SpecG Tryz.prog vE [] 10 #[.agg #[.int .u8 3, .int .i64 0, .int .i64 0, .int .i64 0, .bool false, .int .i64 0, .int .i64 0, .int .u8 0, .int .u8 0, .int .i64 0, .int .i64 0, .int .i64 0, .bool false, .int .u8 0, .int .i64 0, .int .i64 0, .int .i64 0, .bool false, .int .i64 0]] [] (fun _ => .tuple #[.string ⟨#[]⟩, .int .i64 2]) := by
  have h := txb_sp 3 ⟨0, 0, 0, false, 0, 0⟩ ⟨0, 0, 0, 0, 0, false, 0, 0, 0, 0, false, 0⟩ (by decide +kernel)
  have e : evC 3 ⟨0, 0, 0, false, 0, 0⟩ ⟨0, 0, 0, 0, 0, false, 0, 0, 0, 0, false, 0⟩ = 2 := by decide +kernel
  rw [e] at h
  exact h
theorem tD_sp : SpecG Tryz.prog vE [] 10 #[.agg #[.int .u8 0, .int .i64 0, .int .i64 0, .int .i64 0, .bool false, .int .i64 0, .int .i64 0, .int .u8 0, .int .u8 0, .int .i64 0, .int .i64 0, .int .i64 0, .bool false, .int .u8 0, .int .i64 0, .int .i64 0, .int .i64 0, .bool false, .int .i64 0]] [] (fun _ => .tuple #[.string ⟨#[]⟩, .int .i64 3]) := by
  have h := txb_sp 0 ⟨0, 0, 0, false, 0, 0⟩ ⟨0, 0, 0, 0, 0, false, 0, 0, 0, 0, false, 0⟩ (by decide +kernel)
  have e : evC 0 ⟨0, 0, 0, false, 0, 0⟩ ⟨0, 0, 0, 0, 0, false, 0, 0, 0, 0, false, 0⟩ = 3 := by decide +kernel
  rw [e] at h
  exact h

theorem joC_sp (A : Option Addr) (c : Nat) (hA : AOK A 3) (hc : 3 ≤ c) : SpecG Tryz.prog [] [(A, [.string ⟨#[84, 79, 83, 83]⟩, .string ⟨#[49]⟩, .string ⟨#[66, 65, 84]⟩])] 29 #[.slice A 3 c, .string ⟨#[32]⟩] [] (fun _ => .string ⟨#[84, 79, 83, 83, 32, 49, 32, 66, 65, 84]⟩) := by
  have h := jo3_sp A c ⟨#[84, 79, 83, 83]⟩ ⟨#[49]⟩ ⟨#[66, 65, 84]⟩ hA hc (by decide) (by decide) (by decide)
  have e : j3 ⟨#[84, 79, 83, 83]⟩ ⟨#[49]⟩ ⟨#[66, 65, 84]⟩ = ⟨#[84, 79, 83, 83, 32, 49, 32, 66, 65, 84]⟩ := by kernel_rfl
  rw [e] at h
  exact h
theorem joD_sp (A : Option Addr) (c : Nat) (hA : AOK A 1) (hc : 1 ≤ c) : SpecG Tryz.prog [] [(A, [.string ⟨#[80, 76, 65, 89]⟩])] 29 #[.slice A 1 c, .string ⟨#[32]⟩] [] (fun _ => .string ⟨#[80, 76, 65, 89]⟩) := by
  have h := jo1_sp A c ⟨#[80, 76, 65, 89]⟩ hA hc (by decide)
  have e : j1 ⟨#[80, 76, 65, 89]⟩ = ⟨#[80, 76, 65, 89]⟩ := by kernel_rfl
  rw [e] at h
  exact h

end Go.Proofs.YtdgmogmldfhgcaaGreatDoor
