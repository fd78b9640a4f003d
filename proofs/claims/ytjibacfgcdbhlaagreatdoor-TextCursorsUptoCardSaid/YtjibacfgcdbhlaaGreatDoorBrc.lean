/- The text package's contracts in the walker's words: numbers, and the chapter's examples. -/
import Derived.Test.YtjibacfgcdbhlaaGreatDoorVz
import Derived.Test.YtjibacfgcdbhlaaGreatDoorFda
import Derived.Test.YtjibacfgcdbhlaaGreatDoorNumA
import Derived.Test.YtjibacfgcdbhlaaGreatDoorNumP
import Derived.Test.YtjibacfgcdbhlaaGreatDoorTxK
import Derived.KernelRfl
set_option linter.unusedSimpArgs false
set_option linter.unusedVariables false
set_option maxRecDepth 100000
namespace Go.Proofs.YtjibacfgcdbhlaaGreatDoor
open Go.RowKit

/-- The library's variables, as what is known of the world. -/
def rE : List Ex := [⟨0, fun _ => none, Env, fun _ _ h hb => h.stays hb⟩]
theorem rE_env {w : World} (h : ExtOK rE w) : Env w := (h _ (List.mem_cons_self ..)).2
theorem rE_of {w : World} (h : Env w) : ExtOK rE w := fun e he => by
  rcases List.mem_cons.1 he with rfl | he
  · exact ⟨(fun _ _ h => by cases h), h⟩
  · cases he
theorem ownsL_nil (b : Nat) (w : World) : OwnsL b [] [] w := ⟨rfl, fun i o h => by simp [obsOf] at h, fun i j o p k h => by simp [obsOf] at h⟩
def nbV (b : ByteArray) (lo hi : Int) : Int := numV b.data.toList lo hi
def nbE (b : ByteArray) (lo hi : Int) : Int := numE b.data.toList lo hi
theorem str_back (b : ByteArray) : str b.data.toList = b := by cases b; rfl
theorem len_b (b : ByteArray) : b.data.toList.length = b.size := Array.length_toList
theorem num_sp (b : ByteArray) (lo hi : Int) (hb : b.size ≤ 1048576) (hlo : I64 lo) (hhi : I64 hi) : SpecG Tryz.prog rE [] 20 #[.string b, .int .i64 lo, .int .i64 hi] [] (fun _ => .tuple #[.int .i64 (nbV b lo hi), .int .i64 (nbE b lo hi)]) := by
  intro w hE _
  have hl : b.data.toList.length ≤ 281474976710656 := Nat.le_trans (Nat.le_of_eq (len_b b)) (by omega)
  have := number_any b.data.toList lo hi w hl hlo hhi (rE_env hE)
  rw [show S b.data.toList = .string b from congrArg Value.string (str_back b)] at this
  exact this.mono fun e w' ⟨he, hb⟩ => ⟨[], he, ownsL_nil _ _, hb⟩
theorem rnu_sp (b : ByteArray) (lo hi : Int) (hb : b.size ≤ 1048576) (hlo : I64 lo) (hhi : I64 hi) : SpecG Tryz.prog [] [] 47 #[.string b, .int .i64 lo, .int .i64 hi] [] (fun _ => .tuple #[.int .i64 (nbV b lo hi), .int .i64 (nbE b lo hi)]) := by
  intro w hE _
  have hl : b.data.toList.length ≤ 2000000 := Nat.le_trans (Nat.le_of_eq (len_b b)) (by omega)
  have := rnumber_any b.data.toList lo hi w hl hlo hhi
  rw [show S b.data.toList = .string b from congrArg Value.string (str_back b)] at this
  exact this.mono fun e w' ⟨he, hb⟩ => ⟨[], he, ownsL_nil _ _, hb⟩
theorem awk_sp : SpecG Tryz.prog rE [] 4 #[] [] (fun _ => .bool true) := by
  intro w hE _
  exact (awake_any w (rE_env hE)).mono fun e w' ⟨he, hb⟩ => ⟨[], he, ownsL_nil _ _, hb⟩
end Go.Proofs.YtjibacfgcdbhlaaGreatDoor
