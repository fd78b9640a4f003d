/- The chapter's example of squad: its text written and split. -/
import Derived.Test.YtjdldofgkhibnaaDoorBrg
set_option linter.unusedSimpArgs false
set_option linter.unusedVariables false
set_option maxRecDepth 100000
namespace Go.Proofs.YtjdldofgkhibnaaDoor
open Go.RowKit

/-- The text of the example. -/
def oaB : List UInt8 := [83, 73, 68, 69, 32, 79, 65, 75, 83, 10, 80, 76, 65, 89, 69, 82, 32, 65, 78, 78, 32, 67, 65, 80, 84, 65, 73, 78, 10, 80, 76, 65, 89, 69, 82, 32, 66, 69, 78, 32, 75, 69, 69, 80, 69, 82, 10]
def oaS : ByteArray := ⟨#[83, 73, 68, 69, 32, 79, 65, 75, 83, 10, 80, 76, 65, 89, 69, 82, 32, 65, 78, 78, 32, 67, 65, 80, 84, 65, 73, 78, 10, 80, 76, 65, 89, 69, 82, 32, 66, 69, 78, 32, 75, 69, 69, 80, 69, 82, 10]⟩
theorem oaS_eq : str oaB = oaS := rfl
theorem oa_wt : str (wrA [⟨0, [⟨#[83, 73, 68, 69]⟩, ⟨#[79, 65, 75, 83]⟩].map fB⟩, ⟨0, [⟨#[80, 76, 65, 89, 69, 82]⟩, ⟨#[65, 78, 78]⟩, ⟨#[67, 65, 80, 84, 65, 73, 78]⟩].map fB⟩, ⟨0, [⟨#[80, 76, 65, 89, 69, 82]⟩, ⟨#[66, 69, 78]⟩, ⟨#[75, 69, 69, 80, 69, 82]⟩].map fB⟩]) = oaS := by kernel_rfl
def oa_lin : List Lin := [⟨0, [⟨#[83, 73, 68, 69]⟩, ⟨#[79, 65, 75, 83]⟩].map fB⟩, ⟨0, [⟨#[80, 76, 65, 89, 69, 82]⟩, ⟨#[65, 78, 78]⟩, ⟨#[67, 65, 80, 84, 65, 73, 78]⟩].map fB⟩, ⟨0, [⟨#[80, 76, 65, 89, 69, 82]⟩, ⟨#[66, 69, 78]⟩, ⟨#[75, 69, 69, 80, 69, 82]⟩].map fB⟩]
theorem oa_fine : Fine oa_lin := ⟨by decide +kernel, by decide +kernel, by decide +kernel, by decide +kernel⟩
theorem wrO_sp (A : Option Addr) (c : Nat) (a1 : Option Addr) (c1 : Nat) (a2 : Option Addr) (c2 : Nat) (a3 : Option Addr) (c3 : Nat) (hA : AOK A 3) (h1 : AOK a1 2) (h2 : AOK a2 3) (h3 : AOK a3 3) : SpecG Tryd.prog rE [(A, [.int .i64 0, .slice a1 2 c1, .int .i64 0, .slice a2 3 c2, .int .i64 0, .slice a3 3 c3]), (a1, [.string ⟨#[83, 73, 68, 69]⟩, .int .i64 0, .bool false, .string ⟨#[79, 65, 75, 83]⟩, .int .i64 0, .bool false]), (a2, [.string ⟨#[80, 76, 65, 89, 69, 82]⟩, .int .i64 0, .bool false, .string ⟨#[65, 78, 78]⟩, .int .i64 0, .bool false, .string ⟨#[67, 65, 80, 84, 65, 73, 78]⟩, .int .i64 0, .bool false]), (a3, [.string ⟨#[80, 76, 65, 89, 69, 82]⟩, .int .i64 0, .bool false, .string ⟨#[66, 69, 78]⟩, .int .i64 0, .bool false, .string ⟨#[75, 69, 69, 80, 69, 82]⟩, .int .i64 0, .bool false])] 14 #[.slice A 3 c] [] (fun _ => .string oaS) := by
  have h := wr_gen A c [⟨a1, c1, [⟨#[83, 73, 68, 69]⟩, ⟨#[79, 65, 75, 83]⟩]⟩, ⟨a2, c2, [⟨#[80, 76, 65, 89, 69, 82]⟩, ⟨#[65, 78, 78]⟩, ⟨#[67, 65, 80, 84, 65, 73, 78]⟩]⟩, ⟨a3, c3, [⟨#[80, 76, 65, 89, 69, 82]⟩, ⟨#[66, 69, 78]⟩, ⟨#[75, 69, 69, 80, 69, 82]⟩]⟩] hA (by intro l hl; simp only [List.mem_cons, List.not_mem_nil, or_false] at hl; rcases hl with rfl | rfl | rfl <;> assumption) (show Fine (lnL [⟨a1, c1, [⟨#[83, 73, 68, 69]⟩, ⟨#[79, 65, 75, 83]⟩]⟩, ⟨a2, c2, [⟨#[80, 76, 65, 89, 69, 82]⟩, ⟨#[65, 78, 78]⟩, ⟨#[67, 65, 80, 84, 65, 73, 78]⟩]⟩, ⟨a3, c3, [⟨#[80, 76, 65, 89, 69, 82]⟩, ⟨#[66, 69, 78]⟩, ⟨#[75, 69, 69, 80, 69, 82]⟩]⟩]) from oa_fine)
  have e : wtS [⟨a1, c1, [⟨#[83, 73, 68, 69]⟩, ⟨#[79, 65, 75, 83]⟩]⟩, ⟨a2, c2, [⟨#[80, 76, 65, 89, 69, 82]⟩, ⟨#[65, 78, 78]⟩, ⟨#[67, 65, 80, 84, 65, 73, 78]⟩]⟩, ⟨a3, c3, [⟨#[80, 76, 65, 89, 69, 82]⟩, ⟨#[66, 69, 78]⟩, ⟨#[75, 69, 69, 80, 69, 82]⟩]⟩] = oaS := oa_wt
  rw [e] at h
  exact h
def oa_sp : List Lin := [⟨1, [⟨[83, 73, 68, 69], 1, false⟩, ⟨[79, 65, 75, 83], 6, false⟩]⟩,
  ⟨2, [⟨[80, 76, 65, 89, 69, 82], 1, false⟩, ⟨[65, 78, 78], 8, false⟩, ⟨[67, 65, 80, 84, 65, 73, 78], 12, false⟩]⟩,
  ⟨3, [⟨[80, 76, 65, 89, 69, 82], 1, false⟩, ⟨[66, 69, 78], 8, false⟩, ⟨[75, 69, 69, 80, 69, 82], 12, false⟩]⟩]
theorem oa_spL : spL oaB = oa_sp := by kernel_rfl
theorem oa_spD : spD oaB = [] := by kernel_rfl
theorem spO_sp : SpecN Tryd.prog rE [] 17 #[.string oaS] [3, 0, 2, 3, 3] (fun ads => [⟨40, 0, 3, [.int .i64 1, .slice (nthA ads 2).1 2 (nthA ads 2).2, .int .i64 2, .slice (nthA ads 3).1 3 (nthA ads 3).2, .int .i64 3, .slice (nthA ads 4).1 3 (nthA ads 4).2]⟩,
  ⟨49, 0, 0, []⟩,
  ⟨45, 0, 2, [.string ⟨#[83, 73, 68, 69]⟩, .int .i64 1, .bool false, .string ⟨#[79, 65, 75, 83]⟩, .int .i64 6, .bool false]⟩,
  ⟨45, 0, 3, [.string ⟨#[80, 76, 65, 89, 69, 82]⟩, .int .i64 1, .bool false, .string ⟨#[65, 78, 78]⟩, .int .i64 8, .bool false, .string ⟨#[67, 65, 80, 84, 65, 73, 78]⟩, .int .i64 12, .bool false]⟩,
  ⟨45, 0, 3, [.string ⟨#[80, 76, 65, 89, 69, 82]⟩, .int .i64 1, .bool false, .string ⟨#[66, 69, 78]⟩, .int .i64 8, .bool false, .string ⟨#[75, 69, 69, 80, 69, 82]⟩, .int .i64 12, .bool false]⟩]) (fun ads => .tuple #[.slice (nthA ads 0).1 3 (nthA ads 0).2, .slice (nthA ads 1).1 0 (nthA ads 1).2]) := by
  have h := split_gen oaB (by decide)
  rw [oa_spL, oa_spD] at h
  exact h
end Go.Proofs.YtjdldofgkhibnaaDoor
