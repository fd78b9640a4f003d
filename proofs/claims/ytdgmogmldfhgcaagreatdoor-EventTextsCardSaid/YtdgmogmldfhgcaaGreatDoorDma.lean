/- Contracts of layer 10 (dismissal): the table of ways; Ways on fair deliveries and wides. -/
import Derived.Test.YtdgmogmldfhgcaaGreatDoorVz
import Derived.KernelRfl
import Derived.Test.YtdgmogmldfhgcaaGreatDoorProg
set_option linter.unusedSimpArgs false
set_option linter.unusedVariables false
set_option maxRecDepth 100000
namespace Go.Proofs.YtdgmogmldfhgcaaGreatDoor
open Go.RowKit


/-- The table of ways: each with its name, the types on which it is possible, whether a fielder is named. -/
def wC : List Value := [.string ⟨#[78, 79, 84, 79, 85, 84]⟩, .bool false, .bool false, .bool false, .bool false, .string ⟨#[66, 79, 87, 76, 69, 68]⟩, .bool true, .bool false, .bool false, .bool false, .string ⟨#[67, 65, 85, 71, 72, 84]⟩, .bool true, .bool false, .bool false, .bool true, .string ⟨#[76, 66, 87]⟩, .bool true, .bool false, .bool false, .bool false, .string ⟨#[83, 84, 85, 77, 80, 69, 68]⟩, .bool true, .bool true, .bool false, .bool true, .string ⟨#[72, 73, 84, 87, 73, 67, 75, 69, 84]⟩, .bool true, .bool true, .bool false, .bool false, .string ⟨#[82, 85, 78, 79, 85, 84]⟩, .bool true, .bool true, .bool true, .bool true, .string ⟨#[72, 73, 84, 84, 87, 73, 67, 69]⟩, .bool true, .bool false, .bool true, .bool false, .string ⟨#[79, 66, 83, 84, 82, 85, 67, 84, 73, 78, 71]⟩, .bool true, .bool true, .bool true, .bool false, .string ⟨#[84, 73, 77, 69, 68, 79, 85, 84]⟩, .bool false, .bool false, .bool false, .bool false, .string ⟨#[82, 69, 84, 73, 82, 69, 68]⟩, .bool false, .bool false, .bool false, .bool false]
/-- The table of the lines' forms: kind, answer, first word, last word. -/
def fC : List Value := [.int .u8 1, .bool true, .string ⟨#[84, 79, 83, 83]⟩, .string ⟨#[66, 65, 84]⟩, .int .u8 1, .bool false, .string ⟨#[84, 79, 83, 83]⟩, .string ⟨#[70, 73, 69, 76, 68]⟩, .int .u8 2, .bool false, .string ⟨#[79, 80, 69, 78]⟩, .string ⟨#[]⟩, .int .u8 3, .bool false, .string ⟨#[66, 79, 87, 76]⟩, .string ⟨#[]⟩, .int .u8 4, .bool false, .string ⟨#[66, 65, 76, 76]⟩, .string ⟨#[]⟩, .int .u8 5, .bool false, .string ⟨#[69, 78, 84, 69, 82]⟩, .string ⟨#[]⟩, .int .u8 5, .bool true, .string ⟨#[84, 73, 77, 69, 79, 85, 84]⟩, .string ⟨#[]⟩, .int .u8 6, .bool true, .string ⟨#[82, 69, 84, 73, 82, 69]⟩, .string ⟨#[72, 85, 82, 84]⟩, .int .u8 6, .bool false, .string ⟨#[82, 69, 84, 73, 82, 69]⟩, .string ⟨#[79, 85, 84]⟩, .int .u8 7, .bool false, .string ⟨#[70, 73, 69, 76, 68]⟩, .string ⟨#[]⟩, .int .u8 8, .bool false, .string ⟨#[75, 69, 69, 80, 69, 82]⟩, .string ⟨#[]⟩, .int .u8 9, .bool true, .string ⟨#[83, 85, 66]⟩, .string ⟨#[79, 78]⟩, .int .u8 9, .bool false, .string ⟨#[83, 85, 66]⟩, .string ⟨#[79, 70, 70]⟩, .int .u8 10, .bool false, .string ⟨#[78, 69, 87, 66, 65, 76, 76]⟩, .string ⟨#[]⟩, .int .u8 11, .bool false, .string ⟨#[68, 69, 67, 76, 65, 82, 69]⟩, .string ⟨#[]⟩, .int .u8 12, .bool true, .string ⟨#[70, 79, 76, 76, 79, 87]⟩, .string ⟨#[89, 69, 83]⟩, .int .u8 12, .bool false, .string ⟨#[70, 79, 76, 76, 79, 87]⟩, .string ⟨#[78, 79]⟩, .int .u8 13, .bool false, .string ⟨#[80, 69, 78, 65, 76, 84, 89]⟩, .string ⟨#[]⟩, .int .u8 14, .bool true, .string ⟨#[82, 69, 86, 73, 69, 87]⟩, .string ⟨#[75, 69, 80, 84]⟩, .int .u8 14, .bool false, .string ⟨#[82, 69, 86, 73, 69, 87]⟩, .string ⟨#[76, 79, 83, 84]⟩, .int .u8 15, .bool false, .string ⟨#[82, 69, 86, 73, 83, 69]⟩, .string ⟨#[]⟩, .int .u8 16, .bool false, .string ⟨#[83, 84, 79, 80]⟩, .string ⟨#[]⟩]
def wE : List Ex :=
  ⟨0, fun off => lgo fC off, fun _ => True, fun _ _ _ _ => trivial⟩ ::
  []
def hw (l : List Int) : List Value := l.map fun n => .int .u8 n

def ways_10_l : List Value := [.int .u8 1, .int .u8 2, .int .u8 3, .int .u8 4, .int .u8 5, .int .u8 6, .int .u8 7, .int .u8 8]
def ways_11_l : List Value := [.int .u8 6, .int .u8 7, .int .u8 8]
def ways_20_l : List Value := [.int .u8 4, .int .u8 5, .int .u8 6, .int .u8 8]
def ways_21_l : List Value := [.int .u8 6, .int .u8 8]
end Go.Proofs.YtdgmogmldfhgcaaGreatDoor
