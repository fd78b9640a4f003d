/- Layer 14 (innings), the laws' parts: few, bounded, the chapter's example. -/
import Derived.Test.YtnhlpgdadbjmoaaGreatDoorVz
import Derived.KernelRfl
import Derived.Test.YtnhlpgdadbjmoaaGreatDoorProg
import Derived.Test.YtnhlpgdadbjmoaaGreatDoorFda
import Derived.Test.YtnhlpgdadbjmoaaGreatDoorFdb
import Derived.Test.YtnhlpgdadbjmoaaGreatDoorFdc
import Derived.Test.YtnhlpgdadbjmoaaGreatDoorFdd
import Derived.Test.YtnhlpgdadbjmoaaGreatDoorFdf
import Derived.Test.YtnhlpgdadbjmoaaGreatDoorFdh
import Derived.Test.YtnhlpgdadbjmoaaGreatDoorFdk
import Derived.Test.YtnhlpgdadbjmoaaGreatDoorRua
import Derived.Test.YtnhlpgdadbjmoaaGreatDoorCra
import Derived.Test.YtnhlpgdadbjmoaaGreatDoorCrb
import Derived.Test.YtnhlpgdadbjmoaaGreatDoorCrn
import Derived.Test.YtnhlpgdadbjmoaaGreatDoorSpa
import Derived.Test.YtnhlpgdadbjmoaaGreatDoorIva
import Derived.Test.YtnhlpgdadbjmoaaGreatDoorIvb
import Derived.Test.YtnhlpgdadbjmoaaGreatDoorIvc
import Derived.Test.YtnhlpgdadbjmoaaGreatDoorDvk
import Derived.Test.YtnhlpgdadbjmoaaGreatDoorEvz
import Derived.Test.YtnhlpgdadbjmoaaGreatDoorSta
import Derived.Test.YtnhlpgdadbjmoaaGreatDoorStb
import Derived.Test.YtnhlpgdadbjmoaaGreatDoorStes
import Derived.Test.YtnhlpgdadbjmoaaGreatDoorStcs
set_option linter.unusedSimpArgs false
set_option linter.unusedVariables false
set_option maxRecDepth 100000
namespace Go.Proofs.YtnhlpgdadbjmoaaGreatDoor
open Go.RowKit


def bnd (r : Rul) : Rul := { r with nm := r.nm.extract 0 (if (20 : Int) < r.nm.size then 20 else (r.nm.size : Int)).toNat, pw := r.pw.take 10 }
theorem bnd_nm (r : Rul) : (bnd r).nm.size ≤ 1000000 := by
  show (r.nm.extract 0 _).size ≤ _
  rw [ByteArray.size_extract]
  split <;> omega
theorem bnd_pw (r : Rul) : (bnd r).pw.length ≤ 1000000 := by
  show (r.pw.take 10).length ≤ _
  rw [List.length_take]
  omega
theorem aok_b {r : Rul} {B : RAd} (hB : AOK B.a r.pw.length) : AOK B.a (bnd r).pw.length := aok_take 10 hB
theorem few_len (s : Inn) : (few s).bts.length ≤ 13 ∧ (few s).bws.length ≤ 13 ∧ (few s).bfs.length ≤ 13 ∧ (few s).bwd.length ≤ 13 ∧ (few s).sbs.length ≤ 13 := by
  simp only [few, List.length_take]
  omega
theorem sm_few (s : Inn) : Sm (few s) := by
  obtain ⟨b1, b2, b3, b4, b5⟩ := few_len s
  exact ⟨by omega, by omega⟩
theorem cap_few {s : Inn} {A : Adr} (h : CapI s A) : CapI (few s) A := by
  obtain ⟨h1, h2, h3, h4, h5⟩ := h
  constructor <;> (simp only [few, List.length_take]; omega)
def shR : Rul := ⟨⟨#[83, 72, 79, 82, 84]⟩, 3, 1, 2, 4, 0, 1, 1, true, 0, 0, 0, 1, []⟩
def dZ : Dl := ⟨0, 0, 0, 0, 0, false, 0, 0, 0, 0, false, 0⟩
def aS0 : Inn := ⟨1, 0, 2, 0, 0, 0, 0, 0, 0, 0, 0, 0, 0, 0, [0, 0, 0], 0, [], [], false, [0, 0, 0], false, 0, 0, 0, [false, false, false], 0, 0, 0⟩
def aS1 : Inn := ⟨1, 0, 2, 0, 0, 0, 0, 0, 0, 0, 0, 0, 1, 2, [1, 1, 0], 0, [], [], false, [0, 0, 0], false, 0, 0, 0, [false, false, false], 0, 0, 0⟩
def aS2 : Inn := ⟨1, 0, 2, 0, 0, 0, 0, 0, 0, 0, 0, 0, 1, 2, [1, 1, 0], 0, [], [], false, [0, 0, 0], false, 0, 3, 0, [false, false, false], 0, 0, 0⟩
def aS3 : Inn := ⟨1, 0, 2, 0, 0, 0, 0, 0, 0, 0, 0, 0, 1, 2, [1, 1, 0], 1, [], [], false, [0, 0, 0], false, 0, 3, 0, [false, false, false], 0, 0, 0⟩
def aS4 : Inn := ⟨1, 0, 2, 1, 0, 0, 0, 0, 0, 0, 0, 1, 2, 1, [1, 1, 0], 1, [1], [], true, [1, 0, 0], false, 1, 3, 0, [false, false, false], 0, 0, 0⟩
def aS5 : Inn := ⟨1, 0, 2, 2, 0, 1, 0, 0, 0, 0, 0, 1, 2, 1, [1, 1, 0], 1, [1], [], true, [1, 0, 0], false, 1, 3, 0, [false, false, false], 0, 0, 0⟩
def aS6 : Inn := ⟨1, 0, 2, 2, 1, 1, 0, 0, 0, 0, 0, 2, 0, 1, [1, 2, 0], 1, [1], [], true, [2, 0, 0], false, 2, 3, 0, [false, false, false], 0, 0, 0⟩
def aS8 : Inn := ⟨1, 0, 2, 2, 1, 1, 0, 0, 0, 0, 0, 2, 3, 1, [1, 2, 1], 1, [1], [], false, [2, 0, 0], false, 2, 3, 0, [false, false, false], 0, 0, 0⟩
def aS9 : Inn := ⟨1, 0, 2, 2, 2, 1, 0, 0, 0, 0, 0, 3, 0, 1, [1, 2, 2], 1, [1], [], true, [3, 0, 0], false, 3, 3, 0, [false, false, false], 0, 0, 1⟩


theorem aw0_eq : stS shR aS0 2 ⟨0, 1, 2, false, 0, 0⟩ ⟨0, 0, 0, 0, 0, false, 0, 0, 0, 0, false, 0⟩ = aS1 ∧ stL shR aS0 2 ⟨0, 1, 2, false, 0, 0⟩ ⟨0, 0, 0, 0, 0, false, 0, 0, 0, 0, false, 0⟩ = 0 := by
  constructor
  · kernel_rfl
  · kernel_rfl
theorem aw0_sp (A : Adr) (hA : OkI aS0 A) (hc : CapI aS0 A) : SpecG Tryz.prog wE ((none, cP []) :: rdI aS0 A) 24 #[ruV shR ⟨none, 0⟩, inV aS0 A, evV 2 ⟨0, 1, 2, false, 0, 0⟩ ⟨0, 0, 0, 0, 0, false, 0, 0, 0, 0, false, 0⟩] (rowI aS1) (fun ads => .tuple #[inV aS1 (adA ads), .int .i64 0]) := by
  have h := stp_sp shR ⟨none, 0⟩ aS0 A 2 ⟨0, 1, 2, false, 0, 0⟩ ⟨0, 0, 0, 0, 0, false, 0, 0, 0, 0, false, 0⟩ aok0 (by decide) (by decide) hA hc (by decide) ⟨by decide, by decide⟩ (by decide)
  rw [aw0_eq.1, aw0_eq.2] at h
  exact h

theorem aw1_eq : stS shR aS1 8 ⟨0, 3, 0, false, 0, 0⟩ ⟨0, 0, 0, 0, 0, false, 0, 0, 0, 0, false, 0⟩ = aS2 ∧ stL shR aS1 8 ⟨0, 3, 0, false, 0, 0⟩ ⟨0, 0, 0, 0, 0, false, 0, 0, 0, 0, false, 0⟩ = 0 := by
  constructor
  · kernel_rfl
  · kernel_rfl
theorem aw1_sp (A : Adr) (hA : OkI aS1 A) (hc : CapI aS1 A) : SpecG Tryz.prog wE ((none, cP []) :: rdI aS1 A) 24 #[ruV shR ⟨none, 0⟩, inV aS1 A, evV 8 ⟨0, 3, 0, false, 0, 0⟩ ⟨0, 0, 0, 0, 0, false, 0, 0, 0, 0, false, 0⟩] (rowI aS2) (fun ads => .tuple #[inV aS2 (adA ads), .int .i64 0]) := by
  have h := stp_sp shR ⟨none, 0⟩ aS1 A 8 ⟨0, 3, 0, false, 0, 0⟩ ⟨0, 0, 0, 0, 0, false, 0, 0, 0, 0, false, 0⟩ aok0 (by decide) (by decide) hA hc (by decide) ⟨by decide, by decide⟩ (by decide)
  rw [aw1_eq.1, aw1_eq.2] at h
  exact h

theorem aw2_eq : stS shR aS2 3 ⟨0, 1, 0, false, 0, 0⟩ ⟨0, 0, 0, 0, 0, false, 0, 0, 0, 0, false, 0⟩ = aS3 ∧ stL shR aS2 3 ⟨0, 1, 0, false, 0, 0⟩ ⟨0, 0, 0, 0, 0, false, 0, 0, 0, 0, false, 0⟩ = 0 := by
  constructor
  · kernel_rfl
  · kernel_rfl
theorem aw2_sp (A : Adr) (hA : OkI aS2 A) (hc : CapI aS2 A) : SpecG Tryz.prog wE ((none, cP []) :: rdI aS2 A) 24 #[ruV shR ⟨none, 0⟩, inV aS2 A, evV 3 ⟨0, 1, 0, false, 0, 0⟩ ⟨0, 0, 0, 0, 0, false, 0, 0, 0, 0, false, 0⟩] (rowI aS3) (fun ads => .tuple #[inV aS3 (adA ads), .int .i64 0]) := by
  have h := stp_sp shR ⟨none, 0⟩ aS2 A 3 ⟨0, 1, 0, false, 0, 0⟩ ⟨0, 0, 0, 0, 0, false, 0, 0, 0, 0, false, 0⟩ aok0 (by decide) (by decide) hA hc (by decide) ⟨by decide, by decide⟩ (by decide)
  rw [aw2_eq.1, aw2_eq.2] at h
  exact h

theorem aw3_eq : stS shR aS3 4 ⟨0, 0, 0, false, 0, 0⟩ ⟨1, 1, 1, 0, 0, false, 0, 0, 0, 0, false, 0⟩ = aS4 ∧ stL shR aS3 4 ⟨0, 0, 0, false, 0, 0⟩ ⟨1, 1, 1, 0, 0, false, 0, 0, 0, 0, false, 0⟩ = 0 := by
  constructor
  · kernel_rfl
  · kernel_rfl
theorem aw3_sp (A : Adr) (hA : OkI aS3 A) (hc : CapI aS3 A) : SpecG Tryz.prog wE ((none, cP []) :: rdI aS3 A) 24 #[ruV shR ⟨none, 0⟩, inV aS3 A, evV 4 ⟨0, 0, 0, false, 0, 0⟩ ⟨1, 1, 1, 0, 0, false, 0, 0, 0, 0, false, 0⟩] (rowI aS4) (fun ads => .tuple #[inV aS4 (adA ads), .int .i64 0]) := by
  have h := stp_sp shR ⟨none, 0⟩ aS3 A 4 ⟨0, 0, 0, false, 0, 0⟩ ⟨1, 1, 1, 0, 0, false, 0, 0, 0, 0, false, 0⟩ aok0 (by decide) (by decide) hA hc (by decide) ⟨by decide, by decide⟩ (by decide)
  rw [aw3_eq.1, aw3_eq.2] at h
  exact h

theorem aw4_eq : stS shR aS4 4 ⟨0, 0, 0, false, 0, 0⟩ ⟨2, 0, 0, 0, 0, false, 0, 0, 0, 0, false, 0⟩ = aS5 ∧ stL shR aS4 4 ⟨0, 0, 0, false, 0, 0⟩ ⟨2, 0, 0, 0, 0, false, 0, 0, 0, 0, false, 0⟩ = 0 := by
  constructor
  · kernel_rfl
  · kernel_rfl
theorem aw4_sp (A : Adr) (hA : OkI aS4 A) (hc : CapI aS4 A) : SpecG Tryz.prog wE ((none, cP []) :: rdI aS4 A) 24 #[ruV shR ⟨none, 0⟩, inV aS4 A, evV 4 ⟨0, 0, 0, false, 0, 0⟩ ⟨2, 0, 0, 0, 0, false, 0, 0, 0, 0, false, 0⟩] (rowI aS5) (fun ads => .tuple #[inV aS5 (adA ads), .int .i64 0]) := by
  have h := stp_sp shR ⟨none, 0⟩ aS4 A 4 ⟨0, 0, 0, false, 0, 0⟩ ⟨2, 0, 0, 0, 0, false, 0, 0, 0, 0, false, 0⟩ aok0 (by decide) (by decide) hA hc (by decide) ⟨by decide, by decide⟩ (by decide)
  rw [aw4_eq.1, aw4_eq.2] at h
  exact h

theorem aw5_eq : stS shR aS5 4 ⟨0, 0, 0, false, 0, 0⟩ ⟨1, 0, 0, 0, 0, false, 1, 1, 0, 0, false, 0⟩ = aS6 ∧ stL shR aS5 4 ⟨0, 0, 0, false, 0, 0⟩ ⟨1, 0, 0, 0, 0, false, 1, 1, 0, 0, false, 0⟩ = 0 := by
  constructor
  · kernel_rfl
  · kernel_rfl
theorem aw5_sp (A : Adr) (hA : OkI aS5 A) (hc : CapI aS5 A) : SpecG Tryz.prog wE ((none, cP []) :: rdI aS5 A) 24 #[ruV shR ⟨none, 0⟩, inV aS5 A, evV 4 ⟨0, 0, 0, false, 0, 0⟩ ⟨1, 0, 0, 0, 0, false, 1, 1, 0, 0, false, 0⟩] (rowI aS6) (fun ads => .tuple #[inV aS6 (adA ads), .int .i64 0]) := by
  have h := stp_sp shR ⟨none, 0⟩ aS5 A 4 ⟨0, 0, 0, false, 0, 0⟩ ⟨1, 0, 0, 0, 0, false, 1, 1, 0, 0, false, 0⟩ aok0 (by decide) (by decide) hA hc (by decide) ⟨by decide, by decide⟩ (by decide)
  rw [aw5_eq.1, aw5_eq.2] at h
  exact h

theorem aw6_eq : stS shR aS6 4 ⟨0, 0, 0, false, 0, 0⟩ ⟨1, 0, 0, 0, 0, false, 0, 0, 0, 0, false, 0⟩ = aS6 ∧ stL shR aS6 4 ⟨0, 0, 0, false, 0, 0⟩ ⟨1, 0, 0, 0, 0, false, 0, 0, 0, 0, false, 0⟩ = 6 := by
  constructor
  · kernel_rfl
  · kernel_rfl
theorem aw6_sp (A : Adr) (hA : OkI aS6 A) (hc : CapI aS6 A) : SpecG Tryz.prog wE ((none, cP []) :: rdI aS6 A) 24 #[ruV shR ⟨none, 0⟩, inV aS6 A, evV 4 ⟨0, 0, 0, false, 0, 0⟩ ⟨1, 0, 0, 0, 0, false, 0, 0, 0, 0, false, 0⟩] (rowI aS6) (fun ads => .tuple #[inV aS6 (adA ads), .int .i64 6]) := by
  have h := stp_sp shR ⟨none, 0⟩ aS6 A 4 ⟨0, 0, 0, false, 0, 0⟩ ⟨1, 0, 0, 0, 0, false, 0, 0, 0, 0, false, 0⟩ aok0 (by decide) (by decide) hA hc (by decide) ⟨by decide, by decide⟩ (by decide)
  rw [aw6_eq.1, aw6_eq.2] at h
  exact h

theorem aw7_eq : stS shR aS6 5 ⟨0, 3, 0, false, 0, 0⟩ ⟨0, 0, 0, 0, 0, false, 0, 0, 0, 0, false, 0⟩ = aS8 ∧ stL shR aS6 5 ⟨0, 3, 0, false, 0, 0⟩ ⟨0, 0, 0, 0, 0, false, 0, 0, 0, 0, false, 0⟩ = 0 := by
  constructor
  · kernel_rfl
  · kernel_rfl
theorem aw7_sp (A : Adr) (hA : OkI aS6 A) (hc : CapI aS6 A) : SpecG Tryz.prog wE ((none, cP []) :: rdI aS6 A) 24 #[ruV shR ⟨none, 0⟩, inV aS6 A, evV 5 ⟨0, 3, 0, false, 0, 0⟩ ⟨0, 0, 0, 0, 0, false, 0, 0, 0, 0, false, 0⟩] (rowI aS8) (fun ads => .tuple #[inV aS8 (adA ads), .int .i64 0]) := by
  have h := stp_sp shR ⟨none, 0⟩ aS6 A 5 ⟨0, 3, 0, false, 0, 0⟩ ⟨0, 0, 0, 0, 0, false, 0, 0, 0, 0, false, 0⟩ aok0 (by decide) (by decide) hA hc (by decide) ⟨by decide, by decide⟩ (by decide)
  rw [aw7_eq.1, aw7_eq.2] at h
  exact h

theorem aw8_eq : stS shR aS8 4 ⟨0, 0, 0, false, 0, 0⟩ ⟨1, 0, 0, 0, 0, false, 2, 1, 2, 0, false, 0⟩ = aS9 ∧ stL shR aS8 4 ⟨0, 0, 0, false, 0, 0⟩ ⟨1, 0, 0, 0, 0, false, 2, 1, 2, 0, false, 0⟩ = 0 := by
  constructor
  · kernel_rfl
  · kernel_rfl
theorem aw8_sp (A : Adr) (hA : OkI aS8 A) (hc : CapI aS8 A) : SpecG Tryz.prog wE ((none, cP []) :: rdI aS8 A) 24 #[ruV shR ⟨none, 0⟩, inV aS8 A, evV 4 ⟨0, 0, 0, false, 0, 0⟩ ⟨1, 0, 0, 0, 0, false, 2, 1, 2, 0, false, 0⟩] (rowI aS9) (fun ads => .tuple #[inV aS9 (adA ads), .int .i64 0]) := by
  have h := stp_sp shR ⟨none, 0⟩ aS8 A 4 ⟨0, 0, 0, false, 0, 0⟩ ⟨1, 0, 0, 0, 0, false, 2, 1, 2, 0, false, 0⟩ aok0 (by decide) (by decide) hA hc (by decide) ⟨by decide, by decide⟩ (by decide)
  rw [aw8_eq.1, aw8_eq.2] at h
  exact h

theorem aw9_eq : stS shR aS9 4 ⟨0, 0, 0, false, 0, 0⟩ ⟨1, 0, 0, 0, 0, false, 0, 0, 0, 0, false, 0⟩ = aS9 ∧ stL shR aS9 4 ⟨0, 0, 0, false, 0, 0⟩ ⟨1, 0, 0, 0, 0, false, 0, 0, 0, 0, false, 0⟩ = 26 := by
  constructor
  · kernel_rfl
  · kernel_rfl
theorem aw9_sp (A : Adr) (hA : OkI aS9 A) (hc : CapI aS9 A) : SpecG Tryz.prog wE ((none, cP []) :: rdI aS9 A) 24 #[ruV shR ⟨none, 0⟩, inV aS9 A, evV 4 ⟨0, 0, 0, false, 0, 0⟩ ⟨1, 0, 0, 0, 0, false, 0, 0, 0, 0, false, 0⟩] (rowI aS9) (fun ads => .tuple #[inV aS9 (adA ads), .int .i64 26]) := by
  have h := stp_sp shR ⟨none, 0⟩ aS9 A 4 ⟨0, 0, 0, false, 0, 0⟩ ⟨1, 0, 0, 0, 0, false, 0, 0, 0, 0, false, 0⟩ aok0 (by decide) (by decide) hA hc (by decide) ⟨by decide, by decide⟩ (by decide)
  rw [aw9_eq.1, aw9_eq.2] at h
  exact h

def adB (ads : List (Option Addr × Nat)) : Adr := ⟨(nthA ads 0).1, none, none, (nthA ads 1).1, (nthA ads 2).1, (nthA ads 0).2, 0, 0, (nthA ads 1).2, (nthA ads 2).2⟩
def roB (s : Inn) : List RowT := [⟨70, 1, s.bts.length, cU s.bts⟩, ⟨3, 1, s.bwd.length, cI s.bwd⟩, ⟨4, 1, s.sbs.length, cB s.sbs⟩]

def few4_h (s : Inn) (A : Adr) : Hint := .draw [0, 1] (some 21) [1] (.take 0 (.take 1 (.ob 0 (.take 2 (.take 3 (.ob 0 (.take 4 (.pl (.take 5 (.pl (.take 6 (.ix (.take 7 (.take 8 (.ob 0 (.take 9 (.take 10 (.ob 0 (.take 11 (.pl (.take 12 (.pl (.take 13 (.ix (.take 14 (.take 15 (.ob 0 (.take 16 (.take 17 (.ob 0 (.take 18 (.pl (.take 19 (.pl
 (.take 20 (.ix (.pl (.br (.pl (.br (.ob 0 (.take 23 (.pl (.br (.ob 0 (.take 25 (.pl (.br (.ob 0 (.draw [0, 1] (some 14) [1] (.take 0 (.take 1 (.ob 0 (.take 2 (.take 3 (.ob 0 (.take 4 (.pl (.take 5 (.pl (.take 6 (.ix (.take 7 (.take 8 (.ob 0 (.take 9 (.take 10 (.ob 0 (.take 11 (.pl (.take 12 (.pl
 (.take 13 (.ix (.pl (.br (.pl (.br (.ob 0 (.take 16 (.pl (.br (ho 0 29 (ho 1 56 (.perm [] .nil))) .nil)))) .nil)) .nil)))))))))))))))))))))))))))) .nil)))) .nil)))) .nil)) .nil))))))))))))))))))))))))))))))))))))))
theorem few4_x (s : Inn) (A : Adr) : wpG Tryz.prog [] ([]) 400 11 [inV s A] (few4_h s A) ([]) (fun _ => inV (few s) A) = (∀ (b b_1 : Nat), b = b /\ b = b /\ (((0 : Int) ≤ if (13 : Int) < (↑(s.bts.length) : Int) then (13 : Int) else (↑(s.bts.length) : Int)) /\ (if (13 : Int) < (↑(s.bts.length) : Int) then (13 : Int) else (↑(s.bts.length) : Int)) ≤ (↑(Adr.c1 A) : Int)) /\ b = b /\ b = b /\ (((0 : Int) ≤ if (13 : Int) <
 (↑(s.bwd.length) : Int) then (13 : Int) else (↑(s.bwd.length) : Int)) /\ (if (13 : Int) < (↑(s.bwd.length) : Int) then (13 : Int) else (↑(s.bwd.length) : Int)) ≤ (↑(Adr.c4 A) : Int)) /\ b = b /\ b = b /\ (((0 : Int) ≤ if (13 : Int) < (↑(s.sbs.length) : Int) then (13 : Int) else (↑(s.sbs.length) :
 Int)) /\ (if (13 : Int) < (↑(s.sbs.length) : Int) then (13 : Int) else (↑(s.sbs.length) : Int)) ≤ (↑(Adr.c5 A) : Int)) /\ True /\ (True /\ (b = b /\ True /\ True /\ (b = b /\ True /\ True /\ (b = b /\ True /\ b = b /\ b = b /\ (((0 : Int) ≤ if (13 : Int) < (↑(s.bws.length) : Int) then (13 : Int)
 else (↑(s.bws.length) : Int)) /\ (if (13 : Int) < (↑(s.bws.length) : Int) then (13 : Int) else (↑(s.bws.length) : Int)) ≤ (↑(Adr.c2 A) : Int)) /\ b = b /\ b = b /\ (((0 : Int) ≤ if (13 : Int) < (↑(s.bfs.length) : Int) then (13 : Int) else (↑(s.bfs.length) : Int)) /\ (if (13 : Int) < (↑(s.bfs.length)
 : Int) then (13 : Int) else (↑(s.bfs.length) : Int)) ≤ (↑(Adr.c3 A) : Int)) /\ True /\ (True /\ (b = b /\ True /\ True /\ (b = b /\ True /\ e1 b 28 (e2 b_1 28 (e1 b_1 28 (Value.agg (Array.mk [.int .i64 s.sd, .int .i64 s.tg, .int .i64 s.ov, .int .i64 s.rn, .int .i64 s.wk, .int .i64 s.e1, .int .i64
 s.e2, .int .i64 s.e3, .int .i64 s.e4, .int .i64 s.e5, .int .i64 s.cm, .int .i64 s.io, .int .i64 s.st, .int .i64 s.ot, .slice (Adr.a1 A) (Int.toNat (if (13 : Int) < (↑(s.bts.length) : Int) then (13 : Int) else (↑(s.bts.length) : Int))) (Adr.c1 A), .int .i64 s.bw, .slice (Adr.a2 A) (Int.toNat (if (13
 : Int) < (↑(s.bws.length) : Int) then (13 : Int) else (↑(s.bws.length) : Int))) (Adr.c2 A), .slice (Adr.a3 A) (Int.toNat (if (13 : Int) < (↑(s.bfs.length) : Int) then (13 : Int) else (↑(s.bfs.length) : Int))) (Adr.c3 A), .bool s.fr, .slice (Adr.a4 A) (Int.toNat (if (13 : Int) < (↑(s.bwd.length) :
 Int) then (13 : Int) else (↑(s.bwd.length) : Int))) (Adr.c4 A), .bool s.fh, .int .i64 s.ba, .int .i64 s.kp, .int .i64 s.ou, .slice (Adr.a5 A) (Int.toNat (if (13 : Int) < (↑(s.sbs.length) : Int) then (13 : Int) else (↑(s.sbs.length) : Int))) (Adr.c5 A), .int .i64 s.r1, .int .i64 s.r2, .int .u8 s.en])
 = Value.agg (Array.mk [.int .i64 s.sd, .int .i64 s.tg, .int .i64 s.ov, .int .i64 s.rn, .int .i64 s.wk, .int .i64 s.e1, .int .i64 s.e2, .int .i64 s.e3, .int .i64 s.e4, .int .i64 s.e5, .int .i64 s.cm, .int .i64 s.io, .int .i64 s.st, .int .i64 s.ot, .slice (Adr.a1 A) (List.length (List.take (13 : Nat)
 s.bts)) (Adr.c1 A), .int .i64 s.bw, .slice (Adr.a2 A) (List.length (List.take (13 : Nat) s.bws)) (Adr.c2 A), .slice (Adr.a3 A) (List.length (List.take (13 : Nat) s.bfs)) (Adr.c3 A), .bool s.fr, .slice (Adr.a4 A) (List.length (List.take (13 : Nat) s.bwd)) (Adr.c4 A), .bool s.fh, .int .i64 s.ba, .int
 .i64 s.kp, .int .i64 s.ou, .slice (Adr.a5 A) (List.length (List.take (13 : Nat) s.sbs)) (Adr.c5 A), .int .i64 s.r1, .int .i64 s.r2, .int .u8 s.en]))))) /\ True) /\ True) /\ True) /\ True) /\ True) /\ True) /\ True) := by kernel_rfl
set_option maxHeartbeats 4000000 in
theorem few4_sp (s : Inn) (A : Adr) (hc : CapI s A) : SpecG Tryz.prog [] ([]) 11 #[inV s A] ([]) (fun _ => inV (few s) A) := by
  refine specG_of (h := few4_h s A) (?_ : wpG Tryz.prog [] ([]) 400 11 [inV s A] (few4_h s A) ([]) (fun _ => inV (few s) A))
  rw [few4_x]
  (repeat' (first | with_reducible exact rfl | exact trivial | with_reducible assumption | exact cU_len _ | exact cI_len _ | exact cB_len _ | exact cU_one _ | exact cI_one _ | exact cB_one _ | exact (fun _ h => h) | exact (fun _ h => (List.not_mem_nil h).elim) | (with_reducible refine e1_in ?_) | (with_reducible refine e2_in ?_) | (with_reducible refine lx_in (Nat.le_of_ble_eq_true rfl) ?_) | (with_reducible refine rqx_rf ?_) | (with_reducible refine rqx_in ?_ ?_ ?_) | (with_reducible apply And.intro) | (with_reducible intro _)))
  all_goals (have := hc.h1; have := hc.h2; have := hc.h3; have := hc.h4; have := hc.h5; first | (split <;> omega) | (simp only [take13]; done))
def bnd4_h (r : Rul) (B : RAd) : Hint := .draw [0, 1] (some 14) [1] (.take 0 (.take 1 (.ob 0 (.take 2 (.take 3 (.ob 0 (.take 4 (.pl (.take 5 (.pl (.take 6 (.ix (.take 7 (.take 8 (.ob 0 (.take 9 (.take 10 (.ob 0 (.take 11 (.pl (.take 12 (.pl (.take 13 (.ix (.pl (.br (.pl (.br (.ob 0 (.take 16 (.pl (.br (ho 0 15 (ho 1 28 (.perm [] .nil)))
 .nil)))) .nil)) .nil))))))))))))))))))))))))))
theorem bnd4_x (r : Rul) (B : RAd) : wpG Tryz.prog [] ([]) 400 10 [ruV r B] (bnd4_h r B) ([]) (fun _ => ruV (bnd r) B) = (∀ (b b_1 : Nat), b = b /\ b = b /\ (((0 : Int) ≤ if (20 : Int) < (↑(ByteArray.size r.nm) : Int) then (20 : Int) else (↑(ByteArray.size r.nm) : Int)) /\ (if (20 : Int) < (↑(ByteArray.size r.nm) : Int) then (20 : Int) else (↑(ByteArray.size r.nm) : Int)) ≤ (↑(ByteArray.size r.nm) : Int)) /\ b = b /\ b
 = b /\ (((0 : Int) ≤ if (10 : Int) < (↑(r.pw.length) : Int) then (10 : Int) else (↑(r.pw.length) : Int)) /\ (if (10 : Int) < (↑(r.pw.length) : Int) then (10 : Int) else (↑(r.pw.length) : Int)) ≤ (↑(RAd.c B) : Int)) /\ True /\ (True /\ (b = b /\ True /\ True /\ (b = b /\ True /\ e1 b 14 (e2 b_1 14
 (e1 b_1 14 (Value.agg (Array.mk [.string (ByteArray.extract r.nm (0 : Nat) (Int.toNat (if (20 : Int) < (↑(ByteArray.size r.nm) : Int) then (20 : Int) else (↑(ByteArray.size r.nm) : Int)))), .int .i64 r.q1, .int .i64 r.q2, .int .i64 r.q3, .int .i64 r.q4, .int .i64 r.q5, .int .i64 r.q6, .int .i64
 r.q7, .bool r.fh, .int .i64 r.q8, .int .i64 r.q9, .int .i64 r.qa, .int .i64 r.qo, .slice (RAd.a B) (Int.toNat (if (10 : Int) < (↑(r.pw.length) : Int) then (10 : Int) else (↑(r.pw.length) : Int))) (RAd.c B)]) = Value.agg (Array.mk [.string (ByteArray.extract r.nm (0 : Nat) (Int.toNat (if (20 : Int) <
 (↑(ByteArray.size r.nm) : Int) then (20 : Int) else (↑(ByteArray.size r.nm) : Int)))), .int .i64 r.q1, .int .i64 r.q2, .int .i64 r.q3, .int .i64 r.q4, .int .i64 r.q5, .int .i64 r.q6, .int .i64 r.q7, .bool r.fh, .int .i64 r.q8, .int .i64 r.q9, .int .i64 r.qa, .int .i64 r.qo, .slice (RAd.a B)
 (List.length (List.take (10 : Nat) r.pw)) (RAd.c B)]))))) /\ True) /\ True) /\ True) := by kernel_rfl
set_option maxHeartbeats 4000000 in
theorem bnd4_sp (r : Rul) (B : RAd) (hBc : r.pw.length ≤ B.c) : SpecG Tryz.prog [] ([]) 10 #[ruV r B] ([]) (fun _ => ruV (bnd r) B) := by
  refine specG_of (h := bnd4_h r B) (?_ : wpG Tryz.prog [] ([]) 400 10 [ruV r B] (bnd4_h r B) ([]) (fun _ => ruV (bnd r) B))
  rw [bnd4_x]
  simp only [take10]
  (repeat' (first | with_reducible exact rfl | exact trivial | with_reducible assumption | exact cU_len _ | exact cI_len _ | exact cB_len _ | exact cU_one _ | exact cI_one _ | exact cB_one _ | exact (fun _ h => h) | exact (fun _ h => (List.not_mem_nil h).elim) | (with_reducible refine e1_in ?_) | (with_reducible refine e2_in ?_) | (with_reducible refine lx_in (Nat.le_of_ble_eq_true rfl) ?_) | (with_reducible refine rqx_rf ?_) | (with_reducible refine rqx_in ?_ ?_ ?_) | (with_reducible apply And.intro) | (with_reducible intro _)))
  all_goals (first | (split <;> omega) | (simp only [take10]; done) | trace_state)
def bgw_h  : Hint := ho 1 14 (.specg [] [1000] [cP []] [] (fun ads0 x ↦ Value.int .i64 (rck (Rul.mk (ByteArray.mk (Array.mk [(83 : UInt8), (72 : UInt8), (79 : UInt8), (82 : UInt8), (84 : UInt8)])) (3 : Int) (1 : Int) (2 : Int) (4 : Int) (0 : Int) (1 : Int) (1 : Int) true (0 : Int) (0 : Int) (0 : Int) (1 : Int) []))) (.pl
 (.lit (.inl (hl 6 (.inl (hl 8 (.inl (hl 7 (.draw [0, 1, 2] (some 16) [0, 1] (.take 0 (.take 1 (.take 2 (.take 3 (.ob 1 (.take 4 (.take 5 (.take 6 (.take 7 (.take 8 (.ob 1 (.take 10 (.take 11 (.ob 1 (.take 13 (.take 14 (.ob 1 (.pl (.br (.pl (.pl (.br (.pl (.pl (.br (.pl (.pl (.br (.pl (.br (ho 2 28
 (.take 18 (ho 2 28 (.perm [3, 4, 5] .nil)))) .nil)) .nil))) .nil))) (.br (.pl (.pl (.br (.pl (.pl (.br (.pl (.br (ho 2 28 (.take 18 (ho 2 28 (.perm [3, 5, 4] .nil)))) .nil)) .nil))) .nil))) .nil)))) (.br (.pl (.pl (.br (.pl (.pl (.br (.pl (.pl (.br (.pl (.br (ho 2 28 (.take 18 (ho 2 28 (.perm [4, 3,
 5] .nil)))) .nil)) .nil))) .nil))) (.br (.pl (.pl (.br (.pl (.pl (.br (.pl (.br (ho 2 28 (.take 18 (ho 2 28 (.perm [5, 3, 4] .nil)))) .nil)) .nil))) .nil))) .nil)))) (.br (.pl (.pl (.br (.pl (.pl (.br (.pl (.pl (.br (.pl (.br (ho 2 28 (.take 18 (ho 2 28 (.perm [4, 5, 3] .nil)))) .nil)) .nil)))
 .nil))) (.br (.pl (.pl (.br (.pl (.pl (.br (.pl (.br (ho 2 28 (.take 18 (ho 2 28 (.perm [5, 4, 3] .nil)))) .nil)) .nil))) .nil))) .nil)))) .nil)))))))))))))))))))))))))))))))
theorem bgw_x  : wpG Tryz.prog [] ([(none, cP [])]) 400 18 [ruV shR ⟨none, 0⟩, .int .i64 1, .int .i64 0, .int .i64 0] (bgw_h ) (roB aS0) (fun ads => .tuple #[inV aS0 (adB ads), .int .i64 0]) = (∀ (b b_1 : Nat), e1 b 14 (cP ([] : List Ph) = [] /\ (SpecG Tryz.prog [] [(RAd.a (RAd.mk none 0), cP (Rul.pw (Rul.mk (ByteArray.mk (Array.mk [(83 : UInt8), (72 : UInt8), (79 : UInt8), (82 : UInt8), (84 : UInt8)])) (3 : Int) (1 : Int) (2 : Int) (4 : Int) (0 : Int) (1 : Int) (1 : Int) true (0 : Int) (0 :
 Int) (0 : Int) (1 : Int) [])))] (33 : FuncId) #[ruV (Rul.mk (ByteArray.mk (Array.mk [(83 : UInt8), (72 : UInt8), (79 : UInt8), (82 : UInt8), (84 : UInt8)])) (3 : Int) (1 : Int) (2 : Int) (4 : Int) (0 : Int) (1 : Int) (1 : Int) true (0 : Int) (0 : Int) (0 : Int) (1 : Int) []) (RAd.mk none 0)] [] fun
 x ↦ Value.int .i64 (rck (Rul.mk (ByteArray.mk (Array.mk [(83 : UInt8), (72 : UInt8), (79 : UInt8), (82 : UInt8), (84 : UInt8)])) (3 : Int) (1 : Int) (2 : Int) (4 : Int) (0 : Int) (1 : Int) (1 : Int) true (0 : Int) (0 : Int) (0 : Int) (1 : Int) []))) /\ (∀ (e : Ex), e ∈ [] -> e ∈ []) /\ e1 b 3 (b = b
 /\ True /\ (∀ (b : Nat), True /\ (∀ (b_2 : Nat), True /\ (∀ (b_3 : Nat), True /\ (True /\ (e2 b_1 28 (e1 b_1 28 ((70 : Nat) = (70 : Nat) /\ [Value.int .u8 0, .int .u8 0, .int .u8 0] = cU [(0 : Int), (0 : Int), (0 : Int)] /\ (List.length [Value.int .u8 0, .int .u8 0, .int .u8 0] = (3 : Nat) /\ (3 :
 Nat) ≤ (9223372036854775807 : Nat) /\ (1 : Nat) ≤ (1 : Nat)) /\ (3 : Nat) = (3 : Nat) /\ [Value.int .i64 0, .int .i64 0, .int .i64 0] = cI [(0 : Int), (0 : Int), (0 : Int)] /\ (List.length [Value.int .i64 0, .int .i64 0, .int .i64 0] = (3 : Nat) /\ (3 : Nat) ≤ (9223372036854775807 : Nat) /\ (1 :
 Nat) ≤ (1 : Nat)) /\ (4 : Nat) = (4 : Nat) /\ [Value.bool false, .bool false, .bool false] = cB [false, false, false] /\ (List.length [Value.bool false, .bool false, .bool false] = (3 : Nat) /\ (3 : Nat) ≤ (9223372036854775807 : Nat) /\ (1 : Nat) ≤ (1 : Nat)) /\ Value.tuple (Array.mk [.agg (Array.mk
 [.int .i64 1, .int .i64 0, .int .i64 2, .int .i64 0, .int .i64 0, .int .i64 0, .int .i64 0, .int .i64 0, .int .i64 0, .int .i64 0, .int .i64 0, .int .i64 0, .int .i64 0, .int .i64 0, .slice (some (Addr.mk b (0 : Nat) none)) (3 : Nat) (3 : Nat), .int .i64 0, .slice none (0 : Nat) (0 : Nat), .slice
 none (0 : Nat) (0 : Nat), .bool false, .slice (some (Addr.mk b_2 (0 : Nat) none)) (3 : Nat) (3 : Nat), .bool false, .int .i64 0, .int .i64 0, .int .i64 0, .slice (some (Addr.mk b_3 (0 : Nat) none)) (3 : Nat) (3 : Nat), .int .i64 0, .int .i64 0, .int .u8 0]), .int .i64 0]) = Value.tuple (Array.mk
 [.agg (Array.mk [.int .i64 1, .int .i64 0, .int .i64 2, .int .i64 0, .int .i64 0, .int .i64 0, .int .i64 0, .int .i64 0, .int .i64 0, .int .i64 0, .int .i64 0, .int .i64 0, .int .i64 0, .int .i64 0, .slice (some (Addr.mk b (0 : Nat) none)) (3 : Nat) (3 : Nat), .int .i64 0, .slice none (0 : Nat) (0 :
 Nat), .slice none (0 : Nat) (0 : Nat), .bool false, .slice (some (Addr.mk b_2 (0 : Nat) none)) (3 : Nat) (3 : Nat), .bool false, .int .i64 0, .int .i64 0, .int .i64 0, .slice (some (Addr.mk b_3 (0 : Nat) none)) (3 : Nat) (3 : Nat), .int .i64 0, .int .i64 0, .int .u8 0]), .int .i64 0])))) /\ True) /\
 True) /\ True) /\ (∀ (b_2 : Nat), True /\ (∀ (b_3 : Nat), True /\ (True /\ (e2 b_1 28 (e1 b_1 28 ((70 : Nat) = (70 : Nat) /\ [Value.int .u8 0, .int .u8 0, .int .u8 0] = cU [(0 : Int), (0 : Int), (0 : Int)] /\ (List.length [Value.int .u8 0, .int .u8 0, .int .u8 0] = (3 : Nat) /\ (3 : Nat) ≤
 (9223372036854775807 : Nat) /\ (1 : Nat) ≤ (1 : Nat)) /\ (3 : Nat) = (3 : Nat) /\ [Value.int .i64 0, .int .i64 0, .int .i64 0] = cI [(0 : Int), (0 : Int), (0 : Int)] /\ (List.length [Value.int .i64 0, .int .i64 0, .int .i64 0] = (3 : Nat) /\ (3 : Nat) ≤ (9223372036854775807 : Nat) /\ (1 : Nat) ≤ (1
 : Nat)) /\ (4 : Nat) = (4 : Nat) /\ [Value.bool false, .bool false, .bool false] = cB [false, false, false] /\ (List.length [Value.bool false, .bool false, .bool false] = (3 : Nat) /\ (3 : Nat) ≤ (9223372036854775807 : Nat) /\ (1 : Nat) ≤ (1 : Nat)) /\ Value.tuple (Array.mk [.agg (Array.mk [.int
 .i64 1, .int .i64 0, .int .i64 2, .int .i64 0, .int .i64 0, .int .i64 0, .int .i64 0, .int .i64 0, .int .i64 0, .int .i64 0, .int .i64 0, .int .i64 0, .int .i64 0, .int .i64 0, .slice (some (Addr.mk b (0 : Nat) none)) (3 : Nat) (3 : Nat), .int .i64 0, .slice none (0 : Nat) (0 : Nat), .slice none (0
 : Nat) (0 : Nat), .bool false, .slice (some (Addr.mk b_3 (0 : Nat) none)) (3 : Nat) (3 : Nat), .bool false, .int .i64 0, .int .i64 0, .int .i64 0, .slice (some (Addr.mk b_2 (0 : Nat) none)) (3 : Nat) (3 : Nat), .int .i64 0, .int .i64 0, .int .u8 0]), .int .i64 0]) = Value.tuple (Array.mk [.agg
 (Array.mk [.int .i64 1, .int .i64 0, .int .i64 2, .int .i64 0, .int .i64 0, .int .i64 0, .int .i64 0, .int .i64 0, .int .i64 0, .int .i64 0, .int .i64 0, .int .i64 0, .int .i64 0, .int .i64 0, .slice (some (Addr.mk b (0 : Nat) none)) (3 : Nat) (3 : Nat), .int .i64 0, .slice none (0 : Nat) (0 : Nat),
 .slice none (0 : Nat) (0 : Nat), .bool false, .slice (some (Addr.mk b_3 (0 : Nat) none)) (3 : Nat) (3 : Nat), .bool false, .int .i64 0, .int .i64 0, .int .i64 0, .slice (some (Addr.mk b_2 (0 : Nat) none)) (3 : Nat) (3 : Nat), .int .i64 0, .int .i64 0, .int .u8 0]), .int .i64 0])))) /\ True) /\ True)
 /\ True) /\ True) /\ (∀ (b : Nat), True /\ (∀ (b_2 : Nat), True /\ (∀ (b_3 : Nat), True /\ (True /\ (e2 b_1 28 (e1 b_1 28 ((70 : Nat) = (70 : Nat) /\ [Value.int .u8 0, .int .u8 0, .int .u8 0] = cU [(0 : Int), (0 : Int), (0 : Int)] /\ (List.length [Value.int .u8 0, .int .u8 0, .int .u8 0] = (3 : Nat)
 /\ (3 : Nat) ≤ (9223372036854775807 : Nat) /\ (1 : Nat) ≤ (1 : Nat)) /\ (3 : Nat) = (3 : Nat) /\ [Value.int .i64 0, .int .i64 0, .int .i64 0] = cI [(0 : Int), (0 : Int), (0 : Int)] /\ (List.length [Value.int .i64 0, .int .i64 0, .int .i64 0] = (3 : Nat) /\ (3 : Nat) ≤ (9223372036854775807 : Nat) /\
 (1 : Nat) ≤ (1 : Nat)) /\ (4 : Nat) = (4 : Nat) /\ [Value.bool false, .bool false, .bool false] = cB [false, false, false] /\ (List.length [Value.bool false, .bool false, .bool false] = (3 : Nat) /\ (3 : Nat) ≤ (9223372036854775807 : Nat) /\ (1 : Nat) ≤ (1 : Nat)) /\ Value.tuple (Array.mk [.agg
 (Array.mk [.int .i64 1, .int .i64 0, .int .i64 2, .int .i64 0, .int .i64 0, .int .i64 0, .int .i64 0, .int .i64 0, .int .i64 0, .int .i64 0, .int .i64 0, .int .i64 0, .int .i64 0, .int .i64 0, .slice (some (Addr.mk b_2 (0 : Nat) none)) (3 : Nat) (3 : Nat), .int .i64 0, .slice none (0 : Nat) (0 :
 Nat), .slice none (0 : Nat) (0 : Nat), .bool false, .slice (some (Addr.mk b (0 : Nat) none)) (3 : Nat) (3 : Nat), .bool false, .int .i64 0, .int .i64 0, .int .i64 0, .slice (some (Addr.mk b_3 (0 : Nat) none)) (3 : Nat) (3 : Nat), .int .i64 0, .int .i64 0, .int .u8 0]), .int .i64 0]) = Value.tuple
 (Array.mk [.agg (Array.mk [.int .i64 1, .int .i64 0, .int .i64 2, .int .i64 0, .int .i64 0, .int .i64 0, .int .i64 0, .int .i64 0, .int .i64 0, .int .i64 0, .int .i64 0, .int .i64 0, .int .i64 0, .int .i64 0, .slice (some (Addr.mk b_2 (0 : Nat) none)) (3 : Nat) (3 : Nat), .int .i64 0, .slice none (0
 : Nat) (0 : Nat), .slice none (0 : Nat) (0 : Nat), .bool false, .slice (some (Addr.mk b (0 : Nat) none)) (3 : Nat) (3 : Nat), .bool false, .int .i64 0, .int .i64 0, .int .i64 0, .slice (some (Addr.mk b_3 (0 : Nat) none)) (3 : Nat) (3 : Nat), .int .i64 0, .int .i64 0, .int .u8 0]), .int .i64 0]))))
 /\ True) /\ True) /\ True) /\ (∀ (b_2 : Nat), True /\ (∀ (b_3 : Nat), True /\ (True /\ (e2 b_1 28 (e1 b_1 28 ((70 : Nat) = (70 : Nat) /\ [Value.int .u8 0, .int .u8 0, .int .u8 0] = cU [(0 : Int), (0 : Int), (0 : Int)] /\ (List.length [Value.int .u8 0, .int .u8 0, .int .u8 0] = (3 : Nat) /\ (3 : Nat)
 ≤ (9223372036854775807 : Nat) /\ (1 : Nat) ≤ (1 : Nat)) /\ (3 : Nat) = (3 : Nat) /\ [Value.int .i64 0, .int .i64 0, .int .i64 0] = cI [(0 : Int), (0 : Int), (0 : Int)] /\ (List.length [Value.int .i64 0, .int .i64 0, .int .i64 0] = (3 : Nat) /\ (3 : Nat) ≤ (9223372036854775807 : Nat) /\ (1 : Nat) ≤
 (1 : Nat)) /\ (4 : Nat) = (4 : Nat) /\ [Value.bool false, .bool false, .bool false] = cB [false, false, false] /\ (List.length [Value.bool false, .bool false, .bool false] = (3 : Nat) /\ (3 : Nat) ≤ (9223372036854775807 : Nat) /\ (1 : Nat) ≤ (1 : Nat)) /\ Value.tuple (Array.mk [.agg (Array.mk [.int
 .i64 1, .int .i64 0, .int .i64 2, .int .i64 0, .int .i64 0, .int .i64 0, .int .i64 0, .int .i64 0, .int .i64 0, .int .i64 0, .int .i64 0, .int .i64 0, .int .i64 0, .int .i64 0, .slice (some (Addr.mk b_3 (0 : Nat) none)) (3 : Nat) (3 : Nat), .int .i64 0, .slice none (0 : Nat) (0 : Nat), .slice none
 (0 : Nat) (0 : Nat), .bool false, .slice (some (Addr.mk b (0 : Nat) none)) (3 : Nat) (3 : Nat), .bool false, .int .i64 0, .int .i64 0, .int .i64 0, .slice (some (Addr.mk b_2 (0 : Nat) none)) (3 : Nat) (3 : Nat), .int .i64 0, .int .i64 0, .int .u8 0]), .int .i64 0]) = Value.tuple (Array.mk [.agg
 (Array.mk [.int .i64 1, .int .i64 0, .int .i64 2, .int .i64 0, .int .i64 0, .int .i64 0, .int .i64 0, .int .i64 0, .int .i64 0, .int .i64 0, .int .i64 0, .int .i64 0, .int .i64 0, .int .i64 0, .slice (some (Addr.mk b_3 (0 : Nat) none)) (3 : Nat) (3 : Nat), .int .i64 0, .slice none (0 : Nat) (0 :
 Nat), .slice none (0 : Nat) (0 : Nat), .bool false, .slice (some (Addr.mk b (0 : Nat) none)) (3 : Nat) (3 : Nat), .bool false, .int .i64 0, .int .i64 0, .int .i64 0, .slice (some (Addr.mk b_2 (0 : Nat) none)) (3 : Nat) (3 : Nat), .int .i64 0, .int .i64 0, .int .u8 0]), .int .i64 0])))) /\ True) /\
 True) /\ True) /\ True) /\ (∀ (b : Nat), True /\ (∀ (b_2 : Nat), True /\ (∀ (b_3 : Nat), True /\ (True /\ (e2 b_1 28 (e1 b_1 28 ((70 : Nat) = (70 : Nat) /\ [Value.int .u8 0, .int .u8 0, .int .u8 0] = cU [(0 : Int), (0 : Int), (0 : Int)] /\ (List.length [Value.int .u8 0, .int .u8 0, .int .u8 0] = (3
 : Nat) /\ (3 : Nat) ≤ (9223372036854775807 : Nat) /\ (1 : Nat) ≤ (1 : Nat)) /\ (3 : Nat) = (3 : Nat) /\ [Value.int .i64 0, .int .i64 0, .int .i64 0] = cI [(0 : Int), (0 : Int), (0 : Int)] /\ (List.length [Value.int .i64 0, .int .i64 0, .int .i64 0] = (3 : Nat) /\ (3 : Nat) ≤ (9223372036854775807 :
 Nat) /\ (1 : Nat) ≤ (1 : Nat)) /\ (4 : Nat) = (4 : Nat) /\ [Value.bool false, .bool false, .bool false] = cB [false, false, false] /\ (List.length [Value.bool false, .bool false, .bool false] = (3 : Nat) /\ (3 : Nat) ≤ (9223372036854775807 : Nat) /\ (1 : Nat) ≤ (1 : Nat)) /\ Value.tuple (Array.mk
 [.agg (Array.mk [.int .i64 1, .int .i64 0, .int .i64 2, .int .i64 0, .int .i64 0, .int .i64 0, .int .i64 0, .int .i64 0, .int .i64 0, .int .i64 0, .int .i64 0, .int .i64 0, .int .i64 0, .int .i64 0, .slice (some (Addr.mk b_2 (0 : Nat) none)) (3 : Nat) (3 : Nat), .int .i64 0, .slice none (0 : Nat) (0
 : Nat), .slice none (0 : Nat) (0 : Nat), .bool false, .slice (some (Addr.mk b_3 (0 : Nat) none)) (3 : Nat) (3 : Nat), .bool false, .int .i64 0, .int .i64 0, .int .i64 0, .slice (some (Addr.mk b (0 : Nat) none)) (3 : Nat) (3 : Nat), .int .i64 0, .int .i64 0, .int .u8 0]), .int .i64 0]) = Value.tuple
 (Array.mk [.agg (Array.mk [.int .i64 1, .int .i64 0, .int .i64 2, .int .i64 0, .int .i64 0, .int .i64 0, .int .i64 0, .int .i64 0, .int .i64 0, .int .i64 0, .int .i64 0, .int .i64 0, .int .i64 0, .int .i64 0, .slice (some (Addr.mk b_2 (0 : Nat) none)) (3 : Nat) (3 : Nat), .int .i64 0, .slice none (0
 : Nat) (0 : Nat), .slice none (0 : Nat) (0 : Nat), .bool false, .slice (some (Addr.mk b_3 (0 : Nat) none)) (3 : Nat) (3 : Nat), .bool false, .int .i64 0, .int .i64 0, .int .i64 0, .slice (some (Addr.mk b (0 : Nat) none)) (3 : Nat) (3 : Nat), .int .i64 0, .int .i64 0, .int .u8 0]), .int .i64 0]))))
 /\ True) /\ True) /\ True) /\ (∀ (b_2 : Nat), True /\ (∀ (b_3 : Nat), True /\ (True /\ (e2 b_1 28 (e1 b_1 28 ((70 : Nat) = (70 : Nat) /\ [Value.int .u8 0, .int .u8 0, .int .u8 0] = cU [(0 : Int), (0 : Int), (0 : Int)] /\ (List.length [Value.int .u8 0, .int .u8 0, .int .u8 0] = (3 : Nat) /\ (3 : Nat)
 ≤ (9223372036854775807 : Nat) /\ (1 : Nat) ≤ (1 : Nat)) /\ (3 : Nat) = (3 : Nat) /\ [Value.int .i64 0, .int .i64 0, .int .i64 0] = cI [(0 : Int), (0 : Int), (0 : Int)] /\ (List.length [Value.int .i64 0, .int .i64 0, .int .i64 0] = (3 : Nat) /\ (3 : Nat) ≤ (9223372036854775807 : Nat) /\ (1 : Nat) ≤
 (1 : Nat)) /\ (4 : Nat) = (4 : Nat) /\ [Value.bool false, .bool false, .bool false] = cB [false, false, false] /\ (List.length [Value.bool false, .bool false, .bool false] = (3 : Nat) /\ (3 : Nat) ≤ (9223372036854775807 : Nat) /\ (1 : Nat) ≤ (1 : Nat)) /\ Value.tuple (Array.mk [.agg (Array.mk [.int
 .i64 1, .int .i64 0, .int .i64 2, .int .i64 0, .int .i64 0, .int .i64 0, .int .i64 0, .int .i64 0, .int .i64 0, .int .i64 0, .int .i64 0, .int .i64 0, .int .i64 0, .int .i64 0, .slice (some (Addr.mk b_3 (0 : Nat) none)) (3 : Nat) (3 : Nat), .int .i64 0, .slice none (0 : Nat) (0 : Nat), .slice none
 (0 : Nat) (0 : Nat), .bool false, .slice (some (Addr.mk b_2 (0 : Nat) none)) (3 : Nat) (3 : Nat), .bool false, .int .i64 0, .int .i64 0, .int .i64 0, .slice (some (Addr.mk b (0 : Nat) none)) (3 : Nat) (3 : Nat), .int .i64 0, .int .i64 0, .int .u8 0]), .int .i64 0]) = Value.tuple (Array.mk [.agg
 (Array.mk [.int .i64 1, .int .i64 0, .int .i64 2, .int .i64 0, .int .i64 0, .int .i64 0, .int .i64 0, .int .i64 0, .int .i64 0, .int .i64 0, .int .i64 0, .int .i64 0, .int .i64 0, .int .i64 0, .slice (some (Addr.mk b_3 (0 : Nat) none)) (3 : Nat) (3 : Nat), .int .i64 0, .slice none (0 : Nat) (0 :
 Nat), .slice none (0 : Nat) (0 : Nat), .bool false, .slice (some (Addr.mk b_2 (0 : Nat) none)) (3 : Nat) (3 : Nat), .bool false, .int .i64 0, .int .i64 0, .int .i64 0, .slice (some (Addr.mk b (0 : Nat) none)) (3 : Nat) (3 : Nat), .int .i64 0, .int .i64 0, .int .u8 0]), .int .i64 0])))) /\ True) /\
 True) /\ True) /\ True) /\ True))) := by kernel_rfl
set_option maxHeartbeats 4000000 in
theorem bgw_sp   : SpecG Tryz.prog [] ([(none, cP [])]) 18 #[ruV shR ⟨none, 0⟩, .int .i64 1, .int .i64 0, .int .i64 0] (roB aS0) (fun ads => .tuple #[inV aS0 (adB ads), .int .i64 0]) := by
  refine specG_of (h := bgw_h ) (?_ : wpG Tryz.prog [] ([(none, cP [])]) 400 18 [ruV shR ⟨none, 0⟩, .int .i64 1, .int .i64 0, .int .i64 0] (bgw_h ) (roB aS0) (fun ads => .tuple #[inV aS0 (adB ads), .int .i64 0]))
  rw [bgw_x]
  (repeat' (first | with_reducible exact rfl | exact trivial | with_reducible assumption | exact rch_sp _ _ aok0 (by decide) (by decide) | exact cU_len _ | exact cI_len _ | exact cB_len _ | exact cU_one _ | exact cI_one _ | exact cB_one _ | exact (fun _ h => h) | exact (fun _ h => (List.not_mem_nil h).elim) | (with_reducible refine e1_in ?_) | (with_reducible refine e2_in ?_) | (with_reducible refine lx_in (Nat.le_of_ble_eq_true rfl) ?_) | (with_reducible refine rqx_rf ?_) | (with_reducible refine rqx_in ?_ ?_ ?_) | (with_reducible apply And.intro) | (with_reducible intro _)))
  all_goals (first | exact rfl | omega | decide | trace_state)
def ball4_h (d : Dl) : Hint := ho 0 12 (ho 1 38 (.perm [] .nil))
theorem ball4_x (d : Dl) : wpG Tryz.prog [] ([]) 400 29 [dlV d] (ball4_h d) ([]) (fun _ => evV 4 ⟨0, 0, 0, false, 0, 0⟩ d) = (∀ (b b_1 : Nat), e1 b 12 (e2 b_1 19 (e1 b_1 19 (Value.agg (Array.mk [.int .u8 4, .int .i64 0, .int .i64 0, .int .i64 0, .bool false, .int .i64 0, .int .i64 0, .int .u8 d.t, .int .u8 d.s, .int .i64 d.r, .int .i64 d.sh, .int .i64 d.b, .bool d.x, .int .u8 d.h, .int .i64 d.v, .int .i64 d.f, .int .i64
 d.g, .bool d.u, .int .i64 d.z]) = Value.agg (Array.mk [.int .u8 4, .int .i64 0, .int .i64 0, .int .i64 0, .bool false, .int .i64 0, .int .i64 0, .int .u8 d.t, .int .u8 d.s, .int .i64 d.r, .int .i64 d.sh, .int .i64 d.b, .bool d.x, .int .u8 d.h, .int .i64 d.v, .int .i64 d.f, .int .i64 d.g, .bool d.u,
 .int .i64 d.z]))))) := by kernel_rfl
set_option maxHeartbeats 4000000 in
theorem ball4_sp (d : Dl)  : SpecG Tryz.prog [] ([]) 29 #[dlV d] ([]) (fun _ => evV 4 ⟨0, 0, 0, false, 0, 0⟩ d) := by
  refine specG_of (h := ball4_h d) (?_ : wpG Tryz.prog [] ([]) 400 29 [dlV d] (ball4_h d) ([]) (fun _ => evV 4 ⟨0, 0, 0, false, 0, 0⟩ d))
  rw [ball4_x]
  (repeat' (first | with_reducible exact rfl | exact trivial | with_reducible assumption | exact cU_len _ | exact cI_len _ | exact cB_len _ | exact cU_one _ | exact cI_one _ | exact cB_one _ | exact (fun _ h => h) | exact (fun _ h => (List.not_mem_nil h).elim) | (with_reducible refine e1_in ?_) | (with_reducible refine e2_in ?_) | (with_reducible refine lx_in (Nat.le_of_ble_eq_true rfl) ?_) | (with_reducible refine rqx_rf ?_) | (with_reducible refine rqx_in ?_ ?_ ?_) | (with_reducible apply And.intro) | (with_reducible intro _)))
  all_goals (first | exact rfl | trace_state)
def sho4_h  : Hint := ho 0 28 (.perm [] .nil)
theorem sho4_x  : wpG Tryz.prog [] ([]) 400 32 [] (sho4_h ) ([]) (fun _ => ruV shR ⟨none, 0⟩) = (∀ (b : Nat), e2 b 14 (e1 b 14 (Value.agg (Array.mk [.string (ByteArray.mk (Array.mk [(83 : UInt8), (72 : UInt8), (79 : UInt8), (82 : UInt8), (84 : UInt8)])), .int .i64 3, .int .i64 1, .int .i64 2, .int .i64 4, .int .i64 0, .int .i64 1, .int .i64 1, .bool true, .int .i64 0, .int .i64 0, .int .i64 0,
 .int .i64 1, .slice none (0 : Nat) (0 : Nat)]) = Value.agg (Array.mk [.string (ByteArray.mk (Array.mk [(83 : UInt8), (72 : UInt8), (79 : UInt8), (82 : UInt8), (84 : UInt8)])), .int .i64 3, .int .i64 1, .int .i64 2, .int .i64 4, .int .i64 0, .int .i64 1, .int .i64 1, .bool true, .int .i64 0, .int
 .i64 0, .int .i64 0, .int .i64 1, .slice none (0 : Nat) (0 : Nat)])))) := by kernel_rfl
set_option maxHeartbeats 4000000 in
theorem sho4_sp   : SpecG Tryz.prog [] ([]) 32 #[] ([]) (fun _ => ruV shR ⟨none, 0⟩) := by
  refine specG_of (h := sho4_h ) (?_ : wpG Tryz.prog [] ([]) 400 32 [] (sho4_h ) ([]) (fun _ => ruV shR ⟨none, 0⟩))
  rw [sho4_x]
  (repeat' (first | with_reducible exact rfl | exact trivial | with_reducible assumption | exact cU_len _ | exact cI_len _ | exact cB_len _ | exact cU_one _ | exact cI_one _ | exact cB_one _ | exact (fun _ h => h) | exact (fun _ h => (List.not_mem_nil h).elim) | (with_reducible refine e1_in ?_) | (with_reducible refine e2_in ?_) | (with_reducible refine lx_in (Nat.le_of_ble_eq_true rfl) ?_) | (with_reducible refine rqx_rf ?_) | (with_reducible refine rqx_in ?_ ?_ ?_) | (with_reducible apply And.intro) | (with_reducible intro _)))
  all_goals (first | exact rfl | trace_state)
def aw14_h  : Hint := .specg [] [] [] [] (fun ads0 x ↦ ruV shR (RAd.mk none 0)) (.specg [] [1000] [cP ([] : List Ph)] (roB aS0) (fun ads0 ads ↦ Value.tuple #[inV aS0 (adB ads), .int .i64 0]) (ho 3 28 (.pl (.lit (.specg [] [] [] [] (fun ads0 x ↦ evV 4 (Ev.mk 0 0 0 false 0 0) (Dl.mk 1 0 0 0 0 false 0 0 0 0 false 0)) (ho 4
 19 (.specg [] [] [] [] (fun ads0 x ↦ evV 4 (Ev.mk 0 0 0 false 0 0) (Dl.mk 1 1 1 0 0 false 0 0 0 0 false 0)) (.specg [] [] [] [] (fun ads0 x ↦ evV 4 (Ev.mk 0 0 0 false 0 0) (Dl.mk 2 0 0 0 0 false 0 0 0 0 false 0)) (.specg [] [] [] [] (fun ads0 x ↦ evV 4 (Ev.mk 0 0 0 false 0 0) (Dl.mk 1 0 0 0 0 false
 1 1 0 0 false 0)) (.pl (.rounds 64 (.lit (.ix (ho 5 19 (ho 6 19 (.draw [0, 1, 2, 3, 4, 5, 6] (some 3) [0, 1, 2, 4, 5, 6] (.take 1 (ho 3 28 (.take 2 (ho 6 19 (.pl (.br (.specg [] [] [] [] (fun ads0 x ↦ ruV shR (RAd.mk none 0)) (.pl (.br (.specg wE [1000, 0, 1002, 1003, 1, 2] [cP ([] : List Ph), cU
 aS0.bts, cI aS0.bws, cI aS0.bfs, cI aS0.bwd, cB aS0.sbs] (rowI aS1) (fun ads0 ads ↦ Value.tuple #[inV aS1 (adA ads), .int .i64 0]) (.take 4 (.take 5 (.take 6 (.pl (.br (ho 3 28 (.take 8 (.pl (.lit (.lit (.ix (ho 5 19 (ho 12 19 (.draw [0, 1, 2, 3, 4, 5, 6, 7, 8, 9, 10, 11, 12] (some 3) [0, 1, 2, 4,
 5, 6, 7, 8, 9, 10, 11, 12] (.take 1 (ho 3 28 (.take 2 (ho 12 19 (.pl (.br (.specg [] [] [] [] (fun ads0 x ↦ ruV shR (RAd.mk none 0)) (.pl (.br (.specg wE [1000, 7, 8, 9, 10, 11] [cP ([] : List Ph), cU aS1.bts, cI aS1.bws, cI aS1.bfs, cI aS1.bwd, cB aS1.sbs] (rowI aS2) (fun ads0 ads ↦ Value.tuple
 #[inV aS2 (adA ads), .int .i64 0]) (.take 4 (.take 5 (.take 6 (.pl (.br (ho 3 28 (.take 8 (.pl (.lit (.lit (.ix (ho 5 19 (ho 18 19 (.draw [0, 1, 2, 3, 4, 5, 6, 7, 8, 9, 10, 11, 12, 13, 14, 15, 16, 17, 18] (some 3) [0, 1, 2, 4, 5, 6, 7, 8, 9, 10, 11, 12, 13, 14, 15, 16, 17, 18] (.take 1 (ho 3 28
 (.take 2 (ho 18 19 (.pl (.br (.specg [] [] [] [] (fun ads0 x ↦ ruV shR (RAd.mk none 0)) (.pl (.br (.specg wE [1000, 13, 14, 15, 16, 17] [cP ([] : List Ph), cU aS2.bts, cI aS2.bws, cI aS2.bfs, cI aS2.bwd, cB aS2.sbs] (rowI aS3) (fun ads0 ads ↦ Value.tuple #[inV aS3 (adA ads), .int .i64 0]) (.take 4
 (.take 5 (.take 6 (.pl (.br (ho 3 28 (.take 8 (.pl (.lit (.lit (.ix (ho 5 19 (ho 24 19 (.draw [0, 1, 2, 3, 4, 5, 6, 7, 8, 9, 10, 11, 12, 13, 14, 15, 16, 17, 18, 19, 20, 21, 22, 23, 24] (some 3) [0, 1, 2, 4, 5, 6, 7, 8, 9, 10, 11, 12, 13, 14, 15, 16, 17, 18, 19, 20, 21, 22, 23, 24] (.take 1 (ho 3 28
 (.take 2 (ho 24 19 (.pl (.br (.specg [] [] [] [] (fun ads0 x ↦ ruV shR (RAd.mk none 0)) (.pl (.br (.specg wE [1000, 19, 20, 21, 22, 23] [cP ([] : List Ph), cU aS3.bts, cI aS3.bws, cI aS3.bfs, cI aS3.bwd, cB aS3.sbs] (rowI aS4) (fun ads0 ads ↦ Value.tuple #[inV aS4 (adA ads), .int .i64 0]) (.take 4
 (.take 5 (.take 6 (.pl (.br (ho 3 28 (.take 8 (.pl (.lit (.lit (.ix (ho 5 19 (ho 30 19 (.draw [0, 1, 2, 3, 4, 5, 6, 7, 8, 9, 10, 11, 12, 13, 14, 15, 16, 17, 18, 19, 20, 21, 22, 23, 24, 25, 26, 27, 28, 29, 30] (some 3) [0, 1, 2, 4, 5, 6, 7, 8, 9, 10, 11, 12, 13, 14, 15, 16, 17, 18, 19, 20, 21, 22,
 23, 24, 25, 26, 27, 28, 29, 30] (.take 1 (ho 3 28 (.take 2 (ho 30 19 (.pl (.br (.specg [] [] [] [] (fun ads0 x ↦ ruV shR (RAd.mk none 0)) (.pl (.br (.specg wE [1000, 25, 26, 27, 28, 29] [cP ([] : List Ph), cU aS4.bts, cI aS4.bws, cI aS4.bfs, cI aS4.bwd, cB aS4.sbs] (rowI aS5) (fun ads0 ads ↦
 Value.tuple #[inV aS5 (adA ads), .int .i64 0]) (.take 4 (.take 5 (.take 6 (.pl (.br (ho 3 28 (.take 8 (.pl (.lit (.lit (.ix (ho 5 19 (ho 36 19 (.draw [0, 1, 2, 3, 4, 5, 6, 7, 8, 9, 10, 11, 12, 13, 14, 15, 16, 17, 18, 19, 20, 21, 22, 23, 24, 25, 26, 27, 28, 29, 30, 31, 32, 33, 34, 35, 36] (some 3)
 [0, 1, 2, 4, 5, 6, 7, 8, 9, 10, 11, 12, 13, 14, 15, 16, 17, 18, 19, 20, 21, 22, 23, 24, 25, 26, 27, 28, 29, 30, 31, 32, 33, 34, 35, 36] (.take 1 (ho 3 28 (.take 2 (ho 36 19 (.pl (.br (.specg [] [] [] [] (fun ads0 x ↦ ruV shR (RAd.mk none 0)) (.pl (.br (.specg wE [1000, 31, 32, 33, 34, 35] [cP ([] :
 List Ph), cU aS5.bts, cI aS5.bws, cI aS5.bfs, cI aS5.bwd, cB aS5.sbs] (rowI aS6) (fun ads0 ads ↦ Value.tuple #[inV aS6 (adA ads), .int .i64 0]) (.take 4 (.take 5 (.take 6 (.pl (.br (ho 3 28 (.take 8 (.pl (.lit (.lit (.drawf [7] [0, 1, 2, 3, 4, 5, 6, 7, 8, 9, 10, 11, 12, 13, 14, 15, 16, 17, 18, 19,
 20, 21, 22, 23, 24, 25, 26, 27, 28, 29, 30, 31, 32, 33, 34, 35, 36, 37, 38, 39, 40, 41] (.take 1 (ho 3 28 (.take 2 (ho 4 19 (.pl (.br (.specg [] [] [] [] (fun ads0 x ↦ ruV shR (RAd.mk none 0)) (.pl (.br (.specg wE [1000, 37, 38, 39, 40, 41] [cP ([] : List Ph), cU aS6.bts, cI aS6.bws, cI aS6.bfs, cI
 aS6.bwd, cB aS6.sbs] (rowI aS6) (fun ads0 ads ↦ Value.tuple #[inV aS6 (adA ads), .int .i64 6]) (.take 4 (.take 5 (.take 6 (.take 7 (.pl (.br (ho 47 28 (.take 9 (.draw [0, 1, 2, 3, 4, 5, 6, 7, 8, 9, 10, 11, 12, 13, 14, 15, 16, 17, 18, 19, 20, 21, 22, 23, 24, 25, 26, 27, 28, 29, 30, 31, 32, 33, 34,
 35, 36, 37, 38, 39, 40, 41, 42, 43, 44, 45, 46, 47] (some 3) [0, 1, 2, 4, 5, 6, 7, 8, 9, 10, 11, 12, 13, 14, 15, 16, 17, 18, 19, 20, 21, 22, 23, 24, 25, 26, 27, 28, 29, 30, 31, 32, 33, 34, 35, 36, 37, 38, 39, 40, 41, 42, 43, 44, 45, 46, 47] (.take 1 (ho 3 28 (.take 2 (.pl (.br (.specg [] [] [] []
 (fun ads0 x ↦ ruV shR (RAd.mk none 0)) (.pl (.br (.specg wE [1000, 37, 38, 39, 40, 41] [cP ([] : List Ph), cU aS6.bts, cI aS6.bws, cI aS6.bfs, cI aS6.bwd, cB aS6.sbs] (rowI aS8) (fun ads0 ads ↦ Value.tuple #[inV aS8 (adA ads), .int .i64 0]) (.take 4 (.take 5 (.take 6 (.pl (.br (ho 3 28 (.take 8 (.ob
 3 (.draw [0, 1, 2, 3, 4, 5, 6, 7, 8, 9, 10, 11, 12, 13, 14, 15, 16, 17, 18, 19, 20, 21, 22, 23, 24, 25, 26, 27, 28, 29, 30, 31, 32, 33, 34, 35, 36, 37, 38, 39, 40, 41, 42, 43, 44, 45, 46, 47, 48, 49, 50, 51, 52] (some 4) [0, 1, 2, 4, 5, 6, 7, 8, 9, 10, 11, 12, 13, 14, 15, 16, 17, 18, 19, 20, 21, 22,
 23, 24, 25, 26, 27, 28, 29, 30, 31, 32, 33, 34, 35, 36, 37, 38, 39, 40, 41, 42, 43, 44, 45, 46, 47, 48, 49, 50, 51, 52] (.take 1 (ho 3 28 (.take 2 (.pl (.br (.specg [] [] [] [] (fun ads0 x ↦ ruV shR (RAd.mk none 0)) (.pl (.br (.specg [] [] [] [] (fun ads0 x ↦ evV 4 (Ev.mk 0 0 0 false 0 0) (Dl.mk 1 0
 0 0 0 false 2 1 2 0 false 0)) (.pl (.br (.specg wE [1000, 48, 49, 50, 51, 52] [cP ([] : List Ph), cU aS8.bts, cI aS8.bws, cI aS8.bfs, cI aS8.bwd, cB aS8.sbs] (rowI aS9) (fun ads0 ads ↦ Value.tuple #[inV aS9 (adA ads), .int .i64 0]) (.take 5 (.take 6 (.take 7 (.pl (.br (ho 3 28 (.take 9 (.drawf [7]
 [0, 1, 2, 3, 4, 5, 6, 7, 8, 9, 10, 11, 12, 13, 14, 15, 16, 17, 18, 19, 20, 21, 22, 23, 24, 25, 26, 27, 28, 29, 30, 31, 32, 33, 34, 35, 36, 37, 38, 39, 40, 41, 42, 43, 44, 45, 46, 47, 48, 49, 50, 51, 52, 53, 54, 55, 56, 57] (.take 1 (ho 3 28 (.take 2 (ho 4 19 (.pl (.br (.specg [] [] [] [] (fun ads0 x
 ↦ ruV shR (RAd.mk none 0)) (.pl (.br (.specg wE [1000, 53, 54, 55, 56, 57] [cP ([] : List Ph), cU aS9.bts, cI aS9.bws, cI aS9.bfs, cI aS9.bwd, cB aS9.sbs] (rowI aS9) (fun ads0 ads ↦ Value.tuple #[inV aS9 (adA ads), .int .i64 26]) (.take 4 (.take 5 (.take 6 (.take 7 (.pl (.br (ho 63 28 (.take 9
 (.draw [0, 1, 2, 3, 4, 5, 6, 7, 8, 9, 10, 11, 12, 13, 14, 15, 16, 17, 18, 19, 20, 21, 22, 23, 24, 25, 26, 27, 28, 29, 30, 31, 32, 33, 34, 35, 36, 37, 38, 39, 40, 41, 42, 43, 44, 45, 46, 47, 48, 49, 50, 51, 52, 53, 54, 55, 56, 57, 58, 59] none [0, 1, 2, 3, 4, 5, 6, 7, 8, 9, 10, 11, 12, 13, 14, 15,
 16, 17, 18, 19, 20, 21, 22, 23, 24, 25, 26, 27, 28, 29, 30, 31, 32, 33, 34, 35, 36, 37, 38, 39, 40, 41, 42, 43, 44, 45, 46, 47, 48, 49, 50, 51, 52, 53, 54, 55, 56, 57, 58, 59] (.take 0 (.take 1 (.pl (.take 2 (.take 3 (.lit (.take 4 (.lit (.pl (.take 5 (.lit (.take 6 (.take 7 (.lit (.take 8 (.lit
 (.pl (.take 9 (.lit (.take 10 (.take 11 (.lit (.take 12 (.lit (.pl (.take 13 (.lit (.take 14 (.take 15 (.lit (.take 16 (.lit (.ob 3 (.take 17 (.lit (.pl (.take 18 (.lit (.take 19 (.take 20 (.lit (.take 21 (.lit (.ob 3 (.take 22 (.lit (.pl (.take 23 (.lit (.take 24 (.take 26 (.lit (ho 3 28 (.pl (.br
 (.lit (.specg [] [] [] [] (fun ads0 x ↦ ruV shR (RAd.mk none 0)) (.pl (.br (.lit (.specg [] [] [] [] (fun ads0 x ↦ Value.int .i64 (inbI (Rul.mk shR.nm shR.q1 shR.q2 shR.q3 shR.q4 shR.q5 shR.q6 shR.q7 shR.fh shR.q8 shR.q9 shR.qa shR.qo []) (Inn.mk aS9.sd aS9.tg aS9.ov aS9.rn aS9.wk aS9.e1 aS9.e2
 aS9.e3 aS9.e4 aS9.e5 aS9.cm aS9.io aS9.st aS9.ot [(1 : Int), (2 : Int), (2 : Int)] aS9.bw [(1 : Int)] [] aS9.fr [(3 : Int), (0 : Int), (0 : Int)] aS9.fh aS9.ba aS9.kp aS9.ou [false, false, false] aS9.r1 aS9.r2 aS9.en))) (.take 28 (.lit (.pl (.take 29 (.lit (.take 30 (.take 31 (.lit (.take 32 (.lit
 (.pl (.take 33 (.lit (.take 34 (.perm [] .nil))))))))))))))))) .nil)))) .nil)))))))))))))))))))))))))))))))))))))))))))))))))))))))))) .nil))))))) .nil))) .nil))))))))) .nil)))))) .nil))) .nil))) .nil))))))))) .nil)))))) .nil))) .nil)))))))) .nil))))))) .nil))) .nil)))))))))))) .nil)))))) .nil)))
 .nil))))))))))))))) .nil)))))) .nil))) .nil))))))))))))))) .nil)))))) .nil))) .nil))))))))))))))) .nil)))))) .nil))) .nil))))))))))))))) .nil)))))) .nil))) .nil))))))))))))))) .nil)))))) .nil))) .nil))))))))))))))))))))))
theorem aw14_x  : wpG Tryz.prog wE ([]) 400 9 [] (aw14_h ) ([]) (fun _ => .bool true) = ((SpecG Tryz.prog [] [] (32 : FuncId) #[] [] fun x ↦ ruV shR (RAd.mk none 0)) /\ (∀ (e : Ex), e ∈ [] -> e ∈ wE) /\ cP ([] : List Ph) = [] /\ (SpecG Tryz.prog [] [(none, cP ([] : List Ph))] (18 : FuncId) #[ruV shR (RAd.mk none 0), .int .i64 1, .int .i64 0, .int .i64 0] (roB aS0) fun ads ↦ Value.tuple
 #[inV aS0 (adB ads), .int .i64 0]) /\ (∀ (e : Ex), e ∈ [] -> e ∈ wE) /\ ∀ (a : Option Addr) (cap : Nat), AOK a 3 -> 3 ≤ cap -> ∀ (a_1 : Option Addr) (cap_1 : Nat), AOK a_1 3 -> 3 ≤ cap_1 -> ∀ (a_2 : Option Addr) (cap_2 : Nat), AOK a_2 3 -> 3 ≤ cap_2 -> ∀ (b : Nat), e2 b 28 ((SpecG Tryz.prog [] [] (29
 : FuncId) #[dlV (Dl.mk 1 0 0 0 0 false 0 0 0 0 false 0)] [] fun x ↦ evV 4 (Ev.mk 0 0 0 false 0 0) (Dl.mk 1 0 0 0 0 false 0 0 0 0 false 0)) /\ (∀ (e : Ex), e ∈ [] -> e ∈ wE) /\ ∀ (b_1 : Nat), e2 b_1 19 ((SpecG Tryz.prog [] [] (29 : FuncId) #[dlV (Dl.mk 1 1 1 0 0 false 0 0 0 0 false 0)] [] fun x ↦ evV
 4 (Ev.mk 0 0 0 false 0 0) (Dl.mk 1 1 1 0 0 false 0 0 0 0 false 0)) /\ (∀ (e : Ex), e ∈ [] -> e ∈ wE) /\ (SpecG Tryz.prog [] [] (29 : FuncId) #[dlV (Dl.mk 2 0 0 0 0 false 0 0 0 0 false 0)] [] fun x ↦ evV 4 (Ev.mk 0 0 0 false 0 0) (Dl.mk 2 0 0 0 0 false 0 0 0 0 false 0)) /\ (∀ (e : Ex), e ∈ [] -> e ∈
 wE) /\ (SpecG Tryz.prog [] [] (29 : FuncId) #[dlV (Dl.mk 1 0 0 0 0 false 1 1 0 0 false 0)] [] fun x ↦ evV 4 (Ev.mk 0 0 0 false 0 0) (Dl.mk 1 0 0 0 0 false 1 1 0 0 false 0)) /\ (∀ (e : Ex), e ∈ [] -> e ∈ wE) /\ ∀ (b_2 : Nat), (((0 : Int) ≤ (0 : Int) /\ (0 : Int) < (6 : Int)) /\ AOK (some (Addr.mk b_2
 (0 : Nat) none)) (6 : Nat)) /\ e1 b_2 19 (∀ (b_3 : Nat), e2 b_3 19 (e1 b 28 (e1 b_3 18 (b_3 = b_3 /\ True /\ ((SpecG Tryz.prog [] [] (32 : FuncId) #[] [] fun x ↦ ruV shR (RAd.mk none 0)) /\ (∀ (e : Ex), e ∈ [] -> e ∈ wE) /\ True /\ (cP ([] : List Ph) = [] /\ cU aS0.bts = cU aS0.bts /\ cI aS0.bws = []
 /\ cI aS0.bfs = [] /\ cI aS0.bwd = cI aS0.bwd /\ cB aS0.sbs = cB aS0.sbs /\ (SpecG Tryz.prog wE ((none, cP ([] : List Ph)) :: rdI aS0 (Adr.mk a none none a_1 a_2 cap (0 : Nat) (0 : Nat) cap_1 cap_2)) (24 : FuncId) #[ruV shR (RAd.mk none 0), inV aS0 (Adr.mk a none none a_1 a_2 cap (0 : Nat) (0 : Nat)
 cap_1 cap_2), evV 2 (Ev.mk 0 1 2 false 0 0) (Dl.mk 0 0 0 0 0 false 0 0 0 0 false 0)] (rowI aS1) fun ads ↦ Value.tuple #[inV aS1 (adA ads), .int .i64 0]) /\ (∀ (e : Ex), e ∈ wE -> e ∈ wE) /\ ∀ (a : Option Addr) (cap : Nat), AOK a 3 -> 3 ≤ cap -> ∀ (a_3 : Option Addr) (cap_3 : Nat), AOK a_3 0 -> 0 ≤
 cap_3 -> ∀ (a_4 : Option Addr) (cap_4 : Nat), AOK a_4 0 -> 0 ≤ cap_4 -> ∀ (a_5 : Option Addr) (cap_5 : Nat), AOK a_5 3 -> 3 ≤ cap_5 -> ∀ (a_6 : Option Addr) (cap_6 : Nat), AOK a_6 3 -> 3 ≤ cap_6 -> True /\ (e2 b 28 ((((0 : Int) ≤ (1 : Int) /\ (1 : Int) < (6 : Int)) /\ AOK (some (Addr.mk b_2 (0 :
 Nat) none)) (6 : Nat)) /\ e1 b_2 19 (∀ (b_4 : Nat), e2 b_4 19 (e1 b 28 (e1 b_4 18 (b_4 = b_4 /\ True /\ ((SpecG Tryz.prog [] [] (32 : FuncId) #[] [] fun x ↦ ruV shR (RAd.mk none 0)) /\ (∀ (e : Ex), e ∈ [] -> e ∈ wE) /\ True /\ (cP ([] : List Ph) = [] /\ cU aS1.bts = cU aS1.bts /\ cI aS1.bws = cI
 aS1.bws /\ cI aS1.bfs = cI aS1.bfs /\ cI aS1.bwd = cI aS1.bwd /\ cB aS1.sbs = cB aS1.sbs /\ (SpecG Tryz.prog wE ((none, cP []) :: rdI aS1 (Adr.mk a a_3 a_4 a_5 a_6 cap cap_3 cap_4 cap_5 cap_6)) (24 : FuncId) #[ruV shR (RAd.mk none 0), inV aS1 (Adr.mk a a_3 a_4 a_5 a_6 cap cap_3 cap_4 cap_5 cap_6),
 evV 8 (Ev.mk 0 3 0 false 0 0) (Dl.mk 0 0 0 0 0 false 0 0 0 0 false 0)] (rowI aS2) fun ads ↦ Value.tuple #[inV aS2 (adA ads), .int .i64 0]) /\ (∀ (e : Ex), e ∈ wE -> e ∈ wE) /\ ∀ (a : Option Addr) (cap : Nat), AOK a 3 -> 3 ≤ cap -> ∀ (a_7 : Option Addr) (cap_7 : Nat), AOK a_7 0 -> 0 ≤ cap_7 -> ∀ (a_8
 : Option Addr) (cap_8 : Nat), AOK a_8 0 -> 0 ≤ cap_8 -> ∀ (a_9 : Option Addr) (cap_9 : Nat), AOK a_9 3 -> 3 ≤ cap_9 -> ∀ (a_10 : Option Addr) (cap_10 : Nat), AOK a_10 3 -> 3 ≤ cap_10 -> True /\ (e2 b 28 ((((0 : Int) ≤ (2 : Int) /\ (2 : Int) < (6 : Int)) /\ AOK (some (Addr.mk b_2 (0 : Nat) none)) (6
 : Nat)) /\ e1 b_2 19 (∀ (b_5 : Nat), e2 b_5 19 (e1 b 28 (e1 b_5 18 (b_5 = b_5 /\ True /\ ((SpecG Tryz.prog [] [] (32 : FuncId) #[] [] fun x ↦ ruV shR (RAd.mk none 0)) /\ (∀ (e : Ex), e ∈ [] -> e ∈ wE) /\ True /\ (cP ([] : List Ph) = [] /\ cU aS2.bts = cU aS2.bts /\ cI aS2.bws = cI aS2.bws /\ cI
 aS2.bfs = cI aS2.bfs /\ cI aS2.bwd = cI aS2.bwd /\ cB aS2.sbs = cB aS2.sbs /\ (SpecG Tryz.prog wE ((none, cP ([] : List Ph)) :: rdI aS2 (Adr.mk a a_7 a_8 a_9 a_10 cap cap_7 cap_8 cap_9 cap_10)) (24 : FuncId) #[ruV shR (RAd.mk none 0), inV aS2 (Adr.mk a a_7 a_8 a_9 a_10 cap cap_7 cap_8 cap_9 cap_10),
 evV 3 (Ev.mk 0 1 0 false 0 0) (Dl.mk 0 0 0 0 0 false 0 0 0 0 false 0)] (rowI aS3) fun ads ↦ Value.tuple #[inV aS3 (adA ads), .int .i64 0]) /\ (∀ (e : Ex), e ∈ wE -> e ∈ wE) /\ ∀ (a : Option Addr) (cap : Nat), AOK a 3 -> 3 ≤ cap -> ∀ (a_11 : Option Addr) (cap_11 : Nat), AOK a_11 0 -> 0 ≤ cap_11 -> ∀
 (a_12 : Option Addr) (cap_12 : Nat), AOK a_12 0 -> 0 ≤ cap_12 -> ∀ (a_13 : Option Addr) (cap_13 : Nat), AOK a_13 3 -> 3 ≤ cap_13 -> ∀ (a_14 : Option Addr) (cap_14 : Nat), AOK a_14 3 -> 3 ≤ cap_14 -> True /\ (e2 b 28 ((((0 : Int) ≤ (3 : Int) /\ (3 : Int) < (6 : Int)) /\ AOK (some (Addr.mk b_2 (0 :
 Nat) none)) (6 : Nat)) /\ e1 b_2 19 (∀ (b_6 : Nat), e2 b_6 19 (e1 b 28 (e1 b_6 18 (b_6 = b_6 /\ True /\ ((SpecG Tryz.prog [] [] (32 : FuncId) #[] [] fun x ↦ ruV shR (RAd.mk none 0)) /\ (∀ (e : Ex), e ∈ [] -> e ∈ wE) /\ True /\ (cP ([] : List Ph) = [] /\ cU aS3.bts = cU aS3.bts /\ cI aS3.bws = cI
 aS3.bws /\ cI aS3.bfs = cI aS3.bfs /\ cI aS3.bwd = cI aS3.bwd /\ cB aS3.sbs = cB aS3.sbs /\ (SpecG Tryz.prog wE ((none, cP ([] : List Ph)) :: rdI aS3 (Adr.mk a a_11 a_12 a_13 a_14 cap cap_11 cap_12 cap_13 cap_14)) (24 : FuncId) #[ruV shR (RAd.mk none 0), inV aS3 (Adr.mk a a_11 a_12 a_13 a_14 cap
 cap_11 cap_12 cap_13 cap_14), evV 4 (Ev.mk 0 0 0 false 0 0) (Dl.mk 1 1 1 0 0 false 0 0 0 0 false 0)] (rowI aS4) fun ads ↦ Value.tuple #[inV aS4 (adA ads), .int .i64 0]) /\ (∀ (e : Ex), e ∈ wE -> e ∈ wE) /\ ∀ (a : Option Addr) (cap : Nat), AOK a 3 -> 3 ≤ cap -> ∀ (a_15 : Option Addr) (cap_15 : Nat),
 AOK a_15 1 -> 1 ≤ cap_15 -> ∀ (a_16 : Option Addr) (cap_16 : Nat), AOK a_16 0 -> 0 ≤ cap_16 -> ∀ (a_17 : Option Addr) (cap_17 : Nat), AOK a_17 3 -> 3 ≤ cap_17 -> ∀ (a_18 : Option Addr) (cap_18 : Nat), AOK a_18 3 -> 3 ≤ cap_18 -> True /\ (e2 b 28 ((((0 : Int) ≤ (4 : Int) /\ (4 : Int) < (6 : Int)) /\
 AOK (some (Addr.mk b_2 (0 : Nat) none)) (6 : Nat)) /\ e1 b_2 19 (∀ (b_7 : Nat), e2 b_7 19 (e1 b 28 (e1 b_7 18 (b_7 = b_7 /\ True /\ ((SpecG Tryz.prog [] [] (32 : FuncId) #[] [] fun x ↦ ruV shR (RAd.mk none 0)) /\ (∀ (e : Ex), e ∈ [] -> e ∈ wE) /\ True /\ (cP ([] : List Ph) = [] /\ cU aS4.bts = cU
 aS4.bts /\ cI aS4.bws = cI aS4.bws /\ cI aS4.bfs = cI aS4.bfs /\ cI aS4.bwd = cI aS4.bwd /\ cB aS4.sbs = cB aS4.sbs /\ (SpecG Tryz.prog wE ((none, cP ([] : List Ph)) :: rdI aS4 (Adr.mk a a_15 a_16 a_17 a_18 cap cap_15 cap_16 cap_17 cap_18)) (24 : FuncId) #[ruV shR (RAd.mk none 0), inV aS4 (Adr.mk a
 a_15 a_16 a_17 a_18 cap cap_15 cap_16 cap_17 cap_18), evV 4 (Ev.mk 0 0 0 false 0 0) (Dl.mk 2 0 0 0 0 false 0 0 0 0 false 0)] (rowI aS5) fun ads ↦ Value.tuple #[inV aS5 (adA ads), .int .i64 0]) /\ (∀ (e : Ex), e ∈ wE -> e ∈ wE) /\ ∀ (a : Option Addr) (cap : Nat), AOK a 3 -> 3 ≤ cap -> ∀ (a_19 :
 Option Addr) (cap_19 : Nat), AOK a_19 1 -> 1 ≤ cap_19 -> ∀ (a_20 : Option Addr) (cap_20 : Nat), AOK a_20 0 -> 0 ≤ cap_20 -> ∀ (a_21 : Option Addr) (cap_21 : Nat), AOK a_21 3 -> 3 ≤ cap_21 -> ∀ (a_22 : Option Addr) (cap_22 : Nat), AOK a_22 3 -> 3 ≤ cap_22 -> True /\ (e2 b 28 ((((0 : Int) ≤ (5 : Int)
 /\ (5 : Int) < (6 : Int)) /\ AOK (some (Addr.mk b_2 (0 : Nat) none)) (6 : Nat)) /\ e1 b_2 19 (∀ (b_8 : Nat), e2 b_8 19 (e1 b 28 (e1 b_8 18 (b_8 = b_8 /\ True /\ ((SpecG Tryz.prog [] [] (32 : FuncId) #[] [] fun x ↦ ruV shR (RAd.mk none 0)) /\ (∀ (e : Ex), e ∈ [] -> e ∈ wE) /\ True /\ (cP ([] : List
 Ph) = [] /\ cU aS5.bts = cU aS5.bts /\ cI aS5.bws = cI aS5.bws /\ cI aS5.bfs = cI aS5.bfs /\ cI aS5.bwd = cI aS5.bwd /\ cB aS5.sbs = cB aS5.sbs /\ (SpecG Tryz.prog wE ((none, cP ([] : List Ph)) :: rdI aS5 (Adr.mk a a_19 a_20 a_21 a_22 cap cap_19 cap_20 cap_21 cap_22)) (24 : FuncId) #[ruV shR (RAd.mk
 none 0), inV aS5 (Adr.mk a a_19 a_20 a_21 a_22 cap cap_19 cap_20 cap_21 cap_22), evV 4 (Ev.mk 0 0 0 false 0 0) (Dl.mk 1 0 0 0 0 false 1 1 0 0 false 0)] (rowI aS6) fun ads ↦ Value.tuple #[inV aS6 (adA ads), .int .i64 0]) /\ (∀ (e : Ex), e ∈ wE -> e ∈ wE) /\ ∀ (a : Option Addr) (cap : Nat), AOK a 3 ->
 3 ≤ cap -> ∀ (a_23 : Option Addr) (cap_23 : Nat), AOK a_23 1 -> 1 ≤ cap_23 -> ∀ (a_24 : Option Addr) (cap_24 : Nat), AOK a_24 0 -> 0 ≤ cap_24 -> ∀ (a_25 : Option Addr) (cap_25 : Nat), AOK a_25 3 -> 3 ≤ cap_25 -> ∀ (a_26 : Option Addr) (cap_26 : Nat), AOK a_26 3 -> 3 ≤ cap_26 -> True /\ (e2 b 28 (e1
 b 28 (e1 b_1 19 (((∀ (b : Nat), True) /\ True) /\ ((SpecG Tryz.prog [] [] (32 : FuncId) #[] [] fun x ↦ ruV shR (RAd.mk none 0)) /\ (∀ (e : Ex), e ∈ [] -> e ∈ wE) /\ ((∀ (b : Nat), True) /\ True) /\ (cP ([] : List Ph) = [] /\ cU aS6.bts = cU aS6.bts /\ cI aS6.bws = cI aS6.bws /\ cI aS6.bfs = cI
 aS6.bfs /\ cI aS6.bwd = cI aS6.bwd /\ cB aS6.sbs = cB aS6.sbs /\ (SpecG Tryz.prog wE ((none, cP ([] : List Ph)) :: rdI aS6 (Adr.mk a a_23 a_24 a_25 a_26 cap cap_23 cap_24 cap_25 cap_26)) (24 : FuncId) #[ruV shR (RAd.mk none 0), inV aS6 (Adr.mk a a_23 a_24 a_25 a_26 cap cap_23 cap_24 cap_25 cap_26),
 evV 4 (Ev.mk 0 0 0 false 0 0) (Dl.mk 1 0 0 0 0 false 0 0 0 0 false 0)] (rowI aS6) fun ads ↦ Value.tuple #[inV aS6 (adA ads), .int .i64 6]) /\ (∀ (e : Ex), e ∈ wE -> e ∈ wE) /\ ∀ (a_27 : Option Addr) (cap_27 : Nat), AOK a_27 3 -> 3 ≤ cap_27 -> ∀ (a_28 : Option Addr) (cap_28 : Nat), AOK a_28 1 -> 1 ≤
 cap_28 -> ∀ (a_29 : Option Addr) (cap_29 : Nat), AOK a_29 0 -> 0 ≤ cap_29 -> ∀ (a_30 : Option Addr) (cap_30 : Nat), AOK a_30 3 -> 3 ≤ cap_30 -> ∀ (a_31 : Option Addr) (cap_31 : Nat), AOK a_31 3 -> 3 ≤ cap_31 -> ((∀ (b : Nat), True) /\ True) /\ ∀ (b_9 : Nat), (True /\ True) /\ (e2 b_9 28 (e1 b 27 (b
 = b /\ True /\ ((SpecG Tryz.prog [] [] (32 : FuncId) #[] [] fun x ↦ ruV shR (RAd.mk none 0)) /\ (∀ (e : Ex), e ∈ [] -> e ∈ wE) /\ True /\ (cP ([] : List Ph) = [] /\ cU aS6.bts = cU aS6.bts /\ cI aS6.bws = cI aS6.bws /\ cI aS6.bfs = cI aS6.bfs /\ cI aS6.bwd = cI aS6.bwd /\ cB aS6.sbs = cB aS6.sbs /\
 (SpecG Tryz.prog wE ((none, cP ([] : List Ph)) :: rdI aS6 (Adr.mk a a_23 a_24 a_25 a_26 cap cap_23 cap_24 cap_25 cap_26)) (24 : FuncId) #[ruV shR (RAd.mk none 0), inV aS6 (Adr.mk a a_23 a_24 a_25 a_26 cap cap_23 cap_24 cap_25 cap_26), evV 5 (Ev.mk 0 3 0 false 0 0) (Dl.mk 0 0 0 0 0 false 0 0 0 0 false
 0)] (rowI aS8) fun ads ↦ Value.tuple #[inV aS8 (adA ads), .int .i64 0]) /\ (∀ (e : Ex), e ∈ wE -> e ∈ wE) /\ ∀ (a : Option Addr) (cap : Nat), AOK a 3 -> 3 ≤ cap -> ∀ (a_32 : Option Addr) (cap_32 : Nat), AOK a_32 1 -> 1 ≤ cap_32 -> ∀ (a_33 : Option Addr) (cap_33 : Nat), AOK a_33 0 -> 0 ≤ cap_33 -> ∀
 (a_34 : Option Addr) (cap_34 : Nat), AOK a_34 3 -> 3 ≤ cap_34 -> ∀ (a_35 : Option Addr) (cap_35 : Nat), AOK a_35 3 -> 3 ≤ cap_35 -> True /\ (e2 b 28 (e1 b 28 (b = b /\ True /\ ((SpecG Tryz.prog [] [] (32 : FuncId) #[] [] fun x ↦ ruV shR (RAd.mk none 0)) /\ (∀ (e : Ex), e ∈ [] -> e ∈ wE) /\ True /\
 ((SpecG Tryz.prog [] [] (29 : FuncId) #[dlV (Dl.mk 1 0 0 0 0 false 2 1 2 0 false 0)] [] fun x ↦ evV 4 (Ev.mk 0 0 0 false 0 0) (Dl.mk 1 0 0 0 0 false 2 1 2 0 false 0)) /\ (∀ (e : Ex), e ∈ [] -> e ∈ wE) /\ True /\ (cP ([] : List Ph) = [] /\ cU aS8.bts = cU aS8.bts /\ cI aS8.bws = cI aS8.bws /\ cI
 aS8.bfs = cI aS8.bfs /\ cI aS8.bwd = cI aS8.bwd /\ cB aS8.sbs = cB aS8.sbs /\ (SpecG Tryz.prog wE ((none, cP ([] : List Ph)) :: rdI aS8 (Adr.mk a a_32 a_33 a_34 a_35 cap cap_32 cap_33 cap_34 cap_35)) (24 : FuncId) #[ruV shR (RAd.mk none 0), inV aS8 (Adr.mk a a_32 a_33 a_34 a_35 cap cap_32 cap_33
 cap_34 cap_35), evV 4 (Ev.mk 0 0 0 false 0 0) (Dl.mk 1 0 0 0 0 false 2 1 2 0 false 0)] (rowI aS9) fun ads ↦ Value.tuple #[inV aS9 (adA ads), .int .i64 0]) /\ (∀ (e : Ex), e ∈ wE -> e ∈ wE) /\ ∀ (a : Option Addr) (cap : Nat), AOK a 3 -> 3 ≤ cap -> ∀ (a_36 : Option Addr) (cap_36 : Nat), AOK a_36 1 ->
 1 ≤ cap_36 -> ∀ (a_37 : Option Addr) (cap_37 : Nat), AOK a_37 0 -> 0 ≤ cap_37 -> ∀ (a_38 : Option Addr) (cap_38 : Nat), AOK a_38 3 -> 3 ≤ cap_38 -> ∀ (a_39 : Option Addr) (cap_39 : Nat), AOK a_39 3 -> 3 ≤ cap_39 -> True /\ (e2 b 28 (e1 b 28 (e1 b_1 19 (((∀ (b : Nat), True) /\ True) /\ ((SpecG
 Tryz.prog [] [] (32 : FuncId) #[] [] fun x ↦ ruV shR (RAd.mk none 0)) /\ (∀ (e : Ex), e ∈ [] -> e ∈ wE) /\ ((∀ (b : Nat), True) /\ True) /\ (cP ([] : List Ph) = [] /\ cU aS9.bts = cU aS9.bts /\ cI aS9.bws = cI aS9.bws /\ cI aS9.bfs = cI aS9.bfs /\ cI aS9.bwd = cI aS9.bwd /\ cB aS9.sbs = cB aS9.sbs /\
 (SpecG Tryz.prog wE ((none, cP ([] : List Ph)) :: rdI aS9 (Adr.mk a a_36 a_37 a_38 a_39 cap cap_36 cap_37 cap_38 cap_39)) (24 : FuncId) #[ruV shR (RAd.mk none 0), inV aS9 (Adr.mk a a_36 a_37 a_38 a_39 cap cap_36 cap_37 cap_38 cap_39), evV 4 (Ev.mk 0 0 0 false 0 0) (Dl.mk 1 0 0 0 0 false 0 0 0 0 false
 0)] (rowI aS9) fun ads ↦ Value.tuple #[inV aS9 (adA ads), .int .i64 26]) /\ (∀ (e : Ex), e ∈ wE -> e ∈ wE) /\ ∀ (a_40 : Option Addr) (cap_40 : Nat), AOK a_40 3 -> 3 ≤ cap_40 -> ∀ (a_41 : Option Addr) (cap_41 : Nat), AOK a_41 1 -> 1 ≤ cap_41 -> ∀ (a_42 : Option Addr) (cap_42 : Nat), AOK a_42 0 -> 0 ≤
 cap_42 -> ∀ (a_43 : Option Addr) (cap_43 : Nat), AOK a_43 3 -> 3 ≤ cap_43 -> ∀ (a_44 : Option Addr) (cap_44 : Nat), AOK a_44 3 -> 3 ≤ cap_44 -> ((∀ (b : Nat), True) /\ True) /\ ∀ (b_10 : Nat), (True /\ True) /\ (e2 b_10 28 (e1 b 29 (b = b /\ True /\ ((SpecG Tryz.prog [] [] (32 : FuncId) #[] [] fun x
 ↦ ruV shR (RAd.mk none 0)) /\ (∀ (e : Ex), e ∈ [] -> e ∈ wE) /\ True /\ ((SpecG Tryz.prog [] [] (16 : FuncId) #[ruV (Rul.mk shR.nm shR.q1 shR.q2 shR.q3 shR.q4 shR.q5 shR.q6 shR.q7 shR.fh shR.q8 shR.q9 shR.qa shR.qo []) (RAd.mk none 0), inV (Inn.mk aS9.sd aS9.tg aS9.ov aS9.rn aS9.wk aS9.e1 aS9.e2
 aS9.e3 aS9.e4 aS9.e5 aS9.cm aS9.io aS9.st aS9.ot [(1 : Int), (2 : Int), (2 : Int)] aS9.bw [(1 : Int)] [] aS9.fr [(3 : Int), (0 : Int), (0 : Int)] aS9.fh aS9.ba aS9.kp aS9.ou [false, false, false] aS9.r1 aS9.r2 aS9.en) (Adr.mk a a_36 a_37 a_38 a_39 cap cap_36 cap_37 cap_38 cap_39)] [] fun x ↦
 Value.int .i64 (inbI (Rul.mk shR.nm shR.q1 shR.q2 shR.q3 shR.q4 shR.q5 shR.q6 shR.q7 shR.fh shR.q8 shR.q9 shR.qa shR.qo []) (Inn.mk aS9.sd aS9.tg aS9.ov aS9.rn aS9.wk aS9.e1 aS9.e2 aS9.e3 aS9.e4 aS9.e5 aS9.cm aS9.io aS9.st aS9.ot [(1 : Int), (2 : Int), (2 : Int)] aS9.bw [(1 : Int)] [] aS9.fr [(3 :
 Int), (0 : Int), (0 : Int)] aS9.fh aS9.ba aS9.kp aS9.ou [false, false, false] aS9.r1 aS9.r2 aS9.en))) /\ (∀ (e : Ex), e ∈ [] -> e ∈ wE) /\ Value.bool true = Value.bool true) /\ True) /\ True))) /\ True) /\ True) /\ True)))) /\ True) /\ True) /\ True) /\ True))) /\ True) /\ True) /\ True))) /\ True)
 /\ True) /\ True)))) /\ True) /\ True) /\ True)))))) /\ True) /\ True) /\ True)))))) /\ True) /\ True) /\ True)))))) /\ True) /\ True) /\ True)))))) /\ True) /\ True) /\ True)))))) /\ True) /\ True) /\ True))))))) := by kernel_rfl
set_option maxHeartbeats 4000000 in
theorem aw14_sp   : SpecG Tryz.prog wE ([]) 9 #[] ([]) (fun _ => .bool true) := by
  refine specG_of (h := aw14_h ) (?_ : wpG Tryz.prog wE ([]) 400 9 [] (aw14_h ) ([]) (fun _ => .bool true))
  rw [aw14_x]
  (repeat' (first | with_reducible exact rfl | exact trivial | with_reducible assumption | exact bgw_sp | exact ball4_sp _ | exact sho4_sp | exact aw0_sp _ ⟨(by first | assumption | exact aok0 | exact aokb _ _), (by first | assumption | exact aok0 | exact aokb _ _), (by first | assumption | exact aok0 | exact aokb _ _), (by first | assumption | exact aok0 | exact aokb _ _), (by first | assumption | exact aok0 | exact aokb _ _), (by decide), (by decide), (by decide), (by decide), (by decide)⟩ ⟨(by first | assumption | exact Nat.zero_le _ | decide), (by first | assumption | exact Nat.zero_le _ | decide), (by first | assumption | exact Nat.zero_le _ | decide), (by first | assumption | exact Nat.zero_le _ | decide), (by first | assumption | exact Nat.zero_le _ | decide)⟩ | exact aw1_sp _ ⟨(by first | assumption | exact aok0 | exact aokb _ _), (by first | assumption | exact aok0 | exact aokb _ _), (by first | assumption | exact aok0 | exact aokb _ _), (by first | assumption | exact aok0 | exact aokb _ _), (by first | assumption | exact aok0 | exact aokb _ _), (by decide), (by decide), (by decide), (by decide), (by decide)⟩ ⟨(by first | assumption | exact Nat.zero_le _ | decide), (by first | assumption | exact Nat.zero_le _ | decide), (by first | assumption | exact Nat.zero_le _ | decide), (by first | assumption | exact Nat.zero_le _ | decide), (by first | assumption | exact Nat.zero_le _ | decide)⟩ | exact aw2_sp _ ⟨(by first | assumption | exact aok0 | exact aokb _ _), (by first | assumption | exact aok0 | exact aokb _ _), (by first | assumption | exact aok0 | exact aokb _ _), (by first | assumption | exact aok0 | exact aokb _ _), (by first | assumption | exact aok0 | exact aokb _ _), (by decide), (by decide), (by decide), (by decide), (by decide)⟩ ⟨(by first | assumption | exact Nat.zero_le _ | decide), (by first | assumption | exact Nat.zero_le _ | decide), (by first | assumption | exact Nat.zero_le _ | decide), (by first | assumption | exact Nat.zero_le _ | decide), (by first | assumption | exact Nat.zero_le _ | decide)⟩ | exact aw3_sp _ ⟨(by first | assumption | exact aok0 | exact aokb _ _), (by first | assumption | exact aok0 | exact aokb _ _), (by first | assumption | exact aok0 | exact aokb _ _), (by first | assumption | exact aok0 | exact aokb _ _), (by first | assumption | exact aok0 | exact aokb _ _), (by decide), (by decide), (by decide), (by decide), (by decide)⟩ ⟨(by first | assumption | exact Nat.zero_le _ | decide), (by first | assumption | exact Nat.zero_le _ | decide), (by first | assumption | exact Nat.zero_le _ | decide), (by first | assumption | exact Nat.zero_le _ | decide), (by first | assumption | exact Nat.zero_le _ | decide)⟩ | exact aw4_sp _ ⟨(by first | assumption | exact aok0 | exact aokb _ _), (by first | assumption | exact aok0 | exact aokb _ _), (by first | assumption | exact aok0 | exact aokb _ _), (by first | assumption | exact aok0 | exact aokb _ _), (by first | assumption | exact aok0 | exact aokb _ _), (by decide), (by decide), (by decide), (by decide), (by decide)⟩ ⟨(by first | assumption | exact Nat.zero_le _ | decide), (by first | assumption | exact Nat.zero_le _ | decide), (by first | assumption | exact Nat.zero_le _ | decide), (by first | assumption | exact Nat.zero_le _ | decide), (by first | assumption | exact Nat.zero_le _ | decide)⟩ | exact aw5_sp _ ⟨(by first | assumption | exact aok0 | exact aokb _ _), (by first | assumption | exact aok0 | exact aokb _ _), (by first | assumption | exact aok0 | exact aokb _ _), (by first | assumption | exact aok0 | exact aokb _ _), (by first | assumption | exact aok0 | exact aokb _ _), (by decide), (by decide), (by decide), (by decide), (by decide)⟩ ⟨(by first | assumption | exact Nat.zero_le _ | decide), (by first | assumption | exact Nat.zero_le _ | decide), (by first | assumption | exact Nat.zero_le _ | decide), (by first | assumption | exact Nat.zero_le _ | decide), (by first | assumption | exact Nat.zero_le _ | decide)⟩ | exact aw6_sp _ ⟨(by first | assumption | exact aok0 | exact aokb _ _), (by first | assumption | exact aok0 | exact aokb _ _), (by first | assumption | exact aok0 | exact aokb _ _), (by first | assumption | exact aok0 | exact aokb _ _), (by first | assumption | exact aok0 | exact aokb _ _), (by decide), (by decide), (by decide), (by decide), (by decide)⟩ ⟨(by first | assumption | exact Nat.zero_le _ | decide), (by first | assumption | exact Nat.zero_le _ | decide), (by first | assumption | exact Nat.zero_le _ | decide), (by first | assumption | exact Nat.zero_le _ | decide), (by first | assumption | exact Nat.zero_le _ | decide)⟩ | exact aw7_sp _ ⟨(by first | assumption | exact aok0 | exact aokb _ _), (by first | assumption | exact aok0 | exact aokb _ _), (by first | assumption | exact aok0 | exact aokb _ _), (by first | assumption | exact aok0 | exact aokb _ _), (by first | assumption | exact aok0 | exact aokb _ _), (by decide), (by decide), (by decide), (by decide), (by decide)⟩ ⟨(by first | assumption | exact Nat.zero_le _ | decide), (by first | assumption | exact Nat.zero_le _ | decide), (by first | assumption | exact Nat.zero_le _ | decide), (by first | assumption | exact Nat.zero_le _ | decide), (by first | assumption | exact Nat.zero_le _ | decide)⟩ | exact aw8_sp _ ⟨(by first | assumption | exact aok0 | exact aokb _ _), (by first | assumption | exact aok0 | exact aokb _ _), (by first | assumption | exact aok0 | exact aokb _ _), (by first | assumption | exact aok0 | exact aokb _ _), (by first | assumption | exact aok0 | exact aokb _ _), (by decide), (by decide), (by decide), (by decide), (by decide)⟩ ⟨(by first | assumption | exact Nat.zero_le _ | decide), (by first | assumption | exact Nat.zero_le _ | decide), (by first | assumption | exact Nat.zero_le _ | decide), (by first | assumption | exact Nat.zero_le _ | decide), (by first | assumption | exact Nat.zero_le _ | decide)⟩ | exact aw9_sp _ ⟨(by first | assumption | exact aok0 | exact aokb _ _), (by first | assumption | exact aok0 | exact aokb _ _), (by first | assumption | exact aok0 | exact aokb _ _), (by first | assumption | exact aok0 | exact aokb _ _), (by first | assumption | exact aok0 | exact aokb _ _), (by decide), (by decide), (by decide), (by decide), (by decide)⟩ ⟨(by first | assumption | exact Nat.zero_le _ | decide), (by first | assumption | exact Nat.zero_le _ | decide), (by first | assumption | exact Nat.zero_le _ | decide), (by first | assumption | exact Nat.zero_le _ | decide), (by first | assumption | exact Nat.zero_le _ | decide)⟩ | exact iba2_sp _ _ _ _ | exact cU_len _ | exact cI_len _ | exact cB_len _ | exact cU_one _ | exact cI_one _ | exact cB_one _ | exact (fun _ h => h) | exact (fun _ h => (List.not_mem_nil h).elim) | (with_reducible refine e1_in ?_) | (with_reducible refine e2_in ?_) | (with_reducible refine lx_in (Nat.le_of_ble_eq_true rfl) ?_) | (with_reducible refine rqx_rf ?_) | (with_reducible refine rqx_in ?_ ?_ ?_) | (with_reducible apply And.intro) | (with_reducible intro _)))
  all_goals (first | omega | exact aokb _ _ | exact rfl | kernel_rfl | trace_state)
end Go.Proofs.YtnhlpgdadbjmoaaGreatDoor
