/- Contracts of package notation's reader: sign, flag, number. -/
import Derived.Test.YtdgmogmldfhgcaaGreatDoorRow
import Derived.Test.YtdgmogmldfhgcaaGreatDoorNoM
import Derived.Test.YtdgmogmldfhgcaaGreatDoorShelf
import Derived.Deep.DeepCutAuto
import Derived.Deep.LoopGhost
set_option linter.unusedSimpArgs false
set_option linter.unusedVariables false
namespace Go.Proofs.YtdgmogmldfhgcaaGreatDoor
open Go.RowKit

/-- Behind a call that turns one block and may make new ones: that block holds these cells. -/
structure Chg (g : Nat) (t : TypeId) (cs : List Value) (w w' : World) : Prop where
  row : Row w' g t cs
  kept : w.grownBy w' (some g)
theorem grown_setN (w : World) (p : Addr) (u : Value) : w.grownBy (w.setCell p u) (some p.block) :=
  ⟨rfl, rfl, rfl, by simp [World.setCell], fun k _ hk => Below.heap_setCell w p u k (fun e => hk (by rw [e]))⟩
theorem Chg.refl {g : Nat} {t : TypeId} {cs : List Value} {w : World} (h : Row w g t cs) : Chg g t cs w w := ⟨h, World.grownBy.refl _ _⟩
theorem Chg.trans {g : Nat} {t : TypeId} {cs cs' : List Value} {w w1 w2 : World} (h : Chg g t cs w w1) (h2 : Chg g t cs' w1 w2) : Chg g t cs' w w2 := ⟨h2.row, h.kept.trans h2.kept⟩
theorem Chg.below {g : Nat} {t : TypeId} {cs : List Value} {w w' : World} (h : Chg g t cs w w') {B : Nat} (hB : B ≤ g) (hw : B ≤ w.heap.size) : Below B w w' :=
  ⟨h.kept.os, h.kept.tape, h.kept.output, h.kept.size, fun k hk => h.kept.block k (by omega) (by simp; omega)⟩
theorem Chg.other {g k : Nat} {t u : TypeId} {cs ds : List Value} {w w' : World} (h : Chg g t cs w w') (hr : Row w k u ds) (hk : k ≠ g) : Row w' k u ds := hr.grown h.kept (by simp [hk])

def ix (sn l : List UInt8) : Int := match l with | [] => -1 | c :: _ => Lib.indexByte sn c
def adv (sn l : List UInt8) : List UInt8 := if 0 ≤ ix sn l then l.tail else l
theorem indexByte_bd (l : List UInt8) (c : UInt8) : Lib.indexByte l c = -1 ∨ (0 ≤ Lib.indexByte l c ∧ Lib.indexByte l c < l.length) := by
  induction l with
  | nil => left; rfl
  | cons b r ih =>
    unfold Lib.indexByte
    by_cases h : (b == c) = true
    · rw [if_pos h]; right; simp
    · rw [if_neg h]
      rcases ih with h1 | h1
      · left; rw [h1]; rfl
      · right
        have h2 : ¬ (Lib.indexByte r c == -1) = true := by simp; omega
        rw [if_neg h2]; simp; omega
theorem ix_bd (sn l : List UInt8) : ix sn l = -1 ∨ (0 ≤ ix sn l ∧ ix sn l < sn.length) := by
  cases l with
  | nil => left; rfl
  | cons c r => exact indexByte_bd sn c
abbrev RT : TypeId := 153
abbrev RS (l : List UInt8) : List Value := [S l]
set_option maxHeartbeats 1000000 in
theorem sign_any (sn l : List UInt8) (g : Nat) (w : World) (h : Row w g RT (RS l)) (hl : l.length ≤ 4611686018427387904) :
    Calls Tryz.prog 110 #[.pointer (some ⟨g, 0, none⟩), S sn] w fun e w' => e = .returned (.int .i64 (ix sn l)) ∧ Chg g RT (RS (adv sn l)) w w' := by
  have c0 : w.cell? ⟨g, 0, none⟩ = some (S l) := h.cell 0
  have f0 : w.frozen? ⟨g, 0, none⟩ = false := h.free 0
  have HR := Lib.hid h
  cases l with
  | nil =>
    have k0 : (str []).toList.isEmpty = true := by rw [str_toList]; rfl
    have e1 : ix sn [] = -1 := rfl
    have e2 : adv sn [] = [] := rfl
    rw [e1, e2]
    clear h e1 e2
    go_enter Tryz.func110, Tryz.ntmps110
    go_wp2
    go_ret
    exact ⟨rfl, Chg.refl HR.out⟩
  | cons c r =>
    have k0 : (str (c :: r)).toList.isEmpty = false := by rw [str_toList]; rfl
    have z := str_size (c :: r)
    have zl : (c :: r).length = r.length + 1 := rfl
    have hlt : 0 < (str (c :: r)).size := by omega
    have hg := str_get (c :: r) 0 hlt (by omega)
    have HI : Hid (∀ w, Calls Tryz.prog 134 #[S sn, .int .u8 (((str (c :: r))[0]'hlt).toNat : Int)] w fun e w' => e = .returned (.int .i64 (Lib.indexByte sn c)) ∧ w = w') := Lib.hid (fun w => by
      have h := Tryz.strings_IndexByte (str sn) (((str (c :: r))[0]'hlt).toNat : Int) w
      rw [str_list] at h
      have e : ((((str (c :: r))[0]'hlt).toNat : Int)).toNat.toUInt8 = c := by rw [hg]; simp
      rw [e] at h
      exact h.mono fun e w' ⟨h1, h2⟩ => ⟨h1, h2.symm⟩)
    have e1 : ix sn (c :: r) = Lib.indexByte sn c := rfl
    have hx : (str (c :: r)).extract 1 (r.length + 1) = str r := by rw [str_ext]; simp
    rcases indexByte_bd sn c with hi | hi
    · have e2 : adv sn (c :: r) = c :: r := by unfold adv; rw [e1, if_neg (by omega)]
      rw [e1, e2]
      rw [hi] at HI ⊢
      clear h e1 e2 hi hg hx
      go_enter Tryz.func110, Tryz.ntmps110
      go_wp2_with (go_at_call 134; ((with_reducible refine (HI.out _).mono ?_); rintro e w' ⟨rfl, rfl⟩))
      go_ret
      exact ⟨rfl, Chg.refl HR.out⟩
    · have e2 : adv sn (c :: r) = r := by unfold adv; rw [e1, if_pos (by omega)]; rfl
      rw [e1, e2]
      obtain ⟨h0, h1⟩ := hi
      generalize Lib.indexByte sn c = x at *
      have HX := Lib.hid hx
      clear h e1 e2 h1 hg hx
      go_enter Tryz.func110, Tryz.ntmps110
      go_wp2_with (go_at_call 134; ((with_reducible refine (HI.out _).mono ?_); rintro e w' ⟨rfl, rfl⟩))
      go_ret
      exact ⟨rfl, by have h := HR.out.put 0 (S r); rw [HX.out]; exact h, grown_setN _ _ _⟩

theorem ix_one (c : UInt8) (l : List UInt8) (hc : c.toNat ≠ 0) : (ix [c] l = 0 ∧ sg l = c.toNat ∧ adv [c] l = l.tail) ∨ (ix [c] l = -1 ∧ sg l ≠ c.toNat ∧ adv [c] l = l) := by
  cases l with
  | nil => right; exact ⟨rfl, fun h => hc h.symm, rfl⟩
  | cons b r =>
    by_cases h : c = b
    · left
      have e : ix [c] (b :: r) = 0 := by show Lib.indexByte [c] b = 0; unfold Lib.indexByte; rw [h]; simp
      exact ⟨e, by rw [h]; rfl, by unfold adv; rw [e]; rfl⟩
    · right
      have e : ix [c] (b :: r) = -1 := by show Lib.indexByte [c] b = -1; unfold Lib.indexByte; rw [if_neg (by simpa using h)]; rfl
      exact ⟨e, fun h2 => h (UInt8.toNat_inj.1 h2.symm), by unfold adv; rw [e]; rfl⟩
theorem flag_any (c : UInt8) (hc : c.toNat ≠ 0) (l : List UInt8) (g : Nat) (w : World) (h : Row w g RT (RS l)) (hl : l.length ≤ 4611686018427387904) :
    Calls Tryz.prog 112 #[.pointer (some ⟨g, 0, none⟩), S [c]] w fun e w' => e = .returned (.bool (stX c.toNat l).2) ∧ Chg g RT (RS (stX c.toNat l).1) w w' := by
  have HS := Lib.hid (sign_any [c] l g w h hl)
  unfold stX
  rcases ix_one c l hc with ⟨h1, h2, h3⟩ | ⟨h1, h2, h3⟩
  · rw [if_pos h2]
    rw [h1, h3] at HS
    clear h1 h2 h3 h
    go_enter Tryz.func112, Tryz.ntmps112
    go_wp2_with (go_at_call 110; ((with_reducible refine (HS.out).mono ?_); rintro e w1 ⟨rfl, hb1⟩))
    go_ret
    exact ⟨rfl, hb1⟩
  · rw [if_neg h2]
    rw [h1, h3] at HS
    clear h1 h2 h3 h
    go_enter Tryz.func112, Tryz.ntmps112
    go_wp2_with (go_at_call 110; ((with_reducible refine (HS.out).mono ?_); rintro e w1 ⟨rfl, hb1⟩))
    go_ret
    exact ⟨rfl, hb1⟩

def tens : List UInt8 := [48, 49, 50, 51, 52, 53, 54, 55, 56, 57]
theorem ix_tens (l : List UInt8) : (isD (sg l) = true ∧ ix tens l = (sg l : Int) - 48 ∧ adv tens l = l.tail) ∨ (isD (sg l) = false ∧ ix tens l = -1 ∧ adv tens l = l) := by
  cases l with
  | nil => right; exact ⟨rfl, rfl, rfl⟩
  | cons b r =>
    have hf : ∀ n : Fin 256, (isD n.val = true ∧ Lib.indexByte tens (UInt8.ofNat n.val) = (n.val : Int) - 48) ∨ (isD n.val = false ∧ Lib.indexByte tens (UInt8.ofNat n.val) = -1) := by decide +kernel
    have hb : b.toNat < 256 := b.toNat_lt
    have hq := hf ⟨b.toNat, hb⟩
    have eb : UInt8.ofNat b.toNat = b := by simp
    simp only [eb] at hq
    rcases hq with ⟨h1, h2⟩ | ⟨h1, h2⟩
    · left
      have e : ix tens (b :: r) = (b.toNat : Int) - 48 := h2
      have hge : 48 ≤ b.toNat := by unfold isD at h1; simp at h1; omega
      exact ⟨h1, e, by unfold adv; rw [e, if_pos (by omega)]⟩
    · right
      have e : ix tens (b :: r) = -1 := h2
      exact ⟨h1, e, by unfold adv; rw [e]; rfl⟩
theorem nmP_go (l : List UInt8) (n : Int) (h : isD (sg l) = true) (hn : n ≤ 11) : nmP l n = nmP l.tail (10 * n + ((sg l : Int) - 48)) := by
  cases l with
  | nil => cases h
  | cons c r => rw [nmP, if_pos ⟨hn, h⟩]; rfl
theorem nmP_big (l : List UInt8) (n : Int) (hn : ¬ n ≤ 11) : nmP l n = (l, n) := by
  cases l with
  | nil => rfl
  | cons c r => rw [nmP, if_neg (fun h => hn h.1)]
theorem isD_bd {n : Nat} (h : isD n = true) : 48 ≤ n ∧ n ≤ 57 := by unfold isD at h; simp at h; exact h
set_option maxHeartbeats 1000000 in
theorem noNum_any (l : List UInt8) (g : Nat) (w : World) (h : Row w g RT (RS l)) (hl : l.length ≤ 4611686018427387904) :
    Calls Tryz.prog 111 #[.pointer (some ⟨g, 0, none⟩)] w fun e w' => e = .returned (.int .i64 (nmP l 0).2) ∧ Chg g RT (RS (nmP l 0).1) w w' := by
  obtain ⟨F, hF⟩ : ∃ F, F = nmP l 0 := ⟨_, rfl⟩
  rw [← hF]
  go_enter Tryz.func111, Tryz.ntmps111
  go_wp2
  go_loopg [3] (l.length + 1) (fun k t wr => ∃ (m : List UInt8) (n : Int), t = .int .i64 n ∧ 0 ≤ n ∧ n ≤ 129 ∧ m.length + 1 = k ∧ m.length ≤ 4611686018427387904 ∧ Hid (F = nmP m n) ∧ Hid (Chg g RT (RS m) w wr))
  case atStart => exact ⟨l, 0, rfl, by omega, by omega, rfl, hl, Lib.hid hF, Lib.hid (Chg.refl h)⟩
  case round =>
    obtain ⟨m, n, rfl, n0, n1, hk, hm, HF, HC⟩ := hrel
    clear hF h
    by_cases hn : n ≤ 11
    · have HS : Hid (Calls Tryz.prog 110 #[.pointer (some ⟨g, 0, none⟩), .string ⟨#[48, 49, 50, 51, 52, 53, 54, 55, 56, 57]⟩] wr fun e w' => e = .returned (.int .i64 (ix tens m)) ∧ Chg g RT (RS (adv tens m)) wr w') := Lib.hid (sign_any tens m g wr HC.out.row hm)
      rcases ix_tens m with ⟨h1, h2, h3⟩ | ⟨h1, h2, h3⟩
      · obtain ⟨b0, b1⟩ := isD_bd h1
        have hne : m.tail.length + 1 = m.length := by cases m with | nil => cases h1 | cons c r => simp
        rw [h2, h3] at HS
        have HG : Hid (F = nmP m.tail (10 * n + ((sg m : Int) - 48))) := Lib.hid (by rw [HF.out, nmP_go m n h1 hn])
        generalize hd : (sg m : Int) - 48 = d at *
        have d0 : 0 ≤ d := by omega
        have d1 : d ≤ 9 := by omega
        clear hd h1 h2 h3 b0 b1
        go_wp2_with (go_at_call 110; ((with_reducible refine (HS.out).mono ?_); rintro e w1 ⟨rfl, hb1⟩))
        go_roundg (m.tail.length + 1)
        case measure => omega
        case rel => exact ⟨m.tail, 10 * n + d, by first | rfl | go_num, by omega, by omega, rfl, by omega, HG, Lib.hid (HC.out.trans hb1)⟩
      · have HG : Hid (F = (m, n)) := Lib.hid (by rw [HF.out, nmP_stop m n h1])
        rw [h2, h3] at HS
        clear h1 h2 h3
        go_wp2_with (go_at_call 110; ((with_reducible refine (HS.out).mono ?_); rintro e w1 ⟨rfl, hb1⟩))
        go_ret
        exact ⟨by rw [HG.out]; rfl, by rw [HG.out]; exact HC.out.trans hb1⟩
    · have HG : Hid (F = (m, n)) := Lib.hid (by rw [HF.out, nmP_big m n hn])
      go_wp2
      go_ret
      exact ⟨by rw [HG.out]; rfl, by rw [HG.out]; exact HC.out⟩
end Go.Proofs.YtdgmogmldfhgcaaGreatDoor
